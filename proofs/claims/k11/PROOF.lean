import PyProof.Rows.All
import Wide.All
import OpenK.AllK
import Wide.FinOn
import KE.KStateDown
import HandS.Head0
import HandS.Head1
import HandS.Head2
import HandS.HeadHook1
import HandS.Defaults
import HandS.HeadHook3
import HandS.ForMost
import HandS.EndBits
import HandS.MakeKwOnly
import HandS.SetBool
import HandS.SetKeys
import HandS.More
import PyProof.Rows.StrMeet
import HandS.Text
import HandS.TupAny
import HandS.TupLe
import HandS.Wide
import HandS.Codes
import HandS.Words
import HandS.ClsMeth
import HandS.Walk
import KE.GoesEnum
import HandS.Strs
import HandS.OwnEq
import HandS.FStr
import HandS.IsInst
import HandS.SortKw
import KE.DataMinMax
import KE.KFmtOwn
import KE.KCallOwn
import HandS.RaiseMore
import HandS.Style
import PyProof.NeData
import PyProof.StrLawsRepr
import PyProof.CallFns
import PySem.Challenge.RW_reentry_k11_statements_made
set_option Elab.async false
set_option linter.all false
set_option maxRecDepth 100000
/-! What the end of a top is asked, in the kernel's run: one truth over the part of the heap that the names reach, and the defs. -/
namespace Jo
open PySem PySem.Spec PyProof.Rows
/-- the list's spine, .. and its numbers, ahead of what follows -/
def frL {α β : Type} : List α → (List α → β) → β
  | [], k => k []
  | x :: xs, k => frL xs fun ys => k (x :: ys)
theorem frL_eq {α β : Type} : ∀ (xs : List α) (k : List α → β), frL xs k = k xs
  | [], _ => rfl
  | x :: xs, k => by
    unfold frL
    exact frL_eq xs _
def frA {β : Type} : List Addr → (List Addr → β) → β
  | [], k => k []
  | x :: xs, k => HandSHeadRun.frNat x fun x => frA xs fun ys => k (x :: ys)
theorem frA_eq {β : Type} : ∀ (xs : List Addr) (k : List Addr → β), frA xs k = k xs
  | [], _ => rfl
  | x :: xs, k => by
    unfold frA
    rw [HandSHeadRun.frNat_eq]
    exact frA_eq xs _
/-- what an object names: what stands under its names, a def's code and defaults, a class's names, a row's elements -/
def refsJ (o : Obj) : List Addr := match o.data with
  | .seq its _ => its.toList.flatMap He.refV
  | .dict es _ => es.toList.flatMap fun e => He.refV e.val
  | .func fd => He.refV fd.code ++ He.refV fd.defaults ++ He.refV fd.kwdefaults
  | .cls cd => [cd.ns]
  | _ => []
def nextJ (g : Addr → Option Obj) (as : List Addr) : List Addr := as.flatMap fun a => match g a with
  | some o => refsJ o
  | none => []
def asJ (g : Addr → Option Obj) : Nat → List Addr → List Addr → List Addr
  | 0, _, all => all
  | n + 1, as, all => asJ g n (nextJ g as) (all ++ nextJ g as)
def asF {β : Type} (g : Addr → Option Obj) : Nat → List Addr → List Addr → (List Addr → β) → β
  | 0, _, all, k => frL all k
  | n + 1, as, all, k => frA (nextJ g as) fun bs => asF g n bs (all ++ bs) k
theorem asF_eq {β : Type} {g : Addr → Option Obj} : ∀ (n : Nat) (as all : List Addr) (k : List Addr → β), asF g n as all k = k (asJ g n as all)
  | 0, _, all, k => frL_eq all k
  | n + 1, as, all, k => by
    unfold asF asJ
    rw [frA_eq]
    exact asF_eq n _ _ k
abbrev AlJ : Type := Bool × List He.FnV
def SaysJ (ok : PySem.W.Frag → Bool) (fn : List He.FnD) (K : PySem.W.Frag) : Prop := ok K = true ∧ fn.map (fun d => He.fnObs K d.at_) = fn.map He.FnD.val
def obsJ (n : Nat) (ok : PySem.W.Frag → Bool) (fn : List He.FnD) (g : Addr → Option Obj) : AlJ :=
  asF g n [mainGlobals] [mainGlobals] fun as => frL (He.frG g as) fun K => (ok K, fn.map fun d => He.fnObs K d.at_)
theorem obsJ_is {n : Nat} {ok : PySem.W.Frag → Bool} {fn : List He.FnD} {g : Addr → Option Obj} :
    obsJ n ok fn g = (ok (He.frG g (asJ g n [mainGlobals] [mainGlobals])), fn.map fun d => He.fnObs (He.frG g (asJ g n [mainGlobals] [mainGlobals])) d.at_) := by
  unfold obsJ
  rw [asF_eq, frL_eq]
def hookJ (n : Nat) (ok : PySem.W.Frag → Bool) (fn : List He.FnD) : PySem.W.Hook where
  α := AlJ
  obs := fun s => obsJ n ok fn s.heap.get?
  val := fun _ => (true, fn.map He.FnD.val)
  says := fun _ h => ∃ K : PySem.W.Frag, K.In h ∧ SaysJ ok fn K
  of := fun _ _ e => by
    rw [obsJ_is] at e
    exact ⟨_, He.frG_in, congrArg (fun z : AlJ => z.1) e, congrArg (fun z : AlJ => z.2) e⟩
  keeps := fun _ _ _ ⟨K, hK, c⟩ k => ⟨K, PySem.W.Frag.In.keeps hK k, c⟩
theorem obsJ_eq {n : Nat} {ok : PySem.W.Frag → Bool} {fn : List He.FnD} {g : Addr → Option Obj} {s : Shared} (h : ∀ a, g a = s.heap.get? a) : obsJ n ok fn g = (hookJ n ok fn).obs s := by
  have e : g = s.heap.get? := funext h
  rw [e] <;> rfl
theorem SaysJ.at_ {ok : PySem.W.Frag → Bool} {fn : List He.FnD} {K : PySem.W.Frag} (c : SaysJ ok fn K) (i : Nat) {d : He.FnD} (h : fn[i]? = some d) (q : (He.Fa.code d.at_ d.qual).ok K = true) :
    ∃ oc od osl kV doc pm an cdv ct, K.lookup (He.fAd K d.at_) = some ⟨oc, od, .func (PySem.W.fnOf d.name d.qual d.params d.body d.scope .none kV doc pm an cdv ct), osl⟩ ∧ PySem.W.codeIn K cdv d.qual = true := by
  have e2 : (fn.map fun d => He.fnObs K d.at_)[i]? = (fn.map He.FnD.val)[i]? := by rw [c.2]
  rw [List.getElem?_map, List.getElem?_map, h] at e2
  exact He.fn_ok (Option.some.inj e2) q
end Jo

set_option Elab.async false
set_option linter.all false
set_option maxRecDepth 100000
/-! The end of a top with defs whose defaults stand: what JoHa asks, and the defs of a second list but for their defaults. -/
namespace Jo
open PySem PySem.Spec PyProof.Rows L2
def bareD (v : He.FnV) : He.FnV := v.map fun t => (t.1, t.2.1, t.2.2.1, t.2.2.2.1, t.2.2.2.2.1, t.2.2.2.2.2.1, t.2.2.2.2.2.2.1, .none, t.2.2.2.2.2.2.2.2)
abbrev AlD : Type := AlJ × List He.FnV
def SaysD (ok : PySem.W.Frag → Bool) (fn fx : List He.FnD) (K : PySem.W.Frag) : Prop := SaysJ ok fn K ∧ fx.map (fun d => bareD (He.fnObs K d.at_)) = fx.map He.FnD.val
def obsD (n : Nat) (ok : PySem.W.Frag → Bool) (fn fx : List He.FnD) (g : Addr → Option Obj) : AlD :=
  asF g n [mainGlobals] [mainGlobals, PySem.cStatics] fun as => frL (He.frG g as) fun K => ((ok K, fn.map fun d => He.fnObs K d.at_), fx.map fun d => bareD (He.fnObs K d.at_))
theorem obsD_is {n : Nat} {ok : PySem.W.Frag → Bool} {fn fx : List He.FnD} {g : Addr → Option Obj} : ∃ K, K = He.frG g (asJ g n [mainGlobals] [mainGlobals, PySem.cStatics]) ∧
    obsD n ok fn fx g = ((ok K, fn.map fun d => He.fnObs K d.at_), fx.map fun d => bareD (He.fnObs K d.at_)) := by
  refine ⟨_, rfl, ?_⟩
  unfold obsD
  rw [asF_eq, frL_eq]
def hookD (n : Nat) (ok : PySem.W.Frag → Bool) (fn fx : List He.FnD) : PySem.W.Hook where
  α := AlD
  obs := fun s => obsD n ok fn fx s.heap.get?
  val := fun _ => ((true, fn.map He.FnD.val), fx.map He.FnD.val)
  says := fun _ h => ∃ K : PySem.W.Frag, K.In h ∧ SaysD ok fn fx K
  of := fun _ s e => by
    obtain ⟨K, hK, e2⟩ := obsD_is (n := n) (ok := ok) (fn := fn) (fx := fx) (g := s.heap.get?)
    rw [e2] at e
    exact ⟨K, by rw [hK]; exact He.frG_in, ⟨congrArg (fun z : AlD => z.1.1) e, congrArg (fun z : AlD => z.1.2) e⟩, congrArg (fun z : AlD => z.2) e⟩
  keeps := fun _ _ _ ⟨K, hK, c⟩ k => ⟨K, PySem.W.Frag.In.keeps hK k, c⟩
theorem obsD_eq {n : Nat} {ok : PySem.W.Frag → Bool} {fn fx : List He.FnD} {g : Addr → Option Obj} {s : Shared} (h : ∀ a, g a = s.heap.get? a) : obsD n ok fn fx g = (hookD n ok fn fx).obs s := by
  have e : g = s.heap.get? := funext h
  rw [e] <;> rfl
/-- a def of the second list: its defaults are dV -/
theorem SaysD.at2 {ok : PySem.W.Frag → Bool} {fn fx : List He.FnD} {K : PySem.W.Frag} (c : SaysD ok fn fx K) (i : Nat) {d : He.FnD} (h : fx[i]? = some d) (q : (He.Fa.code d.at_ d.qual).ok K = true) :
    ∃ oc od osl dV kV doc pm an cdv ct, K.lookup (He.fAd K d.at_) = some ⟨oc, od, .func (PySem.W.fnOf d.name d.qual d.params d.body d.scope dV kV doc pm an cdv ct), osl⟩ ∧ PySem.W.codeIn K cdv d.qual = true := by
  have e0 : (fx.map fun d => bareD (He.fnObs K d.at_))[i]? = (fx.map He.FnD.val)[i]? := by rw [c.2]
  rw [List.getElem?_map, List.getElem?_map, h] at e0
  have e1 : bareD (He.fnObs K d.at_) = d.val := Option.some.inj e0
  have q1 : (match K.lookup (He.fAd K d.at_) with
    | some ⟨_, _, .func fd, _⟩ => PySem.W.codeIn K fd.code d.qual
    | _ => false) = true := q
  unfold He.fnObs at e1
  split at e1
  · rename_i oc od fd osl lk
    rw [lk] at q1
    obtain ⟨a1, a2, a3, a4, a5, a6, a7, a8, a9, b1, b2, b3, b4, b5, b6⟩ := fd
    have e2 : (some (a1, a2, a3, a4, a5, a6, a7, Value.none, b6) : He.FnV) = some (d.name, d.qual, d.params, .stmts d.body, d.scope, mainGlobals, [], .none, builtinsNs) := e1
    simp only [Option.some.injEq, Prod.mk.injEq] at e2
    obtain ⟨r1, r2, r3, r4, r5, r6, r7, _, r9⟩ := e2
    subst r1 r2 r3 r4 r5 r6 r7 r9
    exact ⟨oc, od, osl, a8, a9, b1, b2, b3, b4, b5, lk, q1⟩
  · cases e1
end Jo

set_option Elab.async false
set_option linter.all false
set_option maxRecDepth 100000
/-! The end of a top that has dicts of its own: what JoHd asks, and the keys of each table. -/
namespace Jo
open PySem PySem.Spec PyProof.Rows L2
abbrev AlK : Type := AlD × List (Option (List (Option (Str × Int))))
def SaysK (ok : PySem.W.Frag → Bool) (fn fx : List He.FnD) (ts : List He.Tab) (w : World) (K : PySem.W.Frag) : Prop := SaysD ok fn fx K ∧ ts.map (fun t => He.dicW K (t.1 K)) = ts.map fun t => some (He.keysIn w.params t.2)
def obsK (n : Nat) (ok : PySem.W.Frag → Bool) (fn fx : List He.FnD) (ts : List He.Tab) (g : Addr → Option Obj) : AlK :=
  asF g n [mainGlobals] [mainGlobals, PySem.cStatics] fun as => frL (He.frG g as) fun K => (((ok K, fn.map fun d => He.fnObs K d.at_), fx.map fun d => bareD (He.fnObs K d.at_)), ts.map fun t => HandSHeadRun.frNat (t.1 K) fun a => He.dicW K a)
theorem obsK_is {n : Nat} {ok : PySem.W.Frag → Bool} {fn fx : List He.FnD} {ts : List He.Tab} {g : Addr → Option Obj} : ∃ K, K = He.frG g (asJ g n [mainGlobals] [mainGlobals, PySem.cStatics]) ∧
    obsK n ok fn fx ts g = (((ok K, fn.map fun d => He.fnObs K d.at_), fx.map fun d => bareD (He.fnObs K d.at_)), ts.map fun t => He.dicW K (t.1 K)) := by
  refine ⟨_, rfl, ?_⟩
  unfold obsK
  rw [asF_eq, frL_eq]
  congr 2
  funext t
  rw [HandSHeadRun.frNat_eq]
def hookK (n : Nat) (ok : PySem.W.Frag → Bool) (fn fx : List He.FnD) (ts : List He.Tab) : PySem.W.Hook where
  α := AlK
  obs := fun s => obsK n ok fn fx ts s.heap.get?
  val := fun w => (((true, fn.map He.FnD.val), fx.map He.FnD.val), ts.map fun t => some (He.keysIn w.params t.2))
  says := fun w h => ∃ K : PySem.W.Frag, K.In h ∧ SaysK ok fn fx ts w K
  of := fun _ s e => by
    obtain ⟨K, hK, e2⟩ := obsK_is (n := n) (ok := ok) (fn := fn) (fx := fx) (ts := ts) (g := s.heap.get?)
    rw [e2] at e
    exact ⟨K, by rw [hK]; exact He.frG_in, ⟨⟨congrArg (fun z : AlK => z.1.1.1) e, congrArg (fun z : AlK => z.1.1.2) e⟩, congrArg (fun z : AlK => z.1.2) e⟩, congrArg (fun z : AlK => z.2) e⟩
  keeps := fun _ _ _ ⟨K, hK, c⟩ k => ⟨K, PySem.W.Frag.In.keeps hK k, c⟩
theorem obsK_eq {n : Nat} {ok : PySem.W.Frag → Bool} {fn fx : List He.FnD} {ts : List He.Tab} {g : Addr → Option Obj} {s : Shared} (h : ∀ a, g a = s.heap.get? a) : obsK n ok fn fx ts g = (hookK n ok fn fx ts).obs s := by
  have e : g = s.heap.get? := funext h
  rw [e] <;> rfl
theorem SaysK.tab {ok : PySem.W.Frag → Bool} {fn fx : List He.FnD} {ts : List He.Tab} {w : World} {K : PySem.W.Frag} (c : SaysK ok fn fx ts w K) (i : Nat) {t : He.Tab} (h : ts[i]? = some t := by rfl) : ∃ es n, L2.KDict K w (t.1 K) es n := by
  have e2 : (ts.map fun t => He.dicW K (t.1 K))[i]? = (ts.map fun t => some (He.keysIn w.params t.2))[i]? := by rw [c.2]
  rw [List.getElem?_map, List.getElem?_map, h] at e2
  exact He.dicW_ok (Option.some.inj e2)
end Jo

set_option Elab.async false
set_option linter.all false
set_option maxRecDepth 100000
/-! Defs that are called where no repr is under way: their promise, their body, their call, the law's own call. -/
namespace Jo
open PySem PySem.Spec PyProof.Rows L2

/-- a def's promise, kept wherever no repr is under way -/
structure FnG (P : Program) (w : World) (K : PySem.W.Frag) (mg : Str → Option Value) (base : Heap)
    (k : Nat) (f : Addr) (fd : FuncData) (ps : List Str) (sp : Sp) : Prop where
  len : ∀ vs H Q E, sp vs H Q E → vs.length = ps.length
  go : ∀ (A : Around) (fr : List Env) (s : Shared) (H : Hp) (args : Args) (us : List Value) (vs : List V) (Q : VK) (E : XK),
    Room k A → A.guards = some [] → Env0 P w K mg base A fr s H → BindsTo s fd args (ps.zip us) → Vals vs us →
    sp vs H Q E → codeAny (model P w) A (.call (.ref f) args) (CR CX0 fr P w H s Q E) s

section
variable {P : Program} {w : World} {K : PySem.W.Frag} {mg : Str → Option Value} {base : Heap}

theorem FnG.of {k : Nat} {f : Addr} {fd : FuncData} {ps : List Str} {sp : Sp}
    (F : FnOk P w K mg base CX0 k f fd ps sp) : FnG P w K mg base k f fd ps sp :=
  ⟨F.len, fun A fr s H args us vs Q E hr _ e hb hv hs => F.run A fr s H args us vs Q E hr e hb hv hs⟩
theorem FnG.mono {j k : Nat} {f : Addr} {fd : FuncData} {ps : List Str} {sp : Sp}
    (F : FnG P w K mg base j f fd ps sp) (h : j ≤ k) : FnG P w K mg base k f fd ps sp :=
  ⟨F.len, fun A fr s H args us vs Q E hr => F.go A fr s H args us vs Q E (hr.mono h)⟩

/-- a def by its body; the body may lean on it that no repr is under way -/
theorem fun_okG {k : Nat} {x qual : Str} {st : Stmt} {f : Addr} {fd : FuncData} {N ps : List Str} {sp : Sp}
    (F : Fun K x qual st f fd) (S : FnScope N ps (defScope st))
    (len : ∀ vs H Q E, sp vs H Q E → vs.length = ps.length)
    (body : ∀ (cdv : Value) (A : Around) (fr : List Env) (s : Shared) (H : Hp) (vs : List V) (Q : VK) (E : XK),
      Room k (A.deeper (envOfC qual (defScope st) s.heap.objs.size f cdv)) → A.guards = some [] → sp vs H Q E →
      ∃ t, PSs (cxOf CX0 P w K mg base N qual (defScope st) f cdv A fr s H E).nox (defBody st) t ∧
        t { nx := fun _ H' => Q .non H', rt := Q } (start N vs) H) :
    FnG P w K mg base (k + 1) f fd ps sp := by
  obtain ⟨oc, od, kV, doc, pm, an, cdv, ct, osl, rfl, lk, hcd⟩ := F.ex
  refine ⟨len, fun A fr s H args us vs Q E hr hgd e0 hb r hsp => ?_⟩
  have keepB : ∀ b o, base.get? b = some o → s.heap.get? b = some o := fun b o e => (e0.bs b o e).1
  have KX := e0.mod.kin.keeps keepB
  have nolim := e0.mod.nolimit.keeps keepB
  refine codeAny_call_function hr.depth (KX _ _ lk) rfl S.co S.gen rfl (PySem.W.codeRec_of KX hcd) (hb _ _ _ _ ?_)
  refine wpAny_newFunctionEnv_cells S.kind (fun ⟨n, v⟩ hy => ?_) fun env he s1 x => ?_
  · cases S.par n (List.of_mem_zip hy).1 with
    | inl q => exact .inl q
    | inr q => exact .inr ⟨q, PySem.W.cellsFrom_some _ _ _ (.inl q)⟩
  · subst he
    refine ⟨nolim.keeps x.toInCall.keep, codeAny_func ?_⟩
    obtain ⟨t, ht, hq⟩ := body cdv A fr s H vs Q E (hr.deeper _) hgd hsp
    have I := inv_start (CX := CX0) (E := E) S hr.hd e0 (len _ _ _ _ hsp) r x
    refine wpAny_mono (ht.nox.run [] s1 (start N vs) H _ I hq) (fun fl s' hs => ?_) fun _ _ hs => hs
    cases fl with
    | brk => obtain ⟨_, _, _, q⟩ := hs; exact q.elim
    | cont => obtain ⟨_, _, _, q⟩ := hs; exact q.elim
    | ret u =>
      obtain ⟨v, _, H', J, rv, q⟩ := hs
      exact ⟨v, H', J.os, J.bare, J.base, J.hok, rv, q⟩
    | next =>
      obtain ⟨_, H', J, q⟩ := hs
      exact ⟨V.non, H', J.os, J.bare, J.base, J.hok, rfl, q⟩
end

section
variable {X : Cx} {k : Nat} {f : Addr} {fd : FuncData} {ps : List Str} {sp : Sp} {dvs : List V} {ds : List Value}
  {E : XK} {x : Str} {p pos : Pos} {e : Expr} {es : List Expr} {t : TA}

theorem runG {pins : List (Addr × Obj)} {σ : L2.St} {H : Hp} {s : Shared} {Q : VK} {us : List Value} {vs : List V}
    (F : FnG X.prog X.w X.K X.mg X.base k f fd ps sp) (hr : Room k X.A) (hgd : X.A.guards = some [])
    (hb : Binds X.K fd ps ds) (hd : Vals dvs ds) (hx : Passes CX0 X E) (I : Inv X pins σ H s) (r : Vals vs us)
    (h : sp (vs ++ dvs) H Q E) : wpAny (model X.prog X.w) X.A (call (.ref f) us) (EP X pins σ Q) X.xe s := by
  have r2 := r.append hd
  have hl : (us ++ ds).length = ps.length := r2.length.symm.trans (F.len _ _ _ _ h)
  have run := F.go X.A X.stack s H ⟨us, []⟩ _ _ Q E hr hgd I.env0 (hb s us I.kIn hl) r2 h
  refine wpAny_call (codeAny_mono run fun r s' hq => ?_)
  match r, hq with
  | .error e, hq => exact hx pins σ H s e s' I hq
  | .ok (.ret u), hq => exact I.after hq
  | .ok .next, hq => exact (show False from hq).elim
  | .ok .brk, hq => exact (show False from hq).elim
  | .ok .cont, hq => exact (show False from hq).elim

theorem pe_callG (F : FnG X.prog X.w X.K X.mg X.base k f fd ps sp) (hr : Room k X.A) (hgd : X.A.guards = some [])
    (hg : Gl X x) (hm : X.mg x = some (.ref f)) (hk : PySem.W.keepIn X.K (.ref f) = true) (hb : Binds X.K fd ps ds)
    (hd : Vals dvs ds) (hx : Passes CX0 X E) (ha : PA X (e :: es) t) (hdb : (x == ("__debug__" : Str)) = false := by decide)
    (he : starEach (e :: es) X.env = (false, eval e X.env) :: starEach es X.env := by rfl)
    (hpl : (backTo pos (starEach es X.env)).any (·.1) = false := by rfl) :
    PE X (.Call (.Name x p) (e :: es) [] pos) (tCall sp dvs E t) := by
  refine ⟨fun pins s σ H Q I h => wpAny_Call_Name_kw (ld_glob I hg hm ?_ hdb)⟩
  exact PySem.W.callWith_K (h₀ := X.base) I.ok.mod.kin hk
    (thn (ha.run pos pins s σ H _ I h) fun us s1 ⟨vs, H1, I1, r, q⟩ => ⟨I1.kIn, runG F hr hgd hb hd hx I1 r q⟩) he hpl
theorem pe_callG0 (F : FnG X.prog X.w X.K X.mg X.base k f fd ps sp) (hr : Room k X.A) (hgd : X.A.guards = some [])
    (hg : Gl X x) (hm : X.mg x = some (.ref f)) (hk : PySem.W.keepIn X.K (.ref f) = true) (hb : Binds X.K fd ps ds)
    (hd : Vals dvs ds) (hx : Passes CX0 X E) (hdb : (x == ("__debug__" : Str)) = false := by decide) :
    PE X (.Call (.Name x p) [] [] pos) (tCall sp dvs E tNil) :=
  ⟨fun pins s σ H Q I h => wpAny_Call_Name_kw (ld_glob I hg hm
    (PySem.W.callWith_K0 I.kIn hk (runG (us := []) F hr hgd hb hd hx I .nil h)) hdb)⟩
end

/-! ### the law's own call -/
section
variable {P : Program} {w : World} {K : PySem.W.Frag} {mg mb : Str → Option Value}
theorem law_callG {k : Nat} {fa a : Addr} {fd : FuncData} {x : Str} {sp : Sp} {s₁ : Shared} {vs : List Value} {ns : List Int}
    (KX : K.In s₁.heap) (hns : s₁.heap.Ns mainGlobals mg) (hb : s₁.heap.Ns builtinsNs mb)
    (hbb : ∀ x : Str, x ≠ "__name__" → mb x = bootBuiltins x) (hlim : s₁.heap.NoLimit) (hg : s₁.gens = #[])
    (ha : s₁.heap.get? a = some { cls := .type "list", data := .seq vs.toArray }) (hi : IntsAre vs ns)
    (hl : ns.length ≤ sizeLine) (hr : Room k callerA)
    (F : ∀ base : Heap, K.In base → base.Ns mainGlobals mg → FnG P w K mg base k fa fd [x] sp)
    (hbind : ∀ (s : Shared) (u : Value), BindsTo s fd ⟨[u], []⟩ [(x, u)])
    (hsp : ∀ H : Hp, Only H → SqL K H a (ns.map V.int) → sp [.ref a] H (fun v _ => v = .bl true) fun _ _ _ => False) :
    codeAny (model P w) callerA (.call (.ref fa) ⟨[.ref a], []⟩)
      (fun r s' => r = .ok (.ret (.bool true)) ∧ OldK s₁.heap s'.heap ∧ s'.os = s₁.os ∧ AllBare s'.gens) s₁ := by
  have rv := vals_ints hi
  -- the script's place: hidden if it is tracked (it is, unless the module itself has it)
  let T : Hp := fun b => match K.lookup a with
    | some _ => none
    | none => if b = a then some (.frz { cls := .type "list", data := .seq vs.toArray } (.lst (ns.map V.int))) else none
  have hT : ∀ b o, T b = some o → b = a ∧ K.lookup a = none ∧ o = .frz { cls := .type "list", data := .seq vs.toArray } (.lst (ns.map V.int)) := fun b o e => by
    revert e
    show (match K.lookup a with | some _ => none | none => if b = a then some _ else none) = some o → _
    cases hk : K.lookup a with
    | some z => intro e; cases e
    | none =>
      intro e
      by_cases hba : b = a
      · have e2 := (if_pos hba).symm.trans e
        cases e2
        exact ⟨hba, rfl, rfl⟩
      · have e2 := (if_neg hba).symm.trans e
        cases e2
  have hOnly : Only T := fun b => by
    cases q : T b with
    | none => exact .inl rfl
    | some o =>
      obtain ⟨_, _, e⟩ := hT b o q
      exact .inr ⟨_, _, by rw [e]⟩
  have hok : HOk P w T s₁.heap := fun b o e => by
    obtain ⟨rfl, _, rfl⟩ := hT b o e
    exact ⟨ha, by rw [List.length_map]; exact hl, vs, _, rv, ha⟩
  have hS : SqL K T a (ns.map V.int) := by
    cases hk : K.lookup a with
    | some o =>
      have e := KX a o hk
      rw [ha] at e
      cases e
      exact .inr ⟨_, vs.toArray, _, hk, rfl, rfl, rfl, by rw [List.size_toArray, hi.length]; exact hl, by simpa using rv⟩
    | none =>
      refine .inl (.inr ⟨{ cls := .type "list", data := .seq vs.toArray }, ?_⟩)
      show (match K.lookup a with | some _ => none | none => if a = a then some _ else none) = some _
      rw [hk]
      exact if_pos rfl
  -- what is no list is not hidden
  have free : ∀ {b : Addr} {o : Obj}, s₁.heap.get? b = some o → (∀ q n, o.data ≠ .seq q n) → T b = none := fun {b o} e hn => by
    cases q : T b with
    | none => rfl
    | some u =>
      obtain ⟨rfl, _, _⟩ := hT b u q
      rw [ha] at e
      cases e
      exact absurd rfl (hn _ _)
  have seen : ∀ {b : Addr} {o : Obj}, s₁.heap.get? b = some o → T b = none → (hidT s₁.heap T).get? b = some o := fun e n => hidT_get e n
  have nsB : ∀ {b : Addr} {m : Str → Option Value}, s₁.heap.Ns b m → (hidT s₁.heap T).Ns b m :=
    fun ⟨o, es, ep, e, d, r⟩ => ⟨o, es, ep, seen e (free e fun q n z => by rw [d] at z; cases z), d, r⟩
  have kB : K.In (hidT s₁.heap T) := fun b o e => seen (KX b o e) (by
    cases q : T b with
    | none => rfl
    | some u =>
      obtain ⟨rfl, hk, _⟩ := hT b u q
      rw [hk] at e
      cases e)
  obtain ⟨mc, l1, l2⟩ := hlim
  have hM : Mod K mg (hidT s₁.heap T) := ⟨kB, nsB hns, ⟨mb, nsB hb, hbb⟩, ⟨mc, nsB l1, l2⟩⟩
  have none0 : ∀ b : Addr, b ∉ ([] : List Addr) := fun b z => nomatch z
  have e0 : Env0 P w K mg (hidT s₁.heap T) callerA [] s₁ T :=
    ⟨rfl, hM, fun b o e => of_hidT e, Nat.le_of_eq (hidT_size _ _), trivial, fun b z => absurd z (none0 b), hok, .of_eq hg⟩
  have run := (F _ kB (nsB hns)).go callerA [] s₁ T ⟨[.ref a], []⟩ [.ref a] [.ref a] _ _ hr rfl e0 (hbind s₁ (.ref a)) (.cons rfl .nil) (hsp T hOnly hS)
  refine codeAny_mono run fun r s' h => ?_
  match r, h with
  | .error e, h => exact (show False from h).elim
  | .ok .next, h => exact (show False from h).elim
  | .ok .brk, h => exact (show False from h).elim
  | .ok .cont, h => exact (show False from h).elim
  | .ok (.ret u), h =>
    obtain ⟨v, H', os, bare, un, hok', r', q⟩ := h
    cases (show v = V.bl true from q)
    cases (show u = Value.bool true from r')
    refine ⟨rfl, OldK.of_keep fun b o e => ?_, os, bare⟩
    cases q : T b with
    | none => exact un.keep b o e q (none0 b) (none0 b)
    | some u =>
      obtain ⟨rfl, _, rfl⟩ := hT b u q
      obtain ⟨e1, _⟩ := hok' b _ (un.frzs b _ _ q)
      rw [ha] at e
      cases e
      exact e1
theorem walk_ofG {l : PySem.W.OpenLaw} {n k : Nat} {q : Program} {loose : List Str} {XP : (Str → Option Value) → Heap → Prop}
    {YP : World → Heap → Prop} {d : DefRec} {KK : Params → PySem.W.Frag} {sp : PySem.W.Frag → Sp} {x : Str}
    (hn : l.most = some n) (hn2 : n ≤ sizeLine) (hdf : d.params.defaults = []) (hr : Room k callerA)
    (hY : ∀ (w : World) (h : Heap), YP w h → (KK w.params).In h)
    (F : ∀ (w : World) (mg : Str → Option Value) (fa : Addr) (h : Heap), (KK w.params).In h → h.Ns mainGlobals mg → mg d.name = some (.ref fa) →
      ∃ fd : FuncData, (∀ (s : Shared) (u : Value), BindsTo s fd ⟨[u], []⟩ [(x, u)]) ∧
        ∀ base : Heap, (KK w.params).In base → base.Ns mainGlobals mg → FnG l.prog w (KK w.params) mg base k fa fd [x] (sp (KK w.params)))
    (hsp : ∀ (K : PySem.W.Frag) (H : Hp) (a : Addr) (ns : List Int), ns.length ≤ n → (∀ z ∈ ns, Builtin.Int.intBits z ≤ 1048576) → Only H →
      SqL K H a (ns.map V.int) → sp K [.ref a] H (fun v _ => v = .bl true) fun _ _ _ => False) :
    PySem.W.WalkO q loose XP YP l.row.toRowW d [] (fun f vs => PySem.call f vs) := by
  refine Att.attach_callB hn hdf fun w s₀ s₁ mg mb fa o pm cd doc a vs ns G Y ho hd hcd hmg hobj hints hlen hbits hg => ?_
  obtain ⟨fd, hb, hF⟩ := F w mg fa _ (hY w _ Y) G.T.g hmg
  exact law_callG (hY w _ Y) G.T.g G.T.b G.T.builtins G.T.nolimit hg hobj hints (Nat.le_trans hlen hn2) hr hF hb
    fun H hO hS => hsp _ H a ns hlen hbits hO hS
end
end Jo

set_option Elab.async false
set_option linter.all false
set_option maxRecDepth 100000
/-! repr of lists and tuples of any depth, no repr being under way. -/
namespace Jo
open PySem PySem.Spec PyProof.Rows L2

/-- x is the data d, nested less than n deep -/
def Shw (K : PySem.W.Frag) (H : Hp) : Nat → V → PyData → Prop
  | 0 => fun _ _ => False
  | n + 1 => fun x d =>
    (x = .non ∧ d = .none) ∨ (∃ b, x = .bl b ∧ d = .bool b) ∨ (∃ i, x = .int i ∧ d = .int i) ∨ (∃ z, x = .str z ∧ d = .str z) ∨
    (∃ a xs ds, x = .ref a ∧ d = .list ds ∧ SqL K H a xs ∧ Paired (Shw K H n) xs ds) ∨
    (∃ a xs ds, x = .ref a ∧ d = .tuple ds ∧ SqT K H a xs ∧ Paired (Shw K H n) xs ds)
theorem Shw.none {K : PySem.W.Frag} {H : Hp} {n : Nat} : Shw K H (n + 1) .non .none := .inl ⟨rfl, rfl⟩
theorem Shw.bl {K : PySem.W.Frag} {H : Hp} {n : Nat} (b : Bool) : Shw K H (n + 1) (.bl b) (.bool b) := .inr (.inl ⟨b, rfl, rfl⟩)
theorem Shw.int {K : PySem.W.Frag} {H : Hp} {n : Nat} (i : Int) : Shw K H (n + 1) (.int i) (.int i) := .inr (.inr (.inl ⟨i, rfl, rfl⟩))
theorem Shw.str {K : PySem.W.Frag} {H : Hp} {n : Nat} (z : Str) : Shw K H (n + 1) (.str z) (.str z) := .inr (.inr (.inr (.inl ⟨z, rfl, rfl⟩)))
theorem Shw.lst {K : PySem.W.Frag} {H : Hp} {n : Nat} {a : Addr} {xs : List V} {ds : List PyData} (h : SqL K H a xs)
    (p : Paired (Shw K H n) xs ds) : Shw K H (n + 1) (.ref a) (.list ds) := .inr (.inr (.inr (.inr (.inl ⟨a, xs, ds, rfl, rfl, h, p⟩))))
theorem Shw.tup {K : PySem.W.Frag} {H : Hp} {n : Nat} {a : Addr} {xs : List V} {ds : List PyData} (h : SqT K H a xs)
    (p : Paired (Shw K H n) xs ds) : Shw K H (n + 1) (.ref a) (.tuple ds) := .inr (.inr (.inr (.inr (.inr ⟨a, xs, ds, rfl, rfl, h, p⟩))))

section
variable {X : Cx} {pins : List (Addr × Obj)} {σ : L2.St} {H : Hp} {s : Shared}
theorem readsAll_of {F : V → PyData → Prop} {h : Heap} (f : ∀ x d v, F x d → RelV x v → ∃ as, Reads h v d as) {xs : List V} {ds : List PyData}
    (p : Paired F xs ds) : ∀ {us : List Value}, Vals xs us → ∃ as, ReadsAll h us ds as := by
  induction p with
  | nil =>
    intro us r
    cases r
    exact ⟨_, .nil⟩
  | cons q _ ih =>
    intro us r
    cases r with
    | cons r1 r2 =>
      obtain ⟨as, h1⟩ := f _ _ _ q r1
      obtain ⟨bs, h2⟩ := ih r2
      exact ⟨_, .cons h1 h2⟩
theorem reads_of (I : Inv X pins σ H s) : ∀ (n : Nat) (x : V) (d : PyData) (v : Value), Shw X.K H n x d → RelV x v → ∃ as, Reads s.heap v d as
  | 0, _, _, _, h, _ => (show False from h).elim
  | n + 1, x, d, v, h, r => by
    rcases h with ⟨rfl, rfl⟩ | ⟨b, rfl, rfl⟩ | ⟨i, rfl, rfl⟩ | ⟨z, rfl, rfl⟩ | ⟨a, xs, ds, rfl, rfl, hs, p⟩ | ⟨a, xs, ds, rfl, rfl, hs, p⟩
    · cases (show v = Value.none from r)
      exact ⟨_, .none⟩
    · cases (show v = Value.bool b from r)
      exact ⟨_, .bool b⟩
    · obtain ⟨t, rfl⟩ := (show ∃ t, v = Value.int i t from r)
      exact ⟨_, .int i t⟩
    · obtain ⟨t, rfl⟩ := (show ∃ t, v = Value.str z t from r)
      exact ⟨_, .str z t⟩
    · cases (show v = Value.ref a from r)
      obtain ⟨its, rv, ⟨o, c, e1, e2, _, e4⟩, _⟩ := I.list hs
      obtain ⟨as, ra⟩ := readsAll_of (reads_of I n) p rv
      exact ⟨_, .list e1 e2 e4 (by simpa using ra)⟩
    · cases (show v = Value.ref a from r)
      obtain ⟨its, rv, ⟨o, e1, e2, c, e4⟩, _⟩ := I.tuple hs
      obtain ⟨as, ra⟩ := readsAll_of (reads_of I n) p rv
      exact ⟨_, .tuple e1 e2 e4 (by simpa using ra)⟩
/-- repr(xs), repr((a, b)) -/
def rRepr (K : PySem.W.Frag) : List V → Hp → VK → Prop := fun xs H Q => ∃ (a : Addr) (d : PyData) (n : Nat),
  xs = [.ref a] ∧ Shw K H n (.ref a) d ∧ d.showable = true ∧ d.hasDict = false ∧ d.depth ≤ 60 ∧ d.shown.length ≤ sizeLine ∧ Q (.str d.shown) H
theorem call_repr (hgd : X.A.guards = some []) (hu : X.A.units + 64 < cLine) : CallR X (.builtin "repr") (rRepr X.K) := by
  intro pins s σ H xs us Q I r h
  obtain ⟨a, d, n, rfl, hw, h1, h2, h3, h4, q⟩ := h
  obtain ⟨u, rfl, ru⟩ := vals1 r
  cases (show u = Value.ref a from ru)
  obtain ⟨as, rd⟩ := reads_of I n _ d _ hw rfl
  exact repr_of_reads' rd h1 (PyData.noDict_hsm h2) hgd (by omega) (fun _ _ e => e)
    (fun h' u tk hk => ⟨.str d.shown, H, I.kept hk, ⟨_, rfl⟩, q⟩) h4
end
end Jo

set_option Elab.async false
set_option linter.all false
set_option maxRecDepth 100000
/-! Defs by name: made, called by position and by name. -/
namespace Jo
open PySem PySem.Spec PyProof.Rows L2

/-- the name x of the module holds the def st with the parameters ps; it binds what is passed by position, and by name in the parameters' order -/
structure Dfn (K : PySem.W.Frag) (mg : Str → Option Value) (x : Str) (st : Stmt) (ps : List Str) : Prop where
  ex : ∃ (f : Addr) (fd : FuncData), Fun K x x st f fd ∧ mg x = some (.ref f) ∧ Binds K fd ps [] ∧
    ∀ (s : Shared) (us : List Value), us.length = ps.length → BindsTo s fd ⟨[], ps.zip us⟩ (ps.zip us)
/-- the name x of the module holds a def that keeps the promise sp -/
structure CalG (P : Program) (w : World) (K : PySem.W.Frag) (mg : Str → Option Value) (base : Heap) (k : Nat) (x : Str) (ps : List Str) (sp : Sp) : Prop where
  ex : ∃ (f : Addr) (fd : FuncData), FnG P w K mg base k f fd ps sp ∧ mg x = some (.ref f) ∧ PySem.W.keepIn K (.ref f) = true ∧ Binds K fd ps [] ∧
    ∀ (s : Shared) (us : List Value), us.length = ps.length → BindsTo s fd ⟨[], ps.zip us⟩ (ps.zip us)
section
variable {P : Program} {w : World} {K : PySem.W.Frag} {mg : Str → Option Value} {base : Heap} {x : Str} {st : Stmt} {N ps : List Str} {sp : Sp} {k : Nat}
theorem Dfn.ok (D : Dfn K mg x st ps) (S : FnScope N ps (defScope st))
    (len : ∀ vs H Q E, sp vs H Q E → vs.length = ps.length)
    (body : ∀ (f : Addr) (cdv : Value) (A : Around) (fr : List Env) (s : Shared) (H : Hp) (vs : List V) (Q : VK) (E : XK),
      Room k (A.deeper (envOfC x (defScope st) s.heap.objs.size f cdv)) → A.guards = some [] → sp vs H Q E →
      ∃ t, PSs (cxOf CX0 P w K mg base N x (defScope st) f cdv A fr s H E).nox (defBody st) t ∧
        t { nx := fun _ H' => Q .non H', rt := Q } (start N vs) H) :
    CalG P w K mg base (k + 1) x ps sp := by
  obtain ⟨f, fd, F, hm, hb, hk⟩ := D.ex
  exact ⟨f, fd, fun_okG F S len (body f), hm, F.kp, hb, hk⟩
theorem CalG.imp {sp' : Sp} (c : CalG P w K mg base k x ps sp) (h : ∀ vs H Q E, sp' vs H Q E → sp vs H Q E) : CalG P w K mg base k x ps sp' := by
  obtain ⟨f, fd, F, hm, kp, hb, hk⟩ := c.ex
  exact ⟨f, fd, ⟨fun vs H Q E q => F.len vs H Q E (h _ _ _ _ q), fun A fr s H args us vs Q E hr hg e b r q => F.go A fr s H args us vs Q E hr hg e b r (h _ _ _ _ q)⟩, hm, kp, hb, hk⟩
/-- from what the top has left -/
theorem dfn_mk {l : Heap} {fa : Addr} {od an : Option Addr} {sl : Array (Option Value)} {oc kV dc pm cd ct : Value} (I : K.In l) (G : l.Ns mainGlobals mg)
    (a : PySem.W.nsIn K mainGlobals x = some (some (.ref fa)))
    (q : K.lookup fa = some ⟨oc, od, .func (PySem.W.fnOf x x (defArgs st) (defBody st) (defScope st) .none kV dc pm an cd ct), sl⟩)
    (c : PySem.W.codeIn K cd x = true) (kp : PySem.W.keepIn K (.ref fa) = true)
    (hb : ∀ us : List Value, us.length = ps.length → bindArgs (PySem.W.fnOf x x (defArgs st) (defBody st) (defScope st) .none kV dc pm an cd ct) ⟨us, []⟩ = pure (ps.zip us))
    (hk : ∀ us : List Value, us.length = ps.length → bindArgs (PySem.W.fnOf x x (defArgs st) (defBody st) (defScope st) .none kV dc pm an cd ct) ⟨[], ps.zip us⟩ = pure (ps.zip us)) :
    Dfn K mg x st ps :=
  ⟨fa, _, fun_mk q c kp, PySem.W.mg_of I G a, .all hb, fun s us hl => .of_eq (hk us hl)⟩
end
section
variable {X : Cx} {j k : Nat} {ps : List Str} {sp : Sp} {x : Str} {p pos : Pos} {e : Expr} {es : List Expr} {kws : List Keyword} {t : TA}
theorem pe_cG (c : CalG X.prog X.w X.K X.mg X.base k x ps sp) (hr : Room j X.A) (hk : k ≤ j) (hgd : X.A.guards = some []) (hg : Gl X x)
    (ha : PA X (e :: es) t) (hdb : (x == ("__debug__" : Str)) = false := by decide)
    (he : starEach (e :: es) X.env = (false, eval e X.env) :: starEach es X.env := by rfl)
    (hpl : (backTo pos (starEach es X.env)).any (·.1) = false := by rfl) :
    PE X (.Call (.Name x p) (e :: es) [] pos) (tCall sp [] E0 t) := by
  obtain ⟨f, fd, F, hm, kp, b, _⟩ := c.ex
  exact pe_callG F (hr.mono hk) hgd hg hm kp b .nil pass0 ha hdb he hpl
theorem pe_cG0 (c : CalG X.prog X.w X.K X.mg X.base k x ps sp) (hr : Room j X.A) (hk : k ≤ j) (hgd : X.A.guards = some []) (hg : Gl X x)
    (hdb : (x == ("__debug__" : Str)) = false := by decide) :
    PE X (.Call (.Name x p) [] [] pos) (tCall sp [] E0 tNil) := by
  obtain ⟨f, fd, F, hm, kp, b, _⟩ := c.ex
  exact pe_callG0 F (hr.mono hk) hgd hg hm kp b .nil pass0 hdb
theorem vals_len {vs : List V} {us : List Value} (r : Vals vs us) : vs.length = us.length := r.length
/-- f(a=.., b=..), the names in the parameters' order -/
theorem pe_kG (c : CalG X.prog X.w X.K X.mg X.base k x ps sp) (hr : Room j X.A) (hk : k ≤ j) (hgd : X.A.guards = some []) (hg : Gl X x)
    (hkw : PK X kws t) (hall : (backToKw pos (keywordEach kws X.env)).all (·.1.isSome) = true := by rfl)
    (hks : (backToKw pos (keywordEach kws X.env)).filterMap (·.1) = ps := by rfl)
    (hdb : (x == ("__debug__" : Str)) = false := by decide)
    (hpl : ((backTo pos (starEach [] X.env)).any (·.1) || (backToKw pos (keywordEach kws X.env)).any (·.1.isNone)) = false := by rfl) :
    PE X (.Call (.Name x p) [] kws pos) (tCall sp [] E0 t) := by
  obtain ⟨f, fd, F, hm, kp, _, b⟩ := c.ex
  refine ⟨fun pins s σ H Q I h => wpAny_Call_Name_kw (ld_glob I hg hm ?_ hdb)⟩
  refine PySem.W.callWith_KW0 (h₀ := X.base) I.ok.mod.kin kp hall (thn (hkw.run pos pins s σ H _ I h) fun ws s2 ⟨zs, H2, I2, rz, q2⟩ => ⟨I2.kIn, ?_⟩) hpl
  rw [hks]
  have q1 : sp (zs ++ []) H2 Q E0 := q2
  have q3 : sp zs H2 Q E0 := by rw [List.append_nil] at q1; exact q1
  have hl : ws.length = ps.length := rz.length.symm.trans (F.len _ _ _ _ q3)
  have run := F.go X.A X.stack s2 H2 ⟨[], ps.zip ws⟩ ws zs Q E0 (hr.mono hk) hgd I2.env0 (b s2 ws hl) rz q3
  refine wpAny_call (codeAny_mono run fun r s' hq => ?_)
  match r, hq with
  | .error e, hq => exact (pass0 : Passes CX0 X E0) pins σ H2 s2 e s' I2 hq
  | .ok (.ret u), hq => exact I2.after hq
  | .ok .next, hq => exact (show False from hq).elim
  | .ok .brk, hq => exact (show False from hq).elim
  | .ok .cont, hq => exact (show False from hq).elim
end
end Jo

set_option Elab.async false
set_option linter.all false
set_option maxRecDepth 100000
/-! Defs, methods and classes of the program, wherever they are called. -/
namespace Jo
open PySem PySem.Spec PyProof.Rows L2
/-- the name x of the module holds a def that keeps the promise sp, wherever it is called -/
structure CalF (P : Program) (w : World) (K : PySem.W.Frag) (mg : Str → Option Value) (base : Heap) (k : Nat) (x : Str) (ps : List Str) (sp : Sp) : Prop where
  ex : ∃ (f : Addr) (fd : FuncData), FnOk P w K mg base CX0 k f fd ps sp ∧ mg x = some (.ref f) ∧ PySem.W.keepIn K (.ref f) = true ∧ Binds K fd ps [] ∧
    ∀ (s : Shared) (us : List Value), us.length = ps.length → BindsTo s fd ⟨[], ps.zip us⟩ (ps.zip us)
/-- the def st is the method m of the class at C -/
structure Mth (K : PySem.W.Frag) (C : Addr) (m qual : Str) (st : Stmt) (ps : List Str) : Prop where
  ex : ∃ (f : Addr) (fd : FuncData), Fun K m qual st f fd ∧ Meth K C m f ∧ Binds K fd ps [] ∧
    ∀ (s : Shared) (u : Value) (us : List Value), (u :: us).length = ps.length → BindsTo s fd ⟨[u], (ps.drop 1).reverse.zip us.reverse⟩ (ps.zip (u :: us))
/-- .. and keeps the promise sp -/
structure MtF (P : Program) (w : World) (K : PySem.W.Frag) (mg : Str → Option Value) (base : Heap) (k : Nat) (C : Addr) (m : Str) (ps : List Str) (sp : Sp) : Prop where
  ex : ∃ (f : Addr) (fd : FuncData), FnOk P w K mg base CX0 k f fd ps sp ∧ Meth K C m f ∧ Binds K fd ps [] ∧
    ∀ (s : Shared) (u : Value) (us : List Value), (u :: us).length = ps.length → BindsTo s fd ⟨[u], (ps.drop 1).reverse.zip us.reverse⟩ (ps.zip (u :: us))
section
variable {P : Program} {w : World} {K : PySem.W.Frag} {mg : Str → Option Value} {base : Heap} {x m qual : Str} {st : Stmt} {N ps : List Str} {sp : Sp} {k : Nat} {C : Addr}
theorem CalF.g (c : CalF P w K mg base k x ps sp) : CalG P w K mg base k x ps sp := by
  obtain ⟨f, fd, F, r⟩ := c.ex
  exact ⟨f, fd, FnG.of F, r⟩
theorem Dfn.okF (D : Dfn K mg x st ps) (S : FnScope N ps (defScope st)) (len : ∀ vs H Q E, sp vs H Q E → vs.length = ps.length)
    (body : ∀ (f : Addr) (cdv : Value) (A : Around) (fr : List Env) (s : Shared) (H : Hp) (vs : List V) (Q : VK) (E : XK),
      Room k (A.deeper (envOfC x (defScope st) s.heap.objs.size f cdv)) → sp vs H Q E →
      ∃ t, PSs (cxOf CX0 P w K mg base N x (defScope st) f cdv A fr s H E).nox (defBody st) t ∧ t { nx := fun _ H' => Q .non H', rt := Q } (start N vs) H) :
    CalF P w K mg base (k + 1) x ps sp := by
  obtain ⟨f, fd, F, hm, hb, hk⟩ := D.ex
  exact ⟨f, fd, F.ok S len (body f), hm, F.kp, hb, hk⟩
theorem Mth.okF (D : Mth K C m qual st ps) (S : FnScope N ps (defScope st)) (len : ∀ vs H Q E, sp vs H Q E → vs.length = ps.length)
    (body : ∀ (f : Addr) (cdv : Value) (A : Around) (fr : List Env) (s : Shared) (H : Hp) (vs : List V) (Q : VK) (E : XK),
      Room k (A.deeper (envOfC qual (defScope st) s.heap.objs.size f cdv)) → sp vs H Q E →
      ∃ t, PSs (cxOf CX0 P w K mg base N qual (defScope st) f cdv A fr s H E).nox (defBody st) t ∧ t { nx := fun _ H' => Q .non H', rt := Q } (start N vs) H) :
    MtF P w K mg base (k + 1) C m ps sp := by
  obtain ⟨f, fd, F, hm, hb, hk⟩ := D.ex
  exact ⟨f, fd, F.ok S len (body f), hm, hb, hk⟩
theorem mth_mk {h : Heap} {fa : Addr} {od an : Option Addr} {sl : Array (Option Value)} {oc kV dc pm cd ct : Value}
    (a : PySem.W.findIn K (.ref C) m = some (some (.ref fa))) (i : PySem.W.isFn K (.ref fa) = true)
    (q : K.lookup fa = some ⟨oc, od, .func (PySem.W.fnOf m qual (defArgs st) (defBody st) (defScope st) .none kV dc pm an cd ct), sl⟩)
    (c : PySem.W.codeIn K cd qual = true) (kp : PySem.W.keepIn K (.ref fa) = true)
    (hb : ∀ us : List Value, us.length = ps.length → bindArgs (PySem.W.fnOf m qual (defArgs st) (defBody st) (defScope st) .none kV dc pm an cd ct) ⟨us, []⟩ = pure (ps.zip us))
    (hk : ∀ (u : Value) (us : List Value), (u :: us).length = ps.length → bindArgs (PySem.W.fnOf m qual (defArgs st) (defBody st) (defScope st) .none kV dc pm an cd ct) ⟨[u], (ps.drop 1).reverse.zip us.reverse⟩ = pure (ps.zip (u :: us))) :
    Mth K C m qual st ps := ⟨fa, _, fun_mk q c kp, ⟨a, i, kp⟩, .all hb, fun s u us hl => .of_eq (hk u us hl)⟩
end
section
variable {X : Cx} {j k : Nat} {ps : List Str} {sp : Sp} {x m : Str} {p pos apos : Pos} {e o : Expr} {es : List Expr} {kws : List Keyword} {t : TA} {ta : TE} {C : Addr}
theorem pe_cF (c : CalF X.prog X.w X.K X.mg X.base k x ps sp) (hr : Room j X.A) (hk : k ≤ j) (hg : Gl X x)
    (ha : PA X (e :: es) t) (hdb : (x == ("__debug__" : Str)) = false := by decide)
    (he : starEach (e :: es) X.env = (false, eval e X.env) :: starEach es X.env := by rfl)
    (hpl : (backTo pos (starEach es X.env)).any (·.1) = false := by rfl) :
    PE X (.Call (.Name x p) (e :: es) [] pos) (tCall sp [] E0 t) := by
  obtain ⟨f, fd, F, hm, kp, b, _⟩ := c.ex
  exact pe_call F (hr.mono hk) hg hm kp b .nil pass0 ha hdb he hpl
theorem pe_mF {pl : Sem Bool} (he : PE X o ta) (cl : Cls X.K C) (c : MtF X.prog X.w X.K X.mg X.base k C m ps sp) (hr : Room j X.A) (hk : k ≤ j) (ha : PA X (e :: es) t)
    (hst : starEach (e :: es) X.env = (false, eval e X.env) :: starEach es X.env := by rfl) (hpl : (backTo pos (starEach es X.env)).any (·.1) = false := by rfl)
    (ht : eval (.Call (.Attribute o m apos) (e :: es) [] pos) X.env = (do
      let ov ← eval o X.env
      standAt apos.atName
      let (f, first) ← holding [ov] (getMethod ov m pl)
      callWith pos f first (backTo pos (starEach (e :: es) X.env)) (backToKw pos (keywordEach [] X.env))) := by rfl) :
    PE X (.Call (.Attribute o m apos) (e :: es) [] pos) (tMeth C m sp [] E0 ta t) := by
  obtain ⟨f, fd, F, hm, b, _⟩ := c.ex
  exact pe_meth he cl hm F (hr.mono hk) b .nil pass0 ha hst hpl ht
/-- o.m(b=.., a=..): every parameter by name, the last ahead -/
def tMethK (C : Addr) (m : Str) (sp : Sp) (ta : TE) (t : TA) : TE := fun σ H Q => ta σ H fun x H1 => ∃ a dx fs, x = .ref a ∧ H1 a = some (.ins C dx fs) ∧ fs.lookup m = none ∧
  t σ H1 fun zs H2 => sp (x :: zs.reverse) H2 Q E0
theorem pe_mK {pl : Sem Bool} (he : PE X o ta) (cl : Cls X.K C) (c : MtF X.prog X.w X.K X.mg X.base k C m ps sp) (hr : Room j X.A) (hk : k ≤ j) (hkw : PK X kws t)
    (hall : (backToKw pos (keywordEach kws X.env)).all (·.1.isSome) = true := by rfl)
    (hks : (backToKw pos (keywordEach kws X.env)).filterMap (·.1) = (ps.drop 1).reverse := by rfl)
    (hpl : ((backTo pos (starEach [] X.env)).any (·.1) || (backToKw pos (keywordEach kws X.env)).any (·.1.isNone)) = false := by rfl)
    (ht : eval (.Call (.Attribute o m apos) [] kws pos) X.env = (do
      let ov ← eval o X.env
      standAt apos.atName
      let (f, first) ← holding [ov] (getMethod ov m pl)
      callWith pos f first (backTo pos (starEach [] X.env)) (backToKw pos (keywordEach kws X.env))) := by rfl) :
    PE X (.Call (.Attribute o m apos) [] kws pos) (tMethK C m sp ta t) := by
  obtain ⟨f, fd, F, hm, _, b⟩ := c.ex
  refine ⟨fun pins s σ H Q I h => ?_⟩
  refine PySem.W.methodCall_KW (pl := pl) (thn (he.run pins s σ H _ I h) fun u s1 ⟨x, H1, I1, rx, a, dx, fs, ex, ea, l, q⟩ => ?_) ht
  subst ex
  obtain rfl : u = Value.ref a := rx
  refine getmeth_ok I1 ea cl hm l ?_
  refine PySem.W.callWith_KW0 (first := [.ref a]) (h₀ := X.base) I.ok.mod.kin hm.kp hall (thn (hkw.run pos pins s1 σ H1 _ I1 q) fun ws s2 ⟨zs, H2, I2, rz, q2⟩ => ⟨I2.kIn, ?_⟩) hpl
  rw [hks]
  have r2 : Vals (V.ref a :: zs.reverse) (Value.ref a :: ws.reverse) := .cons rfl rz.reverse
  have hl : (Value.ref a :: ws.reverse).length = ps.length := r2.length.symm.trans (F.len _ _ _ _ q2)
  have bb := b s2 (.ref a) ws.reverse hl
  rw [List.reverse_reverse] at bb
  have run := F.run X.A X.stack s2 H2 ⟨[.ref a], (ps.drop 1).reverse.zip ws⟩ _ _ Q E0 (hr.mono hk) I2.env0 bb r2 q2
  refine wpAny_call (codeAny_mono run fun r s' hq => ?_)
  match r, hq with
  | .error e, hq => exact (pass0 : Passes CX0 X E0) pins σ H2 s2 e s' I2 hq
  | .ok (.ret u), hq => exact I2.after hq
  | .ok .next, hq => exact (show False from hq).elim
  | .ok .brk, hq => exact (show False from hq).elim
  | .ok .cont, hq => exact (show False from hq).elim
/-- C(a, b) -/
theorem pe_mkF {fi : Addr} (M : Mk X.K C fi) (c : MtF X.prog X.w X.K X.mg X.base k C "__init__" ps sp) (hr : Room j X.A) (hk : k + 1 ≤ j) (hg : Gl X x) (hm : X.mg x = some (.ref C))
    (ha : PA X (e :: es) t) (hdb : (x == ("__debug__" : Str)) = false := by decide)
    (he : starEach (e :: es) X.env = (false, eval e X.env) :: starEach es X.env := by rfl) (hpl : (backTo pos (starEach es X.env)).any (·.1) = false := by rfl) :
    PE X (.Call (.Name x p) (e :: es) [] pos) (tMake C sp [] E0 t) := by
  obtain ⟨f, fd, F, mt, b, _⟩ := c.ex
  have ef : fi = f := by
    have e1 := M.init.symm.trans mt.at_
    cases e1
    rfl
  subst ef
  exact pe_make M F (hr.mono hk) hg hm b .nil pass0 ha hdb he hpl
/-- C(b=.., a=..): the parameters by name, the last ahead -/
theorem pe_mkK {fi : Addr} (M : Mk X.K C fi) (c : MtF X.prog X.w X.K X.mg X.base k C "__init__" ps sp) (hr : Room j X.A) (hk : k + 1 ≤ j) (hg : Gl X x) (hm : X.mg x = some (.ref C)) {n : Nat} (hn : ps.length = n + 1)
    (hkw : PK X kws t) (hall : (backToKw pos (keywordEach kws X.env)).all (·.1.isSome) = true := by rfl)
    (hks : (backToKw pos (keywordEach kws X.env)).filterMap (·.1) = (ps.drop 1).reverse := by rfl)
    (hdb : (x == ("__debug__" : Str)) = false := by decide)
    (hpl : ((backTo pos (starEach [] X.env)).any (·.1) || (backToKw pos (keywordEach kws X.env)).any (·.1.isNone)) = false := by rfl) :
    PE X (.Call (.Name x p) [] kws pos) (tMakeK C 0 (ps.drop 1).reverse.length sp (fun vs zs => vs ++ zs.reverse) E0 tNil t) := by
  obtain ⟨f, fd, F, mt, _, b⟩ := c.ex
  have ef : fi = f := by
    have e1 := M.init.symm.trans mt.at_
    cases e1
    rfl
  subst ef
  refine pe_makeK0 (g := fun us ws => us ++ ws.reverse) M F (hr.mono hk) hg hm ⟨fun s us ws X l1 l2 => ?_, fun r1 r2 => r1.append r2.reverse⟩ pass0 hkw hall hks hdb hpl
  match us, l1 with
  | [u], _ =>
    have h3 : (u :: ws.reverse).length = ps.length := by
      rw [List.length_reverse, List.length_drop] at l2
      rw [List.length_cons, List.length_reverse]
      omega
    have bb := b s u ws.reverse h3
    rw [List.reverse_reverse] at bb
    exact bb
end
end Jo

set_option Elab.async false
set_option linter.all false
set_option maxRecDepth 100000
set_option maxHeartbeats 2000000
/-! Sets of texts that can be walked: made, filled, sorted; over any kind of keys as far as filling goes. -/
namespace Jo
open PySem PySem.Spec PyProof.Rows L2 PpSet
section
variable {κ : Type} [DecidableEq κ] {P : Program} {w : World} (kd : PySem.KeyKind P w κ)
/-- no key is held by both entries -/
def Apt (x y : Int × Value) : Prop := ∀ k, kd.is k x.2 = true → kd.is k y.2 = true → False
theorem Apt.sym {x y : Int × Value} (h : Apt kd x y) : Apt kd y x := fun k p q => h k q p
/-- at a stands a set of these keys, n of them, which the model can walk -/
def SetW (h : Heap) (a : Addr) (S : κ → Bool) (n : Nat) : Prop := ∃ (o : Obj) (es : Array (Int × Value)) (ep : Nat) (t : SetTable),
  (h.get? a = some o ∧ o.ExactSet ∧ o.data = .set es ep t) ∧ (PySem.ElemsOf kd es.toList ∧ es.toList.Pairwise (Apt kd)) ∧
  (∀ k, S k = true ↔ ∃ x ∈ es.toList, kd.is k x.2 = true) ∧ (es.size < scanBound ∧ t.fits es.size = true ∧ es.size = n) ∧
  (Ris t.place.toList ∧ (w.params.followText "set-order" = true ∨ t.led = true))
variable {kd}
theorem SetW.keep {h h' : Heap} {a : Addr} {S : κ → Bool} {n : Nat} (R : SetW kd h a S n) (k : ∀ o, h.get? a = some o → h'.get? a = some o) : SetW kd h' a S n := by
  obtain ⟨o, es, ep, t, ⟨e1, e2⟩, r⟩ := R
  exact ⟨o, es, ep, t, ⟨k o e1, e2⟩, r⟩
theorem SetW.of {h : Heap} {a : Addr} {S : κ → Bool} {n : Nat} (R : SetW kd h a S n) : h.SetOf kd a S n := by
  obtain ⟨o, es, ep, t, ⟨e1, e2, e3⟩, ⟨g, _⟩, m, ⟨b, f, z⟩, _⟩ := R
  exact ⟨o, es, ep, t, e1, e2, e3, g, m, b, f, z⟩
variable (kd)
theorem setW_new (h : Heap) : SetW kd (h.push { cls := .type "set", dict := none, data := .set #[] 0 (.fresh 0 0 (!w.params.followText "set-order")) }) h.objs.size (fun _ => false) 0 := by
  refine ⟨_, #[], 0, _, ⟨Heap.get?_push_size _ rfl, ⟨rfl, rfl, rfl⟩, rfl⟩, ⟨fun x hx => ?_, List.Pairwise.nil⟩, fun k => ?_, ⟨by decide, by rfl, rfl⟩, List.Pairwise.nil, ?_⟩
  · simp at hx
  · simp
  · show _ ∨ (!w.params.followText "set-order") = true
    cases w.params.followText "set-order" with
    | true => exact .inl rfl
    | false => exact .inr rfl
variable {kd}
section
variable {A : Around} {E : Value → Shared → Prop} {s : Shared} {a : Addr} {S : κ → Bool} {n : Nat}
theorem addW_end {gv : Bool → Sem Unit} (hgv : ∀ (b : Bool) (s1 : Shared) (T : Unit → Shared → Prop), T () s1 → wpAny (model P w) A (gv b) T E s1)
    {o : Obj} {es es1 : Array (Int × Value)} {ep : Nat} {t t2 : SetTable} {S' : κ → Bool} {wasDummy : Bool} {R : Option Bool → Shared → Prop}
    (ho : s.heap.get? a = some o) (hex : o.ExactSet) (hd : o.data = .set es ep t)
    (g1 : PySem.ElemsOf kd es1.toList) (p1 : es1.toList.Pairwise (Apt kd)) (m1 : ∀ k, S' k = true ↔ ∃ x ∈ es1.toList, kd.is k x.2 = true)
    (hb : es1.size < scanBound) (hf : t2.fits es1.size = true) (hr : Ris t2.place.toList) (hl : w.params.followText "set-order" = true ∨ t2.led = true)
    (hR : ∀ h', Heap.SameBut a s.heap h' → SetW kd h' a S' es1.size → R (some true) { s with heap := h' }) :
    wpAny (model P w) A (storeSet a es1 t2 >>= fun _ =>
        if (!wasDummy && t2.tooFull) = true then
          gv (relayAll t2 es1 (SetTable.grown es1.size)).2.2 >>= fun _ => storeSet a (relayAll t2 es1 (SetTable.grown es1.size)).1 (relayAll t2 es1 (SetTable.grown es1.size)).2.1 >>= fun _ => pure (some true)
        else pure (some true)) R E s := by
  have o1 := storeB_at (es' := es1) (t' := t2) ho hd
  have s1 := Heap.SameBut.update s.heap a (Obj.putSet es1 t2)
  refine wpAny_bind (wpAny_storeSet_of ho hd ?_ (fits_of_scanBound hb))
  by_cases c : (!wasDummy && t2.tooFull) = true
  · rw [if_pos c]
    have q1 := relayAll_perm t2 es1 (SetTable.grown es1.size)
    have q2 := relayAll_fits t2 es1 (SetTable.grown es1.size)
    have q3 := relayAll_ris t2 es1 (SetTable.grown es1.size)
    have q4 := relayAll_led t2 es1 (SetTable.grown es1.size)
    generalize relayAll t2 es1 (SetTable.grown es1.size) = Z at q1 q2 q3 q4 ⊢
    obtain ⟨es2, t3, gave⟩ := Z
    dsimp only at q1 q2 q3 q4 ⊢
    have z2 : es2.size = es1.size := by
      have z := q1.length_eq
      rwa [Array.length_toList, Array.length_toList] at z
    refine wpAny_bind (hgv _ _ _ (wpAny_bind (wpAny_storeSet_of o1 rfl ?_ (fits_of_scanBound (by rw [z2]; exact hb)))))
    have o2 := storeB_at (es' := es2) (t' := t3) o1 rfl
    refine wpAny_pure (hR _ (s1.trans (Heap.SameBut.update _ a _)) ⟨_, es2, _, t3, ⟨o2, hex, rfl⟩, ⟨fun x hx => g1 x (q1.mem_iff.mp hx), ?_⟩, fun k => ?_, ⟨by rw [z2]; exact hb, q2, z2⟩, q3, ?_⟩)
    · exact (q1.pairwise_iff fun h => Apt.sym kd h).mpr p1
    · rw [m1 k]
      exact ⟨fun ⟨x, hx, i⟩ => ⟨x, q1.mem_iff.mpr hx, i⟩, fun ⟨x, hx, i⟩ => ⟨x, q1.mem_iff.mp hx, i⟩⟩
    · exact hl.imp id fun z => by rw [q4]; exact z
  · rw [if_neg c]
    exact wpAny_pure (hR _ s1 ⟨_, es1, _, t2, ⟨o1, hex, rfl⟩, ⟨g1, p1⟩, m1, ⟨hb, hf, rfl⟩, hr, hl⟩)
theorem addW_hashed {k : κ} {u : Value} {Q : Bool → Shared → Prop} (hu : kd.is k u = true) (hsc : u.scannable = true) (R : SetW kd s.heap a S n) (room : n + 1 < scanBound)
    (hQ : ∀ h', Heap.SameBut a s.heap h' → SetW kd h' a (fun j => S j || decide (j = k)) (if S k = true then n else n + 1) → Q (!S k) { s with heap := h' }) :
    wpAny (model P w) A (setAddHashed a u (kd.hash k)) Q E s := by
  obtain ⟨o, es, ep, t, ⟨ho, hex, hd⟩, ⟨g, pw⟩, hm, ⟨hb, hf, hn⟩, hr, hl⟩ := R
  unfold setAddHashed setAddHashedIn
  refine wpAny_holding (wpAny_bind (wpAny_setState_of ho hd hf ?_))
  dsimp only
  rw [byScan_of hsc hb g]
  simp only [↓reduceIte]
  unfold setAddByScan
  refine wpAny_bind (wpAny_bind (wpAny_rule (wpAny_bind (wpAny_setScan_of hu ho hd hf g ?_))))
  cases hfi : List.findIdx? (fun x => kd.is k x.2) es.toList with
  | some j =>
    dsimp only
    obtain ⟨hj, pj, _⟩ := List.findIdx?_eq_some_iff_getElem.mp hfi
    have hS : S k = true := (hm k).2 ⟨es.toList[j], List.getElem_mem hj, pj⟩
    have q := hQ s.heap (Heap.SameBut.refl a s.heap) ⟨o, es, ep, t, ⟨ho, hex, hd⟩, ⟨g, pw⟩, fun i => by
      rw [Bool.or_eq_true, decide_eq_true_eq, ← hm i]
      exact ⟨fun z => z.elim id fun e => e ▸ hS, .inl⟩, ⟨hb, hf, by rw [if_pos hS]; exact hn⟩, hr, hl⟩
    rw [hS] at q
    exact wpAny_pure (wpAny_pure q)
  | none =>
    dsimp only
    have hno : ∀ x ∈ es.toList, kd.is k x.2 = false := fun x hx => by
      have c := List.findIdx?_eq_none_iff.mp hfi x hx
      simpa using c
    have hS : S k = false := by
      cases q : S k with
      | false => rfl
      | true =>
        obtain ⟨x, hx, i⟩ := (hm k).1 q
        rw [hno x hx] at i
        cases i
    have hgw : ∀ (b : Bool) {s1 : Shared} {T : Unit → Shared → Prop}, T () s1 → wpAny (model P w) A (match b with | true => rule "set.scan.the-table-gave-way" | false => pure ()) T E s1 :=
      fun b s1 T q => by
        cases b with
        | false => exact wpAny_pure q
        | true => exact wpAny_rule q
    have q1 := layNew_perm t es (kd.hash k) u
    have q2 := layNew_fits t es (kd.hash k) u
    have q3 := layNew_ris t es (kd.hash k) u hr
    have q4 := layNew_led t es (kd.hash k) u
    generalize layNew t es (kd.hash k) u = Z at q1 q2 q3 q4 ⊢
    obtain ⟨es1, t1, wasDummy, gave⟩ := Z
    dsimp only at q1 q2 q3 q4 ⊢
    rw [Array.toList_push] at q1
    have pc : es1.toList.Perm ((kd.hash k, u) :: es.toList) := q1.trans (List.perm_append_singleton _ _)
    have g1 : PySem.ElemsOf kd es1.toList := fun x hx => by
      rcases List.mem_cons.mp (pc.mem_iff.mp hx) with z | z
      · rw [z]
        exact ⟨⟨k, hu, rfl⟩, hsc⟩
      · exact g x z
    have p1 : es1.toList.Pairwise (Apt kd) := by
      refine (pc.pairwise_iff fun h => Apt.sym kd h).mpr (List.pairwise_cons.mpr ⟨fun y hy i h1 h2 => ?_, pw⟩)
      have e : i = k := kd.inj u i k h1 hu
      subst e
      rw [hno y hy] at h2
      cases h2
    have m1 : ∀ i, (S i || decide (i = k)) = true ↔ ∃ x ∈ es1.toList, kd.is i x.2 = true := fun i => by
      rw [Bool.or_eq_true, decide_eq_true_eq, hm i]
      constructor
      · rintro (⟨x, hx, z⟩ | rfl)
        · exact ⟨x, pc.mem_iff.mpr (List.mem_cons_of_mem _ hx), z⟩
        · exact ⟨_, pc.mem_iff.mpr List.mem_cons_self, hu⟩
      · rintro ⟨x, hx, z⟩
        rcases List.mem_cons.mp (pc.mem_iff.mp hx) with y | y
        · subst y
          exact .inr (kd.inj u i k z hu)
        · exact .inl ⟨x, y, z⟩
    have hsz : es1.size = n + 1 := by
      have z := pc.length_eq
      rw [Array.length_toList, List.length_cons, Array.length_toList, hn] at z
      exact z
    have hb1 : es1.size < scanBound := by
      rw [hsz]
      exact room
    have hled : w.params.followText "set-order" = true ∨ t1.led = true := hl.imp id fun z => by
      rw [q4]
      exact z
    have fin : ∀ h', Heap.SameBut a s.heap h' → SetW kd h' a (fun j => S j || decide (j = k)) es1.size → Q true { s with heap := h' } := fun h' sb r => by
      have q := hQ h' sb
      rw [hS] at q
      rw [hsz] at r
      exact q r
    refine wpAny_bind (hgw _ ?_)
    split
    · refine wpAny_bind ?_
      rw [hashByValue_scannable 8 hsc]
      refine wpAny_pure (addW_end (fun b s1 T q => ?_) ho hex hd g1 p1 m1 hb1 ?_ ?_ ?_ fun h' sb r => ?_)
      · cases b with
        | false => exact wpAny_pure q
        | true => exact wpAny_rule q
      · first | (split <;> first | exact q2 | exact SetTable.fits_plain_off q2) | exact q2
      · first | (split <;> exact q3) | exact q3
      · first | (split <;> exact hled) | exact hled
      · exact wpAny_pure (fin h' sb r)
    · refine wpAny_bind (wpAny_pure ?_)
      simp only [↓reduceIte]
      refine addW_end (fun b s1 T q => ?_) ho hex hd g1 p1 m1 hb1 q2 q3 hled fun h' sb r => ?_
      · cases b with
        | false => exact wpAny_pure q
        | true => exact wpAny_rule q
      · exact wpAny_pure (fin h' sb r)
/-- found.add(u) -/
theorem addW {k : κ} {u : Value} {Q : Value → Shared → Prop} (hu : kd.is k u = true) (hsc : u.scannable = true) (R : SetW kd s.heap a S n) (room : n + 1 < scanBound)
    (hQ : ∀ h', Heap.SameBut a s.heap h' → SetW kd h' a (fun j => S j || decide (j = k)) (if S k = true then n else n + 1) → Q .none { s with heap := h', toks := s.toks + 1 }) :
    wpAny (model P w) A (call (.builtin "set.add") [.ref a, u]) Q E s := by
  refine wpAny_call_entry F.slot_set_add R.of.typeIs F.entry_set_add ?_ (F.args_set_add_2 _ _)
  unfold Builtin.«set.add» Builtin.Frozenset.oneOther
  simp only [List.isEmpty_nil, bind_assoc]
  unfold Builtin.Frozenset.addrOf setAdd
  refine wpAny_bind (wpAny_pure ?_)
  refine wpAny_bind (wpAny_pure ?_)
  refine wpAny_bind (wpAny_holding (wpAny_bind (kd.pyHash hu (addW_hashed (s := { s with toks := s.toks + 1 }) hu hsc R room fun h' sb r => ?_))))
  exact wpAny_pure ⟨_, rfl, hQ h' sb r⟩
end
end
end Jo

set_option Elab.async false
set_option linter.all false
set_option maxRecDepth 100000
set_option maxHeartbeats 2000000
/-! sorted of a set of texts; the set as a tracked thing. -/
namespace Jo
open PySem PySem.Spec PyProof.Rows L2 PpSet
/-- the text that a value is -/
def txV : Value → Str
  | .str x _ => x
  | _ => Str.empty
theorem strs_tx : ∀ {vs : List Value}, (∀ v ∈ vs, ∃ x t, v = Value.str x t) → StrsAre vs (vs.map txV)
  | [], _ => .nil
  | v :: vs, h => by
    obtain ⟨x, t, e⟩ := h v List.mem_cons_self
    subst e
    exact .cons x t (strs_tx fun u hu => h u (List.mem_cons_of_mem _ hu))
section
variable {P : Program} {w : World} {A : Around} {E : Value → Shared → Prop} {s : Shared} {a : Addr} {S : Str → Bool} {n : Nat}
theorem sortW {Q : Value → Shared → Prop} (R : SetW (PySem.strKind P w) s.heap a S n) (hh : A.handled = none) (h64 : n < 64)
    (hQ : ∀ (s' : Shared) (p c : Nat) (out : List Value) (ys : List Str), (∀ b o, s.heap.get? b = some o → s'.heap.get? b = some o) → s'.gens = s.gens → s'.os = s.os →
      s.heap.objs.size ≤ p → s'.heap.get? p = some (seqObj "list" out.toArray c) → StrsAre out ys → sortedS ys = true → ys.Nodup → (∀ k, k ∈ ys ↔ S k = true) → ys.length = n → Q (.ref p) s') :
    wpAny (model P w) A (call (.builtin "sorted") [.ref a]) Q E s := by
  obtain ⟨o, es, ep, t, ⟨ho, hex, hd⟩, ⟨g, pw⟩, hm, ⟨hb, hf, hn⟩, hr, hl⟩ := R
  have gs : ∀ x ∈ es.toList, ∃ k t, x.2 = Value.str k t := fun x hx => by
    obtain ⟨⟨k, i, _⟩, _⟩ := g x hx
    obtain ⟨t, e⟩ := Value.isStrOf_shape i
    exact ⟨k, t, e⟩
  have isx : ∀ x ∈ es.toList, ∀ k, (PySem.strKind P w).is k x.2 = true ↔ txV x.2 = k := fun x hx k => by
    obtain ⟨k0, t, e⟩ := gs x hx
    rw [e]
    constructor
    · intro i
      obtain ⟨t', e'⟩ := Value.isStrOf_shape (x := k) (v := Value.str k0 t) i
      injection e' with e1 e2
    · intro i
      subst i
      exact PySem.strKind_is _ _ _ _
  refine Calls.call_function_entry kind_sorted plain_sorted entry_sorted (args_sorted1 _) ?_
  unfold Builtin.«sorted»
  refine wpAny_bind (m := checkCount "sorted" 1 1 _) (wpAny_pure (wpAny_bind (collect_set (A := A.in1) hh ⟨o, ho, hex.1, hd⟩ hf hb hr hl fun s1 vs k1 hz g1 o1 pm => ?_)))
  have hvl : vs.length = n := by
    rw [pm.length_eq, List.length_map, Array.length_toList]
    exact hn
  have hS : StrsAre vs (vs.map txV) := strs_tx fun v hv => by
    obtain ⟨x, hx, q⟩ := List.mem_map.mp (pm.mem_iff.mp hv)
    rw [← q]
    exact gs x hx
  have pk : (vs.map txV).Perm (es.toList.map fun x => txV x.2) := by
    have q := pm.map txV
    rwa [List.map_map] at q
  have nd : (es.toList.map fun x => txV x.2).Nodup := by
    refine List.pairwise_map.mpr (List.Pairwise.imp_of_mem (fun {x y} hx hy h e => ?_) pw)
    exact h (txV x.2) ((isx x hx _).mpr rfl) ((isx y hy _).mpr e.symm)
  refine wpAny_bind (wpAny_newList ?_ (by rw [hvl, sizeLine_eq]; omega))
  have hoL : (s1.heap.push (seqObj "list" vs.toArray 0)).get? s1.heap.objs.size = some (seqObj "list" vs.toArray 0) := Heap.get?_push_size _ rfl
  refine wpAny_bind (wpAny_holding (wpAny_call_entry slot_list_sort ⟨_, hoL, rfl⟩ entry_list_sort
    (list_sort_treeK strKind_oneLt hoL hS.keysOf (fun v₁ v₂ rest e => keyKind_strs (by rw [← e]; exact hS)) (by rw [hvl]; exact h64) fun st' hp hs => ⟨_, rfl, ?_⟩) (args_list_sort _)))
  obtain ⟨ys, y1, y2, y3⟩ := sorted_out_str hS hp hs
  obtain ⟨c, hc⟩ := sortedHeap_at (vs := vs) (out := (arrOf st').map (·.2)) hoL
  have pn := y2.trans pk
  refine wpAny_pure ⟨_, rfl, hQ _ s1.heap.objs.size c ((arrOf st').map (·.2)).toList ys (fun b u e => ?_) g1 o1 hz (by rw [Array.toArray_toList]; exact hc) y1 y3 (pn.nodup_iff.mpr nd) (fun k => ?_) ?_⟩
  · have q := k1 b u e
    have hlt := Heap.lt_size q
    refine (sortedHeap_old (Nat.ne_of_lt hlt) ?_).trans (Heap.get?_push_of_some _ q)
    rw [size_push']
    exact Nat.lt_succ_of_lt hlt
  · rw [pn.mem_iff, hm k, List.mem_map]
    exact ⟨fun ⟨x, hx, q⟩ => ⟨x, hx, (isx x hx k).mpr q⟩, fun ⟨x, hx, q⟩ => ⟨x, hx, (isx x hx k).mp q⟩⟩
  · rw [pn.length_eq, List.length_map, Array.length_toList]
    exact hn
end
/-- the set of texts at a -/
def SetT (P : Program) (w : World) (a : Addr) (S : Str → Bool) (n : Nat) : HO := .ext fun h => SetW (PySem.strKind P w) h a S n
theorem setT_ok {P : Program} {w : World} {H : Hp} {h : Heap} {a : Addr} {S : Str → Bool} {n : Nat} (R : SetW (PySem.strKind P w) h a S n) : ObjOk P w H h a (SetT P w a S n) := by
  have ⟨o, _, _, _, ⟨ho, _⟩, _⟩ := R
  exact ⟨R, ⟨o, ho⟩, fun h1 h2 p k => SetW.keep p k⟩
section
variable {X : Cx}
theorem setT_get {pins : List (Addr × Obj)} {σ : L2.St} {H : Hp} {s : Shared} {a : Addr} {S : Str → Bool} {n : Nat} (I : Inv X pins σ H s) (ha : H a = some (SetT X.prog X.w a S n)) : SetW (PySem.strKind X.prog X.w) s.heap a S n := (I.hok a _ ha).1
theorem addT {pins : List (Addr × Obj)} {σ : L2.St} {H : Hp} {s : Shared} {A : Around} {E : Value → Shared → Prop} {D : Addr} {S : Str → Bool} {n : Nat} {y : Str} {u : Value} {Q : Value → Shared → Prop} (I : Inv X pins σ H s) (hD : H D = some (SetT X.prog X.w D S n)) (ru : RelV (.str y) u) (room : n + 1 < scanBound)
    (h : ∀ s', Inv X pins σ (upd H D (SetT X.prog X.w D (fun j => S j || decide (j = y)) (if S y = true then n else n + 1))) s' → Q .none s') : wpAny (model X.prog X.w) A (call (.builtin "set.add") [.ref D, u]) Q E s := by
  obtain ⟨t, e⟩ := (show ∃ t, u = Value.str y t from ru)
  subst e
  refine addW (PySem.strKind_is _ _ _ _) rfl (setT_get I hD) room fun h' sb new => h _ ?_
  have he : ∃ u, h'.get? D = some u := by
    have ⟨o, _, _, _, ⟨ho, _⟩, _⟩ := new
    exact ⟨o, ho⟩
  exact I.write (e := D) (t' := s.toks + 1) (by rw [hD]; trivial) (.inl rfl) (fun b u hb hu => (sb.2 b hb).trans hu) he (setT_ok new)
/-- sorted(a set of texts), fewer than 64 -/
def rSortT2 (P : Program) (w : World) : List V → Hp → VK → Prop := fun vs H Q => ∃ (a : Addr) (S : Str → Bool) (n : Nat), vs = [.ref a] ∧ H a = some (SetT P w a S n) ∧ n < 64 ∧
  ∀ (ys : List Str) (p : Addr), sortedS ys = true → ys.Nodup → (∀ k, k ∈ ys ↔ S k = true) → ys.length = n → H p = none → Q (.ref p) (upd H p (.lst (ys.map V.str)))
theorem cr_sortT2 (hc : X.calm = true) : CallR X (.builtin "sorted") (rSortT2 X.prog X.w) := by
  intro pins s σ H vs us Q I r h
  obtain ⟨a, S, n, rfl, ha, h64, q⟩ := h
  rw [Vals.ref1 r]
  refine sortW (setT_get I ha) (I.ok.hd hc) h64 fun s' p c out ys k g o hp hg y1 y2 y3 y4 y5 => ?_
  have hn : H p = none := I.hok.fresh hp
  have hlen : (ys.map V.str).length ≤ sizeLine := by
    rw [List.length_map, y5, sizeLine_eq]
    omega
  have J : Inv X pins σ (upd H p (.lst (ys.map V.str))) { s with heap := s'.heap, gens := s'.gens, drawn := s'.drawn, toks := s'.toks } :=
    I.call (ch := []) (Un.laid k hp hn) (I.hok.laid k hp ⟨hlen, out, c, vals_of_strs y1, hg⟩) (by rw [g]; exact I.bare) (fun _ z => nomatch z)
  have e : s' = { s with heap := s'.heap, gens := s'.gens, drawn := s'.drawn, toks := s'.toks } := by
    cases s'
    cases s
    cases o
    rfl
  rw [e]
  exact ⟨.ref p, _, J, rfl, q ys p y2 y3 y4 y5 hn⟩
end
end Jo

set_option Elab.async false
set_option linter.all false
set_option maxRecDepth 100000
/-! texts in order without doubles: the one list. -/
namespace Jo
open PySem PySem.Spec PyProof.Rows L2
/-- x stands ahead of y -/
def Ahd (x y : Str) : Prop := x.cps.toList < y.cps.toList
instance (x y : Str) : Decidable (Ahd x y) := inferInstanceAs (Decidable (x.cps.toList < y.cps.toList))
theorem str_cps {x y : Str} (h : x.cps.toList = y.cps.toList) : x = y := by
  cases x
  cases y
  exact congrArg _ (Array.toList_inj.mp h)
theorem Ahd.irr {x : Str} (h : Ahd x x) : False := List.lt_irrefl _ h
theorem Ahd.trans {x y z : Str} (a : Ahd x y) (b : Ahd y z) : Ahd x z := List.lt_trans a b
theorem Ahd.tri {x y : Str} (n : x ≠ y) (h : ¬ Ahd x y) : Ahd y x := by
  have h1 : y.cps.toList ≤ x.cps.toList := List.not_lt.mp h
  by_cases c : Ahd y x
  · exact c
  · exact absurd (str_cps (List.le_antisymm (List.not_lt.mp c) h1)) n
/-- x put in its place -/
def insS (x : Str) : List Str → List Str
  | [] => [x]
  | y :: r => if x = y then y :: r else if Ahd x y then x :: y :: r else y :: insS x r
def srt (xs : List Str) : List Str := xs.foldr insS []
theorem mem_insS {x k : Str} : ∀ {r : List Str}, k ∈ insS x r ↔ k = x ∨ k ∈ r
  | [] => by simp [insS]
  | y :: r => by
    unfold insS
    split
    · rename_i e
      subst e
      simp
    · split
      · simp
      · rw [List.mem_cons, mem_insS, List.mem_cons]
        exact ⟨fun h => h.elim (fun e => .inr (.inl e)) fun h => h.elim .inl fun h => .inr (.inr h), fun h => h.elim (fun e => .inr (.inl e)) fun h => h.elim .inl fun h => .inr (.inr h)⟩
theorem len_insS {x : Str} : ∀ {r : List Str}, (insS x r).length ≤ r.length + 1
  | [] => Nat.le_refl _
  | y :: r => by
    have := @len_insS x r
    unfold insS
    split
    · simp
    · split
      · simp
      · simp; omega
theorem up_insS {x : Str} : ∀ {r : List Str}, r.Pairwise Ahd → (insS x r).Pairwise Ahd
  | [], _ => List.pairwise_singleton _ _
  | y :: r, h => by
    obtain ⟨h1, h2⟩ := List.pairwise_cons.mp h
    unfold insS
    split
    · exact h
    · rename_i ne
      split
      · rename_i lt
        refine List.pairwise_cons.mpr ⟨fun z hz => ?_, h⟩
        rcases List.mem_cons.mp hz with e | m
        · rw [e]; exact lt
        · exact lt.trans (h1 z m)
      · rename_i nl
        refine List.pairwise_cons.mpr ⟨fun z hz => ?_, up_insS h2⟩
        rcases mem_insS.mp hz with e | m
        · rw [e]; exact Ahd.tri ne nl
        · exact h1 z m
theorem mem_srt {k : Str} : ∀ {xs : List Str}, k ∈ srt xs ↔ k ∈ xs
  | [] => by simp [srt]
  | x :: xs => by
    show k ∈ insS x (srt xs) ↔ _
    rw [mem_insS, mem_srt, List.mem_cons]
theorem len_srt : ∀ xs : List Str, (srt xs).length ≤ xs.length
  | [] => Nat.le_refl _
  | x :: xs => by
    have h := len_srt xs
    have h2 : (insS x (srt xs)).length ≤ (srt xs).length + 1 := len_insS
    show (insS x (srt xs)).length ≤ _
    rw [List.length_cons]
    omega
theorem up_srt : ∀ xs : List Str, (srt xs).Pairwise Ahd
  | [] => List.Pairwise.nil
  | x :: xs => up_insS (up_srt xs)
theorem up_same : ∀ {xs ys : List Str}, xs.Pairwise Ahd → ys.Pairwise Ahd → (∀ k, k ∈ xs ↔ k ∈ ys) → xs = ys
  | [], [], _, _, _ => rfl
  | [], y :: ys, _, _, h => absurd ((h y).mpr List.mem_cons_self) (by simp)
  | x :: xs, [], _, _, h => absurd ((h x).mp List.mem_cons_self) (by simp)
  | x :: xs, y :: ys, a, b, h => by
    obtain ⟨a1, a2⟩ := List.pairwise_cons.mp a
    obtain ⟨b1, b2⟩ := List.pairwise_cons.mp b
    have e : x = y := by
      rcases List.mem_cons.mp ((h x).mp List.mem_cons_self) with e | m
      · exact e
      · rcases List.mem_cons.mp ((h y).mpr List.mem_cons_self) with e | m2
        · exact e.symm
        · exact ((b1 x m).trans (a1 y m2)).irr.elim
    subst e
    have t : xs = ys := up_same a2 b2 fun k => by
      constructor
      · intro m
        rcases List.mem_cons.mp ((h k).mp (List.mem_cons_of_mem _ m)) with e | m2
        · subst e; exact ((a1 _ m).irr).elim
        · exact m2
      · intro m
        rcases List.mem_cons.mp ((h k).mpr (List.mem_cons_of_mem _ m)) with e | m2
        · subst e; exact ((b1 _ m).irr).elim
        · exact m2
    rw [t]
theorem up_of_rising : ∀ {xs : List Str} {p : Str}, risingS p xs = true → (p :: xs).Nodup → (p :: xs).Pairwise Ahd
  | [], p, _, _ => List.pairwise_singleton _ _
  | x :: r, p, h, nd => by
    have h' : (!ltCps x.cps.toList p.cps.toList && risingS x r) = true := h
    rw [Bool.and_eq_true, Bool.not_eq_true'] at h'
    obtain ⟨n1, n2⟩ := List.nodup_cons.mp nd
    have ih := up_of_rising h'.2 n2
    have nl : ¬ Ahd x p := fun z => by
      have e := h'.1
      rw [ltCps_eq] at e
      exact of_decide_eq_false e z
    have lt : Ahd p x := Ahd.tri (fun e => n1 (by rw [← e]; exact List.mem_cons_self)) nl
    refine List.pairwise_cons.mpr ⟨fun z hz => ?_, ih⟩
    rcases List.mem_cons.mp hz with e | m
    · rw [e]; exact lt
    · exact lt.trans ((List.pairwise_cons.mp ih).1 z m)
theorem srt_of {xs ys : List Str} (h : sortedS ys = true) (nd : ys.Nodup) (hm : ∀ k, k ∈ ys ↔ k ∈ xs) : ys = srt xs := by
  refine up_same ?_ (up_srt xs) fun k => (hm k).trans mem_srt.symm
  cases ys with
  | nil => exact List.Pairwise.nil
  | cons y r => exact up_of_rising h nd
theorem srt_one (x : Str) : srt [x] = [x] := rfl
/-- sorted twice: the parts may be sorted first -/
theorem srt_flat {α : Type} (f : α → List Str) (xs : List α) : srt (xs.flatMap fun a => srt (f a)) = srt (xs.flatMap f) := by
  refine up_same (up_srt _) (up_srt _) fun k => ?_
  rw [mem_srt, mem_srt, List.mem_flatMap, List.mem_flatMap]
  exact ⟨fun ⟨a, h, m⟩ => ⟨a, h, mem_srt.mp m⟩, fun ⟨a, h, m⟩ => ⟨a, h, mem_srt.mpr m⟩⟩
end Jo

set_option Elab.async false
set_option linter.all false
set_option maxRecDepth 100000
/-! trees: expressions as mathematics, as the law's tuples, as the program's instances. -/
namespace Jo
open PySem PySem.Spec PyProof.Rows L2
/-- the kinds with two sides -/
inductive Bk | plus | minus | times | equal | below | both | either
  deriving DecidableEq
/-- the eleven kinds -/
inductive Kd | num | var | bi (k : Bk) | un | ch
  deriving DecidableEq
inductive Tr
  | num (n : Int)
  | var (x : Str)
  | un (a : Tr)
  | bi (k : Bk) (a b : Tr)
  | ch (a b c : Tr)
def Bk.word : Bk → Str
  | .plus => "plus"
  | .minus => "minus"
  | .times => "times"
  | .equal => "equal"
  | .below => "below"
  | .both => "both"
  | .either => "either"
def Kd.word : Kd → Str
  | .num => "number"
  | .var => "variable"
  | .bi k => k.word
  | .un => "not"
  | .ch => "choose"
namespace Tr
def kd : Tr → Kd
  | num _ => .num
  | var _ => .var
  | un _ => .un
  | bi k _ _ => .bi k
  | ch _ _ _ => .ch
def kids : Tr → List Tr
  | num _ => []
  | var _ => []
  | un a => [a]
  | bi _ a b => [a, b]
  | ch a b c => [a, b, c]
def text : Tr → Str
  | num n => (toString n : String)
  | var x => x
  | un a => ((("not" : Str) ++ ("(" : Str)) ++ Txt.join ", " [a.text]) ++ ")"
  | bi k a b => ((k.word ++ ("(" : Str)) ++ Txt.join ", " [a.text, b.text]) ++ ")"
  | ch a b c => ((("choose" : Str) ++ ("(" : Str)) ++ Txt.join ", " [a.text, b.text, c.text]) ++ ")"
def parts : Tr → Nat
  | num _ => 1
  | var _ => 1
  | un a => 1 + a.parts
  | bi _ a b => 1 + (a.parts + b.parts)
  | ch a b c => 1 + (a.parts + (b.parts + c.parts))
def depth : Tr → Nat
  | num _ => 1
  | var _ => 1
  | un a => 1 + a.depth
  | bi _ a b => 1 + max a.depth b.depth
  | ch a b c => 1 + max (max a.depth b.depth) c.depth
def vars : Tr → List Str
  | num _ => []
  | var x => [x]
  | un a => a.vars
  | bi _ a b => a.vars ++ b.vars
  | ch a b c => a.vars ++ (b.vars ++ c.vars)
/-- the leaf is not a leaf -/
def comp (t : Tr) : Bool := !t.kids.isEmpty
def head (t : Tr) : Str := t.kd.word
theorem one_parts : ∀ t : Tr, 1 ≤ t.parts
  | num _ => Nat.le_refl _
  | var _ => Nat.le_refl _
  | un a => Nat.le_add_right _ _
  | bi _ a b => Nat.le_add_right _ _
  | ch a b c => Nat.le_add_right _ _
theorem one_depth : ∀ t : Tr, 1 ≤ t.depth
  | num _ => Nat.le_refl _
  | var _ => Nat.le_refl _
  | un a => Nat.le_add_right _ _
  | bi _ a b => Nat.le_add_right _ _
  | ch a b c => Nat.le_add_right _ _
theorem vars_parts : ∀ t : Tr, t.vars.length ≤ t.parts
  | num _ => Nat.zero_le _
  | var _ => Nat.le_refl _
  | un a => Nat.le_trans (vars_parts a) (Nat.le_add_left _ _)
  | bi _ a b => by
    have h1 := vars_parts a
    have h2 := vars_parts b
    show (a.vars ++ b.vars).length ≤ 1 + (a.parts + b.parts)
    rw [List.length_append]
    omega
  | ch a b c => by
    have h1 := vars_parts a
    have h2 := vars_parts b
    have h3 := vars_parts c
    show (a.vars ++ (b.vars ++ c.vars)).length ≤ 1 + (a.parts + (b.parts + c.parts))
    rw [List.length_append, List.length_append]
    omega
/-- the names, in order -/
def nms (t : Tr) : List Str := srt t.vars
theorem nms_len (t : Tr) : t.nms.length ≤ t.parts := Nat.le_trans (len_srt _) (vars_parts t)
theorem text_comp : ∀ {t : Tr}, t.comp = true → t.text = ((t.head ++ ("(" : Str)) ++ Txt.join ", " (t.kids.map text)) ++ ")"
  | un _, _ => rfl
  | bi _ _ _, _ => rfl
  | ch _ _ _, _ => rfl
theorem parts_comp : ∀ {t : Tr}, t.comp = true → t.parts = 1 + (t.kids.map parts).sum
  | un a, _ => by simp [parts, kids]
  | bi _ a b, _ => by simp [parts, kids]
  | ch a b c, _ => by simp [parts, kids]
theorem vars_comp : ∀ {t : Tr}, t.comp = true → t.vars = t.kids.flatMap vars
  | un a, _ => by simp [vars, kids]
  | bi _ a b, _ => by simp [vars, kids]
  | ch a b c, _ => by simp [vars, kids]
/-- the greatest of numbers from 1 on -/
def top1 (l : List Nat) : Nat := l.foldl max 0
theorem depth_comp : ∀ {t : Tr}, t.comp = true → t.depth = 1 + top1 (t.kids.map depth)
  | un a, _ => by simp [depth, kids, top1]
  | bi _ a b, _ => by simp [depth, kids, top1]
  | ch a b c, _ => by simp [depth, kids, top1]
/-- numbers to 999, names of at most eight signs -/
def Ok (nm : Str → Prop) : Tr → Prop
  | num n => 0 ≤ n ∧ n ≤ 999
  | var x => nm x
  | un a => Ok nm a
  | bi _ a b => Ok nm a ∧ Ok nm b
  | ch a b c => Ok nm a ∧ Ok nm b ∧ Ok nm c
theorem Ok.kid {nm : Str → Prop} : ∀ {t : Tr}, Ok nm t → ∀ u ∈ t.kids, Ok nm u
  | num _, _, u, h => by cases h
  | var _, _, u, h => by cases h
  | un a, o, u, h => by
    cases List.mem_singleton.mp h
    exact o
  | bi _ a b, o, u, h => by
    rcases List.mem_cons.mp h with e | h
    · rw [e]; exact o.1
    · cases List.mem_singleton.mp h
      exact o.2
  | ch a b c, o, u, h => by
    rcases List.mem_cons.mp h with e | h
    · rw [e]; exact o.1
    · rcases List.mem_cons.mp h with e | h
      · rw [e]; exact o.2.1
      · cases List.mem_singleton.mp h
        exact o.2.2
theorem kid_depth : ∀ {t : Tr}, ∀ u ∈ t.kids, u.depth + 1 ≤ t.depth
  | num _, u, h => by cases h
  | var _, u, h => by cases h
  | un a, u, h => by
    cases List.mem_singleton.mp h
    show a.depth + 1 ≤ 1 + a.depth
    omega
  | bi _ a b, u, h => by
    show u.depth + 1 ≤ 1 + max a.depth b.depth
    rcases List.mem_cons.mp h with e | h
    · rw [e]; omega
    · cases List.mem_singleton.mp h
      omega
  | ch a b c, u, h => by
    show u.depth + 1 ≤ 1 + max (max a.depth b.depth) c.depth
    rcases List.mem_cons.mp h with e | h
    · rw [e]; omega
    · rcases List.mem_cons.mp h with e | h
      · rw [e]; omega
      · cases List.mem_singleton.mp h
        omega
theorem kid_parts : ∀ {t : Tr}, ∀ u ∈ t.kids, u.parts + 1 ≤ t.parts
  | num _, u, h => by cases h
  | var _, u, h => by cases h
  | un a, u, h => by
    cases List.mem_singleton.mp h
    show a.parts + 1 ≤ 1 + a.parts
    omega
  | bi _ a b, u, h => by
    show u.parts + 1 ≤ 1 + (a.parts + b.parts)
    rcases List.mem_cons.mp h with e | h
    · rw [e]; omega
    · cases List.mem_singleton.mp h
      omega
  | ch a b c, u, h => by
    show u.parts + 1 ≤ 1 + (a.parts + (b.parts + c.parts))
    rcases List.mem_cons.mp h with e | h
    · rw [e]; omega
    · rcases List.mem_cons.mp h with e | h
      · rw [e]; omega
      · cases List.mem_singleton.mp h
        omega
end Tr
theorem len_cat (a b : Str) : (a ++ b).length = a.length + b.length := by
  show (a.cps ++ b.cps).size = _
  rw [Array.size_append]
  rfl
theorem join_len (s : Str) (xs : List Str) : (Txt.join s xs).length ≤ (xs.map (·.length)).sum + xs.length * s.length := by
  rw [TL.join_eq]
  exact StrLaws.join_length_le s xs
theorem num_len {n : Int} (h0 : 0 ≤ n) (h1 : n ≤ 999) : ((toString n : String) : Str).length ≤ 3 := PyProof.Rows.toString_length_le h0 (by decide) (by show n < (10 : Int) ^ 3; omega)
namespace Tr
theorem text_len {nm : Str → Prop} (hn : ∀ x, nm x → x.length ≤ 8) : ∀ {t : Tr}, Ok nm t → t.text.length ≤ 16 * t.parts
  | num n, o => Nat.le_trans (num_len o.1 o.2) (by show 3 ≤ 16 * 1; decide)
  | var x, o => Nat.le_trans (hn x o) (by show 8 ≤ 16 * 1; decide)
  | un a, o => by
    have h := text_len hn (t := a) o
    have j := join_len ", " [a.text]
    have w : (("not" : Str) ++ ("(" : Str)).length = 4 := by decide +kernel
    have c : (")" : Str).length = 1 := by decide +kernel
    have q : (", " : Str).length = 2 := by decide +kernel
    show (((("not" : Str) ++ ("(" : Str)) ++ Txt.join ", " [a.text]) ++ ")").length ≤ 16 * (1 + a.parts)
    rw [len_cat, len_cat, w, c]
    simp at j
    omega
  | bi k a b, o => by
    have h := text_len hn (t := a) o.1
    have h2 := text_len hn (t := b) o.2
    have j := join_len ", " [a.text, b.text]
    have w : (k.word ++ ("(" : Str)).length ≤ 7 := by cases k <;> decide +kernel
    have c : (")" : Str).length = 1 := by decide +kernel
    have q : (", " : Str).length = 2 := by decide +kernel
    show (((k.word ++ ("(" : Str)) ++ Txt.join ", " [a.text, b.text]) ++ ")").length ≤ 16 * (1 + (a.parts + b.parts))
    rw [len_cat, len_cat, c]
    simp at j
    omega
  | ch a b d, o => by
    have h := text_len hn (t := a) o.1
    have h2 := text_len hn (t := b) o.2.1
    have h3 := text_len hn (t := d) o.2.2
    have j := join_len ", " [a.text, b.text, d.text]
    have w : (("choose" : Str) ++ ("(" : Str)).length = 7 := by decide +kernel
    have c : (")" : Str).length = 1 := by decide +kernel
    have q : (", " : Str).length = 2 := by decide +kernel
    show (((("choose" : Str) ++ ("(" : Str)) ++ Txt.join ", " [a.text, b.text, d.text]) ++ ")").length ≤ 16 * (1 + (a.parts + (b.parts + d.parts)))
    rw [len_cat, len_cat, w, c]
    simp at j
    omega
end Tr
/-! ### the law's tuples -/
/-- v is the tuple of the tree -/
def Tp (H : Hp) : Tr → V → Prop
  | .num n, v => ∃ p, v = .ref p ∧ H p = some (.tup [.str "number", .int n])
  | .var x, v => ∃ p, v = .ref p ∧ H p = some (.tup [.str "variable", .str x])
  | .un a, v => ∃ p u, v = .ref p ∧ H p = some (.tup [.str "not", u]) ∧ Tp H a u
  | .bi k a b, v => ∃ p u1 u2, v = .ref p ∧ H p = some (.tup [.str k.word, u1, u2]) ∧ Tp H a u1 ∧ Tp H b u2
  | .ch a b c, v => ∃ p u1 u2 u3, v = .ref p ∧ H p = some (.tup [.str "choose", u1, u2, u3]) ∧ Tp H a u1 ∧ Tp H b u2 ∧ Tp H c u3
theorem Tp.same {H H' : Hp} (s : Same H H') : ∀ {t : Tr} {v : V}, Tp H t v → Tp H' t v
  | .num n, v, ⟨p, e, h⟩ => ⟨p, e, s _ _ h⟩
  | .var x, v, ⟨p, e, h⟩ => ⟨p, e, s _ _ h⟩
  | .un a, v, ⟨p, u, e, h, r⟩ => ⟨p, u, e, s _ _ h, r.same s⟩
  | .bi k a b, v, ⟨p, u1, u2, e, h, r1, r2⟩ => ⟨p, u1, u2, e, s _ _ h, r1.same s, r2.same s⟩
  | .ch a b c, v, ⟨p, u1, u2, u3, e, h, r1, r2, r3⟩ => ⟨p, u1, u2, u3, e, s _ _ h, r1.same s, r2.same s, r3.same s⟩
/-- what is not a leaf: its word, its sides -/
theorem Tp.comp {H : Hp} : ∀ {t : Tr} {v : V}, t.comp = true → Tp H t v → ∃ p us, v = .ref p ∧ H p = some (.tup (.str t.head :: us)) ∧ Paired (Tp H) t.kids us
  | .un a, v, _, ⟨p, u, e, h, r⟩ => ⟨p, [u], e, h, .cons r .nil⟩
  | .bi k a b, v, _, ⟨p, u1, u2, e, h, r1, r2⟩ => ⟨p, [u1, u2], e, h, .cons r1 (.cons r2 .nil)⟩
  | .ch a b c, v, _, ⟨p, u1, u2, u3, e, h, r1, r2, r3⟩ => ⟨p, [u1, u2, u3], e, h, .cons r1 (.cons r2 (.cons r3 .nil))⟩
/-- the head of any -/
theorem Tp.head {H : Hp} : ∀ {t : Tr} {v : V}, Tp H t v → ∃ p us, v = .ref p ∧ H p = some (.tup (.str t.head :: us)) ∧ us.length ≤ 3 ∧ 0 < us.length
  | .num n, v, ⟨p, e, h⟩ => ⟨p, _, e, h, Nat.le_of_ble_eq_true rfl, Nat.le_of_ble_eq_true rfl⟩
  | .var x, v, ⟨p, e, h⟩ => ⟨p, _, e, h, Nat.le_of_ble_eq_true rfl, Nat.le_of_ble_eq_true rfl⟩
  | .un a, v, ⟨p, u, e, h, r⟩ => ⟨p, [u], e, h, Nat.le_of_ble_eq_true rfl, Nat.le_of_ble_eq_true rfl⟩
  | .bi k a b, v, ⟨p, u1, u2, e, h, r1, r2⟩ => ⟨p, [u1, u2], e, h, Nat.le_of_ble_eq_true rfl, Nat.le_of_ble_eq_true rfl⟩
  | .ch a b c, v, ⟨p, u1, u2, u3, e, h, r1, r2, r3⟩ => ⟨p, [u1, u2, u3], e, h, Nat.le_of_ble_eq_true rfl, Nat.le_of_ble_eq_true rfl⟩
/-! ### the program's instances; C: where the class of each kind stands -/
/-- what every instance has -/
structure Has (C : Kd → Addr) (H : Hp) (t : Tr) (a : Addr) (fs : List (Str × V)) : Prop where
  at_ : ∃ dx, H a = some (.ins (C t.kd) dx fs)
  text : fs.lookup ("text" : Str) = some (.str t.text)
  names : ∃ q, fs.lookup ("names" : Str) = some (.ref q) ∧ H q = some (.tup (t.nms.map V.str))
  parts : fs.lookup ("parts" : Str) = some (.int (t.parts : Int))
  depth : fs.lookup ("depth" : Str) = some (.int (t.depth : Int))
  no : ∀ m : Str, m ∉ (["text", "names", "parts", "depth", "number", "name", "test", "first", "second"] : List Str) → fs.lookup m = none
theorem Has.same {C : Kd → Addr} {H H' : Hp} {t : Tr} {a : Addr} {fs : List (Str × V)} (h : Has C H t a fs) (s : Same H H') : Has C H' t a fs :=
  ⟨let ⟨dx, e⟩ := h.at_; ⟨dx, s _ _ e⟩, h.text, let ⟨q, e, e2⟩ := h.names; ⟨q, e, s _ _ e2⟩, h.parts, h.depth, h.no⟩
/-- v is the instance of the tree -/
def Is (C : Kd → Addr) (H : Hp) : Tr → V → Prop
  | .num n, v => ∃ a fs, v = .ref a ∧ Has C H (.num n) a fs ∧ fs.lookup ("number" : Str) = some (.int n)
  | .var x, v => ∃ a fs, v = .ref a ∧ Has C H (.var x) a fs ∧ fs.lookup ("name" : Str) = some (.str x)
  | .un t, v => ∃ a fs u, v = .ref a ∧ Has C H (.un t) a fs ∧ fs.lookup ("first" : Str) = some u ∧ Is C H t u
  | .bi k t1 t2, v => ∃ a fs u1 u2, v = .ref a ∧ Has C H (.bi k t1 t2) a fs ∧ fs.lookup ("first" : Str) = some u1 ∧ fs.lookup ("second" : Str) = some u2 ∧ Is C H t1 u1 ∧ Is C H t2 u2
  | .ch t1 t2 t3, v => ∃ a fs u1 u2 u3, v = .ref a ∧ Has C H (.ch t1 t2 t3) a fs ∧ fs.lookup ("test" : Str) = some u1 ∧ fs.lookup ("first" : Str) = some u2 ∧ fs.lookup ("second" : Str) = some u3 ∧ Is C H t1 u1 ∧ Is C H t2 u2 ∧ Is C H t3 u3
theorem Is.same {C : Kd → Addr} {H H' : Hp} (s : Same H H') : ∀ {t : Tr} {v : V}, Is C H t v → Is C H' t v
  | .num n, v, ⟨a, fs, e, h, r⟩ => ⟨a, fs, e, h.same s, r⟩
  | .var x, v, ⟨a, fs, e, h, r⟩ => ⟨a, fs, e, h.same s, r⟩
  | .un t, v, ⟨a, fs, u, e, h, r, i⟩ => ⟨a, fs, u, e, h.same s, r, i.same s⟩
  | .bi k t1 t2, v, ⟨a, fs, u1, u2, e, h, r1, r2, i1, i2⟩ => ⟨a, fs, u1, u2, e, h.same s, r1, r2, i1.same s, i2.same s⟩
  | .ch t1 t2 t3, v, ⟨a, fs, u1, u2, u3, e, h, r1, r2, r3, i1, i2, i3⟩ => ⟨a, fs, u1, u2, u3, e, h.same s, r1, r2, r3, i1.same s, i2.same s, i3.same s⟩
theorem Is.has {C : Kd → Addr} {H : Hp} : ∀ {t : Tr} {v : V}, Is C H t v → ∃ a fs, v = .ref a ∧ Has C H t a fs
  | .num n, v, ⟨a, fs, e, h, r⟩ => ⟨a, fs, e, h⟩
  | .var x, v, ⟨a, fs, e, h, r⟩ => ⟨a, fs, e, h⟩
  | .un t, v, ⟨a, fs, u, e, h, r, i⟩ => ⟨a, fs, e, h⟩
  | .bi k t1 t2, v, ⟨a, fs, u1, u2, e, h, r1, r2, i1, i2⟩ => ⟨a, fs, e, h⟩
  | .ch t1 t2 t3, v, ⟨a, fs, u1, u2, u3, e, h, r1, r2, r3, i1, i2, i3⟩ => ⟨a, fs, e, h⟩
end Jo

set_option Elab.async false
set_option linter.all false
set_option maxRecDepth 100000
namespace Jo
open PySem PySem.Spec PyProof.Rows L2
def top (i : Nat) : Stmt := PySem.Challenge.pw_reentry_k11_statements_made.main.body.getD i (.Pass ⟨0, 0, 0, 0⟩)
def inClass : Stmt → Nat → Stmt
  | .ClassDef (body := b) .., i => b.getD i (.Pass ⟨0, 0, 0, 0⟩)
  | s, _ => s
abbrev m_InvalidName_init : Stmt := inClass (top 4) 0
abbrev m_InvalidNumber_init : Stmt := inClass (top 5) 0
abbrev m_NotAnExpression_init : Stmt := inClass (top 6) 0
abbrev m_InvalidBody_init : Stmt := inClass (top 7) 0
abbrev m_TooMany_init : Stmt := inClass (top 8) 0
abbrev s_is_name : Stmt := top 18
abbrev s_is_integer : Stmt := top 19
abbrev m_Expression_init : Stmt := inClass (top 21) 0
abbrev m_Expression_evaluate : Stmt := inClass (top 21) 1
abbrev m_Expression_add : Stmt := inClass (top 21) 2
abbrev m_Expression_sub : Stmt := inClass (top 21) 3
abbrev m_Expression_mul : Stmt := inClass (top 21) 4
abbrev m_Expression_and : Stmt := inClass (top 21) 5
abbrev m_Expression_or : Stmt := inClass (top 21) 6
abbrev m_Expression_invert : Stmt := inClass (top 21) 7
abbrev m_Expression_eq : Stmt := inClass (top 21) 8
abbrev m_Expression_str : Stmt := inClass (top 21) 9
abbrev m_Expression_repr : Stmt := inClass (top 21) 10
abbrev m_Number_init : Stmt := inClass (top 22) 1
abbrev m_Number_worth : Stmt := inClass (top 22) 2
abbrev m_Variable_init : Stmt := inClass (top 23) 1
abbrev m_Variable_worth : Stmt := inClass (top 23) 2
abbrev m_Plus_init : Stmt := inClass (top 24) 1
abbrev m_Plus_worth : Stmt := inClass (top 24) 2
abbrev m_Minus_init : Stmt := inClass (top 25) 1
abbrev m_Minus_worth : Stmt := inClass (top 25) 2
abbrev m_Times_init : Stmt := inClass (top 26) 1
abbrev m_Times_worth : Stmt := inClass (top 26) 2
abbrev m_Equal_init : Stmt := inClass (top 27) 1
abbrev m_Equal_worth : Stmt := inClass (top 27) 2
abbrev m_Below_init : Stmt := inClass (top 28) 1
abbrev m_Below_worth : Stmt := inClass (top 28) 2
abbrev m_Both_init : Stmt := inClass (top 29) 1
abbrev m_Both_worth : Stmt := inClass (top 29) 2
abbrev m_Either_init : Stmt := inClass (top 30) 1
abbrev m_Either_worth : Stmt := inClass (top 30) 2
abbrev m_Not_init : Stmt := inClass (top 31) 1
abbrev m_Not_worth : Stmt := inClass (top 31) 2
abbrev m_Choose_init : Stmt := inClass (top 32) 1
abbrev m_Choose_worth : Stmt := inClass (top 32) 2
abbrev s_check_inside : Stmt := top 33
abbrev s_parts_with : Stmt := top 34
abbrev s_depth_with : Stmt := top 35
abbrev s_written : Stmt := top 36
abbrev s_check_expression : Stmt := top 37
abbrev m_Statement_init : Stmt := inClass (top 39) 0
abbrev m_Statement_eq : Stmt := inClass (top 39) 1
abbrev m_Statement_str : Stmt := inClass (top 39) 2
abbrev m_Statement_repr : Stmt := inClass (top 39) 3
abbrev m_Assign_init : Stmt := inClass (top 40) 0
abbrev m_If_init : Stmt := inClass (top 41) 0
abbrev m_While_init : Stmt := inClass (top 42) 0
abbrev m_Call_init : Stmt := inClass (top 43) 0
abbrev m_Return_init : Stmt := inClass (top 44) 0
abbrev m_Fail_init : Stmt := inClass (top 45) 0
abbrev m_Attempt_init : Stmt := inClass (top 46) 0
abbrev s_check_name : Stmt := top 47
abbrev s_check_body : Stmt := top 48
abbrev s_amount_of : Stmt := top 49
abbrev s_height_of : Stmt := top 50
abbrev s_lines_inside : Stmt := top 51
abbrev s_indented : Stmt := top 52
abbrev s_cell : Stmt := top 54
abbrev s_purse : Stmt := top 55
abbrev s_draw : Stmt := top 56
abbrev s_name : Stmt := top 57
abbrev s_fresh : Stmt := top 58
abbrev s_names : Stmt := top 59
abbrev s_text : Stmt := top 60
abbrev s_leaf : Stmt := top 61
abbrev s_tree : Stmt := top 62
abbrev s_joined : Stmt := top 63
abbrev s_made : Stmt := top 64
abbrev s_head : Stmt := top 65
abbrev s_inner : Stmt := top 66
abbrev s_rows : Stmt := top 67
abbrev s_amount : Stmt := top 68
abbrev s_height : Stmt := top 69
abbrev s_step : Stmt := top 70
abbrev s_steps : Stmt := top 71
abbrev s_lot : Stmt := top 72
abbrev s_statement : Stmt := top 73
abbrev s_kinds : Stmt := top 74
abbrev s_shown : Stmt := top 75
abbrev s_named : Stmt := top 76
abbrev s_around_right : Stmt := top 77
abbrev s_equal_right : Stmt := top 78
abbrev s_right : Stmt := top 79
abbrev s_law : Stmt := top 80
def letters : Str := Str.ofString "abcdefghijklmnopqrstuvwxyz"
def signs : Str := Str.ofString "abcdefghijklmnopqrstuvwxyz0123456789"
/-- the module's own and the built-in names -/
structure Txt (mg : Str → Option Value) : Prop where
  g_MAX_NUMBER : ∃ u, mg "MAX_NUMBER" = some u ∧ RelV (.int 999) u
  g_MAX_PARTS : ∃ u, mg "MAX_PARTS" = some u ∧ RelV (.int 40) u
  g_MAX_DEPTH : ∃ u, mg "MAX_DEPTH" = some u ∧ RelV (.int 6) u
  g_MAX_LEVEL : ∃ u, mg "MAX_LEVEL" = some u ∧ RelV (.int 8) u
  g_MAX_STATEMENTS : ∃ u, mg "MAX_STATEMENTS" = some u ∧ RelV (.int 400) u
  g_LETTERS : ∃ u, mg "LETTERS" = some u ∧ RelV (.str letters) u
  g_SIGNS : ∃ u, mg "SIGNS" = some u ∧ RelV (.str signs) u
  g_LONGEST_NAME : ∃ u, mg "LONGEST_NAME" = some u ∧ RelV (.int 8) u
  b_ArithmeticError : mg "ArithmeticError" = none
  b_ValueError : mg "ValueError" = none
  b_abs : mg "abs" = none
  b_all : mg "all" = none
  b_bool : mg "bool" = none
  b_enumerate : mg "enumerate" = none
  b_int : mg "int" = none
  b_isinstance : mg "isinstance" = none
  b_len : mg "len" = none
  b_list : mg "list" = none
  b_max : mg "max" = none
  b_min : mg "min" = none
  b_range : mg "range" = none
  b_repr : mg "repr" = none
  b_sorted : mg "sorted" = none
  b_str : mg "str" = none
  b_sum : mg "sum" = none
  b_tuple : mg "tuple" = none
/-- the name of a kind's class -/
def Kd.cname : Kd → Str
  | .num => "Number"
  | .var => "Variable"
  | .bi .plus => "Plus"
  | .bi .minus => "Minus"
  | .bi .times => "Times"
  | .bi .equal => "Equal"
  | .bi .below => "Below"
  | .bi .both => "Both"
  | .bi .either => "Either"
  | .un => "Not"
  | .ch => "Choose"
def fieldsX : List Str := ["text", "names", "parts", "depth", "number", "name", "test", "first", "second"]
def kindsL : List Kd := [.num, .var, .bi .plus, .bi .minus, .bi .times, .bi .equal, .bi .below, .un, .bi .both, .bi .either, .ch]
def Kd.many : Kd → Nat
  | .num => 0
  | .var => 0
  | .bi _ => 2
  | .un => 1
  | .ch => 3
end Jo

set_option Elab.async false
set_option linter.all false
set_option maxRecDepth 100000
set_option maxHeartbeats 2000000
namespace Jo
open PySem PySem.Spec PyProof.Rows L2
def nsB (K : PySem.W.Frag) (x : Str) : Bool := He.eqO (PySem.W.nsIn K mainGlobals x) (some (some (.ref (He.ga K x))))
def eqB (K : PySem.W.Frag) (C : Addr) (m : Str) (b : String) : Bool := He.eqO (PySem.W.findIn K (.ref C) m) (some (some (.builtin b)))
def ownB (K : PySem.W.Frag) (C : Addr) : Bool := PySem.W.plainGet K C Str.empty && (PySem.W.hasDictIn K C && (PySem.W.plainOver K C && (eqB K C "__setattr__" "object.__setattr__" && (eqB K C "__class__" "object.__class__" && decide (PySem.W.mroIn K C (.type "object") = some true)))))
def noB (K : PySem.W.Frag) (C : Addr) (fs : List Str) : Bool := fs.all fun f => He.eqO (PySem.W.findIn K (.ref C) f) (some none)
def mtB (K : PySem.W.Frag) (C : Addr) (m : Str) : Bool := He.eqO (PySem.W.findIn K (.ref C) m) (some (some (.ref (He.ma K C m)))) && PySem.W.isFn K (.ref (He.ma K C m))
def mkB (K : PySem.W.Frag) (C : Addr) : Bool := PySem.W.makesIn K C && (mtB K C "__init__" && PySem.W.keepIn K (.ref C))
def rdB (K : PySem.W.Frag) (C : Addr) : Bool := PySem.W.readsIn K C (.type "type") && decide (PySem.W.specialIn K (.ref C) "__getattribute__" = some (some (.builtin "type.__getattribute__")))
def wdA (K : PySem.W.Frag) (C : Addr) (z : Str) : Bool := match PySem.W.findIn K (.ref C) "WORD" with
  | some (some (.str y t)) => decide (y = z) && decide (PySem.W.specialIn K (.str y t) "__get__" = some none)
  | _ => false
def wdC (K : PySem.W.Frag) (C : Addr) (z : Str) : Bool := match PySem.W.findCls K (.ref C) (.type "type") "WORD" with
  | some (.val (.str y t)) => decide (y = z)
  | _ => false
def wdB (K : PySem.W.Frag) (C : Addr) (z : Str) : Bool := wdA K C z && wdC K C z
def cfB (K : PySem.W.Frag) (C : Addr) (m : Str) : Bool := match PySem.W.findCls K (.ref C) (.type "type") m with
  | some (.val (.ref a)) => decide (a = He.ma K C m)
  | _ => false
def inhB (K : PySem.W.Frag) (B C : Addr) (m : Str) : Bool := He.eqO (PySem.W.findIn K (.ref C) m) (some (some (.ref (He.ma K B m))))
def emB (K : PySem.W.Frag) (a : Addr) : Bool := match K.lookup a with
  | some ⟨.type t, _, .seq its _, _⟩ => decide (t = "tuple") && its.toList.isEmpty
  | _ => false
def twB (K : PySem.W.Frag) (T : Addr) : Bool := match K.lookup T with
  | some ⟨_, _, .seq its _, _⟩ => (match its.toList with
    | [.ref e1, .ref e2] => emB K e1 && emB K e2
    | _ => false)
  | _ => false
def dfB (K : PySem.W.Frag) : Bool := match K.lookup (He.fAd K ("Statement", some "__init__")) with
  | some ⟨_, _, .func fd, _⟩ => (match fd.defaults with
    | .ref T => twB K T
    | _ => false)
  | _ => false
def e1B (K : PySem.W.Frag) (T : Addr) : Bool := match K.lookup T with
  | some ⟨_, _, .seq its _, _⟩ => (match its.toList with
    | [.ref e] => emB K e
    | _ => false)
  | _ => false
def n1B (K : PySem.W.Frag) (T : Addr) : Bool := match K.lookup T with
  | some ⟨_, _, .seq its _, _⟩ => (match its.toList with
    | [.none] => true
    | _ => false)
  | _ => false
def dflB (K : PySem.W.Frag) (x : Str) (t : Addr → Bool) : Bool := match K.lookup (He.fAd K (x, some "__init__")) with
  | some ⟨_, _, .func fd, _⟩ => (match fd.defaults with
    | .ref T => t T
    | _ => false)
  | _ => false
def skS : List Str := ["Assign", "If", "While", "Call", "Return", "Fail", "Attempt"]
def skA (K : PySem.W.Frag) (E S F : Addr) : Bool := ownB K F && (noB K F ["amount", "height", "names", "bodies", "lines", "expression", "name", "test", "body", "otherwise", "handler", "into"] && (mkB K F && (inhB K S F "__eq__" && (inhB K S F "__str__" && (inhB K S F "__repr__" && (decide (PySem.W.kitOne K (.ref F) (.ref E) = some false) && (decide (PySem.W.kitOne K (.ref F) (.ref S) = some true) && (PySem.W.notFirst K F (.type "str") && PySem.W.notFirst K F (.type "tuple")))))))))
def skB (K : PySem.W.Frag) : Bool := HandSHeadRun.frNat (He.ga K "Expression") fun E => HandSHeadRun.frNat (He.ga K "Statement") fun S => skS.all fun x => HandSHeadRun.frNat (He.ga K x) fun F => skA K E S F
def ssB (K : PySem.W.Frag) (x y : Str) : Bool := HandSHeadRun.frNat (He.ga K x) fun F => HandSHeadRun.frNat (He.ga K y) fun G => decide (PySem.W.kitOne K (.ref F) (.ref G) = some (decide (x = y))) && PySem.W.notFirst K F (.ref G)
def scB (K : PySem.W.Frag) : Bool := HandSHeadRun.frNat (He.ga K "Statement") fun S => kindsL.all fun k => HandSHeadRun.frNat (He.ga K k.cname) fun C => decide (PySem.W.kitOne K (.ref C) (.ref S) = some false) && skS.all fun x => HandSHeadRun.frNat (He.ga K x) fun F => PySem.W.notFirst K F (.ref C) && PySem.W.notFirst K C (.ref F)
def stQ (K : PySem.W.Frag) (S : Addr) : Bool := rdB K S && (cfB K S "__init__" && (mtB K S "__eq__" && (mtB K S "__str__" && (mtB K S "__repr__" && (decide (PySem.W.kitOne K (.type "str") (.ref S) = some false) && decide (PySem.W.kitOne K (.type "tuple") (.ref S) = some false))))))
def stQB (K : PySem.W.Frag) : Bool := HandSHeadRun.frNat (He.ga K "Statement") fun S => stQ K S
def kdA (K : PySem.W.Frag) (E C : Addr) (z : Str) : Bool := ownB K C && (noB K C fieldsX && (wdB K C z && (rdB K C && (decide (PySem.W.kitOne K (.ref C) (.ref E) = some true) && (PySem.W.notFirst K C (.type "str") && (eqB K C "__format__" "object.__format__" && (mkB K C && (inhB K E C "__eq__" && (inhB K E C "__str__" && (inhB K E C "__repr__"))))))))))
def stA (K : PySem.W.Frag) (E : Addr) : Bool := rdB K E && (cfB K E "__init__" && (mtB K E "__init__" && (mtB K E "__eq__" && (mtB K E "__str__" && (mtB K E "__repr__" && (decide (PySem.W.kitOne K (.type "str") (.ref E) = some false)))))))
def prA (K : PySem.W.Frag) (C D : Addr) (b : Bool) : Bool := decide (PySem.W.kitOne K (.ref C) (.ref D) = some b) && PySem.W.notFirst K C (.ref D)
def prB (K : PySem.W.Frag) (k l : Kd) : Bool := HandSHeadRun.frNat (He.ga K k.cname) fun C => HandSHeadRun.frNat (He.ga K l.cname) fun D => prA K C D (decide (k = l))
def clsB (K : PySem.W.Frag) : Bool := HandSHeadRun.frNat (He.ga K "Expression") fun E =>
  stA K E && kindsL.all fun k => HandSHeadRun.frNat (He.ga K k.cname) fun C => kdA K E C k.word
def intB (K : PySem.W.Frag) (q : Str × Int) : Bool := match PySem.W.nsIn K mainGlobals q.1 with
  | some (some (.int j _)) => decide (j = q.2)
  | _ => false
def strB (K : PySem.W.Frag) (q : Str × Str) : Bool := match PySem.W.nsIn K mainGlobals q.1 with
  | some (some (.str z _)) => decide (z = q.2)
  | _ => false
def arK (K : PySem.W.Frag) (k : Kd) : Bool := match PySem.W.nsIn K (He.ga K "ARITIES") k.word with
  | some (some (.int j _)) => decide (j = (k.many : Int))
  | _ => false
def arB (K : PySem.W.Frag) : Bool := kindsL.all fun k => decide (k.many = 0) || arK K k
def defB (K : PySem.W.Frag) (d : He.FnD) : Bool := (He.Fa.code d.at_ d.qual).ok K && PySem.W.keepIn K (.ref (He.fAd K d.at_))
def clT : List Str := ["Expression", "Number", "Variable", "Plus", "Minus", "Times", "Equal", "Below", "Both", "Either", "Not", "Choose", "Statement", "Assign", "If", "While", "Call", "Return", "Fail", "Attempt"]
def inT : List (Str × Int) := [("MAX_NUMBER", 999), ("MAX_PARTS", 40), ("MAX_DEPTH", 6), ("MAX_LEVEL", 8), ("MAX_STATEMENTS", 400), ("LONGEST_NAME", 8)]
def stT : List (Str × Str) := [("LETTERS", "abcdefghijklmnopqrstuvwxyz"), ("SIGNS", "abcdefghijklmnopqrstuvwxyz0123456789")]
def frT : List Str := ["ArithmeticError", "ValueError", "abs", "all", "bool", "enumerate", "int", "isinstance", "len", "list", "max", "min", "range", "repr", "sorted", "str", "sum", "tuple"]
def dfT : List He.FnD := [⟨("is_name", none), "is_name", "is_name", defArgs s_is_name, defBody s_is_name, defScope s_is_name⟩, ⟨("is_integer", none), "is_integer", "is_integer", defArgs s_is_integer, defBody s_is_integer, defScope s_is_integer⟩, ⟨("check_inside", none), "check_inside", "check_inside", defArgs s_check_inside, defBody s_check_inside, defScope s_check_inside⟩, ⟨("parts_with", none), "parts_with", "parts_with", defArgs s_parts_with, defBody s_parts_with, defScope s_parts_with⟩, ⟨("depth_with", none), "depth_with", "depth_with", defArgs s_depth_with, defBody s_depth_with, defScope s_depth_with⟩, ⟨("written", none), "written", "written", defArgs s_written, defBody s_written, defScope s_written⟩, ⟨("check_expression", none), "check_expression", "check_expression", defArgs s_check_expression, defBody s_check_expression, defScope s_check_expression⟩, ⟨("check_name", none), "check_name", "check_name", defArgs s_check_name, defBody s_check_name, defScope s_check_name⟩, ⟨("check_body", none), "check_body", "check_body", defArgs s_check_body, defBody s_check_body, defScope s_check_body⟩, ⟨("amount_of", none), "amount_of", "amount_of", defArgs s_amount_of, defBody s_amount_of, defScope s_amount_of⟩, ⟨("height_of", none), "height_of", "height_of", defArgs s_height_of, defBody s_height_of, defScope s_height_of⟩, ⟨("lines_inside", none), "lines_inside", "lines_inside", defArgs s_lines_inside, defBody s_lines_inside, defScope s_lines_inside⟩, ⟨("indented", none), "indented", "indented", defArgs s_indented, defBody s_indented, defScope s_indented⟩, ⟨("_law_cell", none), "_law_cell", "_law_cell", defArgs s_cell, defBody s_cell, defScope s_cell⟩, ⟨("_law_purse", none), "_law_purse", "_law_purse", defArgs s_purse, defBody s_purse, defScope s_purse⟩, ⟨("_law_draw", none), "_law_draw", "_law_draw", defArgs s_draw, defBody s_draw, defScope s_draw⟩, ⟨("_law_name", none), "_law_name", "_law_name", defArgs s_name, defBody s_name, defScope s_name⟩, ⟨("_law_fresh", none), "_law_fresh", "_law_fresh", defArgs s_fresh, defBody s_fresh, defScope s_fresh⟩, ⟨("_law_names", none), "_law_names", "_law_names", defArgs s_names, defBody s_names, defScope s_names⟩, ⟨("_law_text", none), "_law_text", "_law_text", defArgs s_text, defBody s_text, defScope s_text⟩, ⟨("_law_leaf", none), "_law_leaf", "_law_leaf", defArgs s_leaf, defBody s_leaf, defScope s_leaf⟩, ⟨("_law_tree", none), "_law_tree", "_law_tree", defArgs s_tree, defBody s_tree, defScope s_tree⟩, ⟨("_law_joined", none), "_law_joined", "_law_joined", defArgs s_joined, defBody s_joined, defScope s_joined⟩, ⟨("_law_made", none), "_law_made", "_law_made", defArgs s_made, defBody s_made, defScope s_made⟩, ⟨("_law_head", none), "_law_head", "_law_head", defArgs s_head, defBody s_head, defScope s_head⟩, ⟨("_law_inner", none), "_law_inner", "_law_inner", defArgs s_inner, defBody s_inner, defScope s_inner⟩, ⟨("_law_rows", none), "_law_rows", "_law_rows", defArgs s_rows, defBody s_rows, defScope s_rows⟩, ⟨("_law_amount", none), "_law_amount", "_law_amount", defArgs s_amount, defBody s_amount, defScope s_amount⟩, ⟨("_law_height", none), "_law_height", "_law_height", defArgs s_height, defBody s_height, defScope s_height⟩, ⟨("_law_step", none), "_law_step", "_law_step", defArgs s_step, defBody s_step, defScope s_step⟩, ⟨("_law_steps", none), "_law_steps", "_law_steps", defArgs s_steps, defBody s_steps, defScope s_steps⟩, ⟨("_law_lot", none), "_law_lot", "_law_lot", defArgs s_lot, defBody s_lot, defScope s_lot⟩, ⟨("_law_statement", none), "_law_statement", "_law_statement", defArgs s_statement, defBody s_statement, defScope s_statement⟩, ⟨("_law_kinds", none), "_law_kinds", "_law_kinds", defArgs s_kinds, defBody s_kinds, defScope s_kinds⟩, ⟨("_law_shown", none), "_law_shown", "_law_shown", defArgs s_shown, defBody s_shown, defScope s_shown⟩, ⟨("_law_named", none), "_law_named", "_law_named", defArgs s_named, defBody s_named, defScope s_named⟩, ⟨("_law_around_right", none), "_law_around_right", "_law_around_right", defArgs s_around_right, defBody s_around_right, defScope s_around_right⟩, ⟨("_law_equal_right", none), "_law_equal_right", "_law_equal_right", defArgs s_equal_right, defBody s_equal_right, defScope s_equal_right⟩, ⟨("_law_right", none), "_law_right", "_law_right", defArgs s_right, defBody s_right, defScope s_right⟩, ⟨("law", none), "law", "law", defArgs s_law, defBody s_law, defScope s_law⟩]
def iiT : List He.FnD := [⟨("Expression", some "__init__"), "__init__", "Expression.__init__", defArgs m_Expression_init, defBody m_Expression_init, defScope m_Expression_init⟩, ⟨("Expression", some "__eq__"), "__eq__", "Expression.__eq__", defArgs m_Expression_eq, defBody m_Expression_eq, defScope m_Expression_eq⟩, ⟨("Expression", some "__str__"), "__str__", "Expression.__str__", defArgs m_Expression_str, defBody m_Expression_str, defScope m_Expression_str⟩, ⟨("Expression", some "__repr__"), "__repr__", "Expression.__repr__", defArgs m_Expression_repr, defBody m_Expression_repr, defScope m_Expression_repr⟩, ⟨("Number", some "__init__"), "__init__", "Number.__init__", defArgs m_Number_init, defBody m_Number_init, defScope m_Number_init⟩, ⟨("Variable", some "__init__"), "__init__", "Variable.__init__", defArgs m_Variable_init, defBody m_Variable_init, defScope m_Variable_init⟩, ⟨("Plus", some "__init__"), "__init__", "Plus.__init__", defArgs m_Plus_init, defBody m_Plus_init, defScope m_Plus_init⟩, ⟨("Minus", some "__init__"), "__init__", "Minus.__init__", defArgs m_Minus_init, defBody m_Minus_init, defScope m_Minus_init⟩, ⟨("Times", some "__init__"), "__init__", "Times.__init__", defArgs m_Times_init, defBody m_Times_init, defScope m_Times_init⟩, ⟨("Equal", some "__init__"), "__init__", "Equal.__init__", defArgs m_Equal_init, defBody m_Equal_init, defScope m_Equal_init⟩, ⟨("Below", some "__init__"), "__init__", "Below.__init__", defArgs m_Below_init, defBody m_Below_init, defScope m_Below_init⟩, ⟨("Both", some "__init__"), "__init__", "Both.__init__", defArgs m_Both_init, defBody m_Both_init, defScope m_Both_init⟩, ⟨("Either", some "__init__"), "__init__", "Either.__init__", defArgs m_Either_init, defBody m_Either_init, defScope m_Either_init⟩, ⟨("Not", some "__init__"), "__init__", "Not.__init__", defArgs m_Not_init, defBody m_Not_init, defScope m_Not_init⟩, ⟨("Choose", some "__init__"), "__init__", "Choose.__init__", defArgs m_Choose_init, defBody m_Choose_init, defScope m_Choose_init⟩, ⟨("Statement", some "__eq__"), "__eq__", "Statement.__eq__", defArgs m_Statement_eq, defBody m_Statement_eq, defScope m_Statement_eq⟩, ⟨("Statement", some "__str__"), "__str__", "Statement.__str__", defArgs m_Statement_str, defBody m_Statement_str, defScope m_Statement_str⟩, ⟨("Statement", some "__repr__"), "__repr__", "Statement.__repr__", defArgs m_Statement_repr, defBody m_Statement_repr, defScope m_Statement_repr⟩, ⟨("Assign", some "__init__"), "__init__", "Assign.__init__", defArgs m_Assign_init, defBody m_Assign_init, defScope m_Assign_init⟩, ⟨("While", some "__init__"), "__init__", "While.__init__", defArgs m_While_init, defBody m_While_init, defScope m_While_init⟩, ⟨("Return", some "__init__"), "__init__", "Return.__init__", defArgs m_Return_init, defBody m_Return_init, defScope m_Return_init⟩, ⟨("Fail", some "__init__"), "__init__", "Fail.__init__", defArgs m_Fail_init, defBody m_Fail_init, defScope m_Fail_init⟩]
def tbT : List He.Tab := []
def fxT : List He.FnD := [⟨("Statement", some "__init__"), "__init__", "Statement.__init__", defArgs m_Statement_init, defBody m_Statement_init, defScope m_Statement_init⟩, ⟨("If", some "__init__"), "__init__", "If.__init__", defArgs m_If_init, defBody m_If_init, defScope m_If_init⟩, ⟨("Call", some "__init__"), "__init__", "Call.__init__", defArgs m_Call_init, defBody m_Call_init, defScope m_Call_init⟩, ⟨("Attempt", some "__init__"), "__init__", "Attempt.__init__", defArgs m_Attempt_init, defBody m_Attempt_init, defScope m_Attempt_init⟩]
def fnT : List He.FnD := dfT ++ iiT
def okT (K : PySem.W.Frag) : Bool := clT.all (nsB K) && (clsB K && (kindsL.all (fun k => kindsL.all (prB K k)) && (inT.all (intB K) && (stT.all (strB K) && (frT.all (fun x => He.eqO (PySem.W.nsIn K mainGlobals x) (some none)) && (dfT.all (fun d => nsB K d.name) && (fnT.all (defB K) && (true && (fxT.all (defB K) && (dfB K && ((dflB K "If" (e1B K) && dflB K "Attempt" (e1B K)) && (dflB K "Call" (n1B K) && (skB K && (skS.all (fun x => skS.all (ssB K x)) && (scB K && (stQB K && (decide (PySem.W.specialIn K (.builtin "object.__class__") "__get__" = some (some (.builtin "getset_descriptor.__get__"))) && (decide (PySem.W.takesIn K (.builtin "object.__class__") = some true)))))))))))))))))))
abbrev R0 : PySem.W.OpenRow := PySem.W.OpenLaw.row PySem.Challenge.rw_reentry_k11_statements_made
abbrev hk : PySem.W.Hook := hookK 5 okT fnT fxT tbT
def ob (s : PySem.W.SharedT) : AlK := obsK 5 okT fnT fxT tbT (HandSHeadRun.getT s)
theorem ob_eq (s : PySem.W.SharedT) : ob s = hk.obs s.abs := obsK_eq (HandSHeadRun.getT_eq s)
def names0 : List Str := ["ReentryError", "LimitError", "InvalidName", "InvalidNumber", "NotAnExpression", "InvalidBody", "TooMany", "Expression", "Number", "Variable", "Plus", "Minus", "Times", "Equal", "Below", "Both", "Either", "Not", "Choose", "Statement", "Assign", "If", "While", "Call", "Return", "Fail", "Attempt", "MAX_NUMBER", "MAX_PARTS", "MAX_DEPTH"]
def names1 : List Str := ["MAX_LEVEL", "MAX_STATEMENTS", "LETTERS", "SIGNS", "LONGEST_NAME", "_wall", "is_name", "is_integer", "check_inside", "parts_with", "depth_with", "written", "check_expression", "check_name", "check_body", "amount_of", "height_of", "lines_inside", "indented", "_law_cell", "_law_purse", "_law_draw", "_law_name", "_law_fresh", "_law_names", "_law_text", "_law_leaf", "_law_tree", "_law_joined", "_law_made"]
def names2 : List Str := ["_law_head", "_law_inner", "_law_rows", "_law_amount", "_law_height", "_law_step", "_law_steps", "_law_lot", "_law_statement", "_law_kinds", "_law_shown", "_law_named", "_law_around_right", "_law_equal_right", "_law_right"]
def namesA : List Str := names0 ++ names1 ++ names2
theorem run (w : World) : HandSHeadRun.RunEq R0 (PySem.W.view R0.prog [80]) hk ob 13000 namesA w := by
  intro os
  kernel_rfl
end Jo

set_option Elab.async false
set_option linter.all false
set_option maxRecDepth 100000
/-! C.m(..): a def of a class called through the class itself; constants of classes. -/
namespace Jo
open PySem PySem.Spec PyProof.Rows L2 ClX
/-- the class at C is read as classes are, and its m is the def at f -/
structure ClFn (K : PySem.W.Frag) (C : Addr) (m : Str) (f : Addr) : Prop where
  ga : PySem.W.specialIn K (.ref C) "__getattribute__" = some (some (.builtin "type.__getattribute__"))
  rd : ∃ mc, PySem.W.readsIn K C mc = true ∧ PySem.W.findCls K (.ref C) mc m = some (.val (.ref f))
/-- C.m(e, ..) -/
def tCFn (C : Addr) (sp : Sp) (dvs : List V) (ta : TE) (t : TA) : TE := fun σ H Q => ta σ H fun x H1 => x = .ref C ∧ t σ H1 fun vs H2 => sp (vs ++ dvs) H2 Q E0
section
variable {X : Cx} {j k : Nat} {C f : Addr} {fd : FuncData} {ps : List Str} {sp : Sp} {dvs : List V} {ds : List Value} {o e : Expr} {es : List Expr} {m : Str} {pos apos : Pos} {ta : TE} {t : TA} {pl : Sem Bool}
theorem pe_cfn (he : PE X o ta) (r : ClFn X.K C m f) (F : FnOk X.prog X.w X.K X.mg X.base CX0 k f fd ps sp) (hr : Room j X.A) (hj : k ≤ j) (hk : PySem.W.keepIn X.K (.ref f) = true)
    (hb : Binds X.K fd ps ds) (hd : Vals dvs ds) (ha : PA X (e :: es) t)
    (hst : starEach (e :: es) X.env = (false, eval e X.env) :: starEach es X.env := by rfl) (hpl : (backTo pos (starEach es X.env)).any (·.1) = false := by rfl)
    (ht : eval (.Call (.Attribute o m apos) (e :: es) [] pos) X.env = (do
      let ov ← eval o X.env
      standAt apos.atName
      let (f, first) ← holding [ov] (getMethod ov m pl)
      callWith pos f first (backTo pos (starEach (e :: es) X.env)) (backToKw pos (keywordEach [] X.env))) := by rfl) :
    PE X (.Call (.Attribute o m apos) (e :: es) [] pos) (tCFn C sp dvs ta t) := by
  refine ⟨fun pins s σ H Q I h => ?_⟩
  refine PySem.W.methodCall_KW (pl := pl) (thn (he.run pins s σ H _ I h) fun u s1 ⟨x, H1, I1, rx, ex, q⟩ => ?_) ht
  subst ex
  obtain rfl : u = Value.ref C := rx
  obtain ⟨mc, r1, r2⟩ := r.rd
  refine PySem.W.method_cls I1.kIn r.ga (PySem.W.cls_value I1.kIn r1 r2 rfl ?_)
  have I2 : Inv X pins σ H1 { s1 with toks := s1.toks + 1 } := I1.tok _
  refine PySem.W.callWith_K (h₀ := X.base) I2.ok.mod.kin hk (thn (ha.run pos pins _ σ H1 _ I2 q) fun us s3 ⟨vs, H2, I3, rv, q2⟩ => ⟨I3.kIn, ?_⟩) hst hpl
  exact run_fn F (hr.mono hj) hb hd pass0 I3 rv q2
end
end Jo

set_option Elab.async false
set_option linter.all false
set_option maxRecDepth 100000
/-! for i, x in enumerate(a tuple) -/
namespace Jo
open PySem PySem.Spec PyProof.Rows L2
set_option maxHeartbeats 1000000 in
theorem meets_enum1 {v : Value} {o : Obj} {G : Heap → Prop} (B : Begins v o G) :
    Meets (Builtin.«enumerate.__new__» ⟨[.type "enumerate", v], []⟩) (fun _ R s => G s.heap ∧
      R (.ok (.ret (.ref (s.heap.push o).objs.size))) { s with heap := (s.heap.push o).push { cls := .type "enumerate", data := .fields #[.none, .bool false, .ref s.heap.objs.size, rawInt 0, .none, .none] } }) :=
  .of_wp fun prog w A R s h => by
    obtain ⟨hp, g, d, tk, os⟩ := s
    obtain ⟨h1, h⟩ := h
    have hsub := sub_enumerate
    have it1 : ∀ {A' : Around} {E : Value → Shared → Prop} {Q : Value → Shared → Prop}, Q (.ref hp.objs.size) ⟨hp.push o, g, d, tk, os⟩ → wpAny (model prog w) A' (pyIter v) Q E ⟨hp, g, d, tk, os⟩ :=
      fun q => B.iter prog w _ _ ⟨hp, g, d, tk, os⟩ _ h1 q
    wp_walk using it1
    refine wpAny_stack_any fun st => wpAny_pure ?_
    split
    · rename_i c _ _ _ _ _
      cases (c == Value.type "enumerate") <;> (wp_walk using it1; exact ⟨_, rfl, h⟩)
    · wp_walk using it1
      exact ⟨_, rfl, h⟩
theorem enum1 {prog : Program} {w : World} {A : Around} {E : Value → Shared → Prop} {s : Shared} {v : Value} {o : Obj} {G : Heap → Prop} {Q : Value → Shared → Prop} (B : Begins v o G) (h1 : G s.heap)
    (h : ∀ h', IsEnum h' (s.heap.objs.size + 1) s.heap.objs.size 0 .none → h'.get? s.heap.objs.size = some o →
      (∀ b o, s.heap.get? b = some o → h'.get? b = some o) → Q (.ref (s.heap.objs.size + 1)) { s with heap := h' }) :
    wpAny (model prog w) A (call (.type "enumerate") [v]) Q E s := by
  refine callType_new F.called_enumerate (by decide) (F.typeCall_enumerate_1 _) (F.newCall_enumerate_1 _) (fun obj => F.args_object_init_2 obj _) F.entry_enumerate_new (meets_enum1 B) ⟨h1, ?_⟩
  have hz : (s.heap.push o).objs.size = s.heap.objs.size + 1 := Heap.size_push ..
  show _ ∧ _
  rw [hz]
  have he := Heap.get?_push_size (s.heap.push o) (o := { cls := .type "enumerate", data := .fields #[.none, .bool false, .ref s.heap.objs.size, rawInt 0, .none, .none] }) rfl
  rw [hz] at he
  exact ⟨⟨_, he, rfl⟩, h _ he (Heap.get?_push_of_some _ (Heap.get?_push_size _ B.free)) fun b o x => Heap.get?_push_of_some _ (Heap.get?_push_of_some _ x)⟩
/-- the tuple at a, each item in a new pair -/
def IteT (K : PySem.W.Frag) (a : Addr) : It :=
  ⟨fun i H => ∃ (xs : List V) (x : V), SqT K H a xs ∧ xs[i]? = some x,
   fun i H v H' => ∃ T x, v = .ref T ∧ H T = none ∧ H' = upd H T (.tup [.int (i : Nat), x]) ∧ ∀ xs, SqT K H a xs → xs[i]? = some x,
   fun i H => ∃ xs : List V, SqT K H a xs ∧ xs.length = i⟩
theorem turn_enumT {P : Program} {w : World} {K : PySem.W.Frag} {elts : List Expr} {kk : Nat} {tpos : Pos} (a e it : Addr) :
    Turn P w K (.Tuple elts kk tpos) (IteT K a) [e, it] e (fun i h => (∃ old, IsEnum h e it ((i : Nat) : Int) old) ∧ h.IsTupleIter it a i ∧ e ≠ it ∧ e ≠ a ∧ a ≠ it) where
  mem := by simp
  obj := fun i h st b hb => by
    obtain ⟨⟨old, he⟩, ⟨o, ho, hc, hd⟩, _⟩ := st
    rcases List.mem_cons.mp hb with z | z
    · rw [z]
      exact ⟨_, he, fun v q => nomatch q⟩
    · rw [List.mem_singleton.mp z]
      exact ⟨o, ho, fun v q => by rw [hd] at q; cases q⟩
  keep := fun i h h' st k => let ⟨⟨old, he⟩, hi, hne⟩ := st; ⟨⟨old, k e (by simp) _ he⟩, hi.at fun o q => k it (by simp) o q, hne⟩
  item := by
    intro X hP hw hK hc i pins s σ H E I hf st hg
    subst hP hw hK
    obtain ⟨⟨old, he⟩, hit, hne, hea, hai⟩ := st
    obtain ⟨xs, x, hq, hx⟩ := hg
    obtain ⟨its, rv, p, hz⟩ := I.tuple hq
    obtain ⟨u, hu, ru⟩ := rv.get hx
    have hel : e < s.heap.objs.size := Heap.lt_size he
    have hil : it < s.heap.objs.size := by obtain ⟨_, q, _⟩ := hit; exact Heap.lt_size q
    have hT0 : s.heap.IsTuple a its.toArray := p
    have hlt : i < its.toArray.size := by
      have := (List.getElem?_eq_some_iff.mp hu).1
      simpa using this
    have D := Draws.tuple (prog := X.prog) (w := X.w) (A := X.A.in1) (I.ok.hd hc) it a hai its.toArray
    refine wpAny_pyNext_enum_itemD D he ⟨hit, hT0⟩ hlt hne (by simp [hne, hea]) fun x' h' tk hP' ho hst' hT hsz hk => ?_
    have ex : x' = u := by
      have h2 : its.toArray[i]? = some u := by simpa using hu
      exact Option.some.inj (hP'.symm.trans h2)
    subst ex
    refine ⟨_, rfl, wpAny_letOwnedTupleGo_enum (s := { s with heap := h', toks := tk + 1 }) ho fun h'' he' sb => ?_⟩
    have hT2 : h''.get? s.heap.objs.size = some { cls := .type "tuple", data := .seq #[.int i tk, x'] } := (sb.2 _ (Nat.ne_of_gt hel)).trans hT
    have new : ObjOk X.prog X.w (upd H s.heap.objs.size (.tup [.int (i : Nat), x])) h'' s.heap.objs.size (.tup [.int (i : Nat), x]) :=
      ⟨by show 2 ≤ sizeLine; decide, [.int i tk, x'], .cons ⟨_, rfl⟩ (.cons ru .nil), ⟨_, hT2, rfl, _, rfl⟩⟩
    have I1 : Inv X pins σ (upd H s.heap.objs.size (.tup [.int (i : Nat), x])) { s with heap := h'', toks := tk + 1 } :=
      I.turnedNew (ch := [e, it]) (fun b ob hb q => (sb.2 b (fun z => hb (by simp [z]))).trans (hk b ob (fun z => hb (by simp [z])) (fun z => hb (by simp [z])) q)) hf (Nat.le_refl _) new
    refine ⟨.ref s.heap.objs.size, _, I1, rfl, ⟨_, x, rfl, I.hok.fresh (Nat.le_refl _), rfl, fun ys hy => by rw [I.tuple_inj hy hq]; exact hx⟩, ⟨⟨x', ?_⟩, hst'.1.at fun o q => (sb.2 it (Ne.symm hne)).trans q, hne, hea, hai⟩, fun b hb => ?_⟩
    · have e1 : ((i + 1 : Nat) : Int) = (i : Int) + 1 := by omega
      rw [e1]
      exact he'
    · have hb' : b < s.heap.objs.size := by
        rcases List.mem_cons.mp hb with z | z
        · rw [z]; exact hel
        · rw [List.mem_singleton.mp z]; exact hil
      rw [upd_ne (Nat.ne_of_lt hb')]
      exact (hf b hb).1
  done := by
    intro X hP hw hK hc i pins s σ H E I hf st hg
    subst hP hw hK
    obtain ⟨⟨old, he⟩, hit, hne, hea, hai⟩ := st
    obtain ⟨xs, hq, hx⟩ := hg
    obtain ⟨its, rv, p, hz⟩ := I.tuple hq
    obtain ⟨f0, f1, f2, f3, f4, f5⟩ := hf it (by simp)
    have hl := rv.length
    have D := Draws.tuple (prog := X.prog) (w := X.w) (A := X.A.in1) (I.ok.hd hc) it a hai its.toArray
    have en : i = its.toArray.size := by simp; omega
    subst en
    exact wpAny_pyNext_enum_endD D he ⟨hit, p⟩ fun h' eb => ⟨rfl, I.turned (t' := s.toks) (fun b o hb q => eb b o hb q) f0 f1 f3 f4 f5⟩
  self := fun A i s Q E st h => let ⟨⟨_, he⟩, _⟩ := st; wpAny_pyIter_enum he h
def iEnumT (K : PySem.W.Frag) (ta : TA) : TI := fun σ H R => ta σ H fun vs H1 => ∃ a xs, vs = [.ref a] ∧ SqT K H1 a xs ∧ R (IteT K a) H1
theorem pi_enumT {X : Cx} {e : Expr} {ta : TA} {p pos tpos : Pos} {elts : List Expr} {kk : Nat} (hg : Gl X "enumerate") (hm : X.mg "enumerate" = none) (ha : PA X [e] ta) (hs : starEach [e] X.env = [(false, eval e X.env)] := by rfl) :
    PI X (.Tuple elts kk tpos) (.Call (.Name "enumerate" p) [e] [] pos) (iEnumT X.K ta) := by
  refine ⟨fun pins s σ H R I h => ?_⟩
  refine Call_ (ld_blt I hg hm boot_enumerate (PyProof.Rows.callWith_type1 (thn (ha.run pos pins s σ H _ I h) fun us s1 ⟨vs, H1, I1, r1, q1⟩ => ?_) hs rfl))
  obtain ⟨a, xs, ex, hq, q⟩ := q1
  subst ex
  cases r1 with
  | cons r rr =>
    cases rr
    cases r
    obtain ⟨its, rv, p', hz⟩ := I1.tuple hq
    have hT0 : s1.heap.IsTuple a its.toArray := p'
    have hal : a < s1.heap.objs.size := by obtain ⟨_, q, _⟩ := hT0; exact Heap.lt_size q
    refine enum1 (begins_tuple a its.toArray) hT0 fun h' he hit hk => wpAny_pyIter_enum he ?_
    have I2 : Inv X pins σ H1 { s1 with heap := h' } := I1.kept (t' := s1.toks) hk
    refine ⟨s1.heap.objs.size + 1, [s1.heap.objs.size + 1, s1.heap.objs.size], _, _, H1, rfl, I2, turn_enumT a (s1.heap.objs.size + 1) s1.heap.objs.size, ⟨⟨.none, he⟩, ⟨_, hit, rfl, rfl⟩, Nat.succ_ne_self _, Nat.ne_of_gt (Nat.lt_succ_of_lt hal), Nat.ne_of_lt hal⟩, fun b hb => ?_, q⟩
    have hle : s1.heap.objs.size ≤ b := by
      rcases List.mem_cons.mp hb with z | z
      · rw [z]; exact Nat.le_add_right _ _
      · rw [List.mem_singleton.mp z]; exact Nat.le_refl _
    exact I1.fpOk hle (I1.hok.fresh hle)
theorem walk_enumT {K : PySem.W.Frag} {a : Addr} {xs : List V} : Walk (IteT K a) xs.length (fun H => SqT K H a xs) (YPair (fun i => some (.int (i : Nat))) (fun i => xs[i]?)) :=
  ⟨fun i H hi q => ⟨xs, xs[i], q, by simp [hi]⟩, fun H q => ⟨xs, q, rfl⟩, fun i H v H' hi q ⟨T, x, e1, e2, e3, e4⟩ => ⟨T, .int (i : Nat), x, e1, e2, e3, rfl, e4 xs q⟩⟩
end Jo

set_option Elab.async false
set_option linter.all false
set_option maxRecDepth 100000
set_option maxHeartbeats 4000000
/-! {e for a in xs for b in ys} of texts: a new set that can be walked. -/
namespace Jo
open PySem PySem.Spec PyProof.Rows L2 PpSet
/-- a set comprehension of two clauses -/
abbrev SC2 (el ta ia tb ib : Expr) (qa qb : List Expr) (sc : Scope) (ps : Pos) : Expr := .SetComp el [⟨ta, ia, qa, 0⟩, ⟨tb, ib, qb, 0⟩] sc ps
section
variable {prog : Program} {w : World} {A : Around} {R : Result → Shared → Prop} {s : Shared} {el ta ia tb ib : Expr} {qa qb : List Expr} {sc : Scope} {ps : Pos} {it acc : Value} {env : Env}
theorem sc2_first : compTurn (SC2 el ta ia tb ib qa qb sc ps) 0 it acc env = (do
    standAt ia.pos
    match ← pyNext it with
    | none => pure (.done .next)
    | some u =>
      letOwnedTupleGo ta it u
      assign ta env u
      let mut good := true
      for q in qa do
        if good then good ← isTrue q env (eval q env)
      if good then
        let z ← eval ib env
        standAt ib.pos
        let z ← foldedSetIterable ib env z
        let _ ← runOwn (.compStart (SC2 el ta ia tb ib qa qb sc ps) 1 (← holding [z] (pyIter z)) acc env) env
      again (.compLoop (SC2 el ta ia tb ib qa qb sc ps) 0 it acc env)) := by rfl
theorem sc2_second : compTurn (SC2 el ta ia tb ib qa qb sc ps) 1 it acc env = (do
    standAt ib.pos
    match ← pyNext it with
    | none => pure (.done .next)
    | some u =>
      letOwnedTupleGo tb it u
      assign tb env u
      let mut good := true
      for q in qb do
        if good then good ← isTrue q env (eval q env)
      if good then
        (do let z ← eval el env; standAt el.pos; let _ ← call (.builtin "set.add") [acc, z])
      again (.compLoop (SC2 el ta ia tb ib qa qb sc ps) 1 it acc env)) := by rfl
/-- nothing is raised -/
abbrev Nev : Value → Shared → Prop := fun _ _ => False
theorem nev {α : Type} {M : Model} {t : Sem α} {Q : α → Shared → Prop} {E : Value → Shared → Prop} (h : wpAny M A t Q Nev s) : wpAny M A t Q E s := wpAny_mono h (fun _ _ z => z) fun _ _ z => False.elim z
/-- the tests of a clause -/
abbrev tstS (qs : List Expr) (env : Env) : Sem Bool := forIn qs true fun c r => if r = true then do let ok ← isTrue c env (eval c env); pure (ForInStep.yield ok) else pure (ForInStep.yield r)
/-- the first clause's loop -/
theorem sc2_loopA (hs : ∀ x, foldedSetIterable ib env x = pure x) (J : Nat → Shared → Prop)
    (turn : ∀ n s, J n s → wpAny (model prog w) A (pyNext it) (fun r s1 => match r with
      | none => R (.ok .next) s1
      | some u => wpAny (model prog w) A (letOwnedTupleGo ta it u) (fun _ s2 => wpAny (model prog w) A (assign ta env u) (fun _ s3 =>
          wpAny (model prog w) A (tstS qa env) (fun good s4 =>
            if good = true then wpAny (model prog w) A (eval ib env) (fun z s5 => wpAny (model prog w) A (pyIter z) (fun i2 s6 =>
              codeAny (model prog w) A (.compStart (SC2 el ta ia tb ib qa qb sc ps) 1 i2 acc env) (fun r s' => match r with
                | .ok _ => ∃ m, m < n ∧ J m s'
                | .error _ => False) s6) Nev s5) Nev s4
            else ∃ m, m < n ∧ J m s4) Nev s3) Nev s2) Nev s1) Nev s)
    (n : Nat) (h : J n s) : codeAny (model prog w) A (.compLoop (SC2 el ta ia tb ib qa qb sc ps) 0 it acc env) R s := by
  refine codeAny_loop rfl J (fun n s hJ => ?_) n h
  show wpAny _ A ((compTurn (SC2 el ta ia tb ib qa qb sc ps) 0 it acc env).onRaise (fun x => do noteFrame x env; theTreesLotGoes x)) _ _ s
  refine wpAny_noted ?_
  rw [sc2_first]
  refine wpAny_bind (wpAny_standAt (wpAny_bind (nev (wpAny_mono (turn n s hJ) (fun r s1 h1 => ?_) fun _ _ z => z))))
  match r, h1 with
  | none, h1 => exact wpAny_pure h1
  | some u, h1 =>
    refine wpAny_bind (nev (wpAny_mono h1 (fun _ s2 h2 => ?_) fun _ _ z => z))
    refine wpAny_bind (nev (wpAny_mono h2 (fun _ s3 h3 => ?_) fun _ _ z => z))
    refine wpAny_bind (nev (wpAny_mono h3 (fun good s4 h4 => ?_) fun _ _ z => z))
    match good, h4 with
    | false, h4 => exact wpAny_pure ⟨rfl, h4⟩
    | true, h4 =>
      refine wpAny_bind (nev (wpAny_mono h4 (fun z s5 h5 => ?_) fun _ _ y => y))
      refine wpAny_bind (wpAny_standAt (wpAny_bind (wpAny_of_eq (hs z) (wpAny_bind (wpAny_holding (nev (wpAny_mono h5 (fun i2 s6 h6 => ?_) fun _ _ y => y)))))))
      refine wpAny_bind (wpAny_runOwn ?_)
      rw [Around.mark_none]
      refine codeAny_mono h6 fun r s' hr => ?_
      match r, hr with
      | .ok f, hr =>
        first
          | exact wpAny_pure ⟨rfl, hr⟩
          | exact wpAny_bind (wpAny_pure (wpAny_pure ⟨rfl, hr⟩))
      | .error e, hr => exact hr.elim
/-- the second clause's loop -/
theorem sc2_loopB (J : Nat → Shared → Prop)
    (turn : ∀ n s, J n s → wpAny (model prog w) A (pyNext it) (fun r s1 => match r with
      | none => R (.ok .next) s1
      | some u => wpAny (model prog w) A (letOwnedTupleGo tb it u) (fun _ s2 => wpAny (model prog w) A (assign tb env u) (fun _ s3 =>
          wpAny (model prog w) A (tstS qb env) (fun good s4 =>
            if good = true then wpAny (model prog w) A (eval el env) (fun z s5 =>
              wpAny (model prog w) A (call (.builtin "set.add") [acc, z]) (fun _ s6 => ∃ m, m < n ∧ J m s6) Nev s5) Nev s4
            else ∃ m, m < n ∧ J m s4) Nev s3) Nev s2) Nev s1) Nev s)
    (n : Nat) (h : J n s) : codeAny (model prog w) A (.compLoop (SC2 el ta ia tb ib qa qb sc ps) 1 it acc env) R s := by
  refine codeAny_loop rfl J (fun n s hJ => ?_) n h
  show wpAny _ A ((compTurn (SC2 el ta ia tb ib qa qb sc ps) 1 it acc env).onRaise (fun x => do noteFrame x env; theTreesLotGoes x)) _ _ s
  refine wpAny_noted ?_
  rw [sc2_second]
  refine wpAny_bind (wpAny_standAt (wpAny_bind (nev (wpAny_mono (turn n s hJ) (fun r s1 h1 => ?_) fun _ _ z => z))))
  match r, h1 with
  | none, h1 => exact wpAny_pure h1
  | some u, h1 =>
    refine wpAny_bind (nev (wpAny_mono h1 (fun _ s2 h2 => ?_) fun _ _ z => z))
    refine wpAny_bind (nev (wpAny_mono h2 (fun _ s3 h3 => ?_) fun _ _ z => z))
    refine wpAny_bind (nev (wpAny_mono h3 (fun good s4 h4 => ?_) fun _ _ z => z))
    match good, h4 with
    | false, h4 => exact wpAny_pure ⟨rfl, h4⟩
    | true, h4 =>
      refine wpAny_bind (wpAny_bind (nev (wpAny_mono h4 (fun z s5 h5 => ?_) fun _ _ y => y)))
      refine wpAny_bind (wpAny_standAt (wpAny_bind (nev (wpAny_mono h5 (fun _ s6 h6 => ?_) fun _ _ y => y))))
      exact wpAny_pure (wpAny_pure ⟨rfl, h6⟩)
/-- a clause's start -/
theorem sc2_start {k : Nat} (hk : k = 0 ∨ k = 1) (h0 : codeAny (model prog w) A (.compLoop (SC2 el ta ia tb ib qa qb sc ps) k it acc env) R s)
    (h : wpAny (model prog w) A (pyIter it) (fun i2 s2 => codeAny (model prog w) A (.compLoop (SC2 el ta ia tb ib qa qb sc ps) k i2 acc env) R s2) (notedBy (model prog w) A env fun x s' => R (.error x) s') s) :
    codeAny (model prog w) A (.compStart (SC2 el ta ia tb ib qa qb sc ps) k it acc env) R s := by
  refine codeAny_of_tree ?_
  rcases hk with e | e <;> subst e
  · show wpAny _ _ ((compStart (SC2 el ta ia tb ib qa qb sc ps) 0 it acc env).onRaise (fun x => do noteFrame x env; standAt theWindowsPlace)) _ _ s
    refine wpAny_notedAt ?_
    unfold compStart
    show wpAny _ _ (ask >>= _) _ _ s
    refine wpAny_bind (wpAny_askSetting (wpAny_ite ?_))
    split
    · first
        | exact wpAny_bind (wpAny_pure (wpAny_pure ⟨rfl, h0⟩))
        | exact wpAny_pure ⟨rfl, h0⟩
    · refine wpAny_bind (wpAny_rule ?_)
      first
        | exact wpAny_bind (wpAny_standAt (wpAny_bind (wpAny_mono h (fun i2 s2 z => wpAny_pure ⟨rfl, z⟩) fun _ _ x => x)))
        | (show wpAny _ _ (standAt ia.pos >>= _) _ _ s; exact wpAny_bind (wpAny_standAt (wpAny_bind (wpAny_mono h (fun i2 s2 z => wpAny_pure ⟨rfl, z⟩) fun _ _ x => x))))
  · show wpAny _ _ ((compStart (SC2 el ta ia tb ib qa qb sc ps) 1 it acc env).onRaise (fun x => do noteFrame x env; standAt theWindowsPlace)) _ _ s
    refine wpAny_notedAt ?_
    unfold compStart
    show wpAny _ _ (ask >>= _) _ _ s
    refine wpAny_bind (wpAny_askSetting (wpAny_ite ?_))
    split
    · first
        | exact wpAny_bind (wpAny_pure (wpAny_pure ⟨rfl, h0⟩))
        | exact wpAny_pure ⟨rfl, h0⟩
    · refine wpAny_bind (wpAny_rule ?_)
      first
        | exact wpAny_bind (wpAny_standAt (wpAny_bind (wpAny_mono h (fun i2 s2 z => wpAny_pure ⟨rfl, z⟩) fun _ _ x => x)))
        | (show wpAny _ _ (standAt ib.pos >>= _) _ _ s; exact wpAny_bind (wpAny_standAt (wpAny_bind (wpAny_mono h (fun i2 s2 z => wpAny_pure ⟨rfl, z⟩) fun _ _ x => x))))
end
end Jo

set_option Elab.async false
set_option linter.all false
set_option maxRecDepth 100000
set_option maxHeartbeats 4000000
namespace Jo
open PySem PySem.Spec PyProof.Rows L2 PpSet
/-- the empty set of texts at a new place -/
abbrev set0 (P : Program) (w : World) (D : Addr) : HO := SetT P w D (fun _ => false) 0
/-- c put into the set at D -/
def Putted (P : Program) (w : World) (D : Addr) (y : V) (G : Hp) (Nx : Hp → Prop) : Prop := ∃ (c : Str) (S : Str → Bool) (n : Nat), y = .str c ∧ G D = some (SetT P w D S n) ∧ n + 1 < scanBound ∧
  Nx (upd G D (SetT P w D (fun j => S j || decide (j = c)) (if S c = true then n else n + 1)))
/-- the second clause, from where its source is asked to where the first clause's turn ends -/
def tScIn (P : Program) (w : World) (D : Addr) (wi1 : TI) (g1 : TG) (tt1 : TT) (te : TE) (vs1 : List Nat) (Nx : Hp → Prop) (σ2 : L2.St) (G : Hp) : Prop := wi1 σ2 G fun J1 G1 => ∃ W1 : Nat → Nat → Hp → Prop, (∃ m, W1 0 m G1) ∧
  ∀ j k G2, W1 j k G2 → (J1.stop j G2 ∧ Nx G2) ∨ (J1.go j G2 ∧ ∃ Nx1 : Hp → Prop, (∀ G3, Nx1 G3 → ∃ k', k' < k ∧ W1 (j + 1) k' G3) ∧
    ∀ x G3, J1.yld j G2 x G3 → g1 x (wipe σ2 vs1) G3 fun σ3 G4 => wipe σ3 vs1 = wipe σ2 vs1 ∧ tt1 σ3 G4 fun b G5 => if b = true then te σ3 G5 fun y G6 => Putted P w D y G6 Nx1 else Nx1 G5)
def tSc2 (P : Program) (w : World) (wi : TI) (g : TG) (tt : TT) (wi1 : TI) (g1 : TG) (tt1 : TT) (te : TE) (vs vs1 : List Nat) : TE := fun σ G0 Q => wi σ G0 fun J G1 => ∀ D, G1 D = none →
  ∃ W : Nat → Nat → Hp → Prop, (∃ m, W 0 m (upd G1 D (set0 P w D))) ∧ ∀ i m G2, W i m G2 → (J.stop i G2 ∧ Q (.ref D) G2) ∨
    (J.go i G2 ∧ ∃ Nx : Hp → Prop, (∀ G3, Nx G3 → ∃ m', m' < m ∧ W (i + 1) m' G3) ∧
      ∀ x G3, J.yld i G2 x G3 → g x (wipe σ vs) G3 fun σ2 G4 => wipe σ2 vs = wipe σ vs ∧ tt σ2 G4 fun b G5 => if b = true then tScIn P w D wi1 g1 tt1 te vs1 Nx σ2 G5 else Nx G5)
section
variable {X : Cx}
theorem newW {A : Around} {E : Value → Shared → Prop} {s : Shared} {P : Program} {w : World} {Q : Value → Shared → Prop}
    (h : Q (.ref s.heap.objs.size) { s with heap := s.heap.push { cls := .type "set", dict := none, data := .set #[] 0 (.fresh 0 0 (!w.params.followText "set-order")) } }) : wpAny (model P w) A (newSet (.type "set")) Q E s := newSet_ok h
/-- what a part of the block says, wherever the block runs -/
abbrev InBlk (X : Cx) (scope : Scope) (F : Cx → Prop) : Prop := ∀ (s : Shared) (G : Hp) (C : Addr) (cl : List (Str × Addr)) (fp : List Addr), F (X.blk s G scope (compEnvC scope cl C X.env) fp)
theorem sc2_core {pins : List (Addr × Obj)} {s : Shared} {σ : L2.St} {G0 : Hp} {Q : VK} {el tg iter tg1 iter1 : Expr} {qa qb : List Expr} {scope : Scope} {own : List (Str × Nat)} {vs1 : List Nat} {ps ps' : Pos} {wi wi1 : TI} {g g1 : TG} {tt tt1 : TT} {te : TE} {Qf : Value → Shared → Prop}
    (hc : X.calm = true) (hN : X.N.Nodup) (J0 : Inv X pins σ G0 s) (hi : PI X tg iter wi) (ok : BlkOk X.N X.env.scope scope own) (hv : ∀ i ∈ vs1, i ∈ own.map (·.2))
    (hg : InBlk X scope fun B => PG B tg g) (ht : InBlk X scope fun B => PTs B qa tt) (hi1 : InBlk X scope fun B => PI B tg1 iter1 wi1) (hg1 : InBlk X scope fun B => PG B tg1 g1) (ht1 : InBlk X scope fun B => PTs B qb tt1) (he : InBlk X scope fun B => PE B el te)
    (hs : ∀ x, foldedSetIterable iter X.env x = pure x) (hs1 : ∀ env x, foldedSetIterable iter1 env x = pure x)
    (h : tSc2 X.prog X.w wi g tt wi1 g1 tt1 te (own.map (·.2)) vs1 σ G0 Q)
    (hRR : ∀ D C s' m G', Inv X pins σ G' s' → Q (.ref D) G' → s'.heap.Ns C m → FpOk X pins G' C → compPost (model X.prog X.w) X.A X.xe none Qf (.ref D) C (.ok .next) s') :
    wpAny (model X.prog X.w) X.A (comprehension (SC2 el tg iter tg1 iter1 qa qb scope ps) scope X.env ps' (newSet (.type "set")) false (eval iter X.env) none) Qf X.xe s := by
  have cls : ∀ y ∈ scope.names, y.2 = .free → ∃ c, X.env.cells.lookup y.1 = some c := fun y hy e => by
    cases ok.free y hy e with
    | inl k => exact J0.ok.has _ (.inl k)
    | inr k => exact J0.ok.has _ (.inr k)
  refine wpAny_comprehension_free (use := none) rfl hs (closure_ok cls) ok.kind (fun y hy e => by rw [ok.uniq y hy, e]) (thn (hi.run pins s σ G0 _ J0 h) fun xv s1 hx => thn hx fun itv s2 h2 => ?_)
  obtain ⟨it, fp, tn, J, G2, e, J2, T, st2, f2, q⟩ := h2
  subst e
  refine newW (newEnv_comp ?_)
  generalize hD : s2.heap.objs.size = D
  have nD : G2 D = none := J2.hok.fresh (Nat.le_of_eq hD)
  obtain ⟨W, ⟨m0, w0⟩, turn⟩ := q D nD
  generalize es3 : ({ s2 with heap := s2.heap.push { cls := .type "set", dict := none, data := .set #[] 0 (.fresh 0 0 (!X.w.params.followText "set-order")) } } : Shared) = s3
  have hp3 : s3.heap = s2.heap.push { cls := .type "set", dict := none, data := .set #[] 0 (.fresh 0 0 (!X.w.params.followText "set-order")) } := by rw [← es3]
  have up : ∀ b o, s2.heap.get? b = some o → s3.heap.get? b = some o := fun b o e => by
    rw [hp3]
    exact Heap.get?_push_of_some _ e
  have J3 : Inv X pins σ (upd G2 D (set0 X.prog X.w D)) s3 := by
    rw [← es3]
    refine J2.laid (t' := s2.toks) (fun b o e => Heap.get?_push_of_some _ e) (Nat.le_of_eq hD) ?_
    rw [← hD]
    exact setT_ok (setW_new _ _)
  have small : ∀ b ∈ fp, b < s2.heap.objs.size := fun b hb => by
    obtain ⟨o, e, _⟩ := T.obj _ _ st2 b hb
    exact Heap.lt_size e
  have f3 : ∀ b ∈ fp, FpOk X pins (upd G2 D (set0 X.prog X.w D)) b ∧ b < s3.heap.objs.size := fun b hb => by
    have lt := small b hb
    refine ⟨⟨?_, (f2 b hb).2⟩, ?_⟩
    · rw [upd_ne (by rw [← hD]; exact Nat.ne_of_lt lt)]
      exact (f2 b hb).1
    · rw [hp3, Heap.size_push]
      exact Nat.lt_succ_of_lt lt
  have st3 : tn 0 s3.heap := T.keep _ _ _ st2 fun b _ o e => up b o e
  have J4 := block_start J3 ok hN f3
  generalize hG3 : upd G2 D (set0 X.prog X.w D) = G3 at J3 J4 w0 f3
  generalize hcl : cellsFrom (s3.heap.objs.size + 1) scope.names (cloFrom X.env.cells scope.names []) = cl at J4
  have pg := hg s3 G3 s3.heap.objs.size cl fp
  have pt := ht s3 G3 s3.heap.objs.size cl fp
  have pe := he s3 G3 s3.heap.objs.size cl fp
  have pi1 := hi1 s3 G3 s3.heap.objs.size cl fp
  have pg1 := hg1 s3 G3 s3.heap.objs.size cl fp
  have pt1 := ht1 s3 G3 s3.heap.objs.size cl fp
  show codeAny _ _ (.compStart (SC2 el tg iter tg1 iter1 qa qb scope ps) 0 (.ref it) (.ref D) (compEnvC scope cl s3.heap.objs.size X.env)) (compPost (model X.prog X.w) X.A X.xe none Qf (.ref D) s3.heap.objs.size) { s3 with heap := pushCells (s3.heap.push { cls := .type "dict", data := .dict #[] }) scope.names }
  have nfp : ∀ b ∈ fp, G3 b = none := fun b hb => (f3 b hb).1.1
  generalize hce : compEnvC scope cl s3.heap.objs.size X.env = ce at J4 pg pt pe pi1 pg1 pt1 ⊢
  have cL : ce.locals = s3.heap.objs.size := by
    subst hce
    rfl
  generalize es4 : ({ s3 with heap := pushCells (s3.heap.push { cls := .type "dict", data := .dict #[] }) scope.names } : Shared) = s4 at J4 ⊢
  have st4 : tn 0 s4.heap := T.keep _ _ _ st3 fun b _ o e => by
    rw [← es4]
    exact pushCells_keeps _ _ _ _ (Heap.get?_push_of_some _ e)
  generalize hB : X.blk s3 G3 scope ce fp = B at J4 pg pt pe pi1 pg1 pt1
  have Bp : B.prog = X.prog := by rw [← hB]
  have still : ∀ {σ' : L2.St} {G' : Hp} {s' : Shared}, Inv (X.blk s3 G3 scope ce fp) [] σ' G' s' → (∀ b ∈ fp, G' b = none) → ∀ b ∈ fp, FpOk (X.blk s3 G3 scope ce fp) [] G' b := fun {σ' G' s'} J' hn b hb =>
    ⟨hn b hb, (J'.ok.exf b hb).1, J'.ok.exfs b hb, .inl hb, fun x c e => (J'.ok.exf b hb).2 x c e, fun p hp => absurd (show p ∈ ([] : List (Addr × Obj)) ++ [] from hp) (by simp)⟩
  subst hB
  have loop : codeAny (model X.prog X.w) X.A (.compLoop (SC2 el tg iter tg1 iter1 qa qb scope ps) 0 (.ref it) (.ref D) ce) (compPost (model X.prog X.w) X.A X.xe none Qf (.ref D) s3.heap.objs.size) s4 := by
    refine sc2_loopA (hs1 ce) (fun n s' => ∃ i G', Inv (X.blk s3 G3 scope ce fp) [] (wipe σ (own.map (·.2))) G' s' ∧ tn i s'.heap ∧ (∀ b ∈ fp, G' b = none) ∧ W i n G') ?_ m0 ⟨0, G3, J4, st4, nfp, w0⟩
    rintro n s5 ⟨i, G5, J5, st5, n5, w5⟩
    rcases turn i n G5 w5 with ⟨stop, qq⟩ | ⟨go, Nx, hNx, step⟩
    · refine thnF (T.done (X.blk s3 G3 scope ce fp) rfl rfl rfl hc i [] s5 _ G5 (fun _ _ => False) J5 (still J5 n5) st5 stop) fun r s6 ⟨hr, J6⟩ => ?_
      subst hr
      have J7 : Inv X pins σ G5 s6 := J3.call' (ch := fp) J6.os J6.base J6.hok J6.bare fun b hb => ⟨(f3 b hb).1.2.2.2.1, (f3 b hb).1.2.1, (f3 b hb).1.2.2.2.2.1, (f3 b hb).1.2.2.2.2.2⟩
      have nC : G5 s3.heap.objs.size = none := by
        have z : G5 ce.locals = none := J6.free
        rwa [cL] at z
      obtain ⟨m, hn, _⟩ := J6.loc
      have hn2 : s6.heap.Ns ce.locals m := hn
      rw [cL] at hn2
      exact hRR D s3.heap.objs.size s6 m G5 J7 qq hn2 (J3.fpOk (Nat.le_refl _) nC)
    · refine thnF (T.item (X.blk s3 G3 scope ce fp) rfl rfl rfl hc i [] s5 _ G5 (fun _ _ => False) J5 (still J5 n5) st5 go) fun r s6 ⟨u, hr, h6⟩ => ?_
      subst hr
      refine thnF h6 fun _ s7 ⟨x, G7, J7, r7, y7, st7, n7⟩ => ?_
      have J7' := J7.pinned (still J7 n7) (T.obj _ _ st7)
      refine thnF (pg.run _ s7 _ G7 x u _ J7' r7 (step x G7 y7)) fun _ s8 ⟨σ8, G8, J8, hw8, q8⟩ => ?_
      refine thnF (pt.run _ s8 σ8 G8 _ J8 q8) fun b s9 ⟨G9, J9, q9⟩ => ?_
      have fin : ∀ {σ9 : L2.St} {s' : Shared} {G' : Hp}, Inv (X.blk s3 G3 scope ce fp) ([] ++ pinsAt fp s7.heap) σ9 G' s' → (wipe σ (own.map (·.2))).length = σ9.length →
          (∀ (j : Nat) v, (wipe σ (own.map (·.2)))[j]? = some (some v) → σ9[j]? = some (some v)) → Nx G' →
          ∃ m, m < n ∧ ∃ i G', Inv (X.blk s3 G3 scope ce fp) [] (wipe σ (own.map (·.2))) G' s' ∧ tn i s'.heap ∧ (∀ b ∈ fp, G' b = none) ∧ W i m G' := fun {σ9 s' G'} J' hl hk nx => by
        obtain ⟨m', hm, w'⟩ := hNx G' nx
        have pin' : ∀ b ∈ fp, ∀ o, s7.heap.get? b = some o → s'.heap.get? b = some o ∧ G' b = none := fun b hb o e => by
          have z := J'.pin (b, o) (List.mem_append_right _ (List.mem_append_right _ (mem_pinsAt hb e)))
          exact ⟨z.1, z.2.1⟩
        refine ⟨m', hm, i + 1, G', (J'.unpinned (pins := [])).weak hl hk, T.keep _ _ _ st7 fun b hb o e => (pin' b hb o e).1, fun b hb => ?_, w'⟩
        obtain ⟨o, e, _⟩ := T.obj _ _ st7 b hb
        exact (pin' b hb o e).2
      have l8 : (wipe σ (own.map (·.2))).length = σ8.length := by rw [← hw8, wipe_length]
      have k8 : ∀ (j : Nat) v, (wipe σ (own.map (·.2)))[j]? = some (some v) → σ8[j]? = some (some v) := fun j v e => by
        rw [← hw8] at e
        exact (wipe_some e).1
      have k9 : ∀ (j : Nat) v, (wipe σ (own.map (·.2)))[j]? = some (some v) → (wipe σ8 vs1)[j]? = some (some v) := fun j v e => by
        rw [← hw8] at e
        obtain ⟨e1, e2⟩ := wipe_some e
        rw [wipe_out fun z => e2 (hv j z)]
        exact e1
      match b, q9 with
      | false, q9 => exact fin J9 l8 k8 q9
      | true, q9 =>
        have q9 : tScIn X.prog X.w D wi1 g1 tt1 te vs1 Nx σ8 G9 := q9
        refine thnF (pi1.run _ s9 σ8 G9 _ J9 q9) fun xv s10 hx => thnF hx fun itv s11 h11 => ?_
        obtain ⟨it1, fp1, tn1, J1, G11, e1, J11, T1, st11, f11, W1, ⟨m1, w1⟩, turn1⟩ := h11
        subst e1
        have still1 : ∀ {G' : Hp}, (∀ b ∈ fp1, G' b = none) → ∀ b ∈ fp1, FpOk (X.blk s3 G3 scope ce fp) ([] ++ pinsAt fp s7.heap) G' b := fun hn b hb => ⟨hn b hb, (f11 b hb).2⟩
        have inner : codeAny (model X.prog X.w) X.A (.compLoop (SC2 el tg iter tg1 iter1 qa qb scope ps) 1 (.ref it1) (.ref D) ce) (fun r s' => match r with
              | .ok _ => ∃ m, m < n ∧ ∃ i G', Inv (X.blk s3 G3 scope ce fp) [] (wipe σ (own.map (·.2))) G' s' ∧ tn i s'.heap ∧ (∀ b ∈ fp, G' b = none) ∧ W i m G'
              | .error _ => False) s11 := by
          refine sc2_loopB (fun k s' => ∃ j G', Inv (X.blk s3 G3 scope ce fp) ([] ++ pinsAt fp s7.heap) (wipe σ8 vs1) G' s' ∧ tn1 j s'.heap ∧ (∀ b ∈ fp1, G' b = none) ∧ W1 j k G') ?_ m1
            ⟨0, G11, J11.weak (wipe_length _ _) (fun j v e => (wipe_some e).1), st11, fun b hb => (f11 b hb).1, w1⟩
          rintro k s12 ⟨j, G12, J12, st12, n12, w12⟩
          rcases turn1 j k G12 w12 with ⟨stop1, nx1⟩ | ⟨go1, Nx1, hNx1, step1⟩
          · refine thnF (T1.done (X.blk s3 G3 scope ce fp) rfl rfl rfl hc j _ s12 (wipe σ8 vs1) G12 (fun _ _ => False) J12 (still1 n12) st12 stop1) fun r s13 ⟨hr, J13⟩ => ?_
            subst hr
            exact fin J13 (l8.trans (wipe_length σ8 vs1).symm) k9 nx1
          · refine thnF (T1.item (X.blk s3 G3 scope ce fp) rfl rfl rfl hc j _ s12 (wipe σ8 vs1) G12 (fun _ _ => False) J12 (still1 n12) st12 go1) fun r s13 ⟨u1, hr, h13⟩ => ?_
            subst hr
            refine thnF h13 fun _ s14 ⟨x1, G14, J14, r14, y14, st14, n14⟩ => ?_
            have J14' := J14.pinned (still1 n14) (T1.obj _ _ st14)
            refine thnF (pg1.run _ s14 (wipe σ8 vs1) G14 x1 u1 _ J14' r14 (step1 x1 G14 y14)) fun _ s15 ⟨σ15, G15, J15, hw15, q15⟩ => ?_
            refine thnF (pt1.run _ s15 σ15 G15 _ J15 q15) fun b1 s16 ⟨G16, J16, q16⟩ => ?_
            have fin1 : ∀ {s' : Shared} {G' : Hp}, Inv (X.blk s3 G3 scope ce fp) (([] ++ pinsAt fp s7.heap) ++ pinsAt fp1 s14.heap) σ15 G' s' → Nx1 G' →
                ∃ m, m < k ∧ ∃ j G', Inv (X.blk s3 G3 scope ce fp) ([] ++ pinsAt fp s7.heap) (wipe σ8 vs1) G' s' ∧ tn1 j s'.heap ∧ (∀ b ∈ fp1, G' b = none) ∧ W1 j m G' := fun {s' G'} J' nx => by
              obtain ⟨m', hm, w'⟩ := hNx1 G' nx
              have pin' : ∀ b ∈ fp1, ∀ o, s14.heap.get? b = some o → s'.heap.get? b = some o ∧ G' b = none := fun b hb o e => by
                have z := J'.pin (b, o) (List.mem_append_right _ (List.mem_append_right _ (mem_pinsAt hb e)))
                exact ⟨z.1, z.2.1⟩
              refine ⟨m', hm, j + 1, G', J'.unpinned.weak (by rw [← hw15, wipe_length]) (fun j v e => by rw [← hw15] at e; exact (wipe_some e).1), T1.keep _ _ _ st14 fun b hb o e => (pin' b hb o e).1, fun b hb => ?_, w'⟩
              obtain ⟨o, e, _⟩ := T1.obj _ _ st14 b hb
              exact (pin' b hb o e).2
            match b1, q16 with
            | false, q16 => exact fin1 J16 q16
            | true, q16 =>
              refine thnF (pe.run _ s16 σ15 G16 _ J16 q16) fun z s17 ⟨yv, G17, J17, r17, cb, S0, n0, ey, hD17, hz17, nx⟩ => ?_
              subst ey
              exact addT (X := X.blk s3 G3 scope ce fp) J17 hD17 r17 hz17 fun s18 J18 => fin1 J18 nx
        exact sc2_start (.inr rfl) inner (T1.self X.A 0 _ _ _ st11 inner)
  exact sc2_start (.inl rfl) loop (T.self X.A 0 _ _ _ st4 loop)
/-- {e for a in xs for b in ys} -/
theorem pe_sc2 {el tg iter tg1 iter1 : Expr} {qa qb : List Expr} {scope : Scope} {own : List (Str × Nat)} {vs1 : List Nat} {ps : Pos} {wi wi1 : TI} {g g1 : TG} {tt tt1 : TT} {te : TE} (hc : X.calm = true) (hN : X.N.Nodup) (hi : PI X tg iter wi) (ok : BlkOk X.N X.env.scope scope own) (hv : ∀ i ∈ vs1, i ∈ own.map (·.2))
    (hg : InBlk X scope fun B => PG B tg g) (ht : InBlk X scope fun B => PTs B qa tt) (hi1 : InBlk X scope fun B => PI B tg1 iter1 wi1) (hg1 : InBlk X scope fun B => PG B tg1 g1) (ht1 : InBlk X scope fun B => PTs B qb tt1) (he : InBlk X scope fun B => PE B el te)
    (hs : ∀ x, foldedSetIterable iter X.env x = pure x := by intro _; rfl) (hs1 : ∀ env x, foldedSetIterable iter1 env x = pure x := by intro _ _; rfl) :
    PE X (.SetComp el [⟨tg, iter, qa, 0⟩, ⟨tg1, iter1, qb, 0⟩] scope ps) (tSc2 X.prog X.w wi g tt wi1 g1 tt1 te (own.map (·.2)) vs1) := by
  refine ⟨fun pins s σ G0 Q J0 h => ?_⟩
  rw [eval_SetComp]
  refine sc2_core hc hN J0 hi ok hv hg ht hi1 hg1 ht1 he hs hs1 h fun D C s' m G' J' q hn f => ⟨m, hn, fun h'' sb => ?_⟩
  obtain ⟨f0, f1, f2, f3, f4, f5⟩ := f
  exact ⟨.ref D, G', J'.turned (t' := s'.toks) (fun b o hb e => (sb.2 b hb).trans e) f0 f1 f3 f4 f5, rfl, q⟩
end
end Jo

set_option Elab.async false
set_option linter.all false
set_option maxRecDepth 100000
set_option maxHeartbeats 4000000
/-! set(a list of texts): a set that can be walked. -/
namespace Jo
open PySem PySem.Spec PyProof.Rows L2 PpSet
/-- the members of a set are those of a list, and no more than it has items -/
def Of {κ : Type} (S : κ → Bool) (n : Nat) (xs : List κ) : Prop := (∀ k, S k = true ↔ k ∈ xs) ∧ n ≤ xs.length
theorem Of.nil {κ : Type} : Of (fun _ : κ => false) 0 [] := ⟨fun k => by simp, Nat.le_refl _⟩
theorem Of.put {κ : Type} [DecidableEq κ] {S : κ → Bool} {n : Nat} {xs : List κ} (h : Of S n xs) (k : κ) : Of (fun j => S j || decide (j = k)) (if S k = true then n else n + 1) (xs ++ [k]) := by
  refine ⟨fun j => ?_, ?_⟩
  · rw [Bool.or_eq_true, h.1 j, decide_eq_true_eq, List.mem_append, List.mem_singleton]
  · have := h.2
    rw [List.length_append, List.length_singleton]
    split <;> omega
theorem strs_at : ∀ {vs : List Value} {xs : List Str}, StrsAre vs xs → ∀ {i : Nat} {v : Value}, vs[i]? = some v → ∃ x t, xs[i]? = some x ∧ v = Value.str x t
  | _, _, .nil, i, v, h => by simp at h
  | _, _, .cons x t hr, 0, v, h => ⟨x, t, rfl, (Option.some.inj h).symm⟩
  | _, _, .cons x t hr, i + 1, v, h => strs_at hr (i := i) h
section
variable {κ : Type} [DecidableEq κ] {P : Program} {w : World} {kd : PySem.KeyKind P w κ} {A : Around} {R : Result → Shared → Prop} {s : Shared}
theorem fillW {I : Addr} {fp wr : List Addr} {G : Array GenState → Array GenState → Prop} {n : Nat} {Pv : Nat → Value → Prop} {St : Nat → Shared → Prop} (W : PySem.WalksS P w A.in1 I fp wr G n Pv St) (D : Addr) (hD : D ∉ fp) (xs : List κ) (hn : xs.length = n)
    (hv : ∀ i v, Pv i v → ∃ k, xs[i]? = some k ∧ kd.is k v = true ∧ v.scannable = true) (hb : n + 1 < scanBound) :
    ∀ (d i : Nat) (s : Shared), n - i = d → i ≤ n → St i s → (∃ S m, SetW kd s.heap D S m ∧ Of S m (xs.take i)) →
      (∀ s', Moved (D :: wr) G s s' → (∃ S m, SetW kd s'.heap D S m ∧ Of S m xs) → R (.ok (.ret .none)) s') → codeAny (model P w) A (.builtin "set.update.loop" ⟨[.ref D, .ref I], []⟩) R s := by
  have nw : D ∉ wr := fun z => hD (W.sub _ z)
  have sub : ∀ b ∈ wr, b ∈ D :: wr := fun b hb => List.mem_cons_of_mem _ hb
  intro d
  induction d with
  | zero =>
    intro i s hd hi st hS fin
    obtain rfl : i = n := by omega
    refine codeAny_builtin PyProof.Rows.F.entry_set_update_loop ?_
    rw [Around.under_plainId PyProof.Rows.F.plain_set_update_loop _]
    show wpAny _ A.in1 (pyNext (.ref I) >>= _) _ _ s
    refine wpAny_bind (W.done s _ _ st fun s' mv => ?_)
    show wpAny _ A.in1 (ret Value.none) _ _ s'
    obtain ⟨S, m, r, o⟩ := hS
    rw [List.take_of_length_le (Nat.le_of_eq hn)] at o
    exact wpAny_pure (fin s' (mv.mono sub) ⟨S, m, r.keep fun u e => mv.heap D u nw e, o⟩)
  | succ d ih =>
    intro i s hd hi st hS fin
    have lt : i < n := by omega
    refine codeAny_builtin PyProof.Rows.F.entry_set_update_loop ?_
    rw [Around.under_plainId PyProof.Rows.F.plain_set_update_loop _]
    show wpAny _ A.in1 (pyNext (.ref I) >>= _) _ _ s
    refine wpAny_bind (W.item i s _ _ lt st fun v s' pv st' mv => ?_)
    obtain ⟨k, hk, ki, ks⟩ := hv i v pv
    obtain ⟨S, m, r, o⟩ := hS
    have r' : SetW kd s'.heap D S m := r.keep fun u e => mv.heap D u nw e
    show wpAny _ A.in1 (holding [v] (setAdd D v) >>= _) _ _ s'
    refine wpAny_bind (wpAny_holding ?_)
    unfold setAdd
    refine wpAny_holding (wpAny_bind (kd.pyHash ki ?_))
    have room : m + 1 < scanBound := by
      have := o.2
      rw [List.length_take] at this
      omega
    refine addW_hashed (s := { s' with toks := s'.toks + 1 }) ki ks r' room fun h' sb r2 => ?_
    have o2 := o.put k
    have e2 : xs.take i ++ [k] = xs.take (i + 1) := by
      rw [List.take_succ, hk]
      rfl
    rw [e2] at o2
    have far : ∀ b ∈ fp, b ≠ D := fun b hb z => hD (by rw [← z]; exact hb)
    refine wpAny_pure ⟨plainId_quiet PyProof.Rows.F.plain_set_update_loop _, ih (i + 1) _ (by omega) lt (W.frame _ s' _ _ st' (Nat.le_succ _) fun b hb u e => (sb.2 b (far b hb)).trans e) ⟨_, _, r2, o2⟩ fun s'' mv2 z => ?_⟩
    refine fin s'' (Moved.trans W.gtrans ((mv.mono sub).then_heap (Nat.le_succ _) fun b u hb e => ?_) mv2) z
    exact (sb.2 b fun q => hb (by rw [q]; exact List.mem_cons_self)).trans e
end
section
variable {P : Program} {w : World} {A : Around} {E : Value → Shared → Prop} {s : Shared}
/-- a fresh set's object -/
abbrev freshO (w : World) : Obj := { cls := .type "set", dict := none, data := .set #[] 0 (.fresh 0 0 (!w.params.followText "set-order")) }
theorem madeW (a : Value) {Q1 : Value → Shared → Prop} (h : Q1 (.ref s.heap.objs.size) { s with heap := s.heap.push (freshO w) }) :
    codeAny (model P w) A (.call (.builtin "set.__new__") ⟨[.type "set", a], []⟩) (wants Q1 E) s := by
  refine codeAny_of_tree ?_
  show wpAny _ A.in1 (do checkBuiltinCall "set.__new__" ⟨[.type "set", a], []⟩; again (.builtin "set.__new__" ⟨[.type "set", a], []⟩)) _ _ s
  refine wpAny_bind (wpAny_of_eq (PySem.F.newCall_set_1 a) (wpAny_pure ⟨plainId_quiet PySem.F.plain_set_new _, codeAny_builtin PySem.F.entry_set_new ?_⟩))
  rw [Around.under_plainId PySem.F.plain_set_new _]
  unfold Builtin.«set.__new__» Builtin.Frozenset.newClass
  have own := PySem.sub_set_self
  cases s with
  | mk hp g d tk os =>
    dsimp only
    wp_walk
    refine wpAny_askSetting (wpAny_pure ?_)
    dsimp only
    rw [newObj]
    exact wpAny_bind (wpAny_alloc (wpAny_pure (wpAny_pure h)))
/-- set(xs) of texts -/
theorem setW_list {l : Addr} {items : Array Value} {xs : List Str} {Q : Value → Shared → Prop} (hh : A.handled = none) (hl : s.heap.IsList l items) (hi : StrsAre items.toList xs) (hb : items.size + 1 < scanBound)
    (h : ∀ (h' : Heap) (tk : Nat), (∃ S m, SetW (PySem.strKind P w) h' s.heap.objs.size S m ∧ Of S m xs) → (∀ b o, b < s.heap.objs.size → s.heap.get? b = some o → h'.get? b = some o) → Q (.ref s.heap.objs.size) { s with heap := h', toks := tk }) :
    wpAny (model P w) A (call (.type "set") [.ref l]) Q E s := by
  obtain ⟨c, tl, m1⟩ := PySem.F.called_set.mro
  have m2 := PySem.F.called_set.made
  have m3 := PySem.F.called_set.sub
  refine wpAny_call (codeAny_of_tree ?_)
  show wpAny _ _ (callAny (.type "set") _) _ _ _
  refine wpAny_pure ⟨Code.quiet_builtin _ (by decide +kernel), codeAny_builtin PySem.F.entry_type_call ?_⟩
  rw [Around.under_plain (weight_type_call_type "set" [.ref l] []) rfl]
  have m4 := PySem.F.called_set.notType
  have m5 := PySem.F.called_set.canCreate
  have m6 := PySem.F.typeCall_set_1 (.ref l)
  repeat (any_goals (first | assumption | wp_step))
  refine codeAny_mono (madeW (.ref l) (E := E) (Q1 := fun u s1 => u = .ref s.heap.objs.size ∧ s1 = { s with heap := s.heap.push (freshO w) }) ⟨rfl, rfl⟩) fun r s1 hr => ?_
  match r, hr with
  | .error e, hr => exact hr
  | .ok .next, hr => exact hr.elim
  | .ok .brk, hr => exact hr.elim
  | .ok .cont, hr => exact hr.elim
  | .ok (.ret u), hr =>
    obtain ⟨e1, e2⟩ := hr
    subst e1 e2
    have at0 : (s.heap.push (freshO w)).get? s.heap.objs.size = some (freshO w) := Heap.get?_push_size _ rfl
    have ty : Shared.TypeIs { s with heap := s.heap.push (freshO w) } (.ref s.heap.objs.size) "set" := ⟨_, at0, rfl⟩
    have m7 := PySem.F.called_set.init.lookup
    have m8 := PySem.F.called_set.init.bind (.ref s.heap.objs.size)
    repeat (any_goals (first | assumption | wp_step))
    refine codeAny_mono (codeAny_call_builtin (R := wants (fun r s2 => r = .none ∧ ∃ h' tk, s2 = { s with heap := h', toks := tk } ∧ (∃ S m, SetW (PySem.strKind P w) h' s.heap.objs.size S m ∧ Of S m xs) ∧
        (∀ b o, b < s.heap.objs.size → s.heap.get? b = some o → h'.get? b = some o)) E) PySem.F.called_set.init.plain PySem.F.entry_set_init (PySem.check_set_init_1 ty ?_)) fun r2 s2 hr2 => ?_
    · obtain ⟨⟨oc, od, odt, osl⟩, hol, hc, nl, hd⟩ := hl
      simp only at hc hd
      subst hc hd
      have n1 := PySem.F.sub_list_set
      have n2 := PySem.F.sub_list_frozenset
      have n3 : (Value.type "list" == Value.type "dict") = false := by decide
      have hol2 : (s.heap.push (freshO w)).get? l = some { cls := .type "list", dict := od, data := .seq items nl, slots := osl } := Heap.get?_push_of_some _ hol
      have lst : (s.heap.push (freshO w)).IsList l items := ⟨_, hol2, rfl, nl, rfl⟩
      unfold Builtin.«set.__init__» noKeywords Builtin.Frozenset.updateFrom
      generalize hPI : pyIter = PI
      wp_walk
      subst hPI
      refine wpAny_pyIter_list lst (wpAny_bind (wpAny_runValue ?_))
      have ll : l < s.heap.objs.size := Heap.lt_size hol
      have h3 : A.in1.in1.in1.handled = none := by simp [hh]
      have ne : l ≠ (s.heap.push (freshO w)).objs.size := by
        rw [Heap.size_push]
        exact Nat.ne_of_lt (Nat.lt_succ_of_lt ll)
      have out : s.heap.objs.size ∉ [(s.heap.push (freshO w)).objs.size, l] := by
        rw [Heap.size_push]
        intro z
        rcases List.mem_cons.mp z with z | z
        · exact Nat.ne_of_lt (Nat.lt_succ_self _) z
        · exact Nat.ne_of_gt ll (List.mem_singleton.mp z)
      have len : xs.length = items.size := by
        have z := hi.length
        rw [Array.length_toList] at z
        omega
      refine fillW (kd := PySem.strKind P w) ((Walks.list h3 _ l ne items).toS) s.heap.objs.size out xs len (fun i v hv => ?_) hb (items.size - 0) 0 _ rfl (Nat.zero_le _) ⟨⟨_, Heap.get?_push_size _ rfl, rfl, rfl⟩, (lst.push _)⟩ ⟨_, 0, (setW_new (PySem.strKind P w) s.heap).keep fun o e => Heap.get?_push_of_some _ e, by rw [List.take_zero]; exact Of.nil⟩ fun s' mv z => ?_
      · have hv2 : items.toList[i]? = some v := by rw [Array.getElem?_toList]; exact hv
        obtain ⟨x, t, e1, e2⟩ := strs_at hi hv2
        exact ⟨x, e1, by rw [e2]; exact PySem.strKind_is _ _ _ _, by rw [e2]; rfl⟩
      · obtain ⟨h', g', d', tk', os'⟩ := s'
        have eg : g' = s.gens := mv.gens
        have ed : d' = s.drawn := mv.drawn
        have eo : os' = s.os := mv.os
        subst eg ed eo
        refine wpAny_pure (wpAny_pure ⟨rfl, h', tk', rfl, z, fun b o hb e => ?_⟩)
        refine mv.heap b o (fun q => ?_) (Heap.get?_push_of_some _ (Heap.get?_push_of_some _ e))
        rcases List.mem_cons.mp q with q | q
        · exact Nat.ne_of_lt hb q
        · have q2 := List.mem_singleton.mp q
          rw [Heap.size_push] at q2
          exact Nat.ne_of_lt (Nat.lt_succ_of_lt hb) q2
    · match r2, hr2 with
      | .error e, hr2 => exact hr2
      | .ok .next, hr2 => exact hr2.elim
      | .ok .brk, hr2 => exact hr2.elim
      | .ok .cont, hr2 => exact hr2.elim
      | .ok (.ret u), hr2 =>
        obtain ⟨e1, h', tk, e2, hS, hk⟩ := hr2
        subst e1 e2
        repeat (any_goals (first | assumption | wp_step))
        exact h _ _ hS hk
end
end Jo

set_option Elab.async false
set_option linter.all false
set_option maxRecDepth 100000
set_option maxHeartbeats 4000000
namespace Jo
open PySem PySem.Spec PyProof.Rows L2 PpSet
section
variable {X : Cx}
/-- set(a list of texts) -/
def rSetT (K : PySem.W.Frag) (P : Program) (w : World) : List V → Hp → VK → Prop := fun vs H Q => ∃ (a : Addr) (xs : List Str), vs = [.ref a] ∧ SqL K H a (xs.map V.str) ∧ xs.length < 64 ∧
  ∀ (p : Addr) S n, H p = none → Of S n xs → Q (.ref p) (upd H p (SetT P w p S n))
theorem cr_setT (hc : X.calm = true) : CallR X (.type "set") (rSetT X.K X.prog X.w) := by
  intro pins s σ H vs us Q I r h
  obtain ⟨a, xs, rfl, hl, h64, q⟩ := h
  rw [Vals.ref1 r]
  obtain ⟨its, rv, pl, hz⟩ := I.list hl
  have len : its.toArray.size = xs.length := by rw [List.size_toArray, ← rv.length, List.length_map]
  refine setW_list (xs := xs) (I.ok.hd hc) pl.isList (by simpa using strsAre_of rv) (by rw [len]; unfold scanBound; omega) fun h' tk ⟨S, m, r1, o⟩ hk => ?_
  have hn : H s.heap.objs.size = none := I.hok.fresh (Nat.le_refl _)
  exact ⟨.ref _, upd H s.heap.objs.size (SetT X.prog X.w s.heap.objs.size S m), I.laid (t' := tk) (fun b u e => hk b u (Heap.lt_size e) e) (Nat.le_refl _) (setT_ok r1), rfl, q _ S m hn o⟩
end
end Jo

set_option Elab.async false
set_option linter.all false
set_option maxRecDepth 100000
set_option maxHeartbeats 2000000
/-! str(x), repr(x), f"{x}", x == y by the class's own method, also one of a class above it; max(.., default=d). -/
namespace Jo
open PySem PySem.Spec PyProof.Rows L2
open PySem.W (AlikeAll maxD_ints max_list_default)
/-- the classes Cs have the same def as their m, and it keeps sp -/
structure Own (P : Program) (w : World) (K : PySem.W.Frag) (mg : Str → Option Value) (base : Heap) (k : Nat) (m : Str) (ps : List Str) (Cs : Addr → Prop) (sp : Sp) : Prop where
  ex : ∃ (f : Addr) (fd : FuncData), FnOk P w K mg base CX0 k f fd ps sp ∧ Binds K fd ps [] ∧ PySem.W.isFn K (.ref f) = true ∧ ∀ C, Cs C → PySem.W.findIn K (.ref C) m = some (some (.ref f))
section
variable {X : Cx} {n j k : Nat} {f : Addr} {fd : FuncData} {ps : List Str} {sp : Sp} {A : Around} {pins : List (Addr × Obj)} {σ : L2.St} {H : Hp} {s : Shared} {Q : VK} {vs : List V} {us : List Value} {E : Value → Shared → Prop}
theorem run_at (F : FnOk X.prog X.w X.K X.mg X.base CX0 n f fd ps sp) (sb : L2.Sub X n A) (hb : Binds X.K fd ps []) (I : Inv X pins σ H s) (r : Vals vs us) (h : sp vs H Q E0) : wpAny (model X.prog X.w) A (call (.ref f) us) (EP X pins σ Q) E s := by
  have e := I.env0
  have e0 : Env0 X.prog X.w X.K X.mg X.base A X.stack s H := ⟨by rw [sb.fr]; exact e.frames, e.mod, e.bs, e.bsz, e.funs, e.frf, e.hok, e.bare⟩
  have hl : us.length = ps.length := r.length.symm.trans (F.len _ _ _ _ h)
  have b := hb s us I.kIn (by simpa using hl)
  rw [List.append_nil] at b
  refine wpAny_call (codeAny_mono (F.run A X.stack s H ⟨us, []⟩ us vs Q E0 sb.room e0 b r h) fun r s' hq => ?_)
  match r, hq with
  | .error e, hq => exact (show False from hq).elim
  | .ok (.ret u), hq => exact I.after hq
  | .ok .next, hq => exact (show False from hq).elim
  | .ok .brk, hq => exact (show False from hq).elim
  | .ok .cont, hq => exact (show False from hq).elim
/-- the instance at a, seen by the machine -/
theorem inst_at (I : Inv X pins σ H s) {a C dx : Addr} {fs : List (Str × V)} (ha : H a = some (.ins C dx fs)) : ∃ od, PySem.W.InstAt s.heap a (PySem.W.instObj C dx) C (some od) := by
  obtain ⟨m, J, _⟩ := ins_get I.hok ha
  obtain ⟨od, J, _⟩ := J.look
  exact ⟨od, J⟩
end
theorem vs1 (a : Addr) : Vals [V.ref a] [Value.ref a] := .cons (show RelV (.ref a) (.ref a) from rfl) .nil
/-- the method gives a text -/
def rOwnS (Cs : Addr → Prop) (sp : Sp) : List V → Hp → VK → Prop := fun vs H Q => ∃ a C dx fs, vs = [.ref a] ∧ Cs C ∧ H a = some (.ins C dx fs) ∧ sp [.ref a] H (fun v H' => (∃ z, v = .str z) ∧ Q v H') E0
section
variable {X : Cx} {n : Nat} {m : Str} {ps : List Str} {Cs : Addr → Prop} {sp : Sp}
theorem back_str {pins : List (Addr × Obj)} {σ : L2.St} {Q : VK} {v : Value} {s' : Shared} (h : EP X pins σ (fun v H' => (∃ z, v = .str z) ∧ Q v H') v s') : PySem.W.StrBack (EP X pins σ Q) v s' := by
  obtain ⟨x, H', I, r, ⟨z, e⟩, q⟩ := h
  subst e
  obtain ⟨t, e⟩ := (show ∃ t, v = Value.str z t from r)
  subst e
  exact ⟨.str z, H', I, ⟨t, rfl⟩, q⟩
theorem cr_strO (O : Own X.prog X.w X.K X.mg X.base n "__str__" ps Cs sp) (hr : Room (n + 2) X.A) : CallR X (.type "str") (rOwnS Cs sp) := by
  intro pins s σ H vs us Q I r h
  obtain ⟨a, C, dx, fs, e, hC, ha, q⟩ := h
  subst e
  rw [Vals.ref1 r]
  obtain ⟨f, fd, F, b, hf, hm⟩ := O.ex
  obtain ⟨od, J⟩ := inst_at I ha
  have sb : L2.Sub X n X.A.in1.in1 := (L2.Sub.in1 (n := n + 1) ⟨hr, rfl⟩).in1
  exact PySem.W.kso_call sb.room.units0 I.kIn J (hm C hC) hf (wpAny_mono (run_at F sb b I (vs1 a) q) (fun _ _ z => back_str z) fun _ _ z => z)
theorem cr_reprO (O : Own X.prog X.w X.K X.mg X.base n "__repr__" ps Cs sp) (hr : Room (n + 1) X.A) : CallR X (.builtin "repr") (rOwnS Cs sp) := by
  intro pins s σ H vs us Q I r h
  obtain ⟨a, C, dx, fs, e, hC, ha, q⟩ := h
  subst e
  rw [Vals.ref1 r]
  obtain ⟨f, fd, F, b, hf, hm⟩ := O.ex
  obtain ⟨od, J⟩ := inst_at I ha
  have sb : L2.Sub X n X.A.in1 := L2.Sub.in1 (n := n) ⟨hr, rfl⟩
  obtain ⟨m2, hF⟩ := I.fr
  exact PySem.W.repr_K sb.room.units0 hF I.ok.mod.kin J (hm C hC) hf (wpAny_mono (run_at F sb b I (vs1 a) q) (fun _ _ z => back_str z) fun _ _ z => z)
/-- {x} of an f-string, x an instance -/
def tFmtO (Cs : Addr → Prop) (sp : Sp) (te : TE) : TE := fun σ H Q => te σ H fun x H1 => rOwnS Cs sp [x] H1 Q
theorem pe_fmtO {e : Expr} {te : TE} {pos : Pos} (he : PE X e te) (O : Own X.prog X.w X.K X.mg X.base n "__str__" ps Cs sp) (hfm : ∀ C, Cs C → PySem.W.findIn X.K (.ref C) "__format__" = some (some (.builtin "object.__format__")) ∧ PySem.W.mroIn X.K C (.type "object") = some true) (hr : Room (n + 1) X.A) :
    PE X (.FormattedValue e (-1) none pos) (tFmtO Cs sp te) := by
  refine ⟨fun pins s σ H Q I h => wpAny_FormattedValue_plain (thn (he.run pins s σ H _ I h) fun v s1 hv => ?_)⟩
  obtain ⟨x, H1, I1, r1, a, C, dx, fs, e, hC, ha, q⟩ := hv
  cases e
  cases r1
  obtain ⟨f, fd, F, b, hf, hm⟩ := O.ex
  obtain ⟨od, J⟩ := inst_at I1 ha
  have sb : L2.Sub X n X.A.in1 := L2.Sub.in1 (n := n) ⟨hr, rfl⟩
  exact PySem.W.kfo_fieldS sb.room.units0 I1.kIn J (hfm C hC).1 (hfm C hC).2 (hm C hC) hf (wpAny_mono (run_at F sb b (I1.tok _) (vs1 a) q) (fun _ _ z => back_str z) fun _ _ z => z)
/-- the type of what stands on the right of == -/
inductive RTy (H : Hp) : V → Value → Prop where
  | ins {b D dy : Addr} {gs : List (Str × V)} (h : H b = some (.ins D dy gs)) : RTy H (.ref b) (.ref D)
  | str (z : Str) : RTy H (.str z) (.type "str")
theorem rty_looks {pins : List (Addr × Obj)} {σ : L2.St} {H : Hp} {s : Shared} {y : V} {u t : Value} (I : Inv X pins σ H s) (r : RelV y u) (h : RTy H y t) : PySem.W.Looks (model X.prog X.w) s.heap (typeOf u) t := by
  cases h with
  | @ins b D dy gs h =>
    obtain rfl : u = Value.ref b := r
    obtain ⟨od, J⟩ := inst_at I h
    exact J.type
  | str z =>
    obtain ⟨k, e⟩ := (show ∃ k, u = Value.str z k from r)
    subst e
    exact PySem.W.Looks.of_pure rfl
/-- x == y by x's own __eq__ -/
def rEqO (K : PySem.W.Frag) (Cs : Addr → Prop) (sp : Sp) : R2 := fun x y H Q => ∃ a C dx fs t, x = .ref a ∧ Cs C ∧ H a = some (.ins C dx fs) ∧ RTy H y t ∧ PySem.W.notFirst K C t = true ∧ sp [x, y] H (fun v H' => (∃ b, v = .bl b) ∧ Q v H') E0
theorem op_eqO (O : Own X.prog X.w X.K X.mg X.base n "__eq__" ps Cs sp) (hr : Room n X.A) : OpR X (compareOp .Eq) (rEqO X.K Cs sp) := by
  intro pins s σ H x y v u Q I rx ry h
  obtain ⟨a, C, dx, fs, t, e, hC, ha, ty, nf, q⟩ := h
  subst e
  obtain rfl : v = Value.ref a := rx
  obtain ⟨f, fd, F, b, hf, hm⟩ := O.ex
  obtain ⟨od, J⟩ := inst_at I ha
  obtain ⟨m2, hF⟩ := I.fr
  refine PySem.W.cmp_K (op := .Eq) hr.units0 hF I.ok.mod.kin J (rty_looks I ry ty) nf (hm C hC) hf (wpAny_mono (run_at F ⟨hr, rfl⟩ b I (.cons (show RelV (.ref a) (.ref a) from rfl) (.cons ry .nil)) q) (fun w s' z => ?_) fun _ _ z => z)
  obtain ⟨x, H', I', r, ⟨bb, e⟩, q'⟩ := z
  subst e
  cases (show w = Value.bool bb from r)
  exact ⟨.bl bb, H', I', rfl, q'⟩
/-- max(xs, default=d) -/
def rMaxD (K : PySem.W.Frag) : List V → List V → Hp → VK → Prop := fun vs zs H Q => ∃ a ns d, vs = [.ref a] ∧ zs = [.int d] ∧ SqL K H a (ns.map V.int) ∧ (ns = [] → Q (.int d) H) ∧ ∀ n r, ns = n :: r → Q (.int (r.foldl max n)) H
theorem reads_ints {h : Heap} : ∀ {us : List Value} {ns : List Int}, IntsAre us ns → ∃ as, ReadsAll h us (ns.map PyData.int) as
  | _, _, .nil => ⟨_, .nil⟩
  | _, _, .cons n t r => by
    obtain ⟨as, q⟩ := reads_ints (h := h) r
    exact ⟨_, .cons (.int n t) q⟩
theorem alike_ints (ns : List Int) : AlikeAll (ns.map PyData.int) := by
  refine ⟨fun x hx y hy => ?_, fun x hx => ?_⟩
  · obtain ⟨i, _, e⟩ := List.mem_map.mp hx
    obtain ⟨j, _, e2⟩ := List.mem_map.mp hy
    subst e e2
    rfl
  · obtain ⟨i, _, e⟩ := List.mem_map.mp hx
    subst e
    exact fun z => nomatch z
theorem depth_ints : ∀ ns : List Int, PyData.depthAll (ns.map PyData.int) = 0
  | [] => rfl
  | n :: r => by
    show max 0 (PyData.depthAll (r.map PyData.int)) = 0
    rw [depth_ints r]
    rfl
theorem cr_maxD (hc : X.calm = true) (hr : Room 1 X.A) : CallRK X (.builtin "max") [Str.ofString "default"] (rMaxD X.K) := by
  intro pins s σ H vs zs us ws Q I r rz h
  obtain ⟨a, ns, d, e, e2, hl, h0, h1⟩ := h
  subst e e2
  rw [Vals.ref1 r]
  obtain ⟨its, rv, pl, hz⟩ := I.list hl
  cases rz with
  | cons r1 r2 =>
    cases r2
    obtain ⟨as, ra⟩ := reads_ints (h := s.heap) rv.ints
    refine max_list_default (I.ok.hd hc) pl.isList (by simpa using ra) (alike_ints ns) (by rw [depth_ints]; have := hr.units; omega) (fun e h' tk k => ?_) fun y ys i v h' tk bs e hv rd k => ?_
    · exact ⟨.int d, H, I.kept k, r1, h0 (List.map_eq_nil_iff.mp e)⟩
    · match ns, e, h1 with
      | m :: l, e, h1 =>
        rw [List.map_cons] at e
        injection e with e1 e2
        subst e1 e2
        rw [maxD_ints] at rd
        have ev : ∃ t, v = .int (l.foldl max m) t := by
          cases rd
          exact ⟨_, rfl⟩
        exact ⟨.int (l.foldl max m), H, I.kept k, ev, h1 m l rfl⟩
end
end Jo

set_option Elab.async false
set_option linter.all false
set_option maxRecDepth 100000
/-! C(a=.., b=..), the parameters by name in their own order. -/
namespace Jo
open PySem PySem.Spec PyProof.Rows L2
structure MthI (K : PySem.W.Frag) (C : Addr) (m qual : Str) (st : Stmt) (ps : List Str) : Prop where
  ex : ∃ (f : Addr) (fd : FuncData), Fun K m qual st f fd ∧ Meth K C m f ∧ ∀ (s : Shared) (u : Value) (us : List Value), (u :: us).length = ps.length → BindsTo s fd ⟨[u], (ps.drop 1).zip us⟩ (ps.zip (u :: us))
structure MtI (P : Program) (w : World) (K : PySem.W.Frag) (mg : Str → Option Value) (base : Heap) (k : Nat) (C : Addr) (m : Str) (ps : List Str) (sp : Sp) : Prop where
  ex : ∃ (f : Addr) (fd : FuncData), FnOk P w K mg base CX0 k f fd ps sp ∧ Meth K C m f ∧ ∀ (s : Shared) (u : Value) (us : List Value), (u :: us).length = ps.length → BindsTo s fd ⟨[u], (ps.drop 1).zip us⟩ (ps.zip (u :: us))
section
variable {P : Program} {w : World} {K : PySem.W.Frag} {mg : Str → Option Value} {base : Heap} {m qual : Str} {st : Stmt} {N ps : List Str} {sp : Sp} {k : Nat} {C : Addr}
theorem MthI.okF (D : MthI K C m qual st ps) (S : FnScope N ps (defScope st)) (len : ∀ vs H Q E, sp vs H Q E → vs.length = ps.length)
    (body : ∀ (f : Addr) (cdv : Value) (A : Around) (fr : List Env) (s : Shared) (H : Hp) (vs : List V) (Q : VK) (E : XK),
      Room k (A.deeper (envOfC qual (defScope st) s.heap.objs.size f cdv)) → sp vs H Q E →
      ∃ t, PSs (cxOf CX0 P w K mg base N qual (defScope st) f cdv A fr s H E).nox (defBody st) t ∧ t { nx := fun _ H' => Q .non H', rt := Q } (start N vs) H) :
    MtI P w K mg base (k + 1) C m ps sp := by
  obtain ⟨f, fd, F, hm, hk⟩ := D.ex
  exact ⟨f, fd, F.ok S len (body f), hm, hk⟩
end
section
variable {X : Cx} {j k : Nat} {ps : List Str} {sp : Sp} {x : Str} {p pos : Pos} {kws : List Keyword} {t : TA} {C : Addr}
theorem pe_mkI {fi : Addr} (M : Mk X.K C fi) (c : MtI X.prog X.w X.K X.mg X.base k C "__init__" ps sp) (hr : Room j X.A) (hk : k + 1 ≤ j) (hg : Gl X x) (hm : X.mg x = some (.ref C)) {n : Nat} (hn : ps.length = n + 1)
    (hkw : PK X kws t) (hall : (backToKw pos (keywordEach kws X.env)).all (·.1.isSome) = true := by rfl)
    (hks : (backToKw pos (keywordEach kws X.env)).filterMap (·.1) = ps.drop 1 := by rfl)
    (hdb : (x == ("__debug__" : Str)) = false := by decide)
    (hpl : ((backTo pos (starEach [] X.env)).any (·.1) || (backToKw pos (keywordEach kws X.env)).any (·.1.isNone)) = false := by rfl) :
    PE X (.Call (.Name x p) [] kws pos) (tMakeK C 0 (ps.drop 1).length sp (fun vs zs => vs ++ zs) E0 tNil t) := by
  obtain ⟨f, fd, F, mt, b⟩ := c.ex
  have ef : fi = f := by
    have e1 := M.init.symm.trans mt.at_
    cases e1
    rfl
  subst ef
  refine pe_makeK0 (g := fun us ws => us ++ ws) M F (hr.mono hk) hg hm ⟨fun s us ws X l1 l2 => ?_, fun r1 r2 => r1.append r2⟩ pass0 hkw hall hks hdb hpl
  match us, l1 with
  | [u], _ =>
    refine b s u ws ?_
    rw [List.length_drop] at l2
    rw [List.length_cons]
    omega
end
end Jo

set_option Elab.async false
set_option linter.all false
set_option maxRecDepth 100000
set_option maxHeartbeats 1000000
namespace Jo
open PySem PySem.Spec PyProof.Rows L2
/-! ### a comprehension whose items are reckoned from the turn, the heap staying -/
theorem lc_fun {J : It} {n : Nat} {Y : Nat → Hp → V → Hp → Prop} (w : Walk J n (fun _ => True) Y) {g : TG} {te : TE} {vs : List Nat} {σ : L2.St}
    {H1 : Hp} {D : Addr} {Qd : Hp → Prop} (f : Nat → V) (hn : n < sizeLine)
    (hs : ∀ (i : Nat) (x : V) (H H' : Hp) (Q : VK), i < n → Y i H x H' → Q (f i) H →
      g x (wipe σ vs) H' fun σ2 H2 => wipe σ2 vs = wipe σ vs ∧ te σ2 H2 Q)
    (hd : Qd (upd H1 D (.lst ((List.range n).map f)))) :
    ∃ W : Nat → Nat → Hp → Prop, (∃ m, W 0 m (upd H1 D (.lst []))) ∧ ∀ i m H, W i m H →
      (J.stop i H ∧ Qd H) ∨ (J.go i H ∧ ∃ Nx : Hp → Prop, (∀ H', Nx H' → ∃ m', m' < m ∧ W (i + 1) m' H') ∧
        ∀ x H', J.yld i H x H' → g x (wipe σ vs) H' fun σ2 H2 => wipe σ2 vs = wipe σ vs ∧ tYes σ2 H2 fun b H3 =>
          if b = true then te σ2 H3 fun y H4 => ∃ acc, H4 D = some (.lst acc) ∧ acc.length < sizeLine ∧ Nx (upd H4 D (.lst (acc ++ [y]))) else Nx H3) := by
  refine lc_it w (fun i H => i ≤ n ∧ H = upd H1 D (.lst ((List.range i).map f))) ⟨Nat.zero_le _, rfl⟩ (fun _ _ _ _ => trivial) (fun i x H H' hi hp hy => ?_) (fun H hp => ?_)
  · obtain ⟨_, rfl⟩ := hp
    refine hs i x _ H' (fun y H4 => ∃ acc, H4 D = some (.lst acc) ∧ acc.length < sizeLine ∧ (i + 1 ≤ n ∧ upd H4 D (.lst (acc ++ [y])) = upd H1 D (.lst ((List.range (i + 1)).map f)))) hi hy ?_
    refine ⟨_, upd_same, ?_, hi, ?_⟩
    · rw [List.length_map, List.length_range]
      exact Nat.lt_trans hi hn
    · rw [List.range_succ, List.map_append]
      funext b
      by_cases hb : b = D
      · subst hb
        rw [upd_same, upd_same]
        rfl
      · rw [upd_ne hb, upd_ne hb, upd_ne hb]
  · rw [hp.2]
    exact hd

def isI : V → Bool | .int _ => true | _ => false
def isS : V → Bool | .str _ => true | _ => false
def nmS (z : Str) : Bool := (decide (1 ≤ (z.length : Int)) && decide ((z.length : Int) ≤ 8)) &&
  (decide (z.cps.getD 0 0 ∈ letters.cps.toList) && ((List.range z.cps.size).map fun i => decide (z.cps.getD i 0 ∈ signs.cps.toList)).all id)
def isNm : V → Bool | .str z => nmS z | _ => false
/-- a value of any of the built-in kinds, as isinstance sees it -/
def AnyV (K : PySem.W.Frag) (H : Hp) (x : V) : Prop := ∃ (t : Value) (i b s : Bool), TyX K H x t ∧ PySem.W.kitOne K t (.type "int") = some i ∧
  PySem.W.kitOne K t (.type "bool") = some b ∧ PySem.W.kitOne K t (.type "str") = some s ∧ (i && !b) = isI x ∧ s = isS x
section
variable {K : PySem.W.Frag} {H : Hp}
theorem any_int (n : Int) : AnyV K H (.int n) := ⟨_, true, false, false, .base (.int n), kit_ty (by decide +kernel), kit_ty (by decide +kernel), kit_ty (by decide +kernel), rfl, rfl⟩
theorem any_str (z : Str) : AnyV K H (.str z) := ⟨_, false, false, true, .base (.str z), kit_ty (by decide +kernel), kit_ty (by decide +kernel), kit_ty (by decide +kernel), rfl, rfl⟩
theorem any_bl (z : Bool) : AnyV K H (.bl z) := ⟨_, true, true, false, .base (.bl z), kit_ty (by decide +kernel), kit_ty (by decide +kernel), kit_ty (by decide +kernel), rfl, rfl⟩
theorem any_non : AnyV K H .non := ⟨_, false, false, false, .base .non, kit_ty (by decide +kernel), kit_ty (by decide +kernel), kit_ty (by decide +kernel), rfl, rfl⟩
theorem any_lst {a : Addr} {xs : List V} (e : H a = some (.lst xs)) : AnyV K H (.ref a) := ⟨_, false, false, false, .base (.lst e), kit_ty (by decide +kernel), kit_ty (by decide +kernel), kit_ty (by decide +kernel), rfl, rfl⟩
theorem any_tup {a : Addr} {xs : List V} (e : H a = some (.tup xs)) : AnyV K H (.ref a) := ⟨_, false, false, false, .base (.tup e), kit_ty (by decide +kernel), kit_ty (by decide +kernel), kit_ty (by decide +kernel), rfl, rfl⟩
theorem any_dK {a : Addr} {kvs : List (Key × V)} (e : H a = some (.dK kvs)) : AnyV K H (.ref a) := ⟨_, false, false, false, .base (.dK e), kit_ty (by decide +kernel), kit_ty (by decide +kernel), kit_ty (by decide +kernel), rfl, rfl⟩
end

section
variable {P : Program} {w : World} {K : PySem.W.Frag} {mg : Str → Option Value} {base : Heap}
/-! ### is_integer, is_size, is_name -/
def n_is_integer : List Str := ["value"]
theorem sc_is_integer : FnScope n_is_integer ["value"] (defScope s_is_integer) := ⟨rfl, rfl, rfl, by decide +kernel, rfl, by decide +kernel, by decide +kernel⟩
def spIsInt (K : PySem.W.Frag) : Sp := fun vs H Q _ => ∃ x, vs = [x] ∧ AnyV K H x ∧ Q (.bl (isI x)) H
theorem ok_is_integer (T : Txt mg) (D : Dfn K mg "is_integer" s_is_integer ["value"]) : CalF P w K mg base 1 "is_integer" ["value"] (spIsInt K) := by
  refine D.okF sc_is_integer (fun vs H Q E h => ?_) (fun f cdv A fr s H vs Q E hr h => ?_)
  · obtain ⟨x, rfl, _⟩ := h
    rfl
  · obtain ⟨x, rfl, ⟨t, i, b, z, ht, hi, hb, _, e, _⟩, q⟩ := h
    refine ⟨_, pss_one (ps_ret (pe_and (pe_callB call_isi rfl T.b_isinstance (by decide +kernel) (pa_cons (pv 0) (pa_cons (pe_bltn (v := .ty "int") (u := .type "int") rfl T.b_int (by decide +kernel) rfl) pa_nil))) (pe_one (pe_not (pe_callB call_isi rfl T.b_isinstance (by decide +kernel) (pa_cons (pv 0) (pa_cons (pe_bltn (v := .ty "bool") (u := .type "bool") rfl T.b_bool (by decide +kernel) rfl) pa_nil))))))), ?_⟩
    refine ⟨x, rfl, x, _, t, _, i, rfl, .ty "int", ht, hi, i, rfl, ?_⟩
    cases i with
    | false =>
      refine iteF ?_
      rw [← e] at q
      exact q
    | true =>
      refine iteT ⟨x, rfl, x, _, t, _, b, rfl, .ty "bool", ht, hb, b, rfl, ?_⟩
      rw [← e] at q
      exact q
def n_is_name : List Str := ["value", "sign"]
theorem sc_is_name : FnScope n_is_name ["value"] (defScope s_is_name) := ⟨rfl, rfl, rfl, by decide +kernel, rfl, by decide +kernel, by decide +kernel⟩
def spIsName (K : PySem.W.Frag) : Sp := fun vs H Q _ => ∃ x, vs = [x] ∧ AnyV K H x ∧ (∀ z, x = .str z → z.length ≤ 1000) ∧ ∀ H', Same H H' → Q (.bl (isNm x)) H'
theorem same_new {H : Hp} {p : Addr} {o : HO} (h : H p = none) : Same H (upd H p o) := fun b x e => by
  rw [upd_ne (ne_of_none e h)]
  exact e
theorem len_cps (z : Str) : z.length = z.cps.size := by simp [Str.length]
theorem cps_get {z : Str} {i c : Nat} (h : z.cps[i]? = some c) : z.cps.getD i 0 = c := by simp [Array.getD_eq_getD_getElem?, h]
theorem ok_is_name (T : Txt mg) (D : Dfn K mg "is_name" s_is_name ["value"]) : CalF P w K mg base 1 "is_name" ["value"] (spIsName K) := by
  refine D.okF sc_is_name (fun vs H Q E h => ?_) (fun f cdv A fr s H vs Q E hr h => ?_)
  · obtain ⟨x, rfl, _⟩ := h
    rfl
  · obtain ⟨x, rfl, ⟨t, i, b, z, ht, _, _, hz, _, e⟩, hlen, q⟩ := h
    refine ⟨_, pss_cons (ps_if (PW.pt (pw_or (pt_not (pt_val (pe_callB call_isi rfl T.b_isinstance (by decide +kernel) (pa_cons (pv 0) (pa_cons (pe_bltn (v := .ty "str") (u := .type "str") rfl T.b_str (by decide +kernel) rfl) pa_nil))))) (pw_or1 (pt_not (pt_chain op_le op_le pe_int (pe_callB call_len rfl T.b_len (by decide +kernel) (pa_cons (pv 0) pa_nil)) (C8.pe_gc rfl T.g_LONGEST_NAME))))))
        (pss_one (ps_ret pe_bl))
        (pss_nil))
      (pss_one (ps_ret (pe_and (pe_cmpR op_in_sign (pe_item_str (pv 0) pe_int (fun _ _ => rfl)) (C8.pe_gc rfl T.g_LETTERS) rfl) (pe_one (pe_callB (cr_all rfl) rfl T.b_all (by decide +kernel) (pa_cons (pe_lc (own := [("sign", 1)]) (g := gName 1) (tt := tYes) rfl sc_is_name.nd (pi_str (pv 0)) (blkOk_by (N := n_is_name) (sc := defScope s_is_name) (by decide +kernel)) (fun _ _ _ _ _ => pg_name (i := 1) sc_is_name.nd rfl (Or.inl rfl)) (fun _ _ _ _ _ => pts_nil) (fun _ _ _ _ _ => (pe_cmpR op_in_sign (pv 1) (C8.pe_gc rfl T.g_SIGNS) rfl))) pa_nil)))))), ?_⟩
    refine ⟨x, rfl, x, _, t, _, z, rfl, .ty "str", ht, hz, z, rfl, ?_⟩
    subst e
    cases x with
    | str y =>
      have hl := hlen y rfl
      have q' : ∀ H', Same H H' → Q (.bl (nmS y)) H' := q
      refine iteF ⟨_, rfl, .str y, y.length, rfl, ⟨Nat.le_trans hl (by decide), rfl⟩, _, _, rfl, rfl, _, rfl, ?_⟩
      by_cases h1 : (1 : Int) ≤ (y.length : Int)
      · rw [decide_eq_true h1]
        refine iteT ⟨_, _, rfl, rfl, _, rfl, ?_⟩
        by_cases h2 : (y.length : Int) ≤ 8
        · rw [decide_eq_true h2]
          refine iteF ?_
          have h0 : 0 < y.cps.size := by rw [← len_cps]; omega
          have c0 : y.cps[0]? = some (y.cps.getD 0 0) := by simp [Array.getD_eq_getD_getElem?, h0]
          refine ⟨_, rfl, y, 0, y.cps.getD 0 0, rfl, rfl, by decide, by decide, by omega, c0, _, letters, rfl, rfl, _, rfl, ?_⟩
          by_cases h3 : y.cps.getD 0 0 ∈ letters.cps.toList
          · rw [decide_eq_true h3]
            refine iteT ⟨_, rfl, y, rfl, fun Dl hD => lc_fun walk_str (fun i => .bl (decide (y.cps.getD i 0 ∈ signs.cps.toList))) (by rw [← len_cps]; exact Nat.lt_of_le_of_lt hl (by decide)) (fun i x H0 H0' Q0 hi hy hq => ?_) ?_⟩
            · obtain ⟨rfl, c, hc, rfl⟩ := hy
              refine ⟨rfl, _, rfl, c, signs, rfl, rfl, ?_⟩
              rw [← cps_get hc]
              exact hq
            · refine ⟨Dl, (List.range y.cps.size).map fun i => decide (y.cps.getD i 0 ∈ signs.cps.toList), rfl, .of (by rw [upd_same, List.map_map]; rfl), ?_⟩
              have en : nmS y = ((List.range y.cps.size).map fun i => decide (y.cps.getD i 0 ∈ signs.cps.toList)).all id := by
                unfold nmS
                rw [decide_eq_true h1, decide_eq_true h2, decide_eq_true h3]
                rfl
              rw [← en]
              exact q' _ (same_new hD)
          · rw [decide_eq_false h3]
            have en : nmS y = false := by
              unfold nmS
              rw [decide_eq_false h3, Bool.false_and, Bool.and_false]
            refine iteF ?_
            rw [← en]
            exact q' _ (Same.refl _)
        · rw [decide_eq_false h2]
          have en : nmS y = false := by
            unfold nmS
            rw [decide_eq_false h2, Bool.and_false, Bool.false_and]
          refine iteT ?_
          show Q (.bl false) H
          rw [← en]
          exact q' _ (Same.refl _)
      · rw [decide_eq_false h1]
        have en : nmS y = false := by
          unfold nmS
          rw [decide_eq_false h1, Bool.false_and, Bool.false_and]
        refine iteF ⟨_, rfl, ?_⟩
        refine iteT ?_
        show Q (.bl false) H
        rw [← en]
        exact q' _ (Same.refl _)
    | _ => exact iteT (q _ (Same.refl _))
end
end Jo

set_option Elab.async false
set_option linter.all false
set_option maxRecDepth 100000
set_option maxHeartbeats 1000000
namespace Jo
open PySem PySem.Spec PyProof.Rows L2
theorem ixN_nat {n j : Nat} (h : j < n) : ixN n (j : Int) = some j := by
  unfold ixN
  rw [if_pos (by omega), if_pos (by omega)]
  simp
/-- everything but what stands at p is kept -/
def Kp (p : Addr) (H H' : Hp) : Prop := ∀ b o, H b = some o → b ≠ p → H' b = some o
theorem Kp.refl (p : Addr) (H : Hp) : Kp p H H := fun _ _ e _ => e
theorem Kp.trans {p : Addr} {H H1 H2 : Hp} (a : Kp p H H1) (b : Kp p H1 H2) : Kp p H H2 := fun c o e n => b c o (a c o e n) n
theorem kp_of {p : Addr} {H H' : Hp} (a : Same H H') : Kp p H H' := fun c o e _ => a c o e
theorem Kp.new {p q : Addr} {H : Hp} {o : HO} (h : H q = none) : Kp p H (upd H q o) := kp_of (same_new h)
theorem Kp.put {p : Addr} {H : Hp} {o : HO} : Kp p H (upd H p o) := fun b x e n => by rw [upd_ne n]; exact e
/-- a purse: a list of three ints -/
def PurseAt (H : Hp) (p : Addr) : Prop := ∃ a b c : Int, H p = some (.lst [.int a, .int b, .int c])
theorem PurseAt.same {H H' : Hp} {p : Addr} (h : PurseAt H p) (s : Same H H') : PurseAt H' p := let ⟨a, b, c, e⟩ := h; ⟨a, b, c, s _ _ e⟩
section
variable {P : Program} {w : World} {K : PySem.W.Frag} {mg : Str → Option Value} {base : Heap}
def n_cell : List Str := ["_law_script", "_law_k", "_law_mixed", "_law_cell_here"]
theorem sc_cell : FnScope n_cell ["_law_script", "_law_k"] (defScope s_cell) := ⟨rfl, rfl, rfl, by decide +kernel, rfl, by decide +kernel, by decide +kernel⟩
def spCell (K : PySem.W.Frag) : Sp := fun vs H Q _ => ∃ (a : Addr) (ns : List Int) (k : Nat), vs = [.ref a, .int (k : Int)] ∧ SqL K H a (ns.map V.int) ∧ ns.length ≤ 63 ∧ k ≤ 63 ∧
  ∀ (c : Int) (H' : Hp), Same H H' → Q (.int c) H'
theorem ok_cell (T : Txt mg) (D : Dfn K mg "_law_cell" s_cell ["_law_script", "_law_k"]) : CalG P w K mg base 1 "_law_cell" ["_law_script", "_law_k"] (spCell K) := by
  refine D.ok sc_cell (fun vs H Q E h => ?_) (fun f cdv A fr s H vs Q E hr hgd h => ?_)
  · obtain ⟨a, ns, k, rfl, _⟩ := h
    rfl
  · obtain ⟨a, ns, k, rfl, hS, hl, hk, q⟩ := h
    refine ⟨_, pss_cons (ps_if (pt_cmpR op_lt (pv 1) (pe_callB call_len rfl T.b_len (by decide +kernel) (pa_cons (pv 0) pa_nil)) (nomark _))
        (pss_one (ps_ret (pe_ix ix_list (pv 0) (pv 1) (fun _ _ => rfl))))
        (pss_nil))
      (pss_cons (ps_set (i := 2) sc_cell.nd rfl (.inl rfl) (pe_op op_mod (pe_callTy call_int1 rfl T.b_int (by decide +kernel) (pa_cons (pe_op op_mul pe_int (pe_op op_add (pe_op op_add (pe_op op_mul (pv 1) (pv 1)) (pe_op op_mul pe_int (pv 1))) pe_int)) pa_nil)) pe_int))
      (pss_cons (ps_for PassesOwn.never rfl (pi_list (pe_slice sl_list (pv 0) po_none (po_some pe_int))) (pg_name (i := 3) sc_cell.nd rfl (.inl rfl))
        (pss_one (ps_set (i := 2) sc_cell.nd rfl (.inl rfl) (pe_op op_mod (pe_callTy call_int1 rfl T.b_int (by decide +kernel) (pa_cons (pe_op op_add (pe_op op_mul (pv 2) pe_int) (pv 3)) pa_nil)) pe_int))))
      (pss_one (ps_ret (pv 2))))), ?_⟩
    refine ⟨_, rfl, _, rfl, _, _, rfl, .inl ⟨_, hS, rfl⟩, _, _, rfl, rfl, _, rfl, ite2 (fun e => ?_) (fun e => ?_)⟩
    · have hk2 : k < ns.length := by
        have e2 := of_decide_eq_true e
        rw [List.length_map] at e2
        omega
      refine ⟨_, rfl, _, rfl, a, _, (k : Int), .int ns[k], rfl, rfl, hS, atI_nat (by rw [List.getElem?_map, List.getElem?_eq_getElem hk2]; rfl), ?_⟩
      exact q _ _ (Same.refl _)
    · have cm : -(2 ^ 64) < (k : Int) ∧ (k : Int) < 2 ^ 64 := by omega
      refine ⟨_, rfl, _, rfl, _, _, rfl, rfl, .inl cm, _, rfl, _, _, rfl, rfl, .inr cm, _, _, rfl, rfl, _, _, rfl, rfl, _, _, rfl, rfl, .inl (by decide), .inl ⟨_, rfl, _, _, rfl, rfl, (show (0 : Int) < 2147483549 by decide), ?_⟩⟩
      -- the loop over the first three
      refine ⟨_, rfl, _, rfl, a, _, rfl, hS, fun p hp => ?_⟩
      have s1 : Same H (upd H p (.lst (cutV (ns.map V.int) none (some 3)))) := same_new hp
      have allI : ∀ x ∈ cutV (ns.map V.int) none (some 3), ∃ n, x = V.int n := fun x hx => by
        have h1 : x ∈ ns.map V.int := by
          unfold cutV at hx
          exact List.mem_of_mem_drop (List.mem_of_mem_take hx)
        obtain ⟨n, _, e⟩ := List.mem_map.mp h1
        exact ⟨n, e.symm⟩
      refine ⟨p, rfl, ⟨_, SqL.of upd_same⟩, for_list (xs := cutV (ns.map V.int) none (some 3)) (fun i σ H3 => H3 = upd H p (.lst (cutV (ns.map V.int) none (some 3))) ∧ ∃ (m : Int) (y : Option V), σ = [some (.ref a), some (.int (k : Int)), some (.int m), y])
        ⟨rfl, _, _, rfl⟩ (fun i σ H3 hi hp3 => ?_) (fun i x σ H3 hx hp3 => ?_) (fun σ H3 hp3 => ?_)⟩
      · rw [hp3.1]
        exact SqL.of upd_same
      · obtain ⟨rfl, m, y, rfl⟩ := hp3
        obtain ⟨n, rfl⟩ := allI x (List.mem_of_getElem? hx)
        refine ⟨_, rfl, _, _, rfl, rfl, .inr (by decide), _, rfl, _, _, rfl, rfl, .inl ⟨_, rfl, _, _, rfl, rfl, (show (0 : Int) < 2147483549 by decide), ?_⟩⟩
        exact ⟨rfl, _, _, rfl⟩
      · obtain ⟨rfl, m, y, rfl⟩ := hp3
        exact ⟨_, rfl, q _ _ s1⟩
def n_purse : List Str := ["_law_cell_here"]
theorem sc_purse : FnScope n_purse ["_law_cell_here"] (defScope s_purse) := ⟨rfl, rfl, rfl, by decide +kernel, rfl, by decide +kernel, by decide +kernel⟩
def spPurse : Sp := fun vs H Q _ => ∃ c : Int, vs = [.int c] ∧ ∀ (p : Addr) (H' : Hp), Same H H' → H p = none → PurseAt H' p → Q (.ref p) H'
theorem ok_purse (T : Txt mg) (D : Dfn K mg "_law_purse" s_purse ["_law_cell_here"]) : CalG P w K mg base 1 "_law_purse" ["_law_cell_here"] spPurse := by
  refine D.ok sc_purse (fun vs H Q E h => ?_) (fun f cdv A fr s H vs Q E hr hgd h => ?_)
  · obtain ⟨c, rfl, _⟩ := h
    rfl
  · obtain ⟨c, rfl, q⟩ := h
    refine ⟨_, pss_one (ps_ret (pe_lst (pa_cons (pe_op op_mod (pe_callTy call_int1 rfl T.b_int (by decide +kernel) (pa_cons (pv 0) pa_nil)) pe_int) (pa_cons (pe_ifExp (PW.pt (pw_or (pt_cmpR op_lt (pv 0) pe_int (nomark _)) (pw_or1 (pt_cmpR op_ge (pv 0) (pe_op op_pow pe_int pe_int) (nomark _))))) (pe_callB call_abs rfl T.b_abs (by decide +kernel) (pa_cons (pv 0) pa_nil)) pe_int) (pa_cons pe_int pa_nil))))), ?_⟩
    refine ⟨_, rfl, .inl ⟨_, rfl, _, _, rfl, rfl, (show (0 : Int) < 2147483549 by decide), ?_⟩⟩
    have fin : ∀ b : Int, [V.int (c % 2147483549), V.int b, V.int 0].length ≤ sizeLine ∧ ∀ p, H p = none → Q (.ref p) (upd H p (.lst [V.int (c % 2147483549), V.int b, V.int 0])) :=
      fun b => ⟨(by show 3 ≤ sizeLine; decide), fun p hp => q p _ (same_new hp) hp ⟨_, _, _, upd_same⟩⟩
    have two : (if (decide (c < 0)) = true then True else (decide ((10 : Int) ^ 18 ≤ c) = true ∨ ¬ decide ((10 : Int) ^ 18 ≤ c) = true)) := by
      by_cases h : decide (c < 0) = true
      · rw [if_pos h]; trivial
      · rw [if_neg h]; exact Classical.em _
    refine ⟨_, rfl, _, _, rfl, rfl, _, rfl, ite2 (fun e => ?_) (fun e => ?_)⟩
    · refine iteT ⟨_, rfl, _, rfl, fin _⟩
    · refine ⟨_, rfl, _, _, rfl, rfl, ⟨by decide, by decide, by decide⟩, _, _, rfl, rfl, _, rfl, ite2 (fun e => ?_) (fun e => ?_)⟩
      · exact ⟨_, rfl, _, rfl, fin _⟩
      · exact fin _
def n_draw : List Str := ["_law_purse_here", "_law_many", "_law_state", "_law_factor", "_law_digit"]
theorem sc_draw : FnScope n_draw ["_law_purse_here", "_law_many"] (defScope s_draw) := ⟨rfl, rfl, rfl, by decide +kernel, rfl, by decide +kernel, by decide +kernel⟩
def spDraw : Sp := fun vs H Q _ => ∃ (p : Addr) (m : Int), vs = [.ref p, .int m] ∧ PurseAt H p ∧ 0 < m ∧ m.natAbs.log2 < 9000 ∧
  ∀ (d : Int) (H' : Hp), 0 ≤ d → d < m → PurseAt H' p → Kp p H H' → Q (.int d) H'
theorem ok_draw (T : Txt mg) (D : Dfn K mg "_law_draw" s_draw ["_law_purse_here", "_law_many"]) : CalG P w K mg base 1 "_law_draw" ["_law_purse_here", "_law_many"] spDraw := by
  refine D.ok sc_draw (fun vs H Q E h => ?_) (fun f cdv A fr s H vs Q E hr hgd h => ?_)
  · obtain ⟨p, m, rfl, _⟩ := h
    rfl
  · obtain ⟨p, m, rfl, ⟨a, b, c, hp⟩, hm, hm2, q⟩ := h
    refine ⟨_, pss_cons (ps_asg (pe_op op_add (pe_ix ix_list (pv 0) pe_int (fun _ _ => rfl)) pe_int) (pg_sub (pv 0) pe_int set_list))
      (pss_cons (ps_set (i := 2) sc_draw.nd rfl (.inl rfl) (pe_callTy call_int1 rfl T.b_int (by decide +kernel) (pa_cons (pe_ix ix_list (pv 0) pe_int (fun _ _ => rfl)) pa_nil)))
      (pss_cons (ps_set (i := 3) sc_draw.nd rfl (.inl rfl) (pe_op op_add (pe_op op_mod (pe_callTy call_int1 rfl T.b_int (by decide +kernel) (pa_cons (pv 2) pa_nil)) pe_int) pe_int))
      (pss_cons (ps_asg (pe_op op_mod (pe_callTy call_int1 rfl T.b_int (by decide +kernel) (pa_cons (pe_op op_add (pe_op op_add (pe_op op_mul (pv 2) (pv 3)) (pe_op op_mul pe_int (pe_ix ix_list (pv 0) pe_int (fun _ _ => rfl)))) pe_int) pa_nil)) pe_int) (pg_sub (pv 0) pe_int set_list))
      (pss_cons (ps_if (pt_cmpR op_gt (pe_ix ix_list (pv 0) pe_int (fun _ _ => rfl)) pe_int (nomark _))
        (pss_cons (ps_set (i := 4) sc_draw.nd rfl (.inl rfl) (pe_op op_mod (pe_callTy call_int1 rfl T.b_int (by decide +kernel) (pa_cons (pe_ix ix_list (pv 0) pe_int (fun _ _ => rfl)) pa_nil)) (pv 1)))
          (pss_cons (ps_asg (pe_op op_fdivW (pe_callTy call_int1 rfl T.b_int (by decide +kernel) (pa_cons (pe_ix ix_list (pv 0) pe_int (fun _ _ => rfl)) pa_nil)) (pv 1)) (pg_sub (pv 0) pe_int set_list))
          (pss_one (ps_ret (pv 4)))))
        (pss_nil))
      (pss_one (ps_ret (pe_op op_mod (pe_callTy call_int1 rfl T.b_int (by decide +kernel) (pa_cons (pe_op op_fdivW (pe_ix ix_list (pv 0) pe_int (fun _ _ => rfl)) pe_int) pa_nil)) (pv 1)))))))), ?_⟩
    -- the count
    refine ⟨_, rfl, p, _, 2, _, rfl, rfl, SqL.of hp, atI_nat (j := 2) rfl, _, _, rfl, rfl, _, rfl, p, _, 2, 2, rfl, rfl, hp, ixN_nat (j := 2) (show 2 < 3 by decide), ?_⟩
    -- the state, the factor
    refine ⟨_, rfl, p, _, 0, _, rfl, rfl, SqL.of upd_same, atI_nat (j := 0) rfl, .inl ⟨_, rfl, ?_⟩⟩
    refine ⟨_, rfl, .inl ⟨_, rfl, _, _, rfl, rfl, (show (0 : Int) < 37987 by decide), _, _, rfl, rfl, ?_⟩⟩
    have fb : -(2 ^ 64) < a % 37987 + 26003 ∧ a % 37987 + 26003 < 2 ^ 64 := by
      have h1 := Int.emod_nonneg a (show (37987 : Int) ≠ 0 by decide)
      have h2 := Int.emod_lt_of_pos a (show (0 : Int) < 37987 by decide)
      omega
    refine ⟨_, rfl, _, rfl, _, _, rfl, rfl, .inr fb, _, rfl, p, _, 2, _, rfl, rfl, SqL.of upd_same, atI_nat (j := 2) rfl, _, _, rfl, rfl, .inl (by decide), _, _, rfl, rfl, _, _, rfl, rfl, .inl ⟨_, rfl, _, _, rfl, rfl, (show (0 : Int) < 2147483549 by decide), ?_⟩⟩
    refine ⟨_, rfl, p, _, 0, 0, rfl, rfl, upd_same, ixN_nat (j := 0) (show 0 < 3 by decide), ?_⟩
    generalize (a * (a % 37987 + 26003) + 70841 * (c + 1) + 19) % 2147483549 = a'
    refine ⟨_, rfl, p, _, 1, _, rfl, rfl, SqL.of upd_same, atI_nat (j := 1) rfl, _, _, rfl, rfl, _, rfl, ite2 (fun e => ?_) (fun e => ?_)⟩
    · refine ⟨_, rfl, p, _, 1, _, rfl, rfl, SqL.of upd_same, atI_nat (j := 1) rfl, .inl ⟨_, rfl, _, rfl, _, _, rfl, rfl, hm, ?_⟩⟩
      refine ⟨_, rfl, p, _, 1, _, rfl, rfl, SqL.of upd_same, atI_nat (j := 1) rfl, .inl ⟨_, rfl, _, rfl, _, _, rfl, rfl, ⟨hm, hm2⟩, ?_⟩⟩
      refine ⟨_, rfl, p, _, 1, 1, rfl, rfl, upd_same, ixN_nat (j := 1) (show 1 < 3 by decide), _, rfl, ?_⟩
      exact q _ _ (Int.emod_nonneg b (by omega)) (Int.emod_lt_of_pos b hm) ⟨_, _, _, upd_same⟩ (((Kp.put).trans Kp.put).trans Kp.put)
    · refine ⟨_, rfl, p, _, 0, _, rfl, rfl, SqL.of upd_same, atI_nat (j := 0) rfl, _, _, rfl, rfl, ⟨by decide, by decide⟩, .inl ⟨_, rfl, _, rfl, _, _, rfl, rfl, hm, ?_⟩⟩
      exact q _ _ (Int.emod_nonneg _ (by omega)) (Int.emod_lt_of_pos _ hm) ⟨_, _, _, upd_same⟩ ((Kp.put).trans Kp.put)
end
end Jo

set_option Elab.async false
set_option linter.all false
set_option maxRecDepth 100000
set_option maxHeartbeats 1000000
namespace Jo
open PySem PySem.Spec PyProof.Rows L2
theorem item_ok {z : Str} {d : Int} (h0 : 0 ≤ d) (h1 : d < z.length) (hl : z.length ≤ 1000) : d < 2 ^ 63 ∧ z.cps[d.toNat]? = some (z.cps.getD d.toNat 0) := by
  have h2 : d.toNat < z.cps.size := by rw [← len_cps]; omega
  exact ⟨by omega, by simp [Array.getD_eq_getD_getElem?, h2]⟩
theorem small_log {m : Int} (h0 : 0 < m) (h1 : m ≤ 1000) : m.natAbs.log2 < 9000 := (wide_div (b := 10) (i := 0) h0 (by omega) (by decide) (by decide)).2
theorem atI_int {α : Type} {xs : List α} {d : Int} {v : α} (h0 : 0 ≤ d) (h : xs[d.toNat]? = some v) : atI xs d = some v := by
  have e : d = (d.toNat : Int) := by omega
  rw [e]
  exact atI_nat h
theorem small1000 {n : Nat} (h : n ≤ 1000) : n < sizeLine := Nat.lt_of_le_of_lt h (by decide)
structure Good (z : Str) : Prop where
  pos : 1 ≤ z.length
  first : z.cps.getD 0 0 ∈ letters.cps.toList
  all : ∀ c ∈ z.cps.toList, c ∈ signs.cps.toList
theorem let_sign : ∀ c ∈ letters.cps.toList, c ∈ signs.cps.toList := by decide +kernel
theorem one_len (c : Nat) : (⟨#[c]⟩ : Str).length = 1 := rfl
theorem cps_add (a b : Str) : (a ++ b).cps.toList = a.cps.toList ++ b.cps.toList := by
  rw [Str.cps_append, Array.toList_append]
theorem Good.add {z y : Str} (h : Good z) (hy : ∀ c ∈ y.cps.toList, c ∈ signs.cps.toList) : Good (z ++ y) := by
  refine ⟨by rw [Str.length_append]; have := h.pos; omega, ?_, fun c hc => ?_⟩
  · have h0 : 0 < z.cps.size := by rw [← len_cps]; exact h.pos
    have e : (z ++ y).cps.getD 0 0 = z.cps.getD 0 0 := by
      rw [Array.getD_eq_getD_getElem?, Array.getD_eq_getD_getElem?, Str.cps_append, Array.getElem?_append_left h0]
    rw [e]
    exact h.first
  · rw [cps_add] at hc
    rcases List.mem_append.mp hc with hc | hc
    · exact h.all c hc
    · exact hy c hc
theorem nm_of {z : Str} (h : Good z) (hl : z.length ≤ 8) : nmS z = true := by
  unfold nmS
  have hp := h.pos
  rw [decide_eq_true (show (1 : Int) ≤ (z.length : Int) by omega), decide_eq_true (show (z.length : Int) ≤ 8 by omega), decide_eq_true h.first]
  simp only [Bool.true_and]
  rw [List.all_eq_true]
  intro b hb
  obtain ⟨i, hi, rfl⟩ := List.mem_map.mp hb
  have hi2 : i < z.cps.size := List.mem_range.mp hi
  have e : z.cps.getD i 0 = z.cps[i] := by simp [Array.getD_eq_getD_getElem?, hi2]
  rw [e]
  exact decide_eq_true (h.all _ (by simp))
theorem letter_at {d : Nat} {c : Nat} (h : letters.cps[d]? = some c) : c ∈ letters.cps.toList := by
  have h2 : letters.cps.toList[d]? = some c := by simpa using h
  exact List.mem_of_getElem? h2
theorem only_one {c : Nat} : ∀ x ∈ (⟨#[c]⟩ : Str).cps.toList, x = c := by
  intro x hx
  simpa using hx
/-! ### drawing -/
/-- draw(purse, m) with a number that is at hand -/
theorem rd_draw {σ : L2.St} {H : Hp} {Q : VK} {j : Nat} {p : Addr} {m : Int} {te : TE} (hj : σ[j]? = some (some (.ref p))) (hp : PurseAt H p) (h0 : 0 < m) (h1 : m ≤ 1000)
    (ht : ∀ R : VK, R (.int m) H → te σ H R) (q : ∀ (d : Nat) H', (d : Int) < m → PurseAt H' p → Kp p H H' → Q (.int (d : Int)) H') : tCall spDraw [] E0 (tCons (tVar j) (tCons te tNil)) σ H Q := by
  refine ⟨_, hj, ht _ ⟨p, m, rfl, hp, h0, small_log h0 h1, fun d H' d0 d1 p' k' => ?_⟩⟩
  have e : d = (d.toNat : Int) := by omega
  rw [e] at d1 ⊢
  exact q d.toNat H' d1 p' k'
theorem dr {σ : L2.St} {H : Hp} {Q : VK} {j : Nat} {p : Addr} {m : Int} (hj : σ[j]? = some (some (.ref p))) (hp : PurseAt H p) (h0 : 0 < m) (h1 : m ≤ 1000)
    (q : ∀ (d : Nat) H', (d : Int) < m → PurseAt H' p → Kp p H H' → Q (.int (d : Int)) H') : tCall spDraw [] E0 (tCons (tVar j) (tCons (tC (.int m)) tNil)) σ H Q := rd_draw hj hp h0 h1 (fun _ h => h) q
theorem PurseAt.new {H : Hp} {p a : Addr} {o : HO} (hp : PurseAt H p) (n : H a = none) : PurseAt (upd H a o) p := hp.same (same_new n)
theorem purse_ne {p a : Addr} {H : Hp} (hp : PurseAt H p) (na : H a = none) : a ≠ p := fun e => by
  obtain ⟨x, y, z, h⟩ := hp
  rw [e, h] at na
  cases na
theorem purse_ne2 {p a : Addr} {H : Hp} {xs : List V} (hp : PurseAt H p) (h : H a = some (.tup xs)) : a ≠ p := fun e => by
  obtain ⟨x, y, z, h2⟩ := hp
  rw [e, h2] at h
  cases h
theorem pick_at {α : Type} {xs : List α} {d : Nat} (h : d < xs.length) : ∃ z, z ∈ xs ∧ xs[d]? = some z := ⟨xs[d], List.getElem_mem h, List.getElem?_eq_getElem h⟩
def wordsN : List Str := ["plus", "not", "into", "if", "else", "number", "call", "fail", "slot", "entry", "variable", "callout"]
theorem wordsN_ok : ∀ z ∈ wordsN, nmS z = true ∧ z.length ≤ 8 := by decide +kernel
theorem nm_len {z : Str} (h : nmS z = true) : z.length ≤ 8 := by
  unfold nmS at h
  rw [Bool.and_eq_true, Bool.and_eq_true, decide_eq_true_eq, decide_eq_true_eq] at h
  omega
section
variable {P : Program} {w : World} {K : PySem.W.Frag} {mg : Str → Option Value} {base : Heap}
def n_name : List Str := ["_law_purse_here", "_law_words", "_law_way", "_law_letters", "_law_text_here", "_law_turn"]
theorem sc_name : FnScope n_name ["_law_purse_here"] (defScope s_name) := ⟨rfl, rfl, rfl, by decide +kernel, rfl, by decide +kernel, by decide +kernel⟩
def spName : Sp := fun vs H Q _ => ∃ p : Addr, vs = [.ref p] ∧ PurseAt H p ∧ ∀ (z : Str) (H' : Hp), nmS z = true → PurseAt H' p → Kp p H H' → Q (.str z) H'
theorem signs_cat : letters ++ ("0123456789" : Str) = signs := by decide +kernel
theorem sign_at {d c : Nat} (h : signs.cps[d]? = some c) : c ∈ signs.cps.toList := by
  have h2 : signs.cps.toList[d]? = some c := by simpa using h
  exact List.mem_of_getElem? h2
theorem ok_name (T : Txt mg) (D : Dfn K mg "_law_name" s_name ["_law_purse_here"]) (c_draw : CalG P w K mg base 1 "_law_draw" ["_law_purse_here", "_law_many"] spDraw) :
    CalG P w K mg base 2 "_law_name" ["_law_purse_here"] spName := by
  refine D.ok sc_name (fun vs H Q E h => ?_) (fun f cdv A fr s H vs Q E hr hgd h => ?_)
  · obtain ⟨p, rfl, _⟩ := h
    rfl
  · obtain ⟨p, rfl, hp, q⟩ := h
    refine ⟨_, pss_cons (ps_set (i := 1) sc_name.nd rfl (.inl rfl) (pe_lst (pa_cons pe_str (pa_cons pe_str (pa_cons pe_str (pa_cons pe_str (pa_cons pe_str (pa_cons pe_str (pa_cons pe_str (pa_cons pe_str (pa_cons pe_str (pa_cons pe_str (pa_cons pe_str (pa_cons pe_str pa_nil))))))))))))))
      (pss_cons (ps_set (i := 2) sc_name.nd rfl (.inl rfl) (pe_cG c_draw hr (by decide) hgd rfl (pa_cons (pv 0) (pa_cons pe_int pa_nil))))
      (pss_cons (ps_if (pt_cmpR op_eq (pv 2) pe_int (nomark _))
        (pss_one (ps_ret (pe_ix ix_list (pv 1) (pe_cG c_draw hr (by decide) hgd rfl (pa_cons (pv 0) (pa_cons pe_int pa_nil))) (fun _ _ => rfl))))
        (pss_nil))
      (pss_cons (ps_set (i := 3) sc_name.nd rfl (.inl rfl) pe_str)
      (pss_cons (ps_set (i := 4) sc_name.nd rfl (.inl rfl) (pe_item_str (pv 3) (pe_cG c_draw hr (by decide) hgd rfl (pa_cons (pv 0) (pa_cons pe_int pa_nil))) (fun _ _ => rfl)))
      (pss_cons (ps_for PassesOwn.never rfl (pi_range1 rfl T.b_range (pa_cons (pe_ix ix_list (pe_lst (pa_cons pe_int (pa_cons pe_int (pa_cons pe_int (pa_cons pe_int pa_nil))))) (pe_op op_sub (pv 2) pe_int) (fun _ _ => rfl)) pa_nil)) (pg_name (i := 5) sc_name.nd rfl (.inl rfl))
        (pss_one (ps_set (i := 4) sc_name.nd rfl (.inl rfl) (pe_op op_add_str (pv 4) (pe_item_str (pe_op op_add_str (pv 3) pe_str) (pe_cG c_draw hr (by decide) hgd rfl (pa_cons (pv 0) (pa_cons pe_int pa_nil))) (fun _ _ => rfl))))))
      (pss_one (ps_ret (pv 4)))))))), ?_⟩
    refine ⟨(show 12 ≤ sizeLine by decide), fun l hl => ?_⟩
    have s1 : Same H (upd H l (.lst (wordsN.map V.str))) := same_new hl
    refine dr rfl (hp.same s1) (by decide) (by decide) fun d0 H1 h0 p1 k1 => ?_
    have k2 := (kp_of s1).trans k1
    have hl1 : H1 l = some (.lst (wordsN.map V.str)) := k1 l _ upd_same (purse_ne hp hl)
    refine ⟨_, rfl, rfl, _, rfl, ite2 (fun e => ?_) (fun e => ?_)⟩
    · refine ⟨_, rfl, dr rfl p1 (by decide) (by decide) fun d H2 h2 p2 k3 => ?_⟩
      obtain ⟨z, hz, e2⟩ := pick_at (xs := wordsN) (d := d) (by show d < 12; omega)
      exact ⟨l, _, d, _, rfl, rfl, SqL.of (k3 l _ hl1 (purse_ne hp hl)), atI_nat (by rw [List.getElem?_map, e2]; rfl), q z _ (wordsN_ok z hz).1 p2 (k2.trans k3)⟩
    · have d1 : d0 ≠ 0 := fun z => e (by rw [z]; rfl)
      refine ⟨_, rfl, dr rfl p1 (by decide) (by decide) fun d H2 h2 p2 k3 => ?_⟩
      obtain ⟨i1, i2⟩ := item_ok (z := letters) (d := (d : Int)) (by omega) (by show (d : Int) < 26; omega) (by decide)
      have hc := letter_at i2
      refine ⟨letters, d, _, rfl, rfl, by omega, i1, by show (d : Int) < 26; omega, i2, ?_⟩
      refine ⟨(show 4 ≤ sizeLine by decide), fun l2 hl2 => ?_⟩
      have s3 : Same H2 (upd H2 l2 (.lst [.int 0, .int 1, .int 3, .int 7])) := same_new hl2
      obtain ⟨n, hn, n7, n0⟩ : ∃ n : Nat, ([.int 0, .int 1, .int 3, .int 7] : List V)[d0 - 1]? = some (.int (n : Int)) ∧ n ≤ 7 ∧ True := by
        have : d0 = 1 ∨ d0 = 2 ∨ d0 = 3 ∨ d0 = 4 := by omega
        rcases this with e | e | e | e <;> subst e
        · exact ⟨0, rfl, by decide, trivial⟩
        · exact ⟨1, rfl, by decide, trivial⟩
        · exact ⟨3, rfl, by decide, trivial⟩
        · exact ⟨7, rfl, by decide, trivial⟩
      refine ⟨_, rfl, _, _, rfl, rfl, l2, _, _, _, rfl, rfl, SqL.of upd_same, atI_int (by omega) (by rw [show ((d0 : Int) - 1).toNat = d0 - 1 by omega]; exact hn), ?_⟩
      refine ⟨_, rfl, by omega, by omega, ?_⟩
      refine for_range (lo := 0) (n := n) (fun i σ H3 => PurseAt H3 p ∧ Kp p H H3 ∧ ∃ (z : Str) (y : Option V), z.length = 1 + i ∧ Good z ∧ σ = [some (.ref p), some (.ref l), some (.int d0), some (.str letters), some (.str z), y])
        ⟨p2.same s3, (k2.trans k3).trans (kp_of s3), _, _, rfl, ⟨Nat.le_refl _, hc, fun c hc2 => by rw [only_one c hc2]; exact let_sign _ hc⟩, rfl⟩ (fun i σ H3 hi hp3 => ?_) (fun σ H3 hp3 => ?_)
      · obtain ⟨p3, k4, z, y, hz, hg, rfl⟩ := hp3
        refine ⟨_, rfl, _, rfl, _, _, rfl, rfl, (by decide), ?_⟩
        rw [signs_cat]
        refine dr rfl p3 (by decide) (by decide) fun d2 H4 h4 p4 k5 => ?_
        obtain ⟨j1, j2⟩ := item_ok (z := signs) (d := (d2 : Int)) (by omega) (by show (d2 : Int) < 36; omega) (by decide)
        have hc2 := sign_at j2
        refine ⟨signs, d2, _, rfl, rfl, by omega, j1, by show (d2 : Int) < 36; omega, j2, _, _, rfl, rfl, ?_, p4, k4.trans k5, _, _, by rw [Str.length_append, hz, one_len]; omega, hg.add (fun c hc3 => by rw [only_one c hc3]; exact hc2), rfl⟩
        rw [hz, one_len]
        exact Nat.le_of_lt (small1000 (by omega))
      · obtain ⟨p3, k4, z, y, hz, hg, rfl⟩ := hp3
        exact ⟨_, rfl, q z H3 (nm_of hg (by omega)) p3 k4⟩
end
end Jo

set_option Elab.async false
set_option linter.all false
set_option maxRecDepth 100000
set_option maxHeartbeats 1000000
namespace Jo
open PySem PySem.Spec PyProof.Rows L2
theorem inV_str (z : Str) (xs : List Str) : inV (.str z) (xs.map V.str) = decide (z ∈ xs) := by
  unfold inV
  rw [List.any_map]
  induction xs with
  | nil => simp
  | cons x xs ih =>
    rw [List.any_cons, ih]
    have e : ((fun y => eqV y (V.str z)) ∘ V.str) x = decide (x = z) := by
      show (x == z) = _
      by_cases h : x = z
      · subst h; simp
      · rw [decide_eq_false h]; simpa using h
    rw [e]
    by_cases h : x = z
    · subst h; simp
    · have h2 : ¬ z = x := fun q => h q.symm
      simp [h, h2]
theorem flat_strs (xs : List Str) : (xs.map V.str).all flatV = true := by
  rw [List.all_map, List.all_eq_true]
  exact fun x _ => rfl
theorem log_s {i : Int} (h : i.natAbs < 1900) : i.natAbs.log2 < 1920 := Nat.lt_of_le_of_lt (Nat.log2_le_self _) (by omega)
def qk (i : Nat) : Str := ("q" : Str) ++ ((toString (i : Int) : String) : Str)
theorem qk_ok : ∀ i ∈ List.range 24, nmS (qk i) = true := by decide +kernel
theorem qk_nd : ((List.range 24).map qk).Nodup := by decide +kernel
theorem qk_free {xs : List Str} (h : xs.length < 24) : ∃ i, i ≤ xs.length ∧ qk i ∉ xs := by
  refine Classical.byContradiction fun no => ?_
  have nd : ((List.range (xs.length + 1)).map qk).Nodup := by
    have s : ((List.range (xs.length + 1)).map qk).Sublist ((List.range 24).map qk) := (List.range_sublist.mpr (by omega)).map qk
    exact s.nodup qk_nd
  have sub : ((List.range (xs.length + 1)).map qk) ⊆ xs := fun z hz => by
    obtain ⟨i, hi, e⟩ := List.mem_map.mp hz
    subst e
    refine Classical.byContradiction fun m => no ⟨i, ?_, m⟩
    have := List.mem_range.mp hi
    omega
  have := nd.length_le_of_subset sub
  rw [List.length_map, List.length_range] at this
  omega
section
variable {P : Program} {w : World} {K : PySem.W.Frag} {mg : Str → Option Value} {base : Heap}
def n_fresh : List Str := ["_law_purse_here", "_law_taken", "_law_text_here", "_law_others", "_law_k", "_law_other"]
theorem sc_fresh : FnScope n_fresh ["_law_purse_here", "_law_taken"] (defScope s_fresh) := ⟨rfl, rfl, rfl, by decide +kernel, rfl, by decide +kernel, by decide +kernel⟩
def spFresh : Sp := fun vs H Q _ => ∃ (p T : Addr) (xs : List Str), vs = [.ref p, .ref T] ∧ PurseAt H p ∧ T ≠ p ∧ H T = some (.lst (xs.map V.str)) ∧ xs.length < 20 ∧
  ∀ (z : Str) (H' : Hp), nmS z = true → z ∉ xs → PurseAt H' p → Kp p H H' → Q (.str z) H'
theorem ok_fresh (T : Txt mg) (D : Dfn K mg "_law_fresh" s_fresh ["_law_purse_here", "_law_taken"]) (c_name : CalG P w K mg base 2 "_law_name" ["_law_purse_here"] spName) :
    CalG P w K mg base 3 "_law_fresh" ["_law_purse_here", "_law_taken"] spFresh := by
  refine D.ok sc_fresh (fun vs H Q E h => ?_) (fun f cdv A fr s H vs Q E hr hgd h => ?_)
  · obtain ⟨p, T, xs, rfl, _⟩ := h
    rfl
  · obtain ⟨p, Ta, xs, rfl, hp, hne, hT, hlen, q⟩ := h
    refine ⟨_, pss_cons (ps_set (i := 2) sc_fresh.nd rfl (.inl rfl) (pe_cG c_name hr (by decide) hgd rfl (pa_cons (pv 0) pa_nil)))
      (pss_cons (ps_if (pt_cmpR op_notIn_seq (pv 2) (pv 1) rfl)
        (pss_one (ps_ret (pv 2)))
        (pss_nil))
      (pss_cons (ps_setLc (i := 3) (own := [("_law_k", 4)]) (g := gName 4) (tt := tYes) rfl sc_fresh.nd rfl rfl (sw_true rfl rfl rfl (by decide +kernel)) (pi_range1 rfl T.b_range (pa_cons (pe_op op_add (pe_callB call_len rfl T.b_len (by decide +kernel) (pa_cons (pv 1) pa_nil)) pe_int) pa_nil)) (blkOk_by (N := n_fresh) (sc := defScope s_fresh) (by decide +kernel)) (fun _ _ _ _ _ => pg_name (i := 4) sc_fresh.nd rfl (Or.inl rfl)) (fun _ _ _ _ _ => pts_nil) (fun _ _ _ _ _ => (pe_op op_add_str pe_str (pe_callTy call_str_int rfl T.b_str (by decide +kernel) (pa_cons (pv 4) pa_nil)))))
      (pss_one (ps_ret (pe_ix ix_list (pe_lc (own := [("_law_other", 5)]) (g := gName 5) rfl sc_fresh.nd (pi_list (pv 3)) (blkOk_by (N := n_fresh) (sc := defScope s_fresh) (by decide +kernel)) (fun _ _ _ _ _ => pg_name (i := 5) sc_fresh.nd rfl (Or.inl rfl)) (fun _ _ _ _ _ => (pts_one (pt_cmpR (r := rIn K true) op_notIn_seq (pv 5) (pv 1) rfl))) (fun _ _ _ _ _ => (pv 5))) pe_int (fun _ _ => rfl)))))), ?_⟩
    refine ⟨_, rfl, p, rfl, hp, fun z H1 hz p1 k1 => ?_⟩
    have hT1 := k1 Ta _ hT hne
    refine ⟨_, rfl, _, rfl, Ta, _, rfl, .inl (SqL.of hT1), rfl, flat_strs _, _, rfl, ?_⟩
    rw [inV_str]
    by_cases hm : z ∈ xs
    · rw [decide_eq_true hm]
      refine iteF ?_
      refine ⟨_, rfl, _, xs.length, rfl, .inl ⟨_, SqL.of hT1, by rw [List.length_map]⟩, _, _, rfl, rfl, _, rfl, by omega, by omega, fun D1 n1 => ?_⟩
      have e : ((xs.length : Int) + 1).toNat = xs.length + 1 := by omega
      rw [e]
      refine lc_range (lo := 0) (n := xs.length + 1) (fun i G => i ≤ xs.length + 1 ∧ G = upd H1 D1 (.lst (((List.range i).map qk).map V.str))) ⟨Nat.zero_le _, rfl⟩ (fun i G hi ⟨h1, eG⟩ => ?_) (fun G ⟨_, eG⟩ => ?_)
      · subst eG
        have hi24 : i < 24 := by omega
        have l3 : ((toString (0 + (i : Int)) : String) : Str).length ≤ 3 := PyProof.Rows.toString_length_le (by omega) (by decide) (by show 0 + (i : Int) < (10 : Int) ^ 3; omega)
        have z0 : (0 + (i : Int)) = (i : Int) := by omega
        rw [z0] at l3
        rw [z0]
        refine ⟨rfl, _, rfl, _, rfl, log_s (by omega), _, _, rfl, rfl, ?_, _, upd_same, ?_, by omega, ?_⟩
        · show 1 + _ ≤ sizeLine
          exact Nat.le_of_lt (small1000 (by omega))
        · rw [List.length_map, List.length_map, List.length_range]
          exact small1000 (by omega)
        · rw [upd_upd, List.range_succ, List.map_append, List.map_append]
          rfl
      · subst eG
        have neT : Ta ≠ D1 := fun z => by rw [z, n1] at hT1; cases hT1
        refine ⟨_, rfl, D1, rfl, ⟨_, SqL.of upd_same⟩, fun D2 n2 => ?_⟩
        have ne2 : D1 ≠ D2 := fun z => by rw [← z, upd_same] at n2; cases n2
        have neT2 : Ta ≠ D2 := fun z => by rw [← z, upd_ne neT, hT1] at n2; cases n2
        refine lc_list (K := K) (xs := ((List.range (xs.length + 1)).map qk).map V.str)
          (fun i G => G = upd (upd H1 D1 (.lst (((List.range (xs.length + 1)).map qk).map V.str))) D2 (.lst ((((List.range i).map qk).filter fun z => decide (z ∉ xs)).map V.str))) rfl (fun i G hi eG => ?_) (fun i x G hx eG => ?_) (fun G eG => ?_)
        · subst eG
          exact SqL.of (by rw [upd_ne ne2, upd_same])
        · have hi : i < xs.length + 1 := by
            have := (List.getElem?_eq_some_iff.mp hx).1
            simpa using this
          have ex : x = .str (qk i) := by
            rw [List.getElem?_map, List.getElem?_map, List.getElem?_range hi] at hx
            exact (Option.some.inj hx).symm
          subst ex eG
          have hTb : upd (upd H1 D1 (.lst (((List.range (xs.length + 1)).map qk).map V.str))) D2 (.lst ((((List.range i).map qk).filter fun z => decide (z ∉ xs)).map V.str)) Ta = some (.lst (xs.map V.str)) := by rw [upd_ne neT2, upd_ne neT]; exact hT1
          refine ⟨rfl, _, rfl, _, rfl, Ta, _, rfl, .inl (SqL.of hTb), rfl, flat_strs _, _, rfl, ?_⟩
          have hst : ((List.range (i + 1)).map qk).filter (fun z => decide (z ∉ xs)) = ((List.range i).map qk).filter (fun z => decide (z ∉ xs)) ++ [qk i].filter (fun z => decide (z ∉ xs)) := by
            rw [List.range_succ, List.map_append, List.filter_append]
            rfl
          rw [inV_str, hst, List.map_append]
          by_cases hm2 : qk i ∈ xs
          · rw [decide_eq_true hm2]
            refine iteF ?_
            have e1 : [qk i].filter (fun z => decide (z ∉ xs)) = [] := by simp [hm2]
            rw [e1]
            simp
          · rw [decide_eq_false hm2]
            refine iteT ⟨_, rfl, _, upd_same, ?_, ?_⟩
            · rw [List.length_map]
              refine small1000 (Nat.le_trans (List.length_filter_le _ _) ?_)
              rw [List.length_map, List.length_range]
              omega
            · have e1 : [qk i].filter (fun z => decide (z ∉ xs)) = [qk i] := by simp [hm2]
              rw [e1, upd_upd]
              rfl
        · subst eG
          obtain ⟨i, hi, hf⟩ := qk_free (xs := xs) (by omega)
          have hmem : qk i ∈ ((List.range (xs.length + 1)).map qk).filter (fun z => decide (z ∉ xs)) := List.mem_filter.mpr ⟨List.mem_map.mpr ⟨i, List.mem_range.mpr (by omega), rfl⟩, decide_eq_true hf⟩
          generalize hL : ((List.range (xs.length + 1)).map qk).filter (fun z => decide (z ∉ xs)) = L at hmem
          match L, hmem, hL with
          | z2 :: r, _, hL =>
            have m2 : z2 ∈ ((List.range (xs.length + 1)).map qk).filter (fun z => decide (z ∉ xs)) := by rw [hL]; exact List.mem_cons_self
            obtain ⟨m3, m4⟩ := List.mem_filter.mp m2
            obtain ⟨j, hj, e⟩ := List.mem_map.mp m3
            have s1 := (same_new n1 : Same H1 (upd H1 D1 (.lst (((List.range (xs.length + 1)).map qk).map V.str))))
            have s2 : ∀ o, Same H1 (upd (upd H1 D1 (.lst (((List.range (xs.length + 1)).map qk).map V.str))) D2 o) := fun o => s1.trans (same_new n2)
            refine ⟨D2, _, 0, _, rfl, rfl, SqL.of upd_same, atI_nat (j := 0) (by rw [List.length_map, List.length_map, List.length_range, hL]; rfl), q z2 _ ?_ (of_decide_eq_true m4) (p1.same (s2 _)) (k1.trans (kp_of (s2 _)))⟩
            rw [← e]
            exact qk_ok j (List.mem_range.mpr (by have := List.mem_range.mp hj; omega))
    · rw [decide_eq_false hm]
      exact iteT ⟨_, rfl, q z H1 hz hm p1 k1⟩
def n_names : List Str := ["_law_purse_here", "_law_many", "_law_taken", "_law_found", "_law_turn"]
theorem sc_names : FnScope n_names ["_law_purse_here", "_law_many", "_law_taken"] (defScope s_names) := ⟨rfl, rfl, rfl, by decide +kernel, rfl, by decide +kernel, by decide +kernel⟩
/-- many different names that are not taken, in a new list -/
def spNames : Sp := fun vs H Q _ => ∃ (p T : Addr) (m : Nat) (xs : List Str), vs = [.ref p, .int (m : Int), .ref T] ∧ PurseAt H p ∧ T ≠ p ∧ H T = some (.lst (xs.map V.str)) ∧ xs.length + m ≤ 20 ∧
  ∀ (l : Addr) (ys : List Str) (H' : Hp), ys.length = m → (∀ z ∈ ys, nmS z = true ∧ z ∉ xs) → ys.Nodup → PurseAt H' p → Kp p H H' → l ≠ p → H l = none → H' l = some (.lst (ys.map V.str)) → Q (.ref l) H'
theorem ok_names (T : Txt mg) (D : Dfn K mg "_law_names" s_names ["_law_purse_here", "_law_many", "_law_taken"]) (c_fresh : CalG P w K mg base 3 "_law_fresh" ["_law_purse_here", "_law_taken"] spFresh) :
    CalG P w K mg base 4 "_law_names" ["_law_purse_here", "_law_many", "_law_taken"] spNames := by
  refine D.ok sc_names (fun vs H Q E h => ?_) (fun f cdv A fr s H vs Q E hr hgd h => ?_)
  · obtain ⟨p, T, m, xs, rfl, _⟩ := h
    rfl
  · obtain ⟨p, Ta, m, xs, rfl, hp, hne, hT, hlen, q⟩ := h
    refine ⟨_, pss_cons (ps_set (i := 3) sc_names.nd rfl (.inl rfl) (pe_lst pa_nil))
      (pss_cons (ps_for PassesOwn.never rfl (pi_range1 rfl T.b_range (pa_cons (pv 1) pa_nil)) (pg_name (i := 4) sc_names.nd rfl (.inl rfl))
        (pss_one (ps_expr (pe_bm PySem.F.plainAttrs_list PySem.F.slot_list_append PySem.F.type_list_append mt_append (pv 3) (pa_cons (pe_cG c_fresh hr (by decide) hgd rfl (pa_cons (pv 0) (pa_cons (pe_op op_cat (pv 2) (pv 3)) pa_nil))) pa_nil)))))
      (pss_one (ps_ret (pv 3)))), ?_⟩
    refine ⟨(show 0 ≤ sizeLine by decide), fun l nl => ?_⟩
    have nlp := purse_ne hp nl
    refine ⟨_, rfl, (m : Int), rfl, by omega, by omega, ?_⟩
    have e : ((m : Int)).toNat = m := by omega
    rw [e]
    refine for_range (lo := 0) (n := m) (fun i σ G => PurseAt G p ∧ Kp p H G ∧ ∃ (ys : List Str) (y : Option V), ys.length = i ∧ (∀ z ∈ ys, nmS z = true ∧ z ∉ xs) ∧ ys.Nodup ∧ G l = some (.lst (ys.map V.str)) ∧
      σ = [some (.ref p), some (.int (m : Int)), some (.ref Ta), some (.ref l), y])
      ⟨hp.new nl, kp_of (same_new nl), [], _, rfl, (fun z h => by cases h), List.nodup_nil, upd_same, rfl⟩ (fun i σ G hi hG => ?_) (fun σ G hG => ?_)
    · obtain ⟨p1, k1, ys, y, hl, hz, nd, hl2, rfl⟩ := hG
      have hT1 := k1 Ta _ hT hne
      refine ⟨_, rfl, .inl ⟨rfl, _, SqL.of hl2⟩, _, rfl, _, rfl, _, rfl, Ta, l, _, _, rfl, rfl, hT1, hl2, ?_, fun c nc => ?_⟩
      · rw [List.length_map, List.length_map]
        exact Nat.le_of_lt (small1000 (by omega))
      · have hc : upd G c (.lst (xs.map V.str ++ ys.map V.str)) c = some (.lst ((xs ++ ys).map V.str)) := by rw [upd_same, List.map_append]
        refine ⟨p, c, xs ++ ys, rfl, p1.new nc, purse_ne p1 nc, hc, ?_, fun z G2 nz mz p2 k2 => ?_⟩
        · rw [List.length_append]
          omega
        · have nlc : l ≠ c := fun q => by rw [← q, hl2] at nc; cases nc
          have hl3 : G2 l = some (.lst (ys.map V.str)) := k2 l _ (by rw [upd_ne nlc]; exact hl2) nlp
          have mz2 : z ∉ xs ∧ z ∉ ys := ⟨fun h => mz (List.mem_append_left _ h), fun h => mz (List.mem_append_right _ h)⟩
          refine ⟨l, _, _, rfl, rfl, hl3, ?_, ?_⟩
          · rw [List.length_map]
            exact small1000 (by omega)
          · have p3 : PurseAt (upd G2 l (.lst (ys.map V.str ++ [V.str z]))) p := by
              obtain ⟨a, b, d, h⟩ := p2
              exact ⟨a, b, d, by rw [upd_ne (fun q => nlp q.symm)]; exact h⟩
            refine ⟨p3, fun b o hb nb => ?_, ys ++ [z], _, by rw [List.length_append, hl]; rfl, fun x hx => ?_, ?_, by rw [upd_same, List.map_append]; rfl, rfl⟩
            · have nbl : b ≠ l := fun q => by rw [q, nl] at hb; cases hb
              rw [upd_ne nbl]
              have h1 := k1 b o hb nb
              have nbc : b ≠ c := fun q => by rw [q, nc] at h1; cases h1
              exact k2 b o (by rw [upd_ne nbc]; exact h1) nb
            · rcases List.mem_append.mp hx with h | h
              · exact hz x h
              · rw [List.mem_singleton.mp h]
                exact ⟨nz, mz2.1⟩
            · refine List.nodup_append.mpr ⟨nd, List.pairwise_singleton _ _, fun a ha b hb e => ?_⟩
              rw [List.mem_singleton.mp hb] at e
              rw [e] at ha
              exact mz2.2 ha
    · obtain ⟨p1, k1, ys, y, hl, hz, nd, hl2, rfl⟩ := hG
      exact ⟨_, rfl, q l ys G hl hz nd p1 k1 nlp nl hl2⟩
end
end Jo

set_option Elab.async false
set_option linter.all false
set_option maxRecDepth 100000
set_option maxHeartbeats 1000000
namespace Jo
open PySem PySem.Spec PyProof.Rows L2
/-- a comprehension whose turns make values that are known, and new things -/
theorem lc_call {J : It} {n : Nat} {G0 : Hp → Prop} {Y : Nat → Hp → V → Hp → Prop} (w : Walk J n G0 Y) {g : TG} {te : TE} {vs : List Nat} {σ : L2.St} {H1 : Hp} {D : Addr} {Qd : Hp → Prop} (nD : H1 D = none)
    (vals : List V) (hn : vals.length = n) (hz : n ≤ 1000) (hG : ∀ G, Same H1 G → G0 G)
    (hs : ∀ (i : Nat) (x v : V) (G G' : Hp) (R : VK), vals[i]? = some v → Same H1 G → Y i G x G' → (∀ G2, Same G G2 → R v G2) → g x (wipe σ vs) G' fun σ2 H2 => wipe σ2 vs = wipe σ vs ∧ te σ2 H2 R)
    (hd : ∀ G, Same H1 G → G D = some (.lst vals) → Qd G) :
    ∃ W : Nat → Nat → Hp → Prop, (∃ m, W 0 m (upd H1 D (.lst []))) ∧ ∀ i m H, W i m H →
      (J.stop i H ∧ Qd H) ∨ (J.go i H ∧ ∃ Nx : Hp → Prop, (∀ H', Nx H' → ∃ m', m' < m ∧ W (i + 1) m' H') ∧ ∀ x H', J.yld i H x H' → g x (wipe σ vs) H' fun σ2 H2 => wipe σ2 vs = wipe σ vs ∧ tYes σ2 H2 fun b H3 =>
        if b = true then te σ2 H3 fun y H4 => ∃ acc, H4 D = some (.lst acc) ∧ acc.length < sizeLine ∧ Nx (upd H4 D (.lst (acc ++ [y]))) else Nx H3) := by
  refine lc_it w (fun i G => Same H1 G ∧ G D = some (.lst (vals.take i))) ⟨same_new nD, by rw [upd_same, List.take_zero]⟩ (fun i G _ h => hG G h.1) (fun i x G G' hi h y => ?_) (fun G h => hd G h.1 (by rw [h.2, ← hn, List.take_length]))
  have hv : vals[i]? = some vals[i] := List.getElem?_eq_getElem (by rw [hn]; exact hi)
  refine hs i x vals[i] G G' _ hv h.1 y fun G2 s2 => ?_
  refine ⟨vals.take i, s2 _ _ h.2, ?_, ?_, ?_⟩
  · rw [List.length_take]
    exact small1000 (by omega)
  · intro b o hb
    have nb : b ≠ D := fun e => by rw [e, nD] at hb; cases hb
    rw [upd_ne nb]
    exact s2 _ _ (h.1 _ _ hb)
  · rw [upd_same, List.take_succ, hv]
    rfl
theorem cut1 (x : V) (us : List V) : cutV (x :: us) (some 1) none = us := by
  unfold cutV
  rw [show HT.sIx (x :: us).length 0 (some (1 : Int)) = 1 by
    show HT.sIx (us.length + 1) 0 (some ((1 : Nat) : Int)) = 1
    rw [HT.sIx_nat]
    omega, HT.sIx_none]
  simp
theorem not_whole (x : V) (us : List V) : ¬ (HT.sIx (x :: us).length 0 (some (1 : Int)) = 0 ∧ HT.sIx (x :: us).length (x :: us).length none = (x :: us).length) := by
  rw [show HT.sIx (x :: us).length 0 (some (1 : Int)) = 1 by
    show HT.sIx (us.length + 1) 0 (some ((1 : Nat) : Int)) = 1
    rw [HT.sIx_nat]
    omega]
  rintro ⟨h, _⟩
  cases h
/-- pairs by places -/
theorem pair_at {α β : Type} {F : α → β → Prop} {xs : List α} {ys : List β} (p : Paired F xs ys) : ∀ {i : Nat} {y : β}, ys[i]? = some y → ∃ x, xs[i]? = some x ∧ F x y := by
  induction p with
  | nil => intro i y h; simp at h
  | cons q _ ih =>
    intro i y h
    cases i with
    | zero => exact ⟨_, rfl, by cases h; exact q⟩
    | succ i => exact ih h
theorem pair_len {α β : Type} {F : α → β → Prop} {xs : List α} {ys : List β} (p : Paired F xs ys) : xs.length = ys.length := by
  induction p with
  | nil => rfl
  | cons _ _ ih => simp [ih]
/-- a small tree: the law's -/
structure Sm (t : Tr) (n : Nat) : Prop where
  ok : t.Ok fun x => nmS x = true
  parts : t.parts ≤ 60
  depth : t.depth ≤ n
theorem Sm.kid {t u : Tr} {n : Nat} (h : Sm t (n + 1)) (hu : u ∈ t.kids) : Sm u n :=
  ⟨h.ok.kid u hu, by have := Tr.kid_parts u hu; have := h.parts; omega, by have := Tr.kid_depth u hu; have := h.depth; omega⟩
theorem Sm.not0 {t : Tr} (h : Sm t 0) : False := by
  have := Tr.one_depth t
  have := h.depth
  omega
theorem Sm.text {t : Tr} {n : Nat} (h : Sm t n) : t.text.length ≤ 1600 := by
  have := Tr.text_len (fun x h => nm_len h) h.ok
  have := h.parts
  omega
theorem Sm.mono {t : Tr} {n m : Nat} (h : Sm t n) (l : n ≤ m) : Sm t m := ⟨h.ok, h.parts, Nat.le_trans h.depth l⟩
theorem words_ne : ∀ k : Bk, (k.word = ("number" : Str)) = False ∧ (k.word = ("variable" : Str)) = False := by
  intro k
  cases k <;> exact ⟨eq_false (by decide +kernel), eq_false (by decide +kernel)⟩
theorem comp_head {t : Tr} (h : t.comp = true) : t.head ≠ ("number" : Str) ∧ t.head ≠ ("variable" : Str) := by
  cases t with
  | num n => cases h
  | var x => cases h
  | un a => exact ⟨by show ¬ ("not" : Str) = "number"; decide +kernel, by show ¬ ("not" : Str) = "variable"; decide +kernel⟩
  | bi k a b => exact ⟨fun e => by rw [← (words_ne k).1]; exact e, fun e => by rw [← (words_ne k).2]; exact e⟩
  | ch a b c => exact ⟨by show ¬ ("choose" : Str) = "number"; decide +kernel, by show ¬ ("choose" : Str) = "variable"; decide +kernel⟩
theorem kids3 (t : Tr) : t.kids.length ≤ 3 := by cases t <;> exact Nat.le_of_ble_eq_true rfl
theorem head6 (t : Tr) : t.head.length ≤ 8 := by
  cases t with
  | bi k a b => show k.word.length ≤ 8; cases k <;> decide +kernel
  | num n => show ("number" : Str).length ≤ 8; decide +kernel
  | var n => show ("variable" : Str).length ≤ 8; decide +kernel
  | un n => show ("not" : Str).length ≤ 8; decide +kernel
  | ch a b c => show ("choose" : Str).length ≤ 8; decide +kernel
theorem sum_B : ∀ {l : List Nat} {B : Nat}, (∀ x ∈ l, x ≤ B) → l.sum ≤ l.length * B
  | [], B, _ => Nat.zero_le _
  | x :: l, B, h => by
    have h1 := h x List.mem_cons_self
    have h2 := sum_B (l := l) (B := B) fun y hy => h y (List.mem_cons_of_mem _ hy)
    rw [List.sum_cons, List.length_cons, Nat.succ_mul]
    omega
theorem small_len {n : Nat} (h : n ≤ 16777216) : n ≤ sizeLine := Nat.le_trans h (by decide)
section
variable {P : Program} {w : World} {K : PySem.W.Frag} {mg : Str → Option Value} {base : Heap}
def n_text : List Str := ["_law_tree_here", "_law_side"]
theorem sc_text : FnScope n_text ["_law_tree_here"] (defScope s_text) := ⟨rfl, rfl, rfl, by decide +kernel, rfl, by decide +kernel, by decide +kernel⟩
def spText (n : Nat) : Sp := fun vs H Q _ => ∃ (t : Tr) (v : V), vs = [v] ∧ Tp H t v ∧ Sm t n ∧ ∀ H', Same H H' → Q (.str t.text) H'
theorem ok_text (T : Txt mg) (D : Dfn K mg "_law_text" s_text ["_law_tree_here"]) : ∀ n, CalG P w K mg base (n + 1) "_law_text" ["_law_tree_here"] (spText n) := by
  intro n
  induction n with
  | zero =>
    refine D.ok sc_text (fun vs H Q E h => ?_) (fun f cdv A fr s H vs Q E hr hgd h => ?_)
    · obtain ⟨t, v, rfl, _⟩ := h
      rfl
    · obtain ⟨t, v, _, _, sm, _⟩ := h
      exact sm.not0.elim
  | succ n c_text =>
    refine D.ok sc_text (fun vs H Q E h => ?_) (fun f cdv A fr s H vs Q E hr hgd h => ?_)
    · obtain ⟨t, v, rfl, _⟩ := h
      rfl
    · obtain ⟨t, v, rfl, tp, sm, q⟩ := h
      refine ⟨_, pss_cons (ps_if (pt_cmpR op_eq (pe_ix ix_tup (pv 0) pe_int (fun _ _ => rfl)) pe_str (nomark _))
          (pss_one (ps_ret (pe_callTy call_str_int rfl T.b_str (by decide +kernel) (pa_cons (pe_ix ix_tup (pv 0) pe_int (fun _ _ => rfl)) pa_nil))))
          (pss_nil))
        (pss_cons (ps_if (pt_cmpR op_eq (pe_ix ix_tup (pv 0) pe_int (fun _ _ => rfl)) pe_str (nomark _))
          (pss_one (ps_ret (pe_ix ix_tup (pv 0) pe_int (fun _ _ => rfl))))
          (pss_nil))
        (pss_one (ps_ret (pe_op op_add_str (pe_op op_add_str (pe_op op_add_str (pe_ix ix_tup (pv 0) pe_int (fun _ _ => rfl)) pe_str) (pe_join pe_str (pe_lc (own := [("_law_side", 1)]) (g := gName 1) (tt := tYes) rfl sc_text.nd (pi_tup (pe_slice sl_tup (pv 0) (po_some pe_int) po_none)) (blkOk_by (N := n_text) (sc := defScope s_text) (by decide +kernel)) (fun _ _ _ _ _ => pg_name (i := 1) sc_text.nd rfl (Or.inl rfl)) (fun _ _ _ _ _ => pts_nil) (fun _ _ _ _ _ => (pe_cG c_text hr (Nat.le_refl _) hgd rfl (pa_cons (pv 1) pa_nil)))))) pe_str)))), ?_⟩
      by_cases hc : t.comp = true
      · obtain ⟨p, us, rfl, hp, pr⟩ := tp.comp hc
        obtain ⟨n1, n2⟩ := comp_head hc
        have sT : SqT K H p (.str t.head :: us) := .inl (.inl hp)
        have f1 : decide (V.str t.head = V.str "number") = false := decide_eq_false fun e => n1 (V.str.inj e)
        have f2 : decide (V.str t.head = V.str "variable") = false := decide_eq_false fun e => n2 (V.str.inj e)
        refine ⟨_, rfl, p, _, 0, _, rfl, rfl, sT, atI_nat (j := 0) rfl, rfl, _, rfl, ?_⟩
        rw [f1]
        refine iteF ⟨_, rfl, p, _, 0, _, rfl, rfl, sT, atI_nat (j := 0) rfl, rfl, _, rfl, ?_⟩
        rw [f2]
        refine iteF ⟨_, rfl, p, _, 0, _, rfl, rfl, sT, atI_nat (j := 0) rfl, _, _, rfl, rfl, ?_, ⟨_, rfl⟩, _, rfl, _, rfl, p, _, rfl, sT, not_whole _ _, fun q1 nq => ?_⟩
        · exact small_len (by have := head6 t; show t.head.length + 1 ≤ _; omega)
        · rw [cut1]
          refine ⟨q1, rfl, ⟨_, .inl (.inl upd_same)⟩, fun D1 n1 => ?_⟩
          refine lc_call (walk_tup (K := K) (a := q1) (xs := us)) n1 (t.kids.map fun u => V.str u.text) (by rw [List.length_map]; exact pair_len pr) ?_ (fun G sG => .inl (.inl (sG _ _ upd_same))) (fun i x v G G' R hv sG hy hR => ?_) (fun G sG hD => ?_)
          · have := kids3 t
            have := pair_len pr
            omega
          · obtain ⟨rfl, hx⟩ := hy
            obtain ⟨u, hu, tu⟩ := pair_at pr hx
            have ev : v = .str u.text := by
              rw [List.getElem?_map, hu] at hv
              exact (Option.some.inj hv).symm
            subst ev
            exact ⟨rfl, _, rfl, u, x, rfl, tu.same ((same_new nq).trans sG), sm.kid (List.mem_of_getElem? hu), fun G2 s2 => hR G2 s2⟩
          · have tl : ∀ x ∈ (t.kids.map Tr.text).map (·.length), x ≤ 1600 := fun x hx => by
              obtain ⟨z, hz, rfl⟩ := List.mem_map.mp hx
              obtain ⟨u, hu, rfl⟩ := List.mem_map.mp hz
              exact (sm.kid hu).text
            have s3 := sum_B tl
            have k3 := kids3 t
            rw [List.length_map, List.length_map] at s3
            have j1 := join_len ", " (t.kids.map Tr.text)
            have j2 : (", " : Str).length = 2 := by decide +kernel
            rw [List.length_map, j2] at j1
            have h6 := head6 t
            have jz : (t.kids.map Tr.text).length * (", " : Str).length ≤ 6 := by rw [List.length_map, j2]; omega
            refine ⟨", ", D1, t.kids.map Tr.text, rfl, rfl, .inl (SqL.of (by rw [hD, List.map_map]; rfl)), by omega, _, _, rfl, rfl, ?_, _, _, rfl, rfl, ?_, ?_⟩
            · rw [len_cat]
              exact small_len (by show t.head.length + 1 + _ ≤ _; omega)
            · rw [len_cat, len_cat]
              exact small_len (by show t.head.length + 1 + _ + 1 ≤ _; omega)
            · have e := Tr.text_comp hc
              rw [← e]
              exact q G ((same_new nq).trans sG)
      · cases t with
        | un a => exact absurd rfl hc
        | bi k a b => exact absurd rfl hc
        | ch a b c => exact absurd rfl hc
        | num m =>
          obtain ⟨p, rfl, hp⟩ := tp
          have sT : SqT K H p [.str "number", .int m] := .inl (.inl hp)
          have b := sm.ok
          refine ⟨_, rfl, p, _, 0, _, rfl, rfl, sT, atI_nat (j := 0) rfl, rfl, _, rfl, iteT ?_⟩
          exact ⟨_, rfl, p, _, 1, _, rfl, rfl, sT, atI_nat (j := 1) rfl, m, rfl, log_s (by have h1 : 0 ≤ m := b.1; have h2 : m ≤ 999 := b.2; omega), q H (.refl _)⟩
        | var x =>
          obtain ⟨p, rfl, hp⟩ := tp
          have sT : SqT K H p [.str "variable", .str x] := .inl (.inl hp)
          have f1 : decide (V.str "variable" = V.str "number") = false := decide_eq_false fun e => by
            have e2 := V.str.inj e
            revert e2
            decide +kernel
          refine ⟨_, rfl, p, _, 0, _, rfl, rfl, sT, atI_nat (j := 0) rfl, rfl, _, rfl, ?_⟩
          rw [f1]
          refine iteF ⟨_, rfl, p, _, 0, _, rfl, rfl, sT, atI_nat (j := 0) rfl, rfl, _, rfl, iteT ?_⟩
          exact ⟨_, rfl, p, _, 1, _, rfl, rfl, sT, atI_nat (j := 1) rfl, q H (.refl _)⟩
end
end Jo

set_option Elab.async false
set_option linter.all false
set_option maxRecDepth 100000
set_option maxHeartbeats 1000000
namespace Jo
open PySem PySem.Spec PyProof.Rows L2
theorem leaf_head {t : Tr} : (t.head ∈ (["number", "variable"] : List Str)) ↔ t.comp = false := by
  constructor
  · intro h
    cases hc : t.comp with
    | false => rfl
    | true =>
      obtain ⟨n1, n2⟩ := comp_head hc
      rcases List.mem_cons.mp h with e | h
      · exact absurd e n1
      · exact absurd (List.mem_singleton.mp h) n2
  · intro h
    cases t with
    | num n => exact List.mem_cons_self
    | var x => exact List.mem_cons_of_mem _ List.mem_cons_self
    | un a => cases h
    | bi k a b => cases h
    | ch a b c => cases h
theorem leaf_parts {t : Tr} (h : t.comp = false) : t.parts = 1 ∧ t.depth = 1 := by
  cases t with
  | num n => exact ⟨rfl, rfl⟩
  | var x => exact ⟨rfl, rfl⟩
  | un a => cases h
  | bi k a b => cases h
  | ch a b c => cases h
theorem nat_sum : ∀ l : List Nat, ((l.map fun n : Nat => (n : Int)).sum) = ((l.sum : Nat) : Int)
  | [] => rfl
  | n :: l => by
    rw [List.map_cons, List.sum_cons, List.sum_cons, nat_sum l]
    omega
theorem fold_ge : ∀ (l : List Nat) (n : Nat), n ≤ l.foldl max n ∧ (∀ x ∈ l, x ≤ l.foldl max n) ∧ (l.foldl max n = n ∨ l.foldl max n ∈ l)
  | [], n => ⟨Nat.le_refl _, fun x h => (by cases h), .inl rfl⟩
  | y :: l, n => by
    obtain ⟨h1, h2, h3⟩ := fold_ge l (max n y)
    refine ⟨by show n ≤ l.foldl max (max n y); omega, fun x hx => ?_, ?_⟩
    · show x ≤ l.foldl max (max n y)
      rcases List.mem_cons.mp hx with e | m
      · subst e; omega
      · exact h2 x m
    · show l.foldl max (max n y) = n ∨ l.foldl max (max n y) ∈ y :: l
      rcases h3 with e | m
      · rcases Nat.le_total n y with c | c
        · rw [Nat.max_eq_right c] at e ⊢
          exact .inr (by rw [e]; exact List.mem_cons_self)
        · rw [Nat.max_eq_left c] at e ⊢
          exact .inl e
      · exact .inr (List.mem_cons_of_mem _ m)
/-- the greatest of them, whatever way it is said -/
theorem top1_is {l : List Nat} {m : Int} (hm : m ∈ l.map fun n : Nat => (n : Int)) (hle : ∀ y ∈ l.map fun n : Nat => (n : Int), y ≤ m) : m = ((Tr.top1 l : Nat) : Int) := by
  obtain ⟨h1, h2, h3⟩ := fold_ge l 0
  obtain ⟨n, hn, rfl⟩ := List.mem_map.mp hm
  have a : n ≤ Tr.top1 l := h2 n hn
  have b : Tr.top1 l ≤ n := by
    rcases h3 with e | m
    · show l.foldl max 0 ≤ n
      omega
    · have := hle _ (List.mem_map.mpr ⟨_, m, rfl⟩)
      show l.foldl max 0 ≤ n
      omega
  omega
end Jo

set_option Elab.async false
set_option linter.all false
set_option maxRecDepth 100000
set_option maxHeartbeats 1000000
namespace Jo
open PySem PySem.Spec PyProof.Rows L2
theorem flat_len : ∀ (l : List Tr), (l.flatMap Tr.nms).length ≤ (l.map Tr.parts).sum
  | [] => Nat.le_refl _
  | t :: l => by
    have h1 := Tr.nms_len t
    have h2 := flat_len l
    rw [List.flatMap_cons, List.length_append, List.map_cons, List.sum_cons]
    omega
theorem nms_comp {t : Tr} (h : t.comp = true) : t.nms = srt (t.kids.flatMap Tr.nms) := by
  show srt t.vars = _
  rw [Tr.vars_comp h]
  exact (srt_flat Tr.vars t.kids).symm
theorem take_flat {α β : Type} {f : α → List β} {xs : List α} {i : Nat} {x : α} (h : xs[i]? = some x) : (xs.take (i + 1)).flatMap f = (xs.take i).flatMap f ++ f x := by
  rw [List.take_succ, h, List.flatMap_append]
  simp
theorem take_len {α β : Type} {f : α → List β} (xs : List α) (i : Nat) : ((xs.take i).flatMap f).length ≤ (xs.flatMap f).length := by
  have e : xs.flatMap f = (xs.take i).flatMap f ++ (xs.drop i).flatMap f := by rw [← List.flatMap_append, List.take_append_drop]
  rw [e, List.length_append]
  omega
end Jo

set_option Elab.async false
set_option linter.all false
set_option maxRecDepth 100000
set_option maxHeartbeats 1000000
namespace Jo
open PySem PySem.Spec PyProof.Rows L2
/-! ### what stands beside the purse -/
def Off (p : Addr) (H : Hp) : Hp := fun a => if a = p then none else H a
theorem off_get {p a : Addr} {H : Hp} {o : HO} (h : Off p H a = some o) : a ≠ p ∧ H a = some o := by
  unfold Off at h
  by_cases e : a = p
  · rw [if_pos e] at h
    cases h
  · rw [if_neg e] at h
    exact ⟨e, h⟩
theorem off_of {p a : Addr} {H : Hp} {o : HO} (n : a ≠ p) (h : H a = some o) : Off p H a = some o := (if_neg n).trans h
theorem off_same {p : Addr} {H : Hp} : Same (Off p H) H := fun _ _ e => (off_get e).2
theorem off_kp {p : Addr} {H H' : Hp} (k : Kp p H H') : Same (Off p H) (Off p H') := fun b o e => off_of (off_get e).1 (k b o (off_get e).2 (off_get e).1)
theorem kp_new {p a : Addr} {H : Hp} {o : HO} (na : H a = none) : Kp p H (upd H a o) := kp_of (same_new na)
theorem off_new {p a : Addr} {H : Hp} {o : HO} (hp : PurseAt H p) (na : H a = none) : Off p (upd H a o) a = some o := off_of (purse_ne hp na) upd_same
/-! ### texts as data -/
theorem strOk_all {z : Str} : PyData.strOk z = true ↔ ∀ c ∈ z.cps.toList, c < 0x110000 := by
  unfold PyData.strOk
  rw [← Array.all_toList, List.all_eq_true]
  exact ⟨fun h c hc => of_decide_eq_true (h c hc), fun h c hc => decide_eq_true (h c hc)⟩
theorem strOk_of (s : String) : PyData.strOk (Str.ofString s) = true := strOk_all.mpr fun c hc => by
  have e : (Str.ofString s).cps.toList = s.toList.map Char.toNat := PySem.cpsOfBytes_string s
  rw [e] at hc
  obtain ⟨x, _, rfl⟩ := List.mem_map.mp hc
  rcases x.valid with h | ⟨_, h⟩
  · exact Nat.lt_trans h (by decide)
  · exact h
theorem strOk_cat {a b : Str} (ha : PyData.strOk a = true) (hb : PyData.strOk b = true) : PyData.strOk (a ++ b) = true := strOk_all.mpr fun c hc => by
  rw [cps_add] at hc
  rcases List.mem_append.mp hc with h | h
  · exact strOk_all.mp ha c h
  · exact strOk_all.mp hb c h
theorem strOk_join {s : Str} (hs : PyData.strOk s = true) : ∀ {xs : List Str}, (∀ x ∈ xs, PyData.strOk x = true) → PyData.strOk (Str.join s xs) = true
  | [], _ => strOk_of ""
  | [x], h => h x List.mem_cons_self
  | x :: y :: r, h => strOk_cat (strOk_cat (h x List.mem_cons_self) hs) (strOk_join hs fun z hz => h z (List.mem_cons_of_mem _ hz))
theorem strOk_nm {z : Str} (h : nmS z = true) : PyData.strOk z = true := strOk_all.mpr fun c hc => by
  unfold nmS at h
  rw [Bool.and_eq_true, Bool.and_eq_true (b := (List.map _ _).all id)] at h
  have h2 := h.2.2
  rw [List.all_eq_true] at h2
  obtain ⟨i, hi, e⟩ := List.getElem_of_mem hc
  have hi2 : i < z.cps.size := by rw [← Array.length_toList]; exact hi
  have h4 : z.cps.getD i 0 ∈ signs.cps.toList := of_decide_eq_true (h2 (decide (z.cps.getD i 0 ∈ signs.cps.toList)) (List.mem_map.mpr ⟨i, List.mem_range.mpr hi2, rfl⟩))
  have h5 : z.cps.getD i 0 = c := by
    rw [← e]
    simp [Array.getD_eq_getD_getElem?, hi2]
  rw [h5] at h4
  have h6 : ∀ c ∈ signs.cps.toList, c < 0x110000 := by decide +kernel
  exact h6 c h4
theorem strOk_text : ∀ {t : Tr}, t.Ok (fun x => nmS x = true) → PyData.strOk t.text = true := by
  intro t
  have jn : ∀ {xs : List Str}, (∀ x ∈ xs, PyData.strOk x = true) → PyData.strOk (Txt.join ", " xs) = true := fun {xs} h => by
    rw [TL.join_eq]
    exact strOk_join (strOk_of ", ") h
  have wd : ∀ k : Bk, PyData.strOk k.word = true := fun k => by cases k <;> exact strOk_of _
  induction t with
  | num n => exact fun _ => strOk_of _
  | var x => exact fun o => strOk_nm o
  | un a ih =>
    intro o
    refine strOk_cat (strOk_cat (strOk_cat (strOk_of "not") (strOk_of "(")) (jn fun x hx => ?_)) (strOk_of ")")
    rw [List.mem_singleton.mp hx]
    exact ih o
  | bi k a b iha ihb =>
    intro o
    refine strOk_cat (strOk_cat (strOk_cat (wd k) (strOk_of "(")) (jn fun x hx => ?_)) (strOk_of ")")
    rcases List.mem_cons.mp hx with e | hx
    · rw [e]; exact iha o.1
    · rw [List.mem_singleton.mp hx]; exact ihb o.2
  | ch a b c iha ihb ihc =>
    intro o
    refine strOk_cat (strOk_cat (strOk_cat (strOk_of "choose") (strOk_of "(")) (jn fun x hx => ?_)) (strOk_of ")")
    rcases List.mem_cons.mp hx with e | hx
    · rw [e]; exact iha o.1
    · rcases List.mem_cons.mp hx with e | hx
      · rw [e]; exact ihb o.2.1
      · rw [List.mem_singleton.mp hx]; exact ihc o.2.2
theorem dp_strs {K : PySem.W.Frag} {H : Hp} : ∀ xs : List Str, DpAll K H (xs.map V.str) (xs.map PyData.str)
  | [] => .nil
  | x :: xs => .cons (.str x) (dp_strs xs)
theorem dp_bls {K : PySem.W.Frag} {H : Hp} : ∀ xs : List Bool, DpAll K H (xs.map V.bl) (xs.map PyData.bool)
  | [] => .nil
  | x :: xs => .cons (.bl x) (dp_bls xs)
theorem eqv_strs : ∀ xs ys : List Str, PyData.eqvAll (xs.map .str) (ys.map .str) = decide (xs = ys)
  | [], [] => rfl
  | [], y :: ys => by simp [PyData.eqvAll]
  | x :: xs, [] => by simp [PyData.eqvAll]
  | x :: xs, y :: ys => by
    show ((x == y) && PyData.eqvAll (xs.map .str) (ys.map .str)) = _
    rw [eqv_strs xs ys, Bool.eq_iff_iff]
    simp
theorem depth_strs : ∀ xs : List Str, PyData.depthAll (xs.map .str) = 0
  | [] => rfl
  | x :: xs => by
    show max 0 (PyData.depthAll (xs.map .str)) = 0
    rw [depth_strs xs]
    rfl
theorem lay_strs : ∀ {xs : List Str}, (∀ x ∈ xs, PyData.strOk x = true) → PyData.canLayAll0 (xs.map .str) = true
  | [], _ => rfl
  | x :: xs, h => by
    show (PyData.strOk x && PyData.canLayAll0 (xs.map .str)) = true
    rw [lay_strs fun y hy => h y (List.mem_cons_of_mem _ hy), h x List.mem_cons_self]
    rfl
theorem shaped_strs {xs : List Str} (h : ∀ x ∈ xs, PyData.strOk x = true) : SeqAt.shaped (.list (xs.map .str)) = true := by
  show (PyData.canLayAll0 (xs.map .str) && decide (PyData.depthAll (xs.map .str) + 1 ≤ 64)) = true
  rw [lay_strs h, depth_strs]
  rfl
theorem eqv_bls : ∀ xs ys : List Bool, PyData.eqvAll (xs.map .bool) (ys.map .bool) = decide (xs = ys)
  | [], [] => rfl
  | [], y :: ys => by simp [PyData.eqvAll]
  | x :: xs, [] => by simp [PyData.eqvAll]
  | x :: xs, y :: ys => by
    have e : PyData.eqv (.bool x) (.bool y) = decide (x = y) := by cases x <;> cases y <;> rfl
    show (PyData.eqv (.bool x) (.bool y) && PyData.eqvAll (xs.map .bool) (ys.map .bool)) = _
    rw [eqv_bls xs ys, e, Bool.eq_iff_iff]
    simp
theorem lay_bls : ∀ xs : List Bool, PyData.canLayAll0 (xs.map .bool) = true ∧ PyData.depthAll (xs.map .bool) = 0
  | [] => ⟨rfl, rfl⟩
  | x :: xs => by
    obtain ⟨h1, h2⟩ := lay_bls xs
    refine ⟨?_, ?_⟩
    · show (true && PyData.canLayAll0 (xs.map .bool)) = true
      rw [h1]; rfl
    · show max 0 (PyData.depthAll (xs.map .bool)) = 0
      rw [h2]; rfl
theorem shaped_bls (xs : List Bool) : SeqAt.shaped (.list (xs.map .bool)) = true := by
  obtain ⟨h1, h2⟩ := lay_bls xs
  show (PyData.canLayAll0 (xs.map .bool) && decide (PyData.depthAll (xs.map .bool) + 1 ≤ 64)) = true
  rw [h1, h2]
  rfl
end Jo

set_option Elab.async false
set_option linter.all false
set_option maxRecDepth 100000
set_option maxHeartbeats 1000000
namespace Jo
open PySem PySem.Spec PyProof.Rows L2
/-- the purse at p and a list of names at N -/
structure Drw (H : Hp) (p N : Addr) (ys : List Str) : Prop where
  purse : PurseAt H p
  ne : N ≠ p
  list : H N = some (.lst (ys.map V.str))
  few : ys.length ≤ 20
  nm : ∀ z ∈ ys, nmS z = true
theorem Drw.go {H H' : Hp} {p N : Addr} {ys : List Str} (d : Drw H p N ys) (hp : PurseAt H' p) (k : Kp p H H') : Drw H' p N ys := ⟨hp, d.ne, k _ _ d.list d.ne, d.few, d.nm⟩
section
variable {P : Program} {w : World} {K : PySem.W.Frag} {mg : Str → Option Value} {base : Heap}
def n_leaf : List Str := ["_law_purse_here", "_law_names_here", "_law_way"]
theorem sc_leaf : FnScope n_leaf ["_law_purse_here", "_law_names_here"] (defScope s_leaf) := ⟨rfl, rfl, rfl, by decide +kernel, rfl, by decide +kernel, by decide +kernel⟩
def spLeaf : Sp := fun vs H Q _ => ∃ (p N : Addr) (ys : List Str), vs = [.ref p, .ref N] ∧ Drw H p N ys ∧
  ∀ (t : Tr) (v : V) (H' : Hp), Tp (Off p H') t v → t.Ok (fun x => nmS x = true) → t.comp = false → (∀ z ∈ t.vars, z ∈ ys) → PurseAt H' p → Kp p H H' → Q v H'
theorem ok_leaf (T : Txt mg) (D : Dfn K mg "_law_leaf" s_leaf ["_law_purse_here", "_law_names_here"]) (c_draw : CalG P w K mg base 1 "_law_draw" ["_law_purse_here", "_law_many"] spDraw) :
    CalG P w K mg base 2 "_law_leaf" ["_law_purse_here", "_law_names_here"] spLeaf := by
  refine D.ok sc_leaf (fun vs H Q E h => ?_) (fun f cdv A fr s H vs Q E hr hgd h => ?_)
  · obtain ⟨p, N, ys, rfl, _⟩ := h
    rfl
  · obtain ⟨p, N, ys, rfl, d, q⟩ := h
    refine ⟨_, pss_cons (ps_if (PW.pt (pw_and (pt_cmpR (op_neD hr.units) (pv 1) (pe_lst pa_nil) (nomark _)) (pw_and1 (pt_cmpR op_gt (pe_cG c_draw hr (by decide) hgd rfl (pa_cons (pv 0) (pa_cons pe_int pa_nil))) pe_int (nomark _)))))
        (pss_one (ps_ret (pe_tup (pa_cons pe_str (pa_cons (pe_ix ix_list (pv 1) (pe_cG c_draw hr (by decide) hgd rfl (pa_cons (pv 0) (pa_cons (pe_callB call_len rfl T.b_len (by decide +kernel) (pa_cons (pv 1) pa_nil)) pa_nil))) (fun _ _ => rfl)) pa_nil)))))
        (pss_nil))
      (pss_cons (ps_set (i := 2) sc_leaf.nd rfl (.inl rfl) (pe_cG c_draw hr (by decide) hgd rfl (pa_cons (pv 0) (pa_cons pe_int pa_nil))))
      (pss_cons (ps_if (pt_cmpR op_eq (pv 2) pe_int (nomark _))
        (pss_one (ps_ret (pe_tup (pa_cons pe_str (pa_cons (pe_cG c_draw hr (by decide) hgd rfl (pa_cons (pv 0) (pa_cons pe_int pa_nil))) pa_nil)))))
        (pss_nil))
      (pss_one (ps_ret (pe_tup (pa_cons pe_str (pa_cons (pe_ifExp (pt_cmpR op_eq (pv 2) pe_int (nomark _)) (pe_ix ix_list (pe_lst (pa_cons pe_int (pa_cons pe_int (pa_cons pe_int pa_nil)))) (pe_cG c_draw hr (by decide) hgd rfl (pa_cons (pv 0) (pa_cons pe_int pa_nil))) (fun _ _ => rfl)) (pe_cG c_draw hr (by decide) hgd rfl (pa_cons (pv 0) (pa_cons pe_int pa_nil)))) pa_nil))))))), ?_⟩
    have numEnd : ∀ (G : Hp) (n : Nat), n < 1000 → PurseAt G p → Kp p H G → ∀ r, G r = none → Q (.ref r) (upd G r (.tup [V.str "number", V.int (n : Int)])) := fun G n hn pG kG r nr =>
      q (.num (n : Int)) _ _ ⟨r, rfl, off_new pG nr⟩ ⟨by omega, by omega⟩ rfl (fun z h => by cases h) (pG.new nr) (kG.trans (kp_new nr))
    refine ⟨_, rfl, (show 0 ≤ sizeLine by decide), fun l nl => ?_⟩
    have s1 : Same H (upd H l (.lst [])) := same_new nl
    have d1 := d.go (d.purse.same s1) (kp_of s1)
    refine ⟨.list (ys.map PyData.str), .list [], .lst (SqL.of d1.list) (dp_strs ys), .lst (SqL.of upd_same) .nil, shaped_strs fun x hx => strOk_nm (d.nm x hx), rfl, _, rfl, ?_⟩
    have e0 : PyData.eqv (.list (ys.map PyData.str)) (.list []) = decide (ys = []) := eqv_strs ys []
    rw [e0]
    by_cases hy : ys = []
    · rw [decide_eq_true hy]
      refine iteF ?_
      refine dr rfl d1.purse (by decide) (by decide) fun w1 H1 h1 p1 k1 => ?_
      have kk := (kp_of s1).trans k1
      refine ⟨_, rfl, rfl, _, rfl, ite2 (fun e => ?_) (fun e => ?_)⟩
      · refine dr rfl p1 (by decide) (by decide) fun m H2 h2 p2 k2 => ?_
        exact ⟨(show 2 ≤ sizeLine by decide), fun r nr => numEnd H2 m (by omega) p2 (kk.trans k2) r nr⟩
      · refine ⟨_, rfl, rfl, _, rfl, ite2 (fun e => ?_) (fun e => ?_)⟩
        · refine ⟨(show 3 ≤ sizeLine by decide), fun l2 nl2 => ?_⟩
          refine dr rfl (p1.new nl2) (by decide) (by decide) fun m H2 h2 p2 k2 => ?_
          have hl2 := k2 l2 _ upd_same (purse_ne p1 nl2)
          obtain ⟨n, hn, n9⟩ : ∃ n : Nat, ([.int 0, .int 1, .int 999] : List V)[m]? = some (.int (n : Int)) ∧ n < 1000 := by
            have : m = 0 ∨ m = 1 ∨ m = 2 := by omega
            rcases this with e | e | e <;> subst e
            · exact ⟨0, rfl, by decide⟩
            · exact ⟨1, rfl, by decide⟩
            · exact ⟨999, rfl, by decide⟩
          refine ⟨l2, _, _, _, rfl, rfl, SqL.of hl2, atI_nat hn, ?_⟩
          exact ⟨(show 2 ≤ sizeLine by decide), fun r nr => numEnd H2 n n9 p2 ((kk.trans (kp_new nl2)).trans k2) r nr⟩
        · refine dr rfl p1 (by decide) (by decide) fun m H2 h2 p2 k2 => ?_
          exact ⟨(show 2 ≤ sizeLine by decide), fun r nr => numEnd H2 m (by omega) p2 (kk.trans k2) r nr⟩
    · rw [decide_eq_false hy]
      have pos : 0 < ys.length := by
        cases ys with
        | nil => exact absurd rfl hy
        | cons y r => exact Nat.succ_pos _
      refine iteT ?_
      refine dr rfl d1.purse (by decide) (by decide) fun w0 G0 g0 pg0 kg0 => ?_
      have d2 := d1.go pg0 kg0
      refine ⟨_, _, rfl, rfl, _, rfl, ite2 (fun e => ?_) (fun e => ?_)⟩
      · refine ⟨_, rfl, rd_draw (m := (ys.length : Int)) rfl d2.purse (by omega) (by have := d2.few; omega) (fun R hR => ⟨_, rfl, _, ys.length, rfl, .inl ⟨_, SqL.of d2.list, by rw [List.length_map]⟩, hR⟩) fun m H2 h2 p2 k2 => ?_⟩
        have d3 := d2.go p2 k2
        obtain ⟨z, hz, e2⟩ := pick_at (xs := ys) (d := m) (by omega)
        refine ⟨N, _, m, _, rfl, rfl, SqL.of d3.list, atI_nat (by rw [List.getElem?_map, e2]; rfl), (show 2 ≤ sizeLine by decide), fun r nr => ?_⟩
        exact q (.var z) _ _ ⟨r, rfl, off_new p2 nr⟩ (d.nm z hz) rfl (fun x hx => by rw [List.mem_singleton.mp hx]; exact hz) (p2.new nr) ((((kp_of s1).trans kg0).trans k2).trans (kp_new nr))
      · refine dr rfl d2.purse (by decide) (by decide) fun w1 H1 h1 p1 k1 => ?_
        have kk := ((kp_of s1).trans kg0).trans k1
        refine ⟨_, rfl, rfl, _, rfl, ite2 (fun e => ?_) (fun e => ?_)⟩
        · refine dr rfl p1 (by decide) (by decide) fun m H2 h2 p2 k2 => ?_
          exact ⟨(show 2 ≤ sizeLine by decide), fun r nr => numEnd H2 m (by omega) p2 (kk.trans k2) r nr⟩
        · refine ⟨_, rfl, rfl, _, rfl, ite2 (fun e => ?_) (fun e => ?_)⟩
          · refine ⟨(show 3 ≤ sizeLine by decide), fun l2 nl2 => ?_⟩
            refine dr rfl (p1.new nl2) (by decide) (by decide) fun m H2 h2 p2 k2 => ?_
            have hl2 := k2 l2 _ upd_same (purse_ne p1 nl2)
            obtain ⟨n, hn, n9⟩ : ∃ n : Nat, ([.int 0, .int 1, .int 999] : List V)[m]? = some (.int (n : Int)) ∧ n < 1000 := by
              have : m = 0 ∨ m = 1 ∨ m = 2 := by omega
              rcases this with e | e | e <;> subst e
              · exact ⟨0, rfl, by decide⟩
              · exact ⟨1, rfl, by decide⟩
              · exact ⟨999, rfl, by decide⟩
            refine ⟨l2, _, _, _, rfl, rfl, SqL.of hl2, atI_nat hn, ?_⟩
            exact ⟨(show 2 ≤ sizeLine by decide), fun r nr => numEnd H2 n n9 p2 ((kk.trans (kp_new nl2)).trans k2) r nr⟩
          · refine dr rfl p1 (by decide) (by decide) fun m H2 h2 p2 k2 => ?_
            exact ⟨(show 2 ≤ sizeLine by decide), fun r nr => numEnd H2 m (by omega) p2 (kk.trans k2) r nr⟩
end
end Jo

set_option Elab.async false
set_option linter.all false
set_option maxRecDepth 100000
set_option maxHeartbeats 1000000
namespace Jo
open PySem PySem.Spec PyProof.Rows L2
def wordsT : List Str := ["plus", "minus", "times", "equal", "below", "both", "either", "choose", "plus", "not", "choose"]
def kindsT : List Kd := [.bi .plus, .bi .minus, .bi .times, .bi .equal, .bi .below, .bi .both, .bi .either, .ch, .bi .plus, .un, .ch]
theorem kindsT_ok : ∀ d < 11, ∃ k : Kd, wordsT[d]? = some k.word ∧ 0 < k.many := by
  intro d hd
  have : d = 0 ∨ d = 1 ∨ d = 2 ∨ d = 3 ∨ d = 4 ∨ d = 5 ∨ d = 6 ∨ d = 7 ∨ d = 8 ∨ d = 9 ∨ d = 10 := by omega
  rcases this with e | e | e | e | e | e | e | e | e | e | e <;> subst e
  · exact ⟨.bi .plus, rfl, by decide⟩
  · exact ⟨.bi .minus, rfl, by decide⟩
  · exact ⟨.bi .times, rfl, by decide⟩
  · exact ⟨.bi .equal, rfl, by decide⟩
  · exact ⟨.bi .below, rfl, by decide⟩
  · exact ⟨.bi .both, rfl, by decide⟩
  · exact ⟨.bi .either, rfl, by decide⟩
  · exact ⟨.ch, rfl, by decide⟩
  · exact ⟨.bi .plus, rfl, by decide⟩
  · exact ⟨.un, rfl, by decide⟩
  · exact ⟨.ch, rfl, by decide⟩
/-- how many sides, by the word -/
theorem many_word (k : Kd) (h : 0 < k.many) : (if k.word = ("not" : Str) then 1 else if k.word = ("choose" : Str) then 3 else 2) = k.many := by
  cases k with
  | num => cases h
  | var => cases h
  | bi b => cases b <;> rfl
  | un => rfl
  | ch => rfl
theorem rd_many {σ : L2.St} {H : Hp} {Q : VK} {j : Nat} {k : Kd} (hj : σ[j]? = some (some (.str k.word))) (hm : 0 < k.many) (q : Q (.int (k.many : Int)) H) :
    tIf (tTest (tOp rEq (tVar j) (tC (.str "not")))) (tC (.int 1)) (tIf (tTest (tOp rEq (tVar j) (tC (.str "choose")))) (tC (.int 3)) (tC (.int 2))) σ H Q := by
  have mw := many_word k hm
  refine ⟨_, hj, rfl, _, rfl, ite2 (fun e => ?_) (fun e => ?_)⟩
  · have c := V.str.inj (of_decide_eq_true e)
    rw [if_pos c] at mw
    rw [← mw] at q
    exact q
  · have c : ¬ k.word = ("not" : Str) := fun z => e (decide_eq_true (congrArg V.str z))
    rw [if_neg c] at mw
    refine ⟨_, hj, rfl, _, rfl, ite2 (fun e => ?_) (fun e => ?_)⟩
    · have c := V.str.inj (of_decide_eq_true e)
      rw [if_pos c] at mw
      rw [← mw] at q
      exact q
    · have c : ¬ k.word = ("choose" : Str) := fun z => e (decide_eq_true (congrArg V.str z))
      rw [if_neg c] at mw
      rw [← mw] at q
      exact q
/-- the tree of a kind and its sides -/
theorem mk_tree {H : Hp} {k : Kd} {p : Addr} {us : List V} {ts : List Tr} (hk : 0 < k.many) (hl : ts.length = k.many) (hp : H p = some (.tup (.str k.word :: us))) (pr : Paired (Tp H) ts us) :
    ∃ t : Tr, Tp H t (.ref p) ∧ t.kids = ts ∧ t.kd = k ∧ t.comp = true := by
  cases k with
  | num => cases hk
  | var => cases hk
  | bi b =>
    match ts, us, pr, hl with
    | [a, c], [u1, u2], .cons r1 (.cons r2 .nil), _ => exact ⟨.bi b a c, ⟨p, u1, u2, rfl, hp, r1, r2⟩, rfl, rfl, rfl⟩
  | un =>
    match ts, us, pr, hl with
    | [a], [u1], .cons r1 .nil, _ => exact ⟨.un a, ⟨p, u1, rfl, hp, r1⟩, rfl, rfl, rfl⟩
  | ch =>
    match ts, us, pr, hl with
    | [a, c, d], [u1, u2, u3], .cons r1 (.cons r2 (.cons r3 .nil)), _ => exact ⟨.ch a c d, ⟨p, u1, u2, u3, rfl, hp, r1, r2, r3⟩, rfl, rfl, rfl⟩
theorem ok_kids {nm : Str → Prop} : ∀ {t : Tr}, t.comp = true → (∀ u ∈ t.kids, u.Ok nm) → t.Ok nm
  | .un a, _, h => h a List.mem_cons_self
  | .bi k a b, _, h => ⟨h a List.mem_cons_self, h b (List.mem_cons_of_mem _ List.mem_cons_self)⟩
  | .ch a b c, _, h => ⟨h a List.mem_cons_self, h b (List.mem_cons_of_mem _ List.mem_cons_self), h c (List.mem_cons_of_mem _ (List.mem_cons_of_mem _ List.mem_cons_self))⟩
theorem top1_le {l : List Nat} {B : Nat} (h : ∀ x ∈ l, x ≤ B) : Tr.top1 l ≤ B := by
  rcases (fold_ge l 0).2.2 with e | m
  · show l.foldl max 0 ≤ B
    omega
  · exact h _ m
theorem pair_mem {α β : Type} {F : α → β → Prop} {G : α → β → Prop} {xs : List α} {ys : List β} (p : Paired F xs ys) (h : ∀ x y, F x y → G x y) : Paired G xs ys := by
  induction p with
  | nil => exact .nil
  | cons q _ ih => exact .cons (h _ _ q) ih
theorem pair_end {α β : Type} {F : α → β → Prop} {xs : List α} {ys : List β} {x : α} {y : β} (p : Paired F xs ys) (q : F x y) : Paired F (xs ++ [x]) (ys ++ [y]) := by
  induction p with
  | nil => exact .cons q .nil
  | cons r _ ih => exact .cons r ih
theorem Tp.imp {H H' : Hp} (s : ∀ a xs, H a = some (.tup xs) → H' a = some (.tup xs)) : ∀ {t : Tr} {v : V}, Tp H t v → Tp H' t v
  | .num n, v, ⟨p, e, h⟩ => ⟨p, e, s _ _ h⟩
  | .var x, v, ⟨p, e, h⟩ => ⟨p, e, s _ _ h⟩
  | .un a, v, ⟨p, u, e, h, r⟩ => ⟨p, u, e, s _ _ h, r.imp s⟩
  | .bi k a b, v, ⟨p, u1, u2, e, h, r1, r2⟩ => ⟨p, u1, u2, e, s _ _ h, r1.imp s, r2.imp s⟩
  | .ch a b c, v, ⟨p, u1, u2, u3, e, h, r1, r2, r3⟩ => ⟨p, u1, u2, u3, e, s _ _ h, r1.imp s, r2.imp s, r3.imp s⟩
/-- a list changes: the trees beside it stay -/
theorem tp_put {H : Hp} {D p : Addr} {xs : List V} {o : HO} (hD : H D = some (.lst xs)) {t : Tr} {v : V} (h : Tp (Off p H) t v) : Tp (Off p (upd H D o)) t v := h.imp fun a ys e => by
  obtain ⟨n, e⟩ := off_get e
  exact off_of n (by rw [upd_ne (fun q => by rw [q, hD] at e; cases e)]; exact e)
/-- a tree that is drawn -/
structure Dn (t : Tr) (deep room : Nat) (ys : List Str) : Prop where
  ok : t.Ok fun x => nmS x = true
  depth : t.depth ≤ deep
  parts : t.parts ≤ room
  vars : ∀ z ∈ t.vars, z ∈ ys
section
variable {P : Program} {w : World} {K : PySem.W.Frag} {mg : Str → Option Value} {base : Heap}
def n_tree : List Str := ["_law_purse_here", "_law_deep", "_law_room", "_law_names_here", "_law_way", "_law_words", "_law_word", "_law_many", "_law_sides", "_law_turn"]
theorem sc_tree : FnScope n_tree ["_law_purse_here", "_law_deep", "_law_room", "_law_names_here"] (defScope s_tree) := ⟨rfl, rfl, rfl, by decide +kernel, rfl, by decide +kernel, by decide +kernel⟩
def spTree (n : Nat) : Sp := fun vs H Q _ => ∃ (p N : Addr) (ys : List Str) (deep room : Nat), vs = [.ref p, .int (deep : Int), .int (room : Int), .ref N] ∧ Drw H p N ys ∧ 1 ≤ deep ∧ deep ≤ n ∧ 1 ≤ room ∧ room ≤ 40 ∧
  ∀ (t : Tr) (v : V) (H' : Hp), Tp (Off p H') t v → Dn t deep room ys → PurseAt H' p → Kp p H H' → Q v H'
theorem ok_tree (T : Txt mg) (D : Dfn K mg "_law_tree" s_tree ["_law_purse_here", "_law_deep", "_law_room", "_law_names_here"]) (c_draw : CalG P w K mg base 1 "_law_draw" ["_law_purse_here", "_law_many"] spDraw)
    (c_leaf : CalG P w K mg base 2 "_law_leaf" ["_law_purse_here", "_law_names_here"] spLeaf) : ∀ n, CalG P w K mg base (n + 3) "_law_tree" ["_law_purse_here", "_law_deep", "_law_room", "_law_names_here"] (spTree n) := by
  intro n
  induction n with
  | zero =>
    refine D.ok sc_tree (fun vs H Q E h => ?_) (fun f cdv A fr s H vs Q E hr hgd h => ?_)
    · obtain ⟨p, N, ys, deep, room, rfl, _⟩ := h
      rfl
    · obtain ⟨p, N, ys, deep, room, _, _, h1, h2, _⟩ := h
      omega
  | succ n c_tree =>
    refine D.ok sc_tree (fun vs H Q E h => ?_) (fun f cdv A fr s H vs Q E hr hgd h => ?_)
    · obtain ⟨p, N, ys, deep, room, rfl, _⟩ := h
      rfl
    · obtain ⟨p, N, ys, deep, room, rfl, d, hd1, hd2, hr1, hr2, q⟩ := h
      refine ⟨_, pss_cons (ps_set (i := 4) sc_tree.nd rfl (.inl rfl) (pe_cG c_draw hr (by omega) hgd rfl (pa_cons (pv 0) (pa_cons pe_int pa_nil))))
        (pss_cons (ps_if (PW.pt (pw_or (pt_cmpR op_lt (pv 1) pe_int (nomark _)) (pw_or (pt_cmpR op_lt (pv 2) pe_int (nomark _)) (pw_or1 (pt_cmpR op_lt (pv 4) pe_int (nomark _))))))
          (pss_one (ps_ret (pe_cG c_leaf hr (by omega) hgd rfl (pa_cons (pv 0) (pa_cons (pv 3) pa_nil)))))
          (pss_nil))
        (pss_cons (ps_set (i := 5) sc_tree.nd rfl (.inl rfl) (pe_lst (pa_cons pe_str (pa_cons pe_str (pa_cons pe_str (pa_cons pe_str (pa_cons pe_str (pa_cons pe_str (pa_cons pe_str (pa_cons pe_str (pa_cons pe_str (pa_cons pe_str (pa_cons pe_str pa_nil)))))))))))))
        (pss_cons (ps_set (i := 6) sc_tree.nd rfl (.inl rfl) (pe_ix ix_list (pv 5) (pe_op op_sub (pv 4) pe_int) (fun _ _ => rfl)))
        (pss_cons (ps_set (i := 7) sc_tree.nd rfl (.inr rfl) (pe_ifExp (pt_cmpR op_eq (pv 6) pe_str (nomark _)) pe_int (pe_ifExp (pt_cmpR op_eq (pv 6) pe_str (nomark _)) pe_int pe_int)))
        (pss_cons (ps_setLc (i := 8) (own := [("_law_turn", 9)]) (g := gName 9) (tt := tYes) rfl sc_tree.nd rfl rfl (sw_true rfl rfl rfl (by decide +kernel)) (pi_range1 rfl T.b_range (pa_cons (pv 7) pa_nil)) (blkOk_by (N := n_tree) (sc := defScope s_tree) (by decide +kernel)) (fun _ _ _ _ _ => pg_name (i := 9) sc_tree.nd rfl (Or.inl rfl)) (fun _ _ _ _ _ => pts_nil) (fun _ _ _ _ _ => (pe_cG c_tree hr (Nat.le_refl _) hgd rfl (pa_cons (pv 0) (pa_cons (pe_op op_sub (pv 1) pe_int) (pa_cons (pe_op op_fdivW (pe_op op_sub (pv 2) pe_int) (pv 7)) (pa_cons (pv 3) pa_nil)))))))
        (pss_one (ps_ret (pe_callTy call_tuple_of rfl T.b_tuple (by decide +kernel) (pa_cons (pe_op op_cat (pe_lst (pa_cons (pv 6) pa_nil)) (pv 8)) pa_nil))))))))), ?_⟩
      refine dr rfl d.purse (by decide) (by decide) fun w0 H1 h1 p1 k1 => ?_
      have d1 := d.go p1 k1
      have leafEnd : ∀ (t : Tr) (v : V) (H' : Hp), Tp (Off p H') t v → t.Ok (fun x => nmS x = true) → t.comp = false → (∀ z ∈ t.vars, z ∈ ys) → PurseAt H' p → Kp p H1 H' → Q v H' := fun t v H' tp o lf vs pu kk => by
        obtain ⟨e1, e2⟩ := leaf_parts lf
        exact q t v H' tp ⟨o, by omega, by omega, vs⟩ pu (k1.trans kk)
      refine ⟨_, rfl, _, _, rfl, rfl, _, rfl, ite2 (fun e => ?_) (fun e => ?_)⟩
      · exact ⟨_, rfl, _, rfl, p, N, ys, rfl, d1, leafEnd⟩
      · refine ⟨_, rfl, _, _, rfl, rfl, _, rfl, ite2 (fun e2 => ?_) (fun e2 => ?_)⟩
        · exact ⟨_, rfl, _, rfl, p, N, ys, rfl, d1, leafEnd⟩
        · refine ⟨_, rfl, _, _, rfl, rfl, _, rfl, ite2 (fun e3 => ?_) (fun e3 => ?_)⟩
          · exact ⟨_, rfl, _, rfl, p, N, ys, rfl, d1, leafEnd⟩
          · refine ⟨(show 11 ≤ sizeLine by decide), fun l nl => ?_⟩
            have k2 := k1.trans (kp_new (o := .lst (wordsT.map V.str)) nl)
            have d2 := d1.go (p1.new nl) (kp_new (o := .lst (wordsT.map V.str)) nl)
            have c1 : ¬ (deep : Int) < 2 := fun z => e (decide_eq_true z)
            have c2 : ¬ (room : Int) < 4 := fun z => e2 (decide_eq_true z)
            have c3 : ¬ (w0 : Int) < 2 := fun z => e3 (decide_eq_true z)
            obtain ⟨k, hk, hm⟩ := kindsT_ok (w0 - 2) (by omega)
            have hw : (wordsT.map V.str)[w0 - 2]? = some (.str k.word) := by
              rw [List.getElem?_map, hk]
              rfl
            refine ⟨_, rfl, _, rfl, _, _, rfl, rfl, l, _, _, _, rfl, rfl, SqL.of upd_same, atI_int (by omega) (by rw [show ((w0 : Int) - 2).toNat = w0 - 2 by omega]; exact hw), ?_⟩
            refine rd_many rfl hm ?_
            have m3 : k.many ≤ 3 := by
              cases k with
              | bi b => exact (by decide : 2 ≤ 3)
              | _ => first | exact (by decide : 0 ≤ 3) | exact (by decide : 1 ≤ 3) | exact (by decide : 3 ≤ 3)
            have room1 : 1 ≤ (room - 1) / k.many := (Nat.le_div_iff_mul_le hm).mpr (by omega)
            have room2 : k.many * ((room - 1) / k.many) ≤ room - 1 := Nat.mul_div_le _ _
            refine ⟨_, rfl, (k.many : Int), rfl, by omega, by omega, fun D1 nD => ?_⟩
            have nDp := purse_ne d2.purse nD
            rw [show ((k.many : Int)).toNat = k.many by omega]
            refine lc_range (lo := 0) (n := k.many) (fun i G => PurseAt G p ∧ Kp p H G ∧ ∃ (ts : List Tr) (us : List V), G D1 = some (.lst us) ∧ ts.length = i ∧ Paired (Tp (Off p G)) ts us ∧ ∀ u ∈ ts, Dn u (deep - 1) ((room - 1) / k.many) ys)
              ⟨d2.purse.new nD, k2.trans (kp_new nD), [], [], upd_same, rfl, .nil, fun u h => by cases h⟩ (fun i G hi hG => ?_) (fun G hG => ?_)
            · obtain ⟨pG, kG, ts, us, hD, hl, pr, al⟩ := hG
              refine ⟨rfl, _, rfl, _, rfl, _, _, rfl, rfl, _, rfl, _, _, rfl, rfl, _, rfl, _, _, rfl, rfl, ⟨by omega, small_log (by omega) (by omega)⟩, _, rfl, p, N, ys, deep - 1, (room - 1) / k.many, ?_, d.go pG kG, by omega, by omega, room1, ?_, fun t v H' tp dn pH kH => ?_⟩
              · have e1 : ((deep : Int) - 1) = ((deep - 1 : Nat) : Int) := by omega
                have e2 : ((room : Int) - 1) / (k.many : Int) = (((room - 1) / k.many : Nat) : Int) := by
                  rw [show ((room : Int) - 1) = ((room - 1 : Nat) : Int) by omega]
                  rfl
                show [V.ref p, V.int ((deep : Int) - 1), V.int (((room : Int) - 1) / (k.many : Int)), V.ref N] = _
                rw [e1, e2]
              · exact Nat.le_trans (Nat.div_le_self _ _) (by omega)
              · have hD2 := kH D1 _ hD nDp
                refine ⟨us, hD2, ?_, ?_, ?_, ts ++ [t], us ++ [v], upd_same, by rw [List.length_append, hl]; rfl, ?_, fun u hu => ?_⟩
                · have := pair_len pr
                  exact small1000 (by omega)
                · obtain ⟨x, y, z, hh⟩ := pH
                  exact ⟨x, y, z, by rw [upd_ne (fun q => nDp q.symm)]; exact hh⟩
                · intro b o hb nb
                  have nbD : b ≠ D1 := fun q => by
                    rw [q] at hb
                    have h5 := k2 D1 _ hb nDp
                    have h6 : some o = none := h5.symm.trans nD
                    cases h6
                  rw [upd_ne nbD]
                  exact kH b o (kG b o hb nb) nb
                · exact pair_end (pair_mem pr fun x y h => tp_put hD2 (h.same (off_kp kH))) (tp_put hD2 tp)
                · rcases List.mem_append.mp hu with h | h
                  · exact al u h
                  · rw [List.mem_singleton.mp h]
                    exact dn
            · obtain ⟨pG, kG, ts, us, hD, hl, pr, al⟩ := hG
              refine ⟨_, rfl, (show 1 ≤ sizeLine by decide), fun l2 nl2 => ?_⟩
              have nl2D : D1 ≠ l2 := fun q => by rw [← q, hD] at nl2; cases nl2
              have pl := pair_len pr
              refine ⟨_, rfl, l2, D1, _, _, rfl, rfl, upd_same, (by rw [upd_ne nl2D]; exact hD), ?_, fun l3 nl3 => ⟨l3, _, rfl, .inl ⟨SqL.of upd_same, fun r nr => ?_⟩⟩⟩
              · show 1 + us.length ≤ sizeLine
                exact Nat.le_of_lt (small1000 (by omega))
              · have s3 : Same G (upd (upd (upd G l2 (.lst [.str k.word])) l3 (.lst ([.str k.word] ++ us))) r (.tup ([.str k.word] ++ us))) := ((same_new nl2).trans (same_new nl3)).trans (same_new nr)
                have kR := kp_of (p := p) s3
                have pR := pG.same s3
                have rp : r ≠ p := purse_ne ((pG.new nl2).new nl3) nr
                obtain ⟨t, tp, e1, e2, e3⟩ := mk_tree hm hl (off_of rp upd_same) (pair_mem pr fun x y h => h.same (off_kp kR))
                have e4 : t.depth ≤ deep := by
                  have h1 := Tr.depth_comp e3
                  have h2 : Tr.top1 (t.kids.map Tr.depth) ≤ deep - 1 := top1_le fun x hx => by
                    obtain ⟨u, hu, rfl⟩ := List.mem_map.mp hx
                    rw [e1] at hu
                    exact (al u hu).depth
                  omega
                have e5 : t.parts ≤ room := by
                  have h1 := Tr.parts_comp e3
                  have h2 : (t.kids.map Tr.parts).sum ≤ (t.kids.map Tr.parts).length * ((room - 1) / k.many) := sum_B fun x hx => by
                    obtain ⟨u, hu, rfl⟩ := List.mem_map.mp hx
                    rw [e1] at hu
                    exact (al u hu).parts
                  rw [List.length_map, e1, hl] at h2
                  rw [e1] at h1
                  omega
                refine q t _ _ tp ⟨ok_kids e3 fun u hu => by rw [e1] at hu; exact (al u hu).ok, e4, e5, fun z hz => ?_⟩ pR (kG.trans kR)
                rw [Tr.vars_comp e3, List.mem_flatMap] at hz
                obtain ⟨u, hu, hz⟩ := hz
                rw [e1] at hu
                exact (al u hu).vars z hz
end
end Jo

set_option Elab.async false
set_option linter.all false
set_option maxRecDepth 100000
set_option maxHeartbeats 1000000
namespace Jo
open PySem PySem.Spec PyProof.Rows L2
theorem Of.app {S : Str → Bool} {n : Nat} {xs ys : List Str} (h : Of S n xs) (e : xs = ys) : Of S n ys := e ▸ h
/-- {y for x in t for y in x.names}, t a tuple of instances -/
theorem sc2_names {P : Program} {w : World} {K : PySem.W.Frag} {q : Addr} {us : List V} {vs : List Nat} {i1 i2 : Nat} {σ : L2.St} {G1 : Hp} {D : Addr} {Qd : Hp → Prop} (nD : G1 D = none) (hq : SqT K G1 q us) (nl : List (List Str)) (hl : nl.length = us.length) (few : nl.flatten.length ≤ 60)
    (hx : ∀ (i : Nat) (x : V), us[i]? = some x → ∃ (a Cc dx : Addr) (fs : List (Str × V)) (b : Addr) (nm : List Str), x = .ref a ∧ G1 a = some (.ins Cc dx fs) ∧ Cls K Cc ∧ NoAttr K Cc "names" ∧ fs.lookup ("names" : Str) = some (.ref b) ∧ nl[i]? = some nm ∧ SqT K G1 b (nm.map V.str))
    (hw1 : ∀ x, wipe ((wipe σ vs).set i1 (some x)) vs = wipe σ vs) (hv1 : ∀ x, ((wipe σ vs).set i1 (some x))[i1]? = some (some x))
    (hw2 : ∀ x y, wipe ((wipe ((wipe σ vs).set i1 (some x)) [i2]).set i2 (some y)) [i2] = wipe ((wipe σ vs).set i1 (some x)) [i2]) (hv2 : ∀ x y, ((wipe ((wipe σ vs).set i1 (some x)) [i2]).set i2 (some y))[i2]? = some (some y))
    (hd : ∀ S n, Of S n nl.flatten → Qd (upd G1 D (SetT P w D S n))) :
    ∃ W : Nat → Nat → Hp → Prop, (∃ m, W 0 m (upd G1 D (set0 P w D))) ∧ ∀ i m G2, W i m G2 → ((Itt K q).stop i G2 ∧ Qd G2) ∨
      ((Itt K q).go i G2 ∧ ∃ Nx : Hp → Prop, (∀ G3, Nx G3 → ∃ m', m' < m ∧ W (i + 1) m' G3) ∧
        ∀ x G3, (Itt K q).yld i G2 x G3 → gName i1 x (wipe σ vs) G3 fun σ2 G4 => wipe σ2 vs = wipe σ vs ∧ tYes σ2 G4 fun b G5 => if b = true then tScIn P w D (iTup K (tFld K (tVar i1) "names")) (gName i2) tYes (tVar i2) [i2] Nx σ2 G5 else Nx G5) := by
  have sm : ∀ {S n}, Same G1 (upd G1 D (SetT P w D S n)) := same_new nD
  have sT : ∀ {a : Addr} {xs : List V} {G : Hp}, SqT K G1 a xs → Same G1 G → SqT K G a xs := fun {a xs G} h s => by
    rcases h with (h | ⟨o, h⟩) | h
    · exact .inl (.inl (s _ _ h))
    · exact .inl (.inr ⟨o, s _ _ h⟩)
    · exact .inr h
  refine ⟨fun i m G => m = us.length - i ∧ i ≤ us.length ∧ ∃ S n, G = upd G1 D (SetT P w D S n) ∧ Of S n (nl.take i).flatten, ⟨us.length, by simp, Nat.zero_le _, _, 0, rfl, by rw [List.take_zero]; exact Of.nil⟩, ?_⟩
  rintro i m G2 ⟨rfl, hi, S, n, rfl, hO⟩
  by_cases lt : i < us.length
  · refine .inr ⟨⟨us, us[i], sT hq sm, by simp [lt]⟩, fun G => i + 1 ≤ us.length ∧ ∃ S n, G = upd G1 D (SetT P w D S n) ∧ Of S n (nl.take (i + 1)).flatten, fun G3 ⟨h1, h2⟩ => ⟨us.length - (i + 1), by omega, rfl, h1, h2⟩, fun x G3 y => ?_⟩
    obtain ⟨e, y⟩ := y
    subst e
    have hxi := y us (sT hq sm)
    obtain ⟨a, Cc, dx, fs, b, nm, rfl, ha, cl, na, lk, hnm, hb⟩ := hx i x hxi
    refine ⟨hw1 _, ?_⟩
    refine ⟨_, hv1 _, a, Cc, dx, fs, _, rfl, sm _ _ ha, cl, na, lk, b, rfl, ⟨_, sT hb sm⟩, ?_⟩
    have flat : nl.flatten.length = ((nl.take (i + 1)).flatten).length + ((nl.drop (i + 1)).flatten).length := by
      rw [← List.length_append, ← List.flatten_append, List.take_append_drop]
    have step : (nl.take (i + 1)).flatten = (nl.take i).flatten ++ nm := by
      rw [List.take_succ, hnm, List.flatten_append]
      simp
    rw [step, List.length_append] at flat
    refine ⟨fun j k G => k = nm.length - j ∧ j ≤ nm.length ∧ ∃ S n, G = upd G1 D (SetT P w D S n) ∧ Of S n ((nl.take i).flatten ++ nm.take j), ⟨nm.length, by simp, Nat.zero_le _, S, n, rfl, by rw [List.take_zero, List.append_nil]; exact hO⟩, ?_⟩
    rintro j k G4 ⟨rfl, hj, S2, n2, rfl, hO2⟩
    by_cases lt2 : j < nm.length
    · refine .inr ⟨⟨_, (nm.map V.str)[j]'(by rw [List.length_map]; exact lt2), sT hb sm, by simp [lt2]⟩, fun G => j + 1 ≤ nm.length ∧ ∃ S n, G = upd G1 D (SetT P w D S n) ∧ Of S n ((nl.take i).flatten ++ nm.take (j + 1)), fun G5 ⟨h1, h2⟩ => ⟨nm.length - (j + 1), by omega, rfl, h1, h2⟩, fun x2 G5 y2 => ?_⟩
      obtain ⟨e, y2⟩ := y2
      subst e
      have hx2 := y2 _ (sT hb sm)
      have ex : x2 = .str nm[j] := by
        rw [List.getElem?_map, List.getElem?_eq_getElem lt2] at hx2
        exact (Option.some.inj hx2).symm
      subst ex
      refine ⟨hw2 _ _, ?_⟩
      refine ⟨_, hv2 _ _, nm[j], S2, n2, rfl, upd_same, ?_, lt2, _, _, by rw [upd_upd], ?_⟩
      · have := hO2.2
        rw [List.length_append, List.length_take] at this
        unfold scanBound
        omega
      · have h3 := hO2.put nm[j]
        have e : ((nl.take i).flatten ++ nm.take j) ++ [nm[j]] = (nl.take i).flatten ++ nm.take (j + 1) := by
          rw [List.append_assoc, List.take_succ, List.getElem?_eq_getElem lt2]
          rfl
        exact h3.app e
    · have e : j = nm.length := by omega
      subst e
      refine .inl ⟨⟨_, sT hb sm, by rw [List.length_map]; exact Nat.le_refl _⟩, lt, S2, n2, rfl, ?_⟩
      rw [List.take_length] at hO2
      exact hO2.app step.symm
  · have e : i = us.length := by omega
    subst e
    refine .inl ⟨⟨us, sT hq sm, Nat.le_refl _⟩, hd S n ?_⟩
    rw [← hl, List.take_length] at hO
    exact hO
theorem seqT_same {K : PySem.W.Frag} {H H' : Hp} {a : Addr} {xs : List V} (h : SqT K H a xs) (s : Same H H') : SqT K H' a xs := by
  rcases h with (h | ⟨o, h⟩) | h
  · exact .inl (.inl (s _ _ h))
  · exact .inl (.inr ⟨o, s _ _ h⟩)
  · exact .inr h
end Jo

set_option Elab.async false
set_option linter.all false
set_option maxRecDepth 100000
set_option maxHeartbeats 1000000
namespace Jo
open PySem PySem.Spec PyProof.Rows L2
/-- an own class below object alone: what isinstance asks of it -/
structure OwnC (K : PySem.W.Frag) (C : Addr) : Prop where
  cl : Cls K C
  ha : PySem.W.findIn K (.ref C) "__class__" = some (some (.builtin "object.__class__"))
  hn : PySem.W.specialIn K (.builtin "object.__class__") "__get__" = some (some (.builtin "getset_descriptor.__get__"))
  ht : PySem.W.takesIn K (.builtin "object.__class__") = some true
  hm : PySem.W.mroIn K C (.type "object") = some true
theorem OwnC.ty {K : PySem.W.Frag} {C a dx : Addr} {H : Hp} {fs : List (Str × V)} (o : OwnC K C) (h : H a = some (.ins C dx fs)) : TyX K H (.ref a) (.ref C) := .base (.ins h o.cl o.ha o.hn o.ht o.hm)
/-- the classes of expressions: C each kind's, CE the base class's -/
structure XT (K : PySem.W.Frag) (mg : Str → Option Value) (C : Kd → Addr) (CE : Addr) : Prop where
  own : ∀ k, OwnC K (C k)
  na : ∀ k, ∀ f ∈ fieldsX, NoAttr K (C k) f
  mgC : ∀ k, mg k.cname = some (.ref (C k))
  mgE : mg "Expression" = some (.ref CE)
  con : ∀ k, ∃ u, Con K (C k) "WORD" (.str k.word) u
  cval : ∀ k, ∃ mc u, ClX.CRead K (C k) mc ∧ ClX.CVal K (C k) mc "WORD" (.str k.word) u
  kit : ∀ k l, PySem.W.kitOne K (.ref (C k)) (.ref (C l)) = some (decide (k = l))
  kitE : ∀ k, PySem.W.kitOne K (.ref (C k)) (.ref CE) = some true
  kitS : PySem.W.kitOne K (.type "str") (.ref CE) = some false
  nf : ∀ k l, PySem.W.notFirst K (C k) (.ref (C l)) = true
  nfS : ∀ k, PySem.W.notFirst K (C k) (.type "str") = true
  fmt : ∀ k, PySem.W.findIn K (.ref (C k)) "__format__" = some (some (.builtin "object.__format__"))
theorem XT.nof {K : PySem.W.Frag} {mg : Str → Option Value} {C : Kd → Addr} {CE : Addr} (x : XT K mg C CE) (k : Kd) {f : Str} (h : f ∈ fieldsX) : NoAttr K (C k) f := x.na k f h
theorem Is.imp {C : Kd → Addr} {H H' : Hp} (s : ∀ a o, H a = some o → (∀ Cc dx, o ≠ .ins Cc dx []) → H' a = some o) : ∀ {t : Tr} {v : V}, Is C H t v → Is C H' t v := by
  have hs : ∀ {t : Tr} {a : Addr} {fs : List (Str × V)}, Has C H t a fs → Has C H' t a fs := fun {t a fs} h => by
    refine ⟨?_, h.text, ?_, h.parts, h.depth, h.no⟩
    · obtain ⟨dx, e⟩ := h.at_
      refine ⟨dx, s _ _ e fun Cc dx' q => ?_⟩
      injection q with _ _ q
      have := h.text
      rw [q] at this
      cases this
    · obtain ⟨q, e, e2⟩ := h.names
      exact ⟨q, e, s _ _ e2 fun Cc dx' q => nomatch q⟩
  intro t
  induction t with
  | num n => exact fun {v} ⟨a, fs, e, h, r⟩ => ⟨a, fs, e, hs h, r⟩
  | var x => exact fun {v} ⟨a, fs, e, h, r⟩ => ⟨a, fs, e, hs h, r⟩
  | un t ih => exact fun {v} ⟨a, fs, u, e, h, r, i⟩ => ⟨a, fs, u, e, hs h, r, ih i⟩
  | bi k t1 t2 ih1 ih2 => exact fun {v} ⟨a, fs, u1, u2, e, h, r1, r2, i1, i2⟩ => ⟨a, fs, u1, u2, e, hs h, r1, r2, ih1 i1, ih2 i2⟩
  | ch t1 t2 t3 ih1 ih2 ih3 => exact fun {v} ⟨a, fs, u1, u2, u3, e, h, r1, r2, r3, i1, i2, i3⟩ => ⟨a, fs, u1, u2, u3, e, hs h, r1, r2, r3, ih1 i1, ih2 i2, ih3 i3⟩
/-- the sides of an expression that may be made -/
structure Sides (C : Kd → Addr) (H : Hp) (ts : List Tr) (us : List V) : Prop where
  is : Paired (Is C H) ts us
  ok : ∀ t ∈ ts, t.Ok fun x => nmS x = true
  three : ts.length ≤ 3
  parts : 1 + (ts.map Tr.parts).sum ≤ 40
  depth : 1 + Tr.top1 (ts.map Tr.depth) ≤ 6
theorem Sides.same {C : Kd → Addr} {H H' : Hp} {ts : List Tr} {us : List V} (s : Sides C H ts us) (h : Same H H') : Sides C H' ts us := ⟨pair_mem s.is fun x y i => i.same h, s.ok, s.three, s.parts, s.depth⟩
theorem Sides.part {C : Kd → Addr} {H : Hp} {ts : List Tr} {us : List V} (s : Sides C H ts us) {t : Tr} (h : t ∈ ts) : t.parts ≤ 40 := by
  have : ∀ {l : List Nat} {x : Nat}, x ∈ l → x ≤ l.sum := fun {l x} h => by
    induction l with
    | nil => cases h
    | cons y l ih =>
      rw [List.sum_cons]
      rcases List.mem_cons.mp h with e | h
      · omega
      · have := ih h
        omega
  have h1 := this (List.mem_map.mpr ⟨t, h, rfl⟩ : t.parts ∈ ts.map Tr.parts)
  have := s.parts
  omega
section
variable {P : Program} {w : World} {K : PySem.W.Frag} {mg : Str → Option Value} {base : Heap} {C : Kd → Addr} {CE : Addr}
def n_parts_with : List Str := ["inside", "part"]
theorem sc_parts_with : FnScope n_parts_with ["inside"] (defScope s_parts_with) := ⟨rfl, rfl, rfl, by decide +kernel, rfl, by decide +kernel, by decide +kernel⟩
def spPartsWith (K : PySem.W.Frag) (C : Kd → Addr) : Sp := fun vs H Q _ => ∃ (q : Addr) (ts : List Tr) (us : List V), vs = [.ref q] ∧ SqT K H q us ∧ Sides C H ts us ∧ ∀ H', Same H H' → Q (.int ((1 + (ts.map Tr.parts).sum : Nat) : Int)) H'
theorem ok_parts_with (T : Txt mg) (X : XT K mg C CE) (D : Dfn K mg "parts_with" s_parts_with ["inside"]) : CalF P w K mg base 1 "parts_with" ["inside"] (spPartsWith K C) := by
  refine D.okF sc_parts_with (fun vs H Q E h => ?_) (fun f cdv A fr s H vs Q E hr h => ?_)
  · obtain ⟨q, ts, us, rfl, _⟩ := h
    rfl
  · obtain ⟨q, ts, us, rfl, hq, sd, fin⟩ := h
    refine ⟨_, pss_one (ps_ret (pe_op op_add pe_int (pe_callB (cr_sum rfl) rfl T.b_sum (by decide +kernel) (pa_cons (pe_lc (own := [("part", 1)]) (g := gName 1) (tt := tYes) (te := tFld K (tVar 1) "parts") rfl sc_parts_with.nd (pi_tup (pv 0)) (blkOk_by (N := n_parts_with) (sc := defScope s_parts_with) (by decide +kernel)) (fun _ _ _ _ _ => pg_name (i := 1) sc_parts_with.nd rfl (Or.inl rfl)) (fun _ _ _ _ _ => pts_nil) (fun _ _ _ _ _ => (pe_fld (pv 1) rfl))) pa_nil)))), ?_⟩
    have pl := pair_len sd.is
    have h3 := sd.three
    refine ⟨_, rfl, q, rfl, ⟨_, hq⟩, fun D1 nD => ?_⟩
    refine lc_call (walk_tup (K := K) (a := q) (xs := us)) nD (ts.map fun u => V.int (u.parts : Int)) (by rw [List.length_map]; exact pl) (by omega) (fun G sG => ?_) (fun i x v G G' R hv sG hy hR => ?_) (fun G sG hD => ?_)
    · exact seqT_same hq sG
    · obtain ⟨rfl, hx⟩ := hy
      obtain ⟨u, hu, iu⟩ := pair_at sd.is hx
      have ev : v = .int (u.parts : Int) := by
        rw [List.getElem?_map, hu] at hv
        exact (Option.some.inj hv).symm
      subst ev
      obtain ⟨a, fs, rfl, hh⟩ := (iu.same sG).has
      obtain ⟨dx, ha⟩ := hh.at_
      exact ⟨rfl, _, rfl, a, _, dx, fs, _, rfl, ha, (X.own _).cl, X.nof _ (by decide +kernel), hh.parts, hR _ (.refl _)⟩
    · refine ⟨D1, (ts.map Tr.parts).map fun n : Nat => (n : Int), rfl, SqL.of (by rw [hD, List.map_map, List.map_map]; rfl), _, _, rfl, rfl, ?_⟩
      rw [nat_sum]
      have e3 : (1 : Int) + (((ts.map Tr.parts).sum : Nat) : Int) = ((1 + (ts.map Tr.parts).sum : Nat) : Int) := by omega
      have q2 := fin G sG
      rw [← e3] at q2
      exact q2
end
end Jo

set_option Elab.async false
set_option linter.all false
set_option maxRecDepth 100000
set_option maxHeartbeats 1000000
namespace Jo
open PySem PySem.Spec PyProof.Rows L2
theorem fold_int : ∀ (l : List Nat) (n : Nat), (l.map fun x : Nat => (x : Int)).foldl max (n : Int) = ((l.foldl max n : Nat) : Int)
  | [], n => rfl
  | x :: l, n => by
    rw [List.map_cons, List.foldl_cons, List.foldl_cons, ← fold_int l (max n x)]
    congr 1
    omega
theorem fold_top1 (n : Nat) (l : List Nat) : l.foldl max n = Tr.top1 (n :: l) := by
  show _ = l.foldl max (max 0 n)
  rw [Nat.max_eq_right (Nat.zero_le n)]
/-- the text of a kind around its sides, or of a leaf -/
def writ (h : Str) (ts : List Tr) : Str := if ts = [] then h else ((h ++ ("(" : Str)) ++ Txt.join ", " (ts.map Tr.text)) ++ ")"
theorem empty_cat (z : Str) : Str.empty ++ z = z := by
  cases z with
  | mk c =>
    show (⟨#[] ++ c⟩ : Str) = _
    simp
theorem Sides.joined {C : Kd → Addr} {H : Hp} {ts : List Tr} {us : List V} (s : Sides C H ts us) : (Txt.join ", " (ts.map Tr.text)).length ≤ 3000 ∧ ((ts.map Tr.text).map (·.length)).sum + (ts.map Tr.text).length * (", " : Str).length ≤ 3000 := by
  have tl : ∀ x ∈ (ts.map Tr.text).map (·.length), x ≤ 640 := fun x hx => by
    obtain ⟨z, hz, rfl⟩ := List.mem_map.mp hx
    obtain ⟨u, hu, rfl⟩ := List.mem_map.mp hz
    have h1 := Tr.text_len (fun x h => nm_len h) (s.ok u hu)
    have h2 := s.part hu
    omega
  have s3 := sum_B tl
  have k3 := s.three
  rw [List.length_map, List.length_map] at s3
  have j1 := join_len ", " (ts.map Tr.text)
  have j2 : (", " : Str).length = 2 := by decide +kernel
  have j3 : (ts.map Tr.text).length * (", " : Str).length ≤ 6 := by rw [List.length_map, j2]; omega
  omega
section
variable {P : Program} {w : World} {K : PySem.W.Frag} {mg : Str → Option Value} {base : Heap} {C : Kd → Addr} {CE : Addr}
def n_depth_with : List Str := ["inside", "part"]
theorem sc_depth_with : FnScope n_depth_with ["inside"] (defScope s_depth_with) := ⟨rfl, rfl, rfl, by decide +kernel, rfl, by decide +kernel, by decide +kernel⟩
def spDepthWith (K : PySem.W.Frag) (C : Kd → Addr) : Sp := fun vs H Q _ => ∃ (q : Addr) (ts : List Tr) (us : List V), vs = [.ref q] ∧ SqT K H q us ∧ Sides C H ts us ∧ ∀ H', Same H H' → Q (.int ((1 + Tr.top1 (ts.map Tr.depth) : Nat) : Int)) H'
theorem ok_depth_with (T : Txt mg) (X : XT K mg C CE) (D : Dfn K mg "depth_with" s_depth_with ["inside"]) : CalF P w K mg base 2 "depth_with" ["inside"] (spDepthWith K C) := by
  refine D.okF sc_depth_with (fun vs H Q E h => ?_) (fun f cdv A fr s H vs Q E hr h => ?_)
  · obtain ⟨q, ts, us, rfl, _⟩ := h
    rfl
  · obtain ⟨q, ts, us, rfl, hq, sd, fin⟩ := h
    refine ⟨_, pss_one (ps_ret (pe_op op_add pe_int (pe_callBK (cr_maxD rfl hr) rfl T.b_max (by decide +kernel) (pa_cons (pe_lc (own := [("part", 1)]) (g := gName 1) (tt := tYes) (te := tFld K (tVar 1) "depth") rfl sc_depth_with.nd (pi_tup (pv 0)) (blkOk_by (N := n_depth_with) (sc := defScope s_depth_with) (by decide +kernel)) (fun _ _ _ _ _ => pg_name (i := 1) sc_depth_with.nd rfl (Or.inl rfl)) (fun _ _ _ _ _ => pts_nil) (fun _ _ _ _ _ => (pe_fld (pv 1) rfl))) pa_nil) (pk_cons pe_int pk_nil)))), ?_⟩
    have pl := pair_len sd.is
    have h3 := sd.three
    refine ⟨_, rfl, q, rfl, ⟨_, hq⟩, fun D1 nD => ?_⟩
    refine lc_call (walk_tup (K := K) (a := q) (xs := us)) nD (ts.map fun u => V.int (u.depth : Int)) (by rw [List.length_map]; exact pl) (by omega) (fun G sG => ?_) (fun i x v G G' R hv sG hy hR => ?_) (fun G sG hD => ?_)
    · exact seqT_same hq sG
    · obtain ⟨rfl, hx⟩ := hy
      obtain ⟨u, hu, iu⟩ := pair_at sd.is hx
      have ev : v = .int (u.depth : Int) := by
        rw [List.getElem?_map, hu] at hv
        exact (Option.some.inj hv).symm
      subst ev
      obtain ⟨a, fs, rfl, hh⟩ := (iu.same sG).has
      obtain ⟨dx, ha⟩ := hh.at_
      exact ⟨rfl, _, rfl, a, _, dx, fs, _, rfl, ha, (X.own _).cl, X.nof _ (by decide +kernel), hh.depth, hR _ (.refl _)⟩
    · have q2 := fin G sG
      refine ⟨D1, (ts.map Tr.depth).map fun n : Nat => (n : Int), 0, rfl, rfl, SqL.of (by rw [hD, List.map_map, List.map_map]; rfl), fun e => ?_, fun n r e => ?_⟩
      · have e1 : ts.map Tr.depth = [] := List.map_eq_nil_iff.mp e
        rw [e1] at q2
        exact ⟨_, _, rfl, rfl, q2⟩
      · generalize hL : ts.map Tr.depth = L at e q2
        match L, e with
        | m :: l, e =>
          rw [List.map_cons] at e
          injection e with e1 e2
          subst e1 e2
          refine ⟨_, _, rfl, rfl, ?_⟩
          rw [fold_int, fold_top1]
          have e3 : (1 : Int) + ((Tr.top1 (m :: l) : Nat) : Int) = ((1 + Tr.top1 (m :: l) : Nat) : Int) := by omega
          rw [← e3] at q2
          exact q2
def n_check_inside : List Str := ["inside", "part"]
theorem sc_check_inside : FnScope n_check_inside ["inside"] (defScope s_check_inside) := ⟨rfl, rfl, rfl, by decide +kernel, rfl, by decide +kernel, by decide +kernel⟩
def spCheckInside (K : PySem.W.Frag) (C : Kd → Addr) : Sp := fun vs H Q _ => ∃ (q : Addr) (ts : List Tr) (us : List V), vs = [.ref q] ∧ SqT K H q us ∧ Sides C H ts us ∧ ∀ H', Same H H' → Q .non H'
theorem ok_check_inside (T : Txt mg) (X : XT K mg C CE) (D : Dfn K mg "check_inside" s_check_inside ["inside"]) (c_parts : CalF P w K mg base 1 "parts_with" ["inside"] (spPartsWith K C)) (c_depth : CalF P w K mg base 2 "depth_with" ["inside"] (spDepthWith K C)) :
    CalF P w K mg base 3 "check_inside" ["inside"] (spCheckInside K C) := by
  refine D.okF sc_check_inside (fun vs H Q E h => ?_) (fun f cdv A fr s H vs Q E hr h => ?_)
  · obtain ⟨q, ts, us, rfl, _⟩ := h
    rfl
  · obtain ⟨q, ts, us, rfl, hq, sd, fin⟩ := h
    refine ⟨_, pss_cons (ps_for PassesOwn.never rfl (pi_tup (pv 0)) (pg_name (i := 1) sc_check_inside.nd rfl (.inl rfl))
        (pss_one (ps_if (pt_not (pt_val (pe_callB call_isi rfl T.b_isinstance (by decide +kernel) (pa_cons (pv 1) (pa_cons (pe_glob (v := .ref CE) rfl X.mgE rfl) pa_nil)))))
            (pss_one ps_never)
            (pss_nil))))
      (pss_cons (ps_if (pt_cmpR op_gt (pe_cF c_parts hr (by decide) rfl (pa_cons (pv 0) pa_nil)) (C8.pe_gc rfl T.g_MAX_PARTS) (nomark _))
        (pss_one ps_never)
        (pss_nil))
      (pss_one (ps_if (pt_cmpR op_gt (pe_cF c_depth hr (by decide) rfl (pa_cons (pv 0) pa_nil)) (C8.pe_gc rfl T.g_MAX_DEPTH) (nomark _))
        (pss_one ps_never)
        (pss_nil)))), ?_⟩
    refine ⟨_, rfl, q, rfl, ⟨_, hq⟩, ?_⟩
    refine for_tup (K := K) (a := q) (xs := us) (fun i σ G => Same H G ∧ ∃ y : Option V, σ = [some (.ref q), y]) ⟨.refl _, none, rfl⟩ (fun i σ G hi hG => seqT_same hq hG.1) (fun i x σ G hx hG => ?_) (fun σ G hG => ?_)
    · obtain ⟨sG, y, rfl⟩ := hG
      obtain ⟨u, hu, iu⟩ := pair_at sd.is hx
      obtain ⟨a, fs, rfl, hh⟩ := (iu.same sG).has
      obtain ⟨dx, ha⟩ := hh.at_
      exact ⟨_, rfl, _, _, _, _, true, rfl, .own CE, (X.own _).ty ha, X.kitE _, true, rfl, iteF ⟨sG, _, rfl⟩⟩
    · obtain ⟨sG, y, rfl⟩ := hG
      refine ⟨_, rfl, q, ts, us, rfl, seqT_same hq sG, sd.same sG, fun G1 s1 => ?_⟩
      refine ⟨_, _, rfl, rfl, _, rfl, ?_⟩
      rw [decide_eq_false (by have := sd.parts; omega)]
      refine iteF ⟨_, rfl, q, ts, us, rfl, seqT_same hq (sG.trans s1), sd.same (sG.trans s1), fun G2 s2 => ?_⟩
      refine ⟨_, _, rfl, rfl, _, rfl, ?_⟩
      rw [decide_eq_false (by have := sd.depth; omega)]
      exact iteF (fin G2 ((sG.trans s1).trans s2))
def n_written : List Str := ["head", "inside", "texts", "part"]
theorem sc_written : FnScope n_written ["head", "inside"] (defScope s_written) := ⟨rfl, rfl, rfl, by decide +kernel, rfl, by decide +kernel, by decide +kernel⟩
def spWritten (K : PySem.W.Frag) (C : Kd → Addr) : Sp := fun vs H Q _ => ∃ (h : Str) (q : Addr) (ts : List Tr) (us : List V), vs = [.str h, .ref q] ∧ h.length ≤ 8 ∧ SqT K H q us ∧ Sides C H ts us ∧ ∀ H', Same H H' → Q (.str (writ h ts)) H'
theorem ok_written (T : Txt mg) (X : XT K mg C CE) (D : Dfn K mg "written" s_written ["head", "inside"]) : CalF P w K mg base 1 "written" ["head", "inside"] (spWritten K C) := by
  refine D.okF sc_written (fun vs H Q E h => ?_) (fun f cdv A fr s H vs Q E hr h => ?_)
  · obtain ⟨z, q, ts, us, rfl, _⟩ := h
    rfl
  · obtain ⟨z, q, ts, us, rfl, hz, hq, sd, fin⟩ := h
    refine ⟨_, pss_cons (ps_if (pt_not (pt_truth (pv 1) (by intro _; rfl)))
        (pss_one (ps_ret (pv 0)))
        (pss_nil))
      (pss_cons (ps_set (i := 2) sc_written.nd rfl (.inl rfl) (pe_join pe_str (pe_lc (own := [("part", 3)]) (g := gName 3) (tt := tYes) (te := tFld K (tVar 3) "text") rfl sc_written.nd (pi_tup (pv 1)) (blkOk_by (N := n_written) (sc := defScope s_written) (by decide +kernel)) (fun _ _ _ _ _ => pg_name (i := 3) sc_written.nd rfl (Or.inl rfl)) (fun _ _ _ _ _ => pts_nil) (fun _ _ _ _ _ => (pe_fld (pv 3) rfl)))))
      (pss_one (ps_ret (pe_joined (.cons (pe_fmt (pv 0)) (.cons pe_str (.cons (pe_fmt (pv 2)) (.cons pe_str .nil)))))))), ?_⟩
    have pl := pair_len sd.is
    have h3 := sd.three
    refine ⟨_, rfl, !us.isEmpty, .inr (.inl ⟨us, hq, rfl⟩), ?_⟩
    cases us with
    | nil =>
      have e : ts = [] := List.eq_nil_of_length_eq_zero pl
      refine iteT ⟨_, rfl, ?_⟩
      have q2 := fin H (.refl _)
      unfold writ at q2
      rw [if_pos e] at q2
      exact q2
    | cons u0 ur =>
      have e : ts ≠ [] := fun e => by rw [e] at pl; cases pl
      refine iteF ⟨⟨_, rfl⟩, _, rfl, q, rfl, ⟨_, hq⟩, fun D1 nD => ?_⟩
      refine lc_call (walk_tup (K := K) (a := q) (xs := u0 :: ur)) nD (ts.map fun u => V.str u.text) (by rw [List.length_map]; exact pl) (by omega) (fun G sG => ?_) (fun i x v G G' R hv sG hy hR => ?_) (fun G sG hD => ?_)
      · exact seqT_same hq sG
      · obtain ⟨rfl, hx⟩ := hy
        obtain ⟨u, hu, iu⟩ := pair_at sd.is hx
        have ev : v = .str u.text := by
          rw [List.getElem?_map, hu] at hv
          exact (Option.some.inj hv).symm
        subst ev
        obtain ⟨a, fs, rfl, hh⟩ := (iu.same sG).has
        obtain ⟨dx, ha⟩ := hh.at_
        exact ⟨rfl, _, rfl, a, _, dx, fs, _, rfl, ha, (X.own _).cl, X.nof _ (by decide +kernel), hh.text, hR _ (.refl _)⟩
      · obtain ⟨j1, j2⟩ := sd.joined
        refine ⟨", ", D1, ts.map Tr.text, rfl, rfl, .inl (SqL.of (by rw [hD, List.map_map]; rfl)), by omega, ?_⟩
        have c1 : ("(" : Str).length = 1 := by decide +kernel
        have c2 : (")" : Str).length = 1 := by decide +kernel
        refine ⟨_, rfl, .inl ⟨z, rfl, small_len (by omega), z, rfl, ?_, ?_⟩⟩
        · rw [empty_cat]
          exact small_len (by omega)
        · rw [empty_cat]
          refine ⟨"(", rfl, by rw [len_cat, c1]; exact small_len (by omega), _, rfl, .inl ⟨_, rfl, small_len (by omega), _, rfl, by rw [len_cat, len_cat, c1]; exact small_len (by omega), ")", rfl, by rw [len_cat, len_cat, len_cat, c1, c2]; exact small_len (by omega), ?_⟩⟩
          have q2 := fin G sG
          unfold writ at q2
          rw [if_neg e] at q2
          exact q2
end
end Jo

set_option Elab.async false
set_option linter.all false
set_option maxRecDepth 100000
set_option maxHeartbeats 1000000
namespace Jo
open PySem PySem.Spec PyProof.Rows L2
theorem seqT_kp {K : PySem.W.Frag} {H G : Hp} {a b Cc dx : Addr} {fs : List (Str × V)} {xs : List V} (h : SqT K H b xs) (k : Kp a H G) (ha : H a = some (.ins Cc dx fs)) : SqT K G b xs := by
  rcases h with (h | ⟨o, h⟩) | h
  · exact .inl (.inl (k _ _ h fun e => by rw [e, ha] at h; cases h))
  · exact .inl (.inr ⟨o, k _ _ h fun e => by rw [e, ha] at h; cases h⟩)
  · exact .inr h
theorem is_kp {C : Kd → Addr} {H G : Hp} {a Cc dx : Addr} (k : Kp a H G) (ha : H a = some (.ins Cc dx [])) {t : Tr} {v : V} (h : Is C H t v) : Is C G t v := h.imp fun b o e n => k b o e fun q => by
  rw [q, ha] at e
  cases e
  exact n _ _ rfl
theorem Sides.kp {C : Kd → Addr} {H G : Hp} {ts : List Tr} {us : List V} {a Cc dx : Addr} (s : Sides C H ts us) (k : Kp a H G) (ha : H a = some (.ins Cc dx [])) : Sides C G ts us := ⟨pair_mem s.is fun x y i => is_kp k ha i, s.ok, s.three, s.parts, s.depth⟩
theorem kp_put {a : Addr} {H G : Hp} {o : HO} (k : Kp a H G) : Kp a H (upd G a o) := k.trans Kp.put
theorem pf {f : Str} {y : V} {fs : List (Str × V)} {n : Nat} (h : fs.length ≤ n) : (putF f y fs).length ≤ n + 1 := by
  have := length_putF f y fs
  omega
theorem pf0 : ([] : List (Str × V)).length ≤ 0 := Nat.le_refl _
/-- the fields that every expression has -/
def fsX (z : Str) (r : Addr) (p d : Nat) : List (Str × V) := putF "depth" (.int (d : Int)) (putF "parts" (.int (p : Int)) (putF "names" (.ref r) (putF "text" (.str z) [])))
theorem flat_nms : ∀ ts : List Tr, (ts.map Tr.nms).flatten = ts.flatMap Tr.nms := fun ts => by rw [List.flatMap_def]
section
variable {P : Program} {w : World} {K : PySem.W.Frag} {mg : Str → Option Value} {base : Heap} {C : Kd → Addr} {CE : Addr}
def n_exi : List Str := ["self", "head", "inside", "part", "name"]
theorem sc_exi : FnScope n_exi ["self", "head", "inside"] (defScope m_Expression_init) := ⟨rfl, rfl, rfl, by decide +kernel, rfl, by decide +kernel, by decide +kernel⟩
def spExI (K : PySem.W.Frag) (C : Kd → Addr) : Sp := fun vs H Q _ => ∃ (a dx q : Addr) (k : Kd) (h : Str) (ts : List Tr) (us : List V), vs = [.ref a, .str h, .ref q] ∧ H a = some (.ins (C k) dx []) ∧ h.length ≤ 8 ∧ SqT K H q us ∧ Sides C H ts us ∧
  ∀ G r, Kp a H G → r ≠ a → G a = some (.ins (C k) dx (fsX (writ h ts) r (1 + (ts.map Tr.parts).sum) (1 + Tr.top1 (ts.map Tr.depth)))) → G r = some (.tup ((srt (ts.flatMap Tr.nms)).map V.str)) → Q .non G
theorem ok_exi (T : Txt mg) (X : XT K mg C CE) (D : Mth K CE "__init__" "Expression.__init__" m_Expression_init ["self", "head", "inside"]) (c_parts : CalF P w K mg base 1 "parts_with" ["inside"] (spPartsWith K C)) (c_depth : CalF P w K mg base 2 "depth_with" ["inside"] (spDepthWith K C))
    (c_check : CalF P w K mg base 3 "check_inside" ["inside"] (spCheckInside K C)) (c_written : CalF P w K mg base 1 "written" ["head", "inside"] (spWritten K C)) : MtF P w K mg base 4 CE "__init__" ["self", "head", "inside"] (spExI K C) := by
  refine D.okF sc_exi (fun vs H Q E h => ?_) (fun f cdv A fr s H vs Q E hr h => ?_)
  · obtain ⟨a, dx, q, k, h, ts, us, rfl, _⟩ := h
    rfl
  · obtain ⟨a, dx, q, k, z, ts, us, rfl, ha, hz, hq, sd, fin⟩ := h
    refine ⟨_, pss_cons (ps_expr (pe_cF c_check hr (by decide) rfl (pa_cons (pv 2) pa_nil)))
      (pss_cons (ps_fld (pv 0) (pe_cF c_written hr (by decide) rfl (pa_cons (pv 1) (pa_cons (pv 2) pa_nil))) rfl)
      (pss_cons (ps_fld (pv 0) (pe_callTy call_tuple_of rfl T.b_tuple (by decide +kernel) (pa_cons (pe_callB (cr_sortT2 rfl) rfl T.b_sorted (by decide +kernel) (pa_cons
        (pe_sc2 (own := [("part", 3), ("name", 4)]) (vs1 := [4]) (g := gName 3) (g1 := gName 4) (tt := tYes) (tt1 := tYes) (wi1 := iTup K (tFld K (tVar 3) "names")) (te := tVar 4) rfl sc_exi.nd (pi_tup (pv 2)) (blkOk_by (N := n_exi) (sc := defScope m_Expression_init) (by decide +kernel)) (fun i h => by rw [List.mem_singleton.mp h]; decide)
          (fun _ _ _ _ _ => pg_name (i := 3) sc_exi.nd rfl (Or.inl rfl)) (fun _ _ _ _ _ => pts_nil) (fun _ _ _ _ _ => pi_tup (pe_fld (pv 3) rfl)) (fun _ _ _ _ _ => pg_name (i := 4) sc_exi.nd rfl (Or.inl rfl)) (fun _ _ _ _ _ => pts_nil) (fun _ _ _ _ _ => pv 4)) pa_nil)) pa_nil)) rfl)
      (pss_cons (ps_fld (pv 0) (pe_cF c_parts hr (by decide) rfl (pa_cons (pv 2) pa_nil)) rfl)
      (pss_one (ps_fld (pv 0) (pe_cF c_depth hr (by decide) rfl (pa_cons (pv 2) pa_nil)) rfl))))), ?_⟩
    have cl := (X.own k).cl
    refine ⟨_, rfl, q, ts, us, rfl, hq, sd, fun G1 s1 => ?_⟩
    refine ⟨_, rfl, _, rfl, z, q, ts, us, rfl, hz, seqT_same hq s1, sd.same s1, fun G2 s2 => ?_⟩
    have ha2 := s2 _ _ (s1 _ _ ha)
    refine ⟨_, rfl, a, _, dx, [], rfl, ha2, cl, X.nof _ (by decide +kernel), by decide, ?_⟩
    have k3 : Kp a H (upd G2 a (.ins (C k) dx (putF "text" (.str (writ z ts)) []))) := kp_put (kp_of (s1.trans s2))
    generalize hG3 : upd G2 a (.ins (C k) dx (putF "text" (.str (writ z ts)) [])) = G3 at k3
    have a3 : G3 a = some (.ins (C k) dx (putF "text" (.str (writ z ts)) [])) := by rw [← hG3, upd_same]
    have sd3 := sd.kp k3 ha
    have hq3 := seqT_kp hq k3 ha
    refine ⟨_, rfl, q, rfl, ⟨_, hq3⟩, fun D1 nD => ?_⟩
    refine sc2_names (P := P) (w := w) (K := K) (vs := [3, 4]) (i1 := 3) (i2 := 4) (σ := [some (.ref a), some (.str z), some (.ref q), none, none]) nD hq3 (ts.map Tr.nms) (by rw [List.length_map]; exact pair_len sd.is) ?_ (fun i x hx => ?_) (by intro _; rfl) (by intro _; rfl) (by intro _ _; rfl) (by intro _ _; rfl) (fun S n hO => ?_)
    · rw [flat_nms]
      have h1 := flat_len ts
      have h2 := sd.parts
      omega
    · obtain ⟨u, hu, iu⟩ := pair_at sd3.is hx
      obtain ⟨b, fs, rfl, hh⟩ := iu.has
      obtain ⟨dy, hb⟩ := hh.at_
      obtain ⟨r, hr1, hr2⟩ := hh.names
      exact ⟨b, _, dy, fs, r, u.nms, rfl, hb, (X.own _).cl, X.nof _ (by decide +kernel), hr1, by rw [List.getElem?_map, hu]; rfl, .inl (.inl hr2)⟩
    · rw [flat_nms] at hO
      have nDa : D1 ≠ a := fun e => by rw [e, a3] at nD; cases nD
      have k4 : Kp a H (upd G3 D1 (SetT P w D1 S n)) := k3.trans (kp_of (same_new nD))
      refine ⟨D1, S, n, rfl, upd_same, ?_, fun ys p1 y1 y2 y3 y4 np1 => ?_⟩
      · have h1 := flat_len ts
        have h2 := sd.parts
        have h3 := hO.2
        omega
      · have ey : ys = srt (ts.flatMap Tr.nms) := srt_of y1 y2 fun x => (y3 x).trans (hO.1 x)
        subst ey
        refine ⟨p1, _, rfl, .inl ⟨SqL.of upd_same, fun r nr => ?_⟩⟩
        have a4 : upd G3 D1 (SetT P w D1 S n) a = some (.ins (C k) dx (putF "text" (.str (writ z ts)) [])) := by rw [upd_ne (fun e => nDa e.symm)]; exact a3
        have np1a : a ≠ p1 := fun e => by rw [← e, a4] at np1; cases np1
        have a5 : upd (upd G3 D1 (SetT P w D1 S n)) p1 (.lst ((srt (ts.flatMap Tr.nms)).map V.str)) a = some (.ins (C k) dx (putF "text" (.str (writ z ts)) [])) := by rw [upd_ne np1a]; exact a4
        have nra : a ≠ r := fun e => by rw [← e, a5] at nr; cases nr
        have k6 : Kp a H (upd (upd (upd G3 D1 (SetT P w D1 S n)) p1 (.lst ((srt (ts.flatMap Tr.nms)).map V.str))) r (.tup ((srt (ts.flatMap Tr.nms)).map V.str))) := (k4.trans (kp_of (same_new np1))).trans (kp_of (same_new nr))
        refine ⟨_, rfl, a, _, dx, _, rfl, by rw [upd_ne nra]; exact a5, cl, X.nof _ (by decide +kernel), Nat.lt_of_le_of_lt (pf pf0) (by decide), ?_⟩
        have k7 := kp_put (o := .ins (C k) dx (putF "names" (.ref r) (putF "text" (.str (writ z ts)) []))) k6
        generalize hG7 : upd (upd (upd (upd G3 D1 (SetT P w D1 S n)) p1 (.lst ((srt (ts.flatMap Tr.nms)).map V.str))) r (.tup ((srt (ts.flatMap Tr.nms)).map V.str))) a (.ins (C k) dx (putF "names" (.ref r) (putF "text" (.str (writ z ts)) []))) = G7 at k7
        have a7 : G7 a = some (.ins (C k) dx (putF "names" (.ref r) (putF "text" (.str (writ z ts)) []))) := by rw [← hG7, upd_same]
        have r7 : G7 r = some (.tup ((srt (ts.flatMap Tr.nms)).map V.str)) := by rw [← hG7, upd_ne (fun e => nra e.symm), upd_same]
        refine ⟨_, rfl, q, ts, us, rfl, seqT_kp hq k7 ha, sd.kp k7 ha, fun G8 s8 => ?_⟩
        refine ⟨_, rfl, a, _, dx, _, rfl, s8 _ _ a7, cl, X.nof _ (by decide +kernel), Nat.lt_of_le_of_lt (pf (pf pf0)) (by decide), ?_⟩
        have k9 := kp_put (o := .ins (C k) dx (putF "parts" (.int ((1 + (ts.map Tr.parts).sum : Nat) : Int)) (putF "names" (.ref r) (putF "text" (.str (writ z ts)) [])))) (k7.trans (kp_of s8))
        refine ⟨_, rfl, q, ts, us, rfl, seqT_kp hq k9 ha, sd.kp k9 ha, fun G9 s9 => ?_⟩
        refine ⟨_, rfl, a, _, dx, _, rfl, s9 _ _ upd_same, cl, X.nof _ (by decide +kernel), Nat.lt_of_le_of_lt (pf (pf (pf pf0))) (by decide), ?_⟩
        refine fin _ r (kp_put (k9.trans (kp_of s9))) (fun e => nra e.symm) upd_same ?_
        rw [upd_ne (fun e => nra e.symm)]
        exact s9 _ _ (by rw [upd_ne (fun e => nra e.symm)]; exact s8 _ _ r7)
end
end Jo

set_option Elab.async false
set_option linter.all false
set_option maxRecDepth 100000
set_option maxHeartbeats 1000000
namespace Jo
open PySem PySem.Spec PyProof.Rows L2 ClX
/-- the base class's __init__, called through the class -/
structure XI (K : PySem.W.Frag) (CE : Addr) : Prop where
  ini : ∀ f, Meth K CE "__init__" f → ClFn K CE "__init__" f
/-- C.m(a, ..), m's promise known by the class -/
theorem pe_cM {X : Cx} {j k : Nat} {C : Addr} {m : Str} {ps : List Str} {sp : Sp} {o e : Expr} {es : List Expr} {pos apos : Pos} {ta : TE} {t : TA} {pl : Sem Bool} (he : PE X o ta) (r : ∀ f, Meth X.K C m f → ClFn X.K C m f) (c : MtF X.prog X.w X.K X.mg X.base k C m ps sp) (hr : Room j X.A) (hk : k ≤ j) (ha : PA X (e :: es) t)
    (hst : starEach (e :: es) X.env = (false, eval e X.env) :: starEach es X.env := by rfl) (hpl : (backTo pos (starEach es X.env)).any (·.1) = false := by rfl)
    (ht : eval (.Call (.Attribute o m apos) (e :: es) [] pos) X.env = (do
      let ov ← eval o X.env
      standAt apos.atName
      let (f, first) ← holding [ov] (getMethod ov m pl)
      callWith pos f first (backTo pos (starEach (e :: es) X.env)) (backToKw pos (keywordEach [] X.env))) := by rfl) :
    PE X (.Call (.Attribute o m apos) (e :: es) [] pos) (tCFn C sp [] ta t) := by
  obtain ⟨f, fd, F, hm, b, _⟩ := c.ex
  exact pe_cfn he (r f hm) F hr hk hm.kp b .nil ha hst hpl ht
/-- fields of the tree's instance, whatever is put beside the four -/
structure Fl (t : Tr) (r : Addr) (fs : List (Str × V)) : Prop where
  text : fs.lookup ("text" : Str) = some (.str t.text)
  names : fs.lookup ("names" : Str) = some (.ref r)
  parts : fs.lookup ("parts" : Str) = some (.int (t.parts : Int))
  depth : fs.lookup ("depth" : Str) = some (.int (t.depth : Int))
  no : ∀ m : Str, m ∉ fieldsX → fs.lookup m = none
theorem ne_S {a b : Str} (h : (decide (a = b)) = false) : ¬ a = b := of_decide_eq_false h
theorem Fl.base (t : Tr) (r : Addr) : Fl t r (fsX t.text r t.parts t.depth) := by
  unfold fsX
  refine ⟨?_, ?_, ?_, ?_, fun m hm => ?_⟩
  · rw [lookup_putF, if_neg (ne_S (by decide +kernel)), lookup_putF, if_neg (ne_S (by decide +kernel)), lookup_putF, if_neg (ne_S (by decide +kernel)), lookup_putF, if_pos rfl]
  · rw [lookup_putF, if_neg (ne_S (by decide +kernel)), lookup_putF, if_neg (ne_S (by decide +kernel)), lookup_putF, if_pos rfl]
  · rw [lookup_putF, if_neg (ne_S (by decide +kernel)), lookup_putF, if_pos rfl]
  · rw [lookup_putF, if_pos rfl]
  · have h1 : ∀ x ∈ fieldsX, ¬ m = x := fun x hx e => hm (by rw [e]; exact hx)
    rw [lookup_putF, if_neg (h1 _ (by decide +kernel)), lookup_putF, if_neg (h1 _ (by decide +kernel)), lookup_putF, if_neg (h1 _ (by decide +kernel)), lookup_putF, if_neg (h1 _ (by decide +kernel))]
    rfl
theorem Fl.put {t : Tr} {r : Addr} {fs : List (Str × V)} {f : Str} {y : V} (h : Fl t r fs) (hf : f ∈ (["number", "name", "test", "first", "second"] : List Str)) : Fl t r (putF f y fs) := by
  have h4 : ∀ x ∈ (["text", "names", "parts", "depth"] : List Str), ∀ f ∈ (["number", "name", "test", "first", "second"] : List Str), ¬ x = f := by decide +kernel
  have h9 : ∀ f ∈ (["number", "name", "test", "first", "second"] : List Str), f ∈ fieldsX := by decide +kernel
  refine ⟨?_, ?_, ?_, ?_, fun m hm => ?_⟩
  · rw [lookup_putF, if_neg (h4 _ (by decide +kernel) f hf)]; exact h.text
  · rw [lookup_putF, if_neg (h4 _ (by decide +kernel) f hf)]; exact h.names
  · rw [lookup_putF, if_neg (h4 _ (by decide +kernel) f hf)]; exact h.parts
  · rw [lookup_putF, if_neg (h4 _ (by decide +kernel) f hf)]; exact h.depth
  · rw [lookup_putF, if_neg (fun e => hm (by rw [e]; exact h9 f hf))]; exact h.no m hm
theorem Fl.rename {t : Tr} {r r' : Addr} {fs : List (Str × V)} (h : Fl t r fs) : Fl t r' (putF "names" (.ref r') fs) := by
  refine ⟨?_, ?_, ?_, ?_, fun m hm => ?_⟩
  · rw [lookup_putF, if_neg (ne_S (by decide +kernel))]; exact h.text
  · rw [lookup_putF, if_pos rfl]
  · rw [lookup_putF, if_neg (ne_S (by decide +kernel))]; exact h.parts
  · rw [lookup_putF, if_neg (ne_S (by decide +kernel))]; exact h.depth
  · rw [lookup_putF, if_neg (fun e => hm (by rw [e]; decide +kernel))]; exact h.no m hm
theorem Fl.has {C : Kd → Addr} {t : Tr} {r a dx : Addr} {fs : List (Str × V)} {G : Hp} (h : Fl t r fs) (ha : G a = some (.ins (C t.kd) dx fs)) (hr : G r = some (.tup (t.nms.map V.str))) : Has C G t a fs :=
  ⟨⟨dx, ha⟩, h.text, ⟨r, h.names, hr⟩, h.parts, h.depth, h.no⟩
theorem put_get {f : Str} {y : V} {fs : List (Str × V)} : (putF f y fs).lookup f = some y := by rw [lookup_putF, if_pos rfl]
theorem put_past {f g : Str} {y x : V} {fs : List (Str × V)} (n : ¬ g = f) (h : fs.lookup g = some x) : (putF f y fs).lookup g = some x := by rw [lookup_putF, if_neg n]; exact h
/-- an expression that may be made -/
structure Lim (t : Tr) : Prop where
  ok : t.Ok fun x => nmS x = true
  parts : t.parts ≤ 40
  depth : t.depth ≤ 6
theorem Lim.sides {C : Kd → Addr} {H : Hp} {t : Tr} {us : List V} (l : Lim t) (hc : t.comp = true) (p : Paired (Is C H) t.kids us) : Sides C H t.kids us := by
  have h1 := Tr.parts_comp hc
  have h2 := Tr.depth_comp hc
  have h3 := l.parts
  have h4 := l.depth
  exact ⟨p, fun u hu => l.ok.kid u hu, kids3 t, by omega, by omega⟩
theorem fsX_comp {t : Tr} (hc : t.comp = true) (r : Addr) : fsX (writ t.head t.kids) r (1 + (t.kids.map Tr.parts).sum) (1 + Tr.top1 (t.kids.map Tr.depth)) = fsX t.text r t.parts t.depth := by
  have e : t.kids ≠ [] := fun e => by
    unfold Tr.comp at hc
    rw [e] at hc
    cases hc
  have e2 : writ t.head t.kids = t.text := by
    unfold writ
    rw [if_neg e, Tr.text_comp hc]
  rw [e2, ← Tr.parts_comp hc, ← Tr.depth_comp hc]
section
variable {P : Program} {w : World} {K : PySem.W.Frag} {mg : Str → Option Value} {base : Heap} {C : Kd → Addr} {CE : Addr}
def spNum (C : Kd → Addr) : Sp := fun vs H Q _ => ∃ (a dx : Addr) (n : Int), vs = [.ref a, .int n] ∧ H a = some (.ins (C .num) dx []) ∧ 0 ≤ n ∧ n ≤ 999 ∧ ∀ G, Kp a H G → Is C G (.num n) (.ref a) → Q .non G
def spVar (C : Kd → Addr) : Sp := fun vs H Q _ => ∃ (a dx : Addr) (x : Str), vs = [.ref a, .str x] ∧ H a = some (.ins (C .var) dx []) ∧ nmS x = true ∧ ∀ G, Kp a H G → Is C G (.var x) (.ref a) → Q .non G
def spUn (C : Kd → Addr) : Sp := fun vs H Q _ => ∃ (a dx : Addr) (t : Tr) (v : V), vs = [.ref a, v] ∧ H a = some (.ins (C .un) dx []) ∧ Is C H t v ∧ Lim (.un t) ∧ ∀ G, Kp a H G → Is C G (.un t) (.ref a) → Q .non G
def spBi (C : Kd → Addr) (k : Bk) : Sp := fun vs H Q _ => ∃ (a dx : Addr) (t1 t2 : Tr) (v1 v2 : V), vs = [.ref a, v1, v2] ∧ H a = some (.ins (C (.bi k)) dx []) ∧ Is C H t1 v1 ∧ Is C H t2 v2 ∧ Lim (.bi k t1 t2) ∧ ∀ G, Kp a H G → Is C G (.bi k t1 t2) (.ref a) → Q .non G
def spCh (C : Kd → Addr) : Sp := fun vs H Q _ => ∃ (a dx : Addr) (t1 t2 t3 : Tr) (v1 v2 v3 : V), vs = [.ref a, v1, v2, v3] ∧ H a = some (.ins (C .ch) dx []) ∧ Is C H t1 v1 ∧ Is C H t2 v2 ∧ Is C H t3 v3 ∧ Lim (.ch t1 t2 t3) ∧ ∀ G, Kp a H G → Is C G (.ch t1 t2 t3) (.ref a) → Q .non G
/-- what every __init__ of two sides comes to -/
theorem bi_end {k : Bk} {H : Hp} {Q : VK} {a dx : Addr} {t1 t2 : Tr} {v1 v2 : V} (X : XT K mg C CE) (lim : Lim (.bi k t1 t2)) (ha : H a = some (.ins (C (.bi k)) dx [])) (i1 : Is C H t1 v1) (i2 : Is C H t2 v2) (fin : ∀ G, Kp a H G → Is C G (.bi k t1 t2) (.ref a) → Q .non G) :
    tSeq (tDrop (tCFn CE (spExI K C) [] (tC (.ref CE)) (tCons (tVar 0) (tCons (tCVal K (tC (.ref (C (.bi k)))) "WORD") (tCons (tTup (tCons (tVar 1) (tCons (tVar 2) tNil))) tNil)))))
      (tSeq (sFld K (tVar 0) (tVar 1) "first") (sFld K (tVar 0) (tVar 2) "second")) { nx := fun _ H' => Q .non H', rt := Q } [some (.ref a), some v1, some v2] H := by
  obtain ⟨mc, u, cr, cv⟩ := X.cval (.bi k)
  refine ⟨rfl, _, rfl, ⟨_, mc, .str k.word, u, rfl, cr, cv, _, rfl, _, rfl, (show 2 ≤ sizeLine by decide), fun q nq => ?_⟩⟩
  have sn : Same H (upd H q (.tup [v1, v2])) := same_new nq
  refine ⟨a, dx, q, .bi k, k.word, [t1, t2], [v1, v2], rfl, sn _ _ ha, head6 (.bi k t1 t2), .inl (.inl upd_same), lim.sides rfl (.cons (i1.same sn) (.cons (i2.same sn) .nil)), fun G r kG hr aG rG => ?_⟩
  have kH : Kp a H G := (kp_of sn).trans kG
  have eG : G a = some (.ins (C (.bi k)) dx (fsX (Tr.bi k t1 t2).text r (Tr.bi k t1 t2).parts (Tr.bi k t1 t2).depth)) := by
    rw [← fsX_comp (t := .bi k t1 t2) rfl]
    exact aG
  have cl := (X.own (.bi k)).cl
  refine ⟨_, rfl, _, rfl, a, _, dx, _, rfl, eG, cl, X.nof _ (by decide +kernel), Nat.lt_of_le_of_lt (pf (pf (pf (pf pf0)))) (by decide), ?_⟩
  refine ⟨_, rfl, _, rfl, a, _, dx, _, rfl, upd_same, cl, X.nof _ (by decide +kernel), Nat.lt_of_le_of_lt (pf (pf (pf (pf (pf pf0))))) (by decide), ?_⟩
  have kE := kp_put (o := .ins (C (.bi k)) dx (putF "second" v2 (putF "first" v1 (fsX (Tr.bi k t1 t2).text r (Tr.bi k t1 t2).parts (Tr.bi k t1 t2).depth)))) (kp_put (o := .ins (C (.bi k)) dx (putF "first" v1 (fsX (Tr.bi k t1 t2).text r (Tr.bi k t1 t2).parts (Tr.bi k t1 t2).depth))) kH)
  refine fin _ kE ⟨a, _, v1, v2, rfl, (((Fl.base (.bi k t1 t2) r).put (by decide +kernel)).put (by decide +kernel)).has upd_same ?_, ?_, put_get, is_kp kE ha i1, is_kp kE ha i2⟩
  · rw [upd_ne hr, upd_ne hr]
    have e : (Tr.bi k t1 t2).nms = srt ([t1, t2].flatMap Tr.nms) := nms_comp (t := .bi k t1 t2) rfl
    rw [e]
    exact rG
  · exact put_past (ne_S (by decide +kernel)) put_get
theorem sc_Plus : FnScope ["self", "first", "second"] ["self", "first", "second"] (defScope m_Plus_init) := ⟨rfl, rfl, rfl, by decide +kernel, rfl, by decide +kernel, by decide +kernel⟩
theorem ok_Plus (X : XT K mg C CE) (I : XI K CE) (D : Mth K (C (.bi .plus)) "__init__" "Plus.__init__" m_Plus_init ["self", "first", "second"]) (c_exi : MtF P w K mg base 4 CE "__init__" ["self", "head", "inside"] (spExI K C)) :
    MtF P w K mg base 5 (C (.bi .plus)) "__init__" ["self", "first", "second"] (spBi C .plus) := by
  refine D.okF sc_Plus (fun vs H Q E h => ?_) (fun f cdv A fr s H vs Q E hr h => ?_)
  · obtain ⟨a, dx, t1, t2, v1, v2, rfl, _⟩ := h
    rfl
  · obtain ⟨a, dx, t1, t2, v1, v2, rfl, ha, i1, i2, lim, fin⟩ := h
    refine ⟨_, pss_cons (ps_expr (pe_cM (pe_glob (v := .ref CE) rfl X.mgE rfl) I.ini c_exi hr (by decide) (pa_cons (pv 0) (pa_cons (pe_cval (pe_glob (v := .ref (C (.bi .plus))) rfl (X.mgC (.bi .plus)) rfl) rfl) (pa_cons (pe_tup (pa_cons (pv 1) (pa_cons (pv 2) pa_nil))) pa_nil)))))
      (pss_cons (ps_fld (pv 0) (pv 1) rfl)
      (pss_one (ps_fld (pv 0) (pv 2) rfl))), ?_⟩
    exact bi_end X lim ha i1 i2 fin
theorem sc_Minus : FnScope ["self", "first", "second"] ["self", "first", "second"] (defScope m_Minus_init) := ⟨rfl, rfl, rfl, by decide +kernel, rfl, by decide +kernel, by decide +kernel⟩
theorem ok_Minus (X : XT K mg C CE) (I : XI K CE) (D : Mth K (C (.bi .minus)) "__init__" "Minus.__init__" m_Minus_init ["self", "first", "second"]) (c_exi : MtF P w K mg base 4 CE "__init__" ["self", "head", "inside"] (spExI K C)) :
    MtF P w K mg base 5 (C (.bi .minus)) "__init__" ["self", "first", "second"] (spBi C .minus) := by
  refine D.okF sc_Minus (fun vs H Q E h => ?_) (fun f cdv A fr s H vs Q E hr h => ?_)
  · obtain ⟨a, dx, t1, t2, v1, v2, rfl, _⟩ := h
    rfl
  · obtain ⟨a, dx, t1, t2, v1, v2, rfl, ha, i1, i2, lim, fin⟩ := h
    refine ⟨_, pss_cons (ps_expr (pe_cM (pe_glob (v := .ref CE) rfl X.mgE rfl) I.ini c_exi hr (by decide) (pa_cons (pv 0) (pa_cons (pe_cval (pe_glob (v := .ref (C (.bi .minus))) rfl (X.mgC (.bi .minus)) rfl) rfl) (pa_cons (pe_tup (pa_cons (pv 1) (pa_cons (pv 2) pa_nil))) pa_nil)))))
      (pss_cons (ps_fld (pv 0) (pv 1) rfl)
      (pss_one (ps_fld (pv 0) (pv 2) rfl))), ?_⟩
    exact bi_end X lim ha i1 i2 fin
theorem sc_Times : FnScope ["self", "first", "second"] ["self", "first", "second"] (defScope m_Times_init) := ⟨rfl, rfl, rfl, by decide +kernel, rfl, by decide +kernel, by decide +kernel⟩
theorem ok_Times (X : XT K mg C CE) (I : XI K CE) (D : Mth K (C (.bi .times)) "__init__" "Times.__init__" m_Times_init ["self", "first", "second"]) (c_exi : MtF P w K mg base 4 CE "__init__" ["self", "head", "inside"] (spExI K C)) :
    MtF P w K mg base 5 (C (.bi .times)) "__init__" ["self", "first", "second"] (spBi C .times) := by
  refine D.okF sc_Times (fun vs H Q E h => ?_) (fun f cdv A fr s H vs Q E hr h => ?_)
  · obtain ⟨a, dx, t1, t2, v1, v2, rfl, _⟩ := h
    rfl
  · obtain ⟨a, dx, t1, t2, v1, v2, rfl, ha, i1, i2, lim, fin⟩ := h
    refine ⟨_, pss_cons (ps_expr (pe_cM (pe_glob (v := .ref CE) rfl X.mgE rfl) I.ini c_exi hr (by decide) (pa_cons (pv 0) (pa_cons (pe_cval (pe_glob (v := .ref (C (.bi .times))) rfl (X.mgC (.bi .times)) rfl) rfl) (pa_cons (pe_tup (pa_cons (pv 1) (pa_cons (pv 2) pa_nil))) pa_nil)))))
      (pss_cons (ps_fld (pv 0) (pv 1) rfl)
      (pss_one (ps_fld (pv 0) (pv 2) rfl))), ?_⟩
    exact bi_end X lim ha i1 i2 fin
theorem sc_Equal : FnScope ["self", "first", "second"] ["self", "first", "second"] (defScope m_Equal_init) := ⟨rfl, rfl, rfl, by decide +kernel, rfl, by decide +kernel, by decide +kernel⟩
theorem ok_Equal (X : XT K mg C CE) (I : XI K CE) (D : Mth K (C (.bi .equal)) "__init__" "Equal.__init__" m_Equal_init ["self", "first", "second"]) (c_exi : MtF P w K mg base 4 CE "__init__" ["self", "head", "inside"] (spExI K C)) :
    MtF P w K mg base 5 (C (.bi .equal)) "__init__" ["self", "first", "second"] (spBi C .equal) := by
  refine D.okF sc_Equal (fun vs H Q E h => ?_) (fun f cdv A fr s H vs Q E hr h => ?_)
  · obtain ⟨a, dx, t1, t2, v1, v2, rfl, _⟩ := h
    rfl
  · obtain ⟨a, dx, t1, t2, v1, v2, rfl, ha, i1, i2, lim, fin⟩ := h
    refine ⟨_, pss_cons (ps_expr (pe_cM (pe_glob (v := .ref CE) rfl X.mgE rfl) I.ini c_exi hr (by decide) (pa_cons (pv 0) (pa_cons (pe_cval (pe_glob (v := .ref (C (.bi .equal))) rfl (X.mgC (.bi .equal)) rfl) rfl) (pa_cons (pe_tup (pa_cons (pv 1) (pa_cons (pv 2) pa_nil))) pa_nil)))))
      (pss_cons (ps_fld (pv 0) (pv 1) rfl)
      (pss_one (ps_fld (pv 0) (pv 2) rfl))), ?_⟩
    exact bi_end X lim ha i1 i2 fin
theorem sc_Below : FnScope ["self", "first", "second"] ["self", "first", "second"] (defScope m_Below_init) := ⟨rfl, rfl, rfl, by decide +kernel, rfl, by decide +kernel, by decide +kernel⟩
theorem ok_Below (X : XT K mg C CE) (I : XI K CE) (D : Mth K (C (.bi .below)) "__init__" "Below.__init__" m_Below_init ["self", "first", "second"]) (c_exi : MtF P w K mg base 4 CE "__init__" ["self", "head", "inside"] (spExI K C)) :
    MtF P w K mg base 5 (C (.bi .below)) "__init__" ["self", "first", "second"] (spBi C .below) := by
  refine D.okF sc_Below (fun vs H Q E h => ?_) (fun f cdv A fr s H vs Q E hr h => ?_)
  · obtain ⟨a, dx, t1, t2, v1, v2, rfl, _⟩ := h
    rfl
  · obtain ⟨a, dx, t1, t2, v1, v2, rfl, ha, i1, i2, lim, fin⟩ := h
    refine ⟨_, pss_cons (ps_expr (pe_cM (pe_glob (v := .ref CE) rfl X.mgE rfl) I.ini c_exi hr (by decide) (pa_cons (pv 0) (pa_cons (pe_cval (pe_glob (v := .ref (C (.bi .below))) rfl (X.mgC (.bi .below)) rfl) rfl) (pa_cons (pe_tup (pa_cons (pv 1) (pa_cons (pv 2) pa_nil))) pa_nil)))))
      (pss_cons (ps_fld (pv 0) (pv 1) rfl)
      (pss_one (ps_fld (pv 0) (pv 2) rfl))), ?_⟩
    exact bi_end X lim ha i1 i2 fin
theorem sc_Both : FnScope ["self", "first", "second"] ["self", "first", "second"] (defScope m_Both_init) := ⟨rfl, rfl, rfl, by decide +kernel, rfl, by decide +kernel, by decide +kernel⟩
theorem ok_Both (X : XT K mg C CE) (I : XI K CE) (D : Mth K (C (.bi .both)) "__init__" "Both.__init__" m_Both_init ["self", "first", "second"]) (c_exi : MtF P w K mg base 4 CE "__init__" ["self", "head", "inside"] (spExI K C)) :
    MtF P w K mg base 5 (C (.bi .both)) "__init__" ["self", "first", "second"] (spBi C .both) := by
  refine D.okF sc_Both (fun vs H Q E h => ?_) (fun f cdv A fr s H vs Q E hr h => ?_)
  · obtain ⟨a, dx, t1, t2, v1, v2, rfl, _⟩ := h
    rfl
  · obtain ⟨a, dx, t1, t2, v1, v2, rfl, ha, i1, i2, lim, fin⟩ := h
    refine ⟨_, pss_cons (ps_expr (pe_cM (pe_glob (v := .ref CE) rfl X.mgE rfl) I.ini c_exi hr (by decide) (pa_cons (pv 0) (pa_cons (pe_cval (pe_glob (v := .ref (C (.bi .both))) rfl (X.mgC (.bi .both)) rfl) rfl) (pa_cons (pe_tup (pa_cons (pv 1) (pa_cons (pv 2) pa_nil))) pa_nil)))))
      (pss_cons (ps_fld (pv 0) (pv 1) rfl)
      (pss_one (ps_fld (pv 0) (pv 2) rfl))), ?_⟩
    exact bi_end X lim ha i1 i2 fin
theorem sc_Either : FnScope ["self", "first", "second"] ["self", "first", "second"] (defScope m_Either_init) := ⟨rfl, rfl, rfl, by decide +kernel, rfl, by decide +kernel, by decide +kernel⟩
theorem ok_Either (X : XT K mg C CE) (I : XI K CE) (D : Mth K (C (.bi .either)) "__init__" "Either.__init__" m_Either_init ["self", "first", "second"]) (c_exi : MtF P w K mg base 4 CE "__init__" ["self", "head", "inside"] (spExI K C)) :
    MtF P w K mg base 5 (C (.bi .either)) "__init__" ["self", "first", "second"] (spBi C .either) := by
  refine D.okF sc_Either (fun vs H Q E h => ?_) (fun f cdv A fr s H vs Q E hr h => ?_)
  · obtain ⟨a, dx, t1, t2, v1, v2, rfl, _⟩ := h
    rfl
  · obtain ⟨a, dx, t1, t2, v1, v2, rfl, ha, i1, i2, lim, fin⟩ := h
    refine ⟨_, pss_cons (ps_expr (pe_cM (pe_glob (v := .ref CE) rfl X.mgE rfl) I.ini c_exi hr (by decide) (pa_cons (pv 0) (pa_cons (pe_cval (pe_glob (v := .ref (C (.bi .either))) rfl (X.mgC (.bi .either)) rfl) rfl) (pa_cons (pe_tup (pa_cons (pv 1) (pa_cons (pv 2) pa_nil))) pa_nil)))))
      (pss_cons (ps_fld (pv 0) (pv 1) rfl)
      (pss_one (ps_fld (pv 0) (pv 2) rfl))), ?_⟩
    exact bi_end X lim ha i1 i2 fin
theorem ok_TimesI (X : XT K mg C CE) (I : XI K CE) (D : MthI K (C (.bi .times)) "__init__" "Times.__init__" m_Times_init ["self", "first", "second"]) (c_exi : MtF P w K mg base 4 CE "__init__" ["self", "head", "inside"] (spExI K C)) :
    MtI P w K mg base 5 (C (.bi .times)) "__init__" ["self", "first", "second"] (spBi C .times) := by
  refine D.okF sc_Times (fun vs H Q E h => ?_) (fun f cdv A fr s H vs Q E hr h => ?_)
  · obtain ⟨a, dx, t1, t2, v1, v2, rfl, _⟩ := h
    rfl
  · obtain ⟨a, dx, t1, t2, v1, v2, rfl, ha, i1, i2, lim, fin⟩ := h
    refine ⟨_, pss_cons (ps_expr (pe_cM (pe_glob (v := .ref CE) rfl X.mgE rfl) I.ini c_exi hr (by decide) (pa_cons (pv 0) (pa_cons (pe_cval (pe_glob (v := .ref (C (.bi .times))) rfl (X.mgC (.bi .times)) rfl) rfl) (pa_cons (pe_tup (pa_cons (pv 1) (pa_cons (pv 2) pa_nil))) pa_nil)))))
      (pss_cons (ps_fld (pv 0) (pv 1) rfl)
      (pss_one (ps_fld (pv 0) (pv 2) rfl))), ?_⟩
    exact bi_end X lim ha i1 i2 fin
theorem sc_Not : FnScope ["self", "first"] ["self", "first"] (defScope m_Not_init) := ⟨rfl, rfl, rfl, by decide +kernel, rfl, by decide +kernel, by decide +kernel⟩
theorem ok_Not (X : XT K mg C CE) (I : XI K CE) (D : Mth K (C .un) "__init__" "Not.__init__" m_Not_init ["self", "first"]) (c_exi : MtF P w K mg base 4 CE "__init__" ["self", "head", "inside"] (spExI K C)) :
    MtF P w K mg base 5 (C .un) "__init__" ["self", "first"] (spUn C) := by
  refine D.okF sc_Not (fun vs H Q E h => ?_) (fun f cdv A fr s H vs Q E hr h => ?_)
  · obtain ⟨a, dx, t, v, rfl, _⟩ := h
    rfl
  · obtain ⟨a, dx, t, v, rfl, ha, i1, lim, fin⟩ := h
    refine ⟨_, pss_cons (ps_expr (pe_cM (pe_glob (v := .ref CE) rfl X.mgE rfl) I.ini c_exi hr (by decide) (pa_cons (pv 0) (pa_cons (pe_cval (pe_glob (v := .ref (C .un)) rfl (X.mgC .un) rfl) rfl) (pa_cons (pe_tup (pa_cons (pv 1) pa_nil)) pa_nil)))))
      (pss_one (ps_fld (pv 0) (pv 1) rfl)), ?_⟩
    obtain ⟨mc, u, cr, cv⟩ := X.cval .un
    refine ⟨rfl, _, rfl, ⟨_, mc, .str (Kd.word .un), u, rfl, cr, cv, _, rfl, (show 1 ≤ sizeLine by decide), fun q nq => ?_⟩⟩
    have sn : Same H (upd H q (.tup [v])) := same_new nq
    refine ⟨a, dx, q, .un, Kd.word .un, [t], [v], rfl, sn _ _ ha, head6 (.un t), .inl (.inl upd_same), lim.sides rfl (.cons (i1.same sn) .nil), fun G r kG hr2 aG rG => ?_⟩
    have kH : Kp a H G := (kp_of sn).trans kG
    have eG : G a = some (.ins (C .un) dx (fsX (Tr.un t).text r (Tr.un t).parts (Tr.un t).depth)) := by
      rw [← fsX_comp (t := .un t) rfl]
      exact aG
    have cl := (X.own .un).cl
    refine ⟨_, rfl, _, rfl, a, _, dx, _, rfl, eG, cl, X.nof _ (by decide +kernel), Nat.lt_of_le_of_lt (pf (pf (pf (pf pf0)))) (by decide), ?_⟩
    have kE := kp_put (o := .ins (C .un) dx (putF "first" v (fsX (Tr.un t).text r (Tr.un t).parts (Tr.un t).depth))) kH
    refine fin _ kE ⟨a, _, v, rfl, ((Fl.base (.un t) r).put (by decide +kernel)).has upd_same ?_, put_get, is_kp kE ha i1⟩
    rw [upd_ne hr2]
    have e : (Tr.un t).nms = srt ([t].flatMap Tr.nms) := nms_comp (t := .un t) rfl
    rw [e]
    exact rG
theorem sc_Choose : FnScope ["self", "test", "first", "second"] ["self", "test", "first", "second"] (defScope m_Choose_init) := ⟨rfl, rfl, rfl, by decide +kernel, rfl, by decide +kernel, by decide +kernel⟩
theorem ok_Choose (X : XT K mg C CE) (I : XI K CE) (D : Mth K (C .ch) "__init__" "Choose.__init__" m_Choose_init ["self", "test", "first", "second"]) (c_exi : MtF P w K mg base 4 CE "__init__" ["self", "head", "inside"] (spExI K C)) :
    MtF P w K mg base 5 (C .ch) "__init__" ["self", "test", "first", "second"] (spCh C) := by
  refine D.okF sc_Choose (fun vs H Q E h => ?_) (fun f cdv A fr s H vs Q E hr h => ?_)
  · obtain ⟨a, dx, t1, t2, t3, v1, v2, v3, rfl, _⟩ := h
    rfl
  · obtain ⟨a, dx, t1, t2, t3, v1, v2, v3, rfl, ha, i1, i2, i3, lim, fin⟩ := h
    refine ⟨_, pss_cons (ps_expr (pe_cM (pe_glob (v := .ref CE) rfl X.mgE rfl) I.ini c_exi hr (by decide) (pa_cons (pv 0) (pa_cons (pe_cval (pe_glob (v := .ref (C .ch)) rfl (X.mgC .ch) rfl) rfl) (pa_cons (pe_tup (pa_cons (pv 1) (pa_cons (pv 2) (pa_cons (pv 3) pa_nil)))) pa_nil)))))
      (pss_cons (ps_fld (pv 0) (pv 1) rfl)
      (pss_cons (ps_fld (pv 0) (pv 2) rfl)
      (pss_one (ps_fld (pv 0) (pv 3) rfl)))), ?_⟩
    obtain ⟨mc, u, cr, cv⟩ := X.cval .ch
    refine ⟨rfl, _, rfl, ⟨_, mc, .str (Kd.word .ch), u, rfl, cr, cv, _, rfl, _, rfl, _, rfl, (show 3 ≤ sizeLine by decide), fun q nq => ?_⟩⟩
    have sn : Same H (upd H q (.tup [v1, v2, v3])) := same_new nq
    refine ⟨a, dx, q, .ch, Kd.word .ch, [t1, t2, t3], [v1, v2, v3], rfl, sn _ _ ha, head6 (.ch t1 t2 t3), .inl (.inl upd_same), lim.sides rfl (.cons (i1.same sn) (.cons (i2.same sn) (.cons (i3.same sn) .nil))), fun G r kG hr2 aG rG => ?_⟩
    have kH : Kp a H G := (kp_of sn).trans kG
    generalize hT : Tr.ch t1 t2 t3 = T at lim fin aG rG
    have hk : T.kids = [t1, t2, t3] := by rw [← hT]; rfl
    have hcm : T.comp = true := by rw [← hT]; rfl
    have hkd : T.kd = .ch := by rw [← hT]; rfl
    have eG : G a = some (.ins (C .ch) dx (fsX T.text r T.parts T.depth)) := by
      rw [← fsX_comp hcm, hk]
      have e : T.head = Kd.word .ch := by rw [← hT]; rfl
      rw [e]
      exact aG
    have cl := (X.own .ch).cl
    refine ⟨_, rfl, _, rfl, a, _, dx, _, rfl, eG, cl, X.nof _ (by decide +kernel), Nat.lt_of_le_of_lt (pf (pf (pf (pf pf0)))) (by decide), ?_⟩
    refine ⟨_, rfl, _, rfl, a, _, dx, _, rfl, upd_same, cl, X.nof _ (by decide +kernel), Nat.lt_of_le_of_lt (pf (pf (pf (pf (pf pf0))))) (by decide), ?_⟩
    refine ⟨_, rfl, _, rfl, a, _, dx, _, rfl, upd_same, cl, X.nof _ (by decide +kernel), Nat.lt_of_le_of_lt (pf (pf (pf (pf (pf (pf pf0)))))) (by decide), ?_⟩
    have kE := kp_put (o := .ins (C .ch) dx (putF "second" v3 (putF "first" v2 (putF "test" v1 (fsX T.text r T.parts T.depth))))) (kp_put (o := .ins (C .ch) dx (putF "first" v2 (putF "test" v1 (fsX T.text r T.parts T.depth)))) (kp_put (o := .ins (C .ch) dx (putF "test" v1 (fsX T.text r T.parts T.depth))) kH))
    have hh : Has C (upd (upd (upd G a (.ins (C .ch) dx (putF "test" v1 (fsX T.text r T.parts T.depth)))) a (.ins (C .ch) dx (putF "first" v2 (putF "test" v1 (fsX T.text r T.parts T.depth))))) a (.ins (C .ch) dx (putF "second" v3 (putF "first" v2 (putF "test" v1 (fsX T.text r T.parts T.depth)))))) T a (putF "second" v3 (putF "first" v2 (putF "test" v1 (fsX T.text r T.parts T.depth)))) := by
      refine ((((Fl.base T r).put (by decide +kernel)).put (by decide +kernel)).put (by decide +kernel)).has (by rw [hkd]; exact upd_same) ?_
      rw [upd_ne hr2, upd_ne hr2, upd_ne hr2]
      have e : T.nms = srt ([t1, t2, t3].flatMap Tr.nms) := by rw [nms_comp hcm, hk]
      rw [e]
      exact rG
    refine fin _ kE ?_
    subst hT
    exact ⟨a, _, v1, v2, v3, rfl, hh, put_past (ne_S (by decide +kernel)) (put_past (ne_S (by decide +kernel)) put_get), put_past (ne_S (by decide +kernel)) put_get, put_get, is_kp kE ha i1, is_kp kE ha i2, is_kp kE ha i3⟩
theorem sides0 {C : Kd → Addr} {H : Hp} : Sides C H [] [] := ⟨.nil, fun t h => (by cases h), by decide, by decide, by decide⟩
theorem sc_Number : FnScope ["self", "number"] ["self", "number"] (defScope m_Number_init) := ⟨rfl, rfl, rfl, by decide +kernel, rfl, by decide +kernel, by decide +kernel⟩
theorem ok_Number (T : Txt mg) (X : XT K mg C CE) (I : XI K CE) (D : Mth K (C .num) "__init__" "Number.__init__" m_Number_init ["self", "number"]) (c_exi : MtF P w K mg base 4 CE "__init__" ["self", "head", "inside"] (spExI K C))
    (c_is_integer : CalF P w K mg base 1 "is_integer" ["value"] (spIsInt K)) : MtF P w K mg base 5 (C .num) "__init__" ["self", "number"] (spNum C) := by
  refine D.okF sc_Number (fun vs H Q E h => ?_) (fun f cdv A fr s H vs Q E hr h => ?_)
  · obtain ⟨a, dx, n, rfl, _⟩ := h
    rfl
  · obtain ⟨a, dx, n, rfl, ha, n0, n1, fin⟩ := h
    refine ⟨_, pss_cons (ps_if (PW.pt (pw_or (pt_not (pt_val (pe_cF c_is_integer hr (by decide) rfl (pa_cons (pv 1) pa_nil)))) (pw_or1 (pt_not (pt_chain op_le op_le pe_int (pv 1) (C8.pe_gc rfl T.g_MAX_NUMBER))))))
        (pss_one ps_never)
        (pss_nil))
      (pss_cons (ps_expr (pe_cM (pe_glob (v := .ref CE) rfl X.mgE rfl) I.ini c_exi hr (by decide) (pa_cons (pv 0) (pa_cons (pe_callTy call_str_int rfl T.b_str (by decide +kernel) (pa_cons (pv 1) pa_nil)) (pa_cons (pe_tup pa_nil) pa_nil)))))
      (pss_one (ps_fld (pv 0) (pv 1) rfl))), ?_⟩
    have l3 := num_len n0 n1
    refine ⟨_, rfl, .int n, rfl, any_int n, true, rfl, iteF ⟨_, rfl, _, _, rfl, rfl, _, rfl, ?_⟩⟩
    rw [decide_eq_true n0]
    refine iteT ⟨_, _, rfl, rfl, _, rfl, ?_⟩
    rw [decide_eq_true n1]
    refine iteF ⟨rfl, _, rfl, _, rfl, n, rfl, log_s (by omega), (show 0 ≤ sizeLine by decide), fun q nq => ?_⟩
    have sn : Same H (upd H q (.tup [])) := same_new nq
    refine ⟨a, dx, q, .num, _, [], [], rfl, sn _ _ ha, Nat.le_trans l3 (by decide), .inl (.inl upd_same), sides0, fun G r kG hr2 aG rG => ?_⟩
    have kH : Kp a H G := (kp_of sn).trans kG
    have cl := (X.own .num).cl
    refine ⟨_, rfl, _, rfl, a, _, dx, _, rfl, aG, cl, X.nof _ (by decide +kernel), Nat.lt_of_le_of_lt (pf (pf (pf (pf pf0)))) (by decide), ?_⟩
    have kE := kp_put (o := .ins (C .num) dx (putF "number" (.int n) (fsX (Tr.num n).text r (Tr.num n).parts (Tr.num n).depth))) kH
    refine fin _ kE ⟨a, _, rfl, ((Fl.base (.num n) r).put (by decide +kernel)).has upd_same ?_, put_get⟩
    rw [upd_ne hr2]
    exact rG
theorem sc_Variable : FnScope ["self", "name"] ["self", "name"] (defScope m_Variable_init) := ⟨rfl, rfl, rfl, by decide +kernel, rfl, by decide +kernel, by decide +kernel⟩
theorem ok_Variable (T : Txt mg) (X : XT K mg C CE) (I : XI K CE) (D : Mth K (C .var) "__init__" "Variable.__init__" m_Variable_init ["self", "name"]) (c_exi : MtF P w K mg base 4 CE "__init__" ["self", "head", "inside"] (spExI K C))
    (c_is_name : CalF P w K mg base 1 "is_name" ["value"] (spIsName K)) : MtF P w K mg base 5 (C .var) "__init__" ["self", "name"] (spVar C) := by
  refine D.okF sc_Variable (fun vs H Q E h => ?_) (fun f cdv A fr s H vs Q E hr h => ?_)
  · obtain ⟨a, dx, x, rfl, _⟩ := h
    rfl
  · obtain ⟨a, dx, x, rfl, ha, nx, fin⟩ := h
    refine ⟨_, pss_cons (ps_if (pt_not (pt_val (pe_cF c_is_name hr (by decide) rfl (pa_cons (pv 1) pa_nil))))
        (pss_one ps_never)
        (pss_nil))
      (pss_cons (ps_expr (pe_cM (pe_glob (v := .ref CE) rfl X.mgE rfl) I.ini c_exi hr (by decide) (pa_cons (pv 0) (pa_cons (pv 1) (pa_cons (pe_tup pa_nil) pa_nil)))))
      (pss_cons (ps_fld (pv 0) (pe_tup (pa_cons (pv 1) pa_nil)) rfl)
      (pss_one (ps_fld (pv 0) (pv 1) rfl)))), ?_⟩
    have l8 := nm_len nx
    refine ⟨_, rfl, .str x, rfl, any_str x, (fun z e => by cases e; omega), fun H1 s1 => ⟨true, by show V.bl (nmS x) = _; rw [nx], iteF ?_⟩⟩
    refine ⟨rfl, _, rfl, _, rfl, (show 0 ≤ sizeLine by decide), fun q nq => ?_⟩
    have sn : Same H (upd H1 q (.tup [])) := s1.trans (same_new nq)
    refine ⟨a, dx, q, .var, x, [], [], rfl, sn _ _ ha, l8, .inl (.inl upd_same), sides0, fun G r kG hr2 aG rG => ?_⟩
    have kH : Kp a H G := (kp_of sn).trans kG
    have cl := (X.own .var).cl
    refine ⟨_, rfl, (show 1 ≤ sizeLine by decide), fun q2 nq2 => ?_⟩
    have q2a : a ≠ q2 := fun e => by rw [← e, aG] at nq2; cases nq2
    refine ⟨_, rfl, a, _, dx, _, rfl, by rw [upd_ne q2a]; exact aG, cl, X.nof _ (by decide +kernel), Nat.lt_of_le_of_lt (pf (pf (pf (pf pf0)))) (by decide), ?_⟩
    refine ⟨_, rfl, _, rfl, a, _, dx, _, rfl, upd_same, cl, X.nof _ (by decide +kernel), Nat.lt_of_le_of_lt (pf (pf (pf (pf (pf pf0))))) (by decide), ?_⟩
    have kE := kp_put (o := .ins (C .var) dx (putF "name" (.str x) (putF "names" (.ref q2) (fsX (Tr.var x).text r (Tr.var x).parts (Tr.var x).depth)))) (kp_put (o := .ins (C .var) dx (putF "names" (.ref q2) (fsX (Tr.var x).text r (Tr.var x).parts (Tr.var x).depth))) (kH.trans (kp_of (same_new (o := .tup [.str x]) nq2))))
    refine fin _ kE ⟨a, _, rfl, ((Fl.base (.var x) r).rename.put (by decide +kernel)).has upd_same ?_, put_get⟩
    rw [upd_ne (fun e => q2a e.symm), upd_ne (fun e => q2a e.symm), upd_same]
    rfl
end
end Jo

set_option Elab.async false
set_option linter.all false
set_option maxRecDepth 100000
set_option maxHeartbeats 1000000
namespace Jo
open PySem PySem.Spec PyProof.Rows L2 ClX
/-- what the kinds take over from their base class -/
structure XH (K : PySem.W.Frag) (C : Kd → Addr) (CE : Addr) : Prop where
  inh : ∀ m ∈ (["__eq__", "__str__", "__repr__"] : List Str), ∀ f, Meth K CE m f → ∀ k, PySem.W.findIn K (.ref (C k)) m = some (some (.ref f))
abbrev IsK (C : Kd → Addr) : Addr → Prop := fun A => ∃ k, A = C k
theorem own_of {P : Program} {w : World} {K : PySem.W.Frag} {mg : Str → Option Value} {base : Heap} {C : Kd → Addr} {CE : Addr} {k : Nat} {m : Str} {ps : List Str} {sp : Sp} (h : XH K C CE) (hm : m ∈ (["__eq__", "__str__", "__repr__"] : List Str)) (c : MtF P w K mg base k CE m ps sp) : Own P w K mg base k m ps (IsK C) sp := by
  obtain ⟨f, fd, F, mt, b, _⟩ := c.ex
  exact ⟨f, fd, F, b, mt.fn, fun A ⟨k, e⟩ => by rw [e]; exact h.inh m hm f mt k⟩
def shownX (t : Tr) : Str := (("Expression(" : Str) ++ t.text) ++ ")"
/-- what __eq__ sees on the right -/
def EqE (K : PySem.W.Frag) (C : Kd → Addr) (CE : Addr) (H : Hp) (t : Tr) (y : V) (b : Bool) : Prop :=
  (∃ t2, Is C H t2 y ∧ b = decide (t.text = t2.text)) ∨ (∃ ty, TyX K H y ty ∧ PySem.W.kitOne K ty (.ref CE) = some false ∧ b = false)
section
variable {P : Program} {w : World} {K : PySem.W.Frag} {mg : Str → Option Value} {base : Heap} {C : Kd → Addr} {CE : Addr}
theorem sc_exeq : FnScope ["self", "other"] ["self", "other"] (defScope m_Expression_eq) := ⟨rfl, rfl, rfl, by decide +kernel, rfl, by decide +kernel, by decide +kernel⟩
def spExEq (K : PySem.W.Frag) (C : Kd → Addr) (CE : Addr) : Sp := fun vs H Q _ => ∃ (t : Tr) (x y : V) (b : Bool), vs = [x, y] ∧ Is C H t x ∧ EqE K C CE H t y b ∧ Q (.bl b) H
theorem ok_exeq (T : Txt mg) (X : XT K mg C CE) (D : Mth K CE "__eq__" "Expression.__eq__" m_Expression_eq ["self", "other"]) : MtF P w K mg base 1 CE "__eq__" ["self", "other"] (spExEq K C CE) := by
  refine D.okF sc_exeq (fun vs H Q E h => ?_) (fun f cdv A fr s H vs Q E hr h => ?_)
  · obtain ⟨t, x, y, b, rfl, _⟩ := h
    rfl
  · obtain ⟨t, x, y, b, rfl, ix, hy, fin⟩ := h
    refine ⟨_, pss_one (ps_ret (pe_and (pe_callB call_isi rfl T.b_isinstance (by decide +kernel) (pa_cons (pv 1) (pa_cons (pe_glob (v := .ref CE) rfl X.mgE rfl) pa_nil))) (pe_one (pe_cmpR op_eq (pe_fld (pv 0) rfl) (pe_fld (pv 1) rfl) (nomark _))))), ?_⟩
    obtain ⟨a, fs, rfl, hh⟩ := ix.has
    obtain ⟨dx, ha⟩ := hh.at_
    rcases hy with ⟨t2, iy, rfl⟩ | ⟨ty, h1, h2, rfl⟩
    · obtain ⟨a2, fs2, rfl, hh2⟩ := iy.has
      obtain ⟨dx2, ha2⟩ := hh2.at_
      refine ⟨_, rfl, _, _, _, _, true, rfl, .own CE, (X.own _).ty ha2, X.kitE _, true, rfl, iteT ?_⟩
      refine ⟨_, rfl, a, _, dx, fs, _, rfl, ha, (X.own _).cl, X.nof _ (by decide +kernel), hh.text, _, rfl, a2, _, dx2, fs2, _, rfl, ha2, (X.own _).cl, X.nof _ (by decide +kernel), hh2.text, rfl, ?_⟩
      have e : decide (V.str t.text = V.str t2.text) = decide (t.text = t2.text) := by
        by_cases c : t.text = t2.text
        · rw [decide_eq_true c, decide_eq_true (congrArg V.str c)]
        · rw [decide_eq_false c, decide_eq_false fun z => c (V.str.inj z)]
      rw [← e] at fin
      exact fin
    · exact ⟨_, rfl, _, _, _, _, false, rfl, .own CE, h1, h2, false, rfl, iteF fin⟩
theorem sc_exstr : FnScope ["self"] ["self"] (defScope m_Expression_str) := ⟨rfl, rfl, rfl, by decide +kernel, rfl, by decide +kernel, by decide +kernel⟩
def spExStr (C : Kd → Addr) : Sp := fun vs H Q _ => ∃ (t : Tr) (x : V), vs = [x] ∧ Is C H t x ∧ Q (.str t.text) H
theorem ok_exstr (T : Txt mg) (X : XT K mg C CE) (D : Mth K CE "__str__" "Expression.__str__" m_Expression_str ["self"]) : MtF P w K mg base 1 CE "__str__" ["self"] (spExStr C) := by
  refine D.okF sc_exstr (fun vs H Q E h => ?_) (fun f cdv A fr s H vs Q E hr h => ?_)
  · obtain ⟨t, x, rfl, _⟩ := h
    rfl
  · obtain ⟨t, x, rfl, ix, fin⟩ := h
    refine ⟨_, pss_one (ps_ret (pe_callTy SkE.call_str_str rfl T.b_str (by decide +kernel) (pa_cons (pe_fld (pv 0) rfl) pa_nil))), ?_⟩
    obtain ⟨a, fs, rfl, hh⟩ := ix.has
    obtain ⟨dx, ha⟩ := hh.at_
    exact ⟨_, rfl, a, _, dx, fs, _, rfl, ha, (X.own _).cl, X.nof _ (by decide +kernel), hh.text, _, rfl, fin⟩
theorem sc_exrepr : FnScope ["self"] ["self"] (defScope m_Expression_repr) := ⟨rfl, rfl, rfl, by decide +kernel, rfl, by decide +kernel, by decide +kernel⟩
def spExRepr (C : Kd → Addr) : Sp := fun vs H Q _ => ∃ (t : Tr) (x : V), vs = [x] ∧ Is C H t x ∧ t.text.length ≤ 2000 ∧ Q (.str (shownX t)) H
theorem ok_exrepr (T : Txt mg) (X : XT K mg C CE) (D : Mth K CE "__repr__" "Expression.__repr__" m_Expression_repr ["self"]) : MtF P w K mg base 1 CE "__repr__" ["self"] (spExRepr C) := by
  refine D.okF sc_exrepr (fun vs H Q E h => ?_) (fun f cdv A fr s H vs Q E hr h => ?_)
  · obtain ⟨t, x, rfl, _⟩ := h
    rfl
  · obtain ⟨t, x, rfl, ix, hl, fin⟩ := h
    refine ⟨_, pss_one (ps_ret (pe_joined (.cons pe_str (.cons (pe_fmt (pe_fld (pv 0) rfl)) (.cons pe_str .nil))))), ?_⟩
    obtain ⟨a, fs, rfl, hh⟩ := ix.has
    obtain ⟨dx, ha⟩ := hh.at_
    have c1 : ("Expression(" : Str).length = 11 := by decide +kernel
    have c2 : (")" : Str).length = 1 := by decide +kernel
    refine ⟨"Expression(", rfl, by rw [empty_cat, c1]; exact small_len (by decide), _, rfl, a, _, dx, fs, _, rfl, ha, (X.own _).cl, X.nof _ (by decide +kernel), hh.text, .inl ⟨t.text, rfl, small_len (by omega), t.text, rfl, ?_, ")", rfl, ?_, ?_⟩⟩
    · rw [empty_cat, len_cat, c1]
      exact small_len (by omega)
    · rw [empty_cat, len_cat, len_cat, c1, c2]
      exact small_len (by omega)
    · rw [empty_cat]
      exact fin
end
end Jo

set_option Elab.async false
set_option linter.all false
set_option maxRecDepth 100000
set_option maxHeartbeats 1000000
namespace Jo
open PySem PySem.Spec PyProof.Rows L2 ClX
theorem word_is {k j : Bk} (h : k.word = j.word) : k = j := by
  revert h
  cases k <;> cases j <;> decide +kernel
/-- every kind can be made -/
structure Makes (P : Program) (w : World) (K : PySem.W.Frag) (mg : Str → Option Value) (base : Heap) (C : Kd → Addr) : Prop where
  cls : ∀ k, ∃ fi, Mk K (C k) fi
  num : MtF P w K mg base 5 (C .num) "__init__" ["self", "number"] (spNum C)
  var : MtF P w K mg base 5 (C .var) "__init__" ["self", "name"] (spVar C)
  un : MtF P w K mg base 5 (C .un) "__init__" ["self", "first"] (spUn C)
  bi : ∀ k, MtF P w K mg base 5 (C (.bi k)) "__init__" ["self", "first", "second"] (spBi C k)
  timesI : MtI P w K mg base 5 (C (.bi .times)) "__init__" ["self", "first", "second"] (spBi C .times)
  ch : MtF P w K mg base 5 (C .ch) "__init__" ["self", "test", "first", "second"] (spCh C)
theorem same_mk {H G : Hp} {x dx : Addr} {o1 o2 : HO} (hx : H x = none) (hd : H dx = none) (k : Kp x (upd (upd H dx o1) x o2) G) : Same H G := fun b o h => by
  have nb : b ≠ x := fun e => by rw [e, hx] at h; cases h
  have nd : b ≠ dx := fun e => by rw [e, hd] at h; cases h
  exact k b o (by rw [upd_ne nb, upd_ne nd]; exact h) nb
theorem same_in {H : Hp} {x dx : Addr} {o1 o2 : HO} (hx : H x = none) (hd : H dx = none) : Same H (upd (upd H dx o1) x o2) := same_mk hx hd (.refl _ _)
section
variable {C : Kd → Addr} {H : Hp} {Q : VK}
theorem mk_num {n : Int} (h0 : 0 ≤ n) (h1 : n ≤ 999) (q : ∀ x G, Same H G → Is C G (.num n) (.ref x) → Q (.ref x) G) (x dx : Addr) (hx : H x = none) (hd : H dx = none) (ne : dx ≠ x) :
    spNum C [.ref x, .int n] (upd (upd H dx (.own x)) x (.ins (C .num) dx [])) (fun v H2 => v = .non ∧ Q (.ref x) H2) E0 := ⟨x, dx, n, rfl, upd_same, h0, h1, fun G k i => ⟨rfl, q x G (same_mk hx hd k) i⟩⟩
theorem mk_var {z : Str} (h : nmS z = true) (q : ∀ x G, Same H G → Is C G (.var z) (.ref x) → Q (.ref x) G) (x dx : Addr) (hx : H x = none) (hd : H dx = none) (ne : dx ≠ x) :
    spVar C [.ref x, .str z] (upd (upd H dx (.own x)) x (.ins (C .var) dx [])) (fun v H2 => v = .non ∧ Q (.ref x) H2) E0 := ⟨x, dx, z, rfl, upd_same, h, fun G k i => ⟨rfl, q x G (same_mk hx hd k) i⟩⟩
theorem mk_un {t : Tr} {v : V} (i : Is C H t v) (l : Lim (.un t)) (q : ∀ x G, Same H G → Is C G (.un t) (.ref x) → Q (.ref x) G) (x dx : Addr) (hx : H x = none) (hd : H dx = none) (ne : dx ≠ x) :
    spUn C [.ref x, v] (upd (upd H dx (.own x)) x (.ins (C .un) dx [])) (fun v H2 => v = .non ∧ Q (.ref x) H2) E0 := ⟨x, dx, t, v, rfl, upd_same, i.same (same_in hx hd), l, fun G k i => ⟨rfl, q x G (same_mk hx hd k) i⟩⟩
theorem mk_bi {k : Bk} {t1 t2 : Tr} {v1 v2 : V} (i1 : Is C H t1 v1) (i2 : Is C H t2 v2) (l : Lim (.bi k t1 t2)) (q : ∀ x G, Same H G → Is C G (.bi k t1 t2) (.ref x) → Q (.ref x) G) (x dx : Addr) (hx : H x = none) (hd : H dx = none) (ne : dx ≠ x) :
    spBi C k [.ref x, v1, v2] (upd (upd H dx (.own x)) x (.ins (C (.bi k)) dx [])) (fun v H2 => v = .non ∧ Q (.ref x) H2) E0 :=
  ⟨x, dx, t1, t2, v1, v2, rfl, upd_same, i1.same (same_in hx hd), i2.same (same_in hx hd), l, fun G k i => ⟨rfl, q x G (same_mk hx hd k) i⟩⟩
theorem mk_ch {t1 t2 t3 : Tr} {v1 v2 v3 : V} (i1 : Is C H t1 v1) (i2 : Is C H t2 v2) (i3 : Is C H t3 v3) (l : Lim (.ch t1 t2 t3)) (q : ∀ x G, Same H G → Is C G (.ch t1 t2 t3) (.ref x) → Q (.ref x) G) (x dx : Addr) (hx : H x = none) (hd : H dx = none) (ne : dx ≠ x) :
    spCh C [.ref x, v1, v2, v3] (upd (upd H dx (.own x)) x (.ins (C .ch) dx [])) (fun v H2 => v = .non ∧ Q (.ref x) H2) E0 :=
  ⟨x, dx, t1, t2, t3, v1, v2, v3, rfl, upd_same, i1.same (same_in hx hd), i2.same (same_in hx hd), i3.same (same_in hx hd), l, fun G k i => ⟨rfl, q x G (same_mk hx hd k) i⟩⟩
end
section
variable {P : Program} {w : World} {K : PySem.W.Frag} {mg : Str → Option Value} {base : Heap} {C : Kd → Addr} {CE : Addr}
theorem sc_joined : FnScope ["_law_word", "_law_one", "_law_two"] ["_law_word", "_law_one", "_law_two"] (defScope s_joined) := ⟨rfl, rfl, rfl, by decide +kernel, rfl, by decide +kernel, by decide +kernel⟩
def spJoined (C : Kd → Addr) : Sp := fun vs H Q _ => ∃ (k : Bk) (t1 t2 : Tr) (v1 v2 : V), vs = [.str k.word, v1, v2] ∧ Is C H t1 v1 ∧ Is C H t2 v2 ∧ Lim (.bi k t1 t2) ∧ ∀ x G, Same H G → Is C G (.bi k t1 t2) (.ref x) → Q (.ref x) G
theorem ok_joined (X : XT K mg C CE) (M : Makes P w K mg base C) (D : Dfn K mg "_law_joined" s_joined ["_law_word", "_law_one", "_law_two"]) : CalG P w K mg base 7 "_law_joined" ["_law_word", "_law_one", "_law_two"] (spJoined C) := by
  refine D.ok sc_joined (fun vs H Q E h => ?_) (fun f cdv A fr s H vs Q E hr hgd h => ?_)
  · obtain ⟨k, t1, t2, v1, v2, rfl, _⟩ := h
    rfl
  · obtain ⟨k, t1, t2, v1, v2, rfl, i1, i2, lim, fin⟩ := h
    have m := fun k => M.cls (.bi k)
    obtain ⟨f1, m1⟩ := m .plus
    obtain ⟨f2, m2⟩ := m .minus
    obtain ⟨f3, m3⟩ := m .times
    obtain ⟨f4, m4⟩ := m .equal
    obtain ⟨f5, m5⟩ := m .below
    obtain ⟨f6, m6⟩ := m .both
    obtain ⟨f7, m7⟩ := m .either
    refine ⟨_, pss_cons (ps_if (pt_cmpR op_eq (pv 0) pe_str (nomark _))
        (pss_one (ps_ret (pe_mkF m1 (M.bi .plus) hr (by decide) rfl (X.mgC (.bi .plus)) (pa_cons (pv 1) (pa_cons (pv 2) pa_nil)))))
        (pss_nil))
      (pss_cons (ps_if (pt_cmpR op_eq (pv 0) pe_str (nomark _))
        (pss_one (ps_ret (pe_mkF m2 (M.bi .minus) hr (by decide) rfl (X.mgC (.bi .minus)) (pa_cons (pv 1) (pa_cons (pv 2) pa_nil)))))
        (pss_nil))
      (pss_cons (ps_if (pt_cmpR op_eq (pv 0) pe_str (nomark _))
        (pss_one (ps_ret (pe_mkF m3 (M.bi .times) hr (by decide) rfl (X.mgC (.bi .times)) (pa_cons (pv 1) (pa_cons (pv 2) pa_nil)))))
        (pss_nil))
      (pss_cons (ps_if (pt_cmpR op_eq (pv 0) pe_str (nomark _))
        (pss_one (ps_ret (pe_mkF m4 (M.bi .equal) hr (by decide) rfl (X.mgC (.bi .equal)) (pa_cons (pv 1) (pa_cons (pv 2) pa_nil)))))
        (pss_nil))
      (pss_cons (ps_if (pt_cmpR op_eq (pv 0) pe_str (nomark _))
        (pss_one (ps_ret (pe_mkF m5 (M.bi .below) hr (by decide) rfl (X.mgC (.bi .below)) (pa_cons (pv 1) (pa_cons (pv 2) pa_nil)))))
        (pss_nil))
      (pss_one (ps_ret (pe_ifExp (pt_cmpR op_eq (pv 0) pe_str (nomark _)) (pe_mkF m6 (M.bi .both) hr (by decide) rfl (X.mgC (.bi .both)) (pa_cons (pv 1) (pa_cons (pv 2) pa_nil))) (pe_mkF m7 (M.bi .either) hr (by decide) rfl (X.mgC (.bi .either)) (pa_cons (pv 1) (pa_cons (pv 2) pa_nil)))))))))), ?_⟩
    have yes : ∀ {j : Bk}, decide (V.str k.word = V.str j.word) = true → k = j := fun e => word_is (V.str.inj (of_decide_eq_true e))
    have no : ∀ {j : Bk}, ¬ decide (V.str k.word = V.str j.word) = true → k ≠ j := fun e q => e (by rw [q]; exact decide_eq_true rfl)
    refine ⟨_, rfl, rfl, _, rfl, ite2 (fun e => ?_) (fun e1 => ?_)⟩
    · obtain rfl := yes (j := .plus) e
      exact ⟨_, rfl, _, rfl, mk_bi i1 i2 lim fin⟩
    refine ⟨_, rfl, rfl, _, rfl, ite2 (fun e => ?_) (fun e2 => ?_)⟩
    · obtain rfl := yes (j := .minus) e
      exact ⟨_, rfl, _, rfl, mk_bi i1 i2 lim fin⟩
    refine ⟨_, rfl, rfl, _, rfl, ite2 (fun e => ?_) (fun e3 => ?_)⟩
    · obtain rfl := yes (j := .times) e
      exact ⟨_, rfl, _, rfl, mk_bi i1 i2 lim fin⟩
    refine ⟨_, rfl, rfl, _, rfl, ite2 (fun e => ?_) (fun e4 => ?_)⟩
    · obtain rfl := yes (j := .equal) e
      exact ⟨_, rfl, _, rfl, mk_bi i1 i2 lim fin⟩
    refine ⟨_, rfl, rfl, _, rfl, ite2 (fun e => ?_) (fun e5 => ?_)⟩
    · obtain rfl := yes (j := .below) e
      exact ⟨_, rfl, _, rfl, mk_bi i1 i2 lim fin⟩
    refine ⟨_, rfl, rfl, _, rfl, ite2 (fun e => ?_) (fun e6 => ?_)⟩
    · obtain rfl := yes (j := .both) e
      exact ⟨_, rfl, _, rfl, mk_bi i1 i2 lim fin⟩
    have n1 := no (j := .plus) e1
    have n2 := no (j := .minus) e2
    have n3 := no (j := .times) e3
    have n4 := no (j := .equal) e4
    have n5 := no (j := .below) e5
    have n6 := no (j := .both) e6
    have n7 : k = .either := by cases k <;> first | rfl | contradiction
    obtain rfl := n7
    exact ⟨_, rfl, _, rfl, mk_bi i1 i2 lim fin⟩
end
end Jo

set_option Elab.async false
set_option linter.all false
set_option maxRecDepth 100000
set_option maxHeartbeats 1000000
namespace Jo
open PySem PySem.Spec PyProof.Rows L2 ClX
theorem Is.only {C : Kd → Addr} {H H' : Hp} (s1 : ∀ a Cc dx fs, H a = some (.ins Cc dx fs) → H' a = some (.ins Cc dx fs)) (s2 : ∀ a xs, H a = some (.tup xs) → H' a = some (.tup xs)) : ∀ {t : Tr} {v : V}, Is C H t v → Is C H' t v := by
  have hs : ∀ {t : Tr} {a : Addr} {fs : List (Str × V)}, Has C H t a fs → Has C H' t a fs := fun {t a fs} h =>
    ⟨let ⟨dx, e⟩ := h.at_; ⟨dx, s1 _ _ _ _ e⟩, h.text, let ⟨q, e, e2⟩ := h.names; ⟨q, e, s2 _ _ e2⟩, h.parts, h.depth, h.no⟩
  intro t
  induction t with
  | num n => exact fun {v} ⟨a, fs, e, h, r⟩ => ⟨a, fs, e, hs h, r⟩
  | var x => exact fun {v} ⟨a, fs, e, h, r⟩ => ⟨a, fs, e, hs h, r⟩
  | un t ih => exact fun {v} ⟨a, fs, u, e, h, r, i⟩ => ⟨a, fs, u, e, hs h, r, ih i⟩
  | bi k t1 t2 ih1 ih2 => exact fun {v} ⟨a, fs, u1, u2, e, h, r1, r2, i1, i2⟩ => ⟨a, fs, u1, u2, e, hs h, r1, r2, ih1 i1, ih2 i2⟩
  | ch t1 t2 t3 ih1 ih2 ih3 => exact fun {v} ⟨a, fs, u1, u2, u3, e, h, r1, r2, r3, i1, i2, i3⟩ => ⟨a, fs, u1, u2, u3, e, hs h, r1, r2, r3, ih1 i1, ih2 i2, ih3 i3⟩
theorem is_put {C : Kd → Addr} {H : Hp} {D : Addr} {xs : List V} {o : HO} (hD : H D = some (.lst xs)) {t : Tr} {v : V} (h : Is C H t v) : Is C (upd H D o) t v :=
  h.only (fun a Cc dx fs e => by rw [upd_ne (fun q => by rw [q, hD] at e; cases e)]; exact e) (fun a ys e => by rw [upd_ne (fun q => by rw [q, hD] at e; cases e)]; exact e)
theorem Lim.kid {t u : Tr} (l : Lim t) (h : u ∈ t.kids) : Lim u := ⟨l.ok.kid u h, by have := Tr.kid_parts u h; have := l.parts; omega, by have := Tr.kid_depth u h; have := l.depth; omega⟩
/-- a comprehension over a tuple whose turns make instances -/
theorem lc_is {C : Kd → Addr} {K : PySem.W.Frag} {q : Addr} {us : List V} {g : TG} {te : TE} {vs : List Nat} {σ : L2.St} {H1 : Hp} {D : Addr} {Qd : Hp → Prop} (nD : H1 D = none) (ts : List Tr) (hl : ts.length = us.length) (hz : us.length ≤ 1000) (hq : SqT K H1 q us)
    (hs : ∀ (i : Nat) (x : V) (t : Tr) (G : Hp) (R : VK), us[i]? = some x → ts[i]? = some t → Same H1 G → (∀ y G2, Same G G2 → Is C G2 t (.ref y) → R (.ref y) G2) → g x (wipe σ vs) G fun σ2 H2 => wipe σ2 vs = wipe σ vs ∧ te σ2 H2 R)
    (hd : ∀ G xs, Same H1 G → G D = some (.lst xs) → Paired (Is C G) ts xs → Qd G) :
    ∃ W : Nat → Nat → Hp → Prop, (∃ m, W 0 m (upd H1 D (.lst []))) ∧ ∀ i m H, W i m H →
      ((Itt K q).stop i H ∧ Qd H) ∨ ((Itt K q).go i H ∧ ∃ Nx : Hp → Prop, (∀ H', Nx H' → ∃ m', m' < m ∧ W (i + 1) m' H') ∧ ∀ x H', (Itt K q).yld i H x H' → g x (wipe σ vs) H' fun σ2 H2 => wipe σ2 vs = wipe σ vs ∧ tYes σ2 H2 fun b H3 =>
        if b = true then te σ2 H3 fun y H4 => ∃ acc, H4 D = some (.lst acc) ∧ acc.length < sizeLine ∧ Nx (upd H4 D (.lst (acc ++ [y]))) else Nx H3) := by
  refine lc_tup (K := K) (a := q) (xs := us) (fun i G => Same H1 G ∧ ∃ xs, G D = some (.lst xs) ∧ Paired (Is C G) (ts.take i) xs) ⟨same_new nD, [], upd_same, by rw [List.take_zero]; exact .nil⟩ (fun i G hi h => seqT_same hq h.1) (fun i x G hx h => ?_) (fun G h => ?_)
  · obtain ⟨sG, xs, hD, pr⟩ := h
    have hi : i < ts.length := by rw [hl]; exact (List.getElem?_eq_some_iff.mp hx).1
    have ht : ts[i]? = some ts[i] := List.getElem?_eq_getElem hi
    refine hs i x ts[i] G _ hx ht sG fun y G2 s2 iy => ?_
    have hD2 := s2 _ _ hD
    have pl := pair_len pr
    rw [List.length_take] at pl
    refine ⟨xs, hD2, small1000 (by omega), fun b o hb => ?_, xs ++ [.ref y], upd_same, ?_⟩
    · have nb : b ≠ D := fun e => by rw [e, nD] at hb; cases hb
      rw [upd_ne nb]
      exact s2 _ _ (sG _ _ hb)
    · rw [List.take_succ, ht]
      exact pair_end (pair_mem pr fun a b h => is_put hD2 (h.same s2)) (is_put hD2 iy)
  · obtain ⟨sG, xs, hD, pr⟩ := h
    rw [← hl, List.take_length] at pr
    exact hd G xs sG hD pr
section
variable {P : Program} {w : World} {K : PySem.W.Frag} {mg : Str → Option Value} {base : Heap} {C : Kd → Addr} {CE : Addr}
def n_made : List Str := ["_law_tree_here", "_law_sides", "_law_side"]
theorem sc_made : FnScope n_made ["_law_tree_here"] (defScope s_made) := ⟨rfl, rfl, rfl, by decide +kernel, rfl, by decide +kernel, by decide +kernel⟩
def spMade (C : Kd → Addr) (n : Nat) : Sp := fun vs H Q _ => ∃ (t : Tr) (v : V), vs = [v] ∧ Tp H t v ∧ Lim t ∧ t.depth ≤ n ∧ ∀ x G, Same H G → Is C G t (.ref x) → Q (.ref x) G
theorem ok_made (T : Txt mg) (X : XT K mg C CE) (M : Makes P w K mg base C) (D : Dfn K mg "_law_made" s_made ["_law_tree_here"]) (c_joined : CalG P w K mg base 7 "_law_joined" ["_law_word", "_law_one", "_law_two"] (spJoined C)) :
    ∀ n, CalG P w K mg base (n + 8) "_law_made" ["_law_tree_here"] (spMade C n) := by
  intro n
  induction n with
  | zero =>
    refine D.ok sc_made (fun vs H Q E h => ?_) (fun f cdv A fr s H vs Q E hr hgd h => ?_)
    · obtain ⟨t, v, rfl, _⟩ := h
      rfl
    · obtain ⟨t, v, _, _, _, h0, _⟩ := h
      have := Tr.one_depth t
      omega
  | succ n c_made =>
    refine D.ok sc_made (fun vs H Q E h => ?_) (fun f cdv A fr s H vs Q E hr hgd h => ?_)
    · obtain ⟨t, v, rfl, _⟩ := h
      rfl
    · obtain ⟨t, v, rfl, tp, lim, hdp, fin⟩ := h
      obtain ⟨fn, mN⟩ := M.cls .num
      obtain ⟨fv, mV⟩ := M.cls .var
      obtain ⟨fu, mU⟩ := M.cls .un
      obtain ⟨fc, mC⟩ := M.cls .ch
      refine ⟨_, pss_cons (ps_if (pt_cmpR op_eq (pe_ix ix_tup (pv 0) pe_int (fun _ _ => rfl)) pe_str (nomark _))
          (pss_one (ps_ret (pe_mkF mN M.num hr (by omega) rfl (X.mgC .num) (pa_cons (pe_ix ix_tup (pv 0) pe_int (fun _ _ => rfl)) pa_nil))))
          (pss_nil))
        (pss_cons (ps_if (pt_cmpR op_eq (pe_ix ix_tup (pv 0) pe_int (fun _ _ => rfl)) pe_str (nomark _))
          (pss_one (ps_ret (pe_mkF mV M.var hr (by omega) rfl (X.mgC .var) (pa_cons (pe_ix ix_tup (pv 0) pe_int (fun _ _ => rfl)) pa_nil))))
          (pss_nil))
        (pss_cons (ps_setLc (i := 1) (own := [("_law_side", 2)]) (g := gName 2) (tt := tYes) rfl sc_made.nd rfl rfl (sw_true rfl rfl rfl (by decide +kernel)) (pi_tup (pe_slice sl_tup (pv 0) (po_some pe_int) po_none)) (blkOk_by (N := n_made) (sc := defScope s_made) (by decide +kernel)) (fun _ _ _ _ _ => pg_name (i := 2) sc_made.nd rfl (Or.inl rfl)) (fun _ _ _ _ _ => pts_nil) (fun _ _ _ _ _ => (pe_cG c_made hr (Nat.le_refl _) hgd rfl (pa_cons (pv 2) pa_nil))))
        (pss_cons (ps_if (pt_cmpR op_eq (pe_ix ix_tup (pv 0) pe_int (fun _ _ => rfl)) pe_str (nomark _))
          (pss_one (ps_ret (pe_mkF mU M.un hr (by omega) rfl (X.mgC .un) (pa_cons (pe_ix ix_list (pv 1) pe_int (fun _ _ => rfl)) pa_nil))))
          (pss_nil))
        (pss_cons (ps_if (pt_cmpR op_eq (pe_ix ix_tup (pv 0) pe_int (fun _ _ => rfl)) pe_str (nomark _))
          (pss_one (ps_ret (pe_mkF mC M.ch hr (by omega) rfl (X.mgC .ch) (pa_cons (pe_ix ix_list (pv 1) pe_int (fun _ _ => rfl)) (pa_cons (pe_ix ix_list (pv 1) pe_int (fun _ _ => rfl)) (pa_cons (pe_ix ix_list (pv 1) pe_int (fun _ _ => rfl)) pa_nil))))))
          (pss_nil))
        (pss_one (ps_ret (pe_cG c_joined hr (by omega) hgd rfl (pa_cons (pe_ix ix_tup (pv 0) pe_int (fun _ _ => rfl)) (pa_cons (pe_ix ix_list (pv 1) pe_int (fun _ _ => rfl)) (pa_cons (pe_ix ix_list (pv 1) pe_int (fun _ _ => rfl)) pa_nil)))))))))), ?_⟩
      by_cases hc : t.comp = true
      · obtain ⟨p, us, rfl, hp, pr⟩ := tp.comp hc
        obtain ⟨n1, n2⟩ := comp_head hc
        have sT : SqT K H p (.str t.head :: us) := .inl (.inl hp)
        have f1 : decide (V.str t.head = V.str "number") = false := decide_eq_false fun e => n1 (V.str.inj e)
        have f2 : decide (V.str t.head = V.str "variable") = false := decide_eq_false fun e => n2 (V.str.inj e)
        refine ⟨_, rfl, p, _, 0, _, rfl, rfl, sT, atI_nat (j := 0) rfl, rfl, _, rfl, ?_⟩
        rw [f1]
        refine iteF ⟨_, rfl, p, _, 0, _, rfl, rfl, sT, atI_nat (j := 0) rfl, rfl, _, rfl, ?_⟩
        rw [f2]
        refine iteF ⟨_, rfl, _, rfl, p, _, rfl, sT, not_whole _ _, fun q1 nq => ?_⟩
        rw [cut1]
        have s1 : Same H (upd H q1 (.tup us)) := same_new nq
        refine ⟨q1, rfl, ⟨_, .inl (.inl upd_same)⟩, fun D1 n1 => ?_⟩
        refine lc_is (C := C) n1 t.kids (pair_len pr) (by have := kids3 t; have := pair_len pr; omega) (.inl (.inl upd_same)) (fun i x u G R hx hu sG hR => ?_) (fun G xs sG hD ps => ?_)
        · obtain ⟨u', hu', tu⟩ := pair_at pr hx
          rw [hu] at hu'
          cases hu'
          have hm := List.mem_of_getElem? hu
          exact ⟨rfl, _, rfl, u, x, rfl, tu.same (s1.trans sG), lim.kid hm, by have := Tr.kid_depth u hm; omega, fun y G2 s2 iy => hR y G2 s2 iy⟩
        · have sH := s1.trans sG
          have sT2 : SqT K G p (.str t.head :: us) := .inl (.inl (sH _ _ hp))
          have fin2 : ∀ x G2, Same G G2 → Is C G2 t (.ref x) → Q (.ref x) G2 := fun x G2 s2 i => fin x G2 (sH.trans s2) i
          cases t with
          | num n => cases hc
          | var x => cases hc
          | un a =>
            match xs, ps with
            | [x1], .cons i1 .nil =>
              refine ⟨_, rfl, p, _, 0, _, rfl, rfl, sT2, atI_nat (j := 0) rfl, rfl, _, rfl, iteT ?_⟩
              exact ⟨_, rfl, D1, _, 0, _, rfl, rfl, SqL.of hD, atI_nat (j := 0) rfl, mk_un i1 lim fin2⟩
          | ch a b c =>
            match xs, ps with
            | [x1, x2, x3], .cons i1 (.cons i2 (.cons i3 .nil)) =>
              have f3 : decide (V.str (Tr.ch a b c).head = V.str "not") = false := decide_eq_false fun e => by
                have e2 : ("choose" : Str) = "not" := V.str.inj e
                revert e2
                decide +kernel
              refine ⟨_, rfl, p, _, 0, _, rfl, rfl, sT2, atI_nat (j := 0) rfl, rfl, _, rfl, ?_⟩
              rw [f3]
              refine iteF ⟨_, rfl, p, _, 0, _, rfl, rfl, sT2, atI_nat (j := 0) rfl, rfl, _, rfl, iteT ?_⟩
              exact ⟨_, rfl, D1, _, 0, _, rfl, rfl, SqL.of hD, atI_nat (j := 0) rfl, _, rfl, D1, _, 1, _, rfl, rfl, SqL.of hD, atI_nat (j := 1) rfl, _, rfl, D1, _, 2, _, rfl, rfl, SqL.of hD, atI_nat (j := 2) rfl, mk_ch i1 i2 i3 lim fin2⟩
          | bi k a b =>
            match xs, ps with
            | [x1, x2], .cons i1 (.cons i2 .nil) =>
              have ne : ∀ k : Bk, k.word ≠ ("not" : Str) ∧ k.word ≠ ("choose" : Str) := fun k => by cases k <;> exact ⟨by decide +kernel, by decide +kernel⟩
              have f3 : decide (V.str (Tr.bi k a b).head = V.str "not") = false := decide_eq_false fun e => (ne k).1 (V.str.inj e)
              have f4 : decide (V.str (Tr.bi k a b).head = V.str "choose") = false := decide_eq_false fun e => (ne k).2 (V.str.inj e)
              refine ⟨_, rfl, p, _, 0, _, rfl, rfl, sT2, atI_nat (j := 0) rfl, rfl, _, rfl, ?_⟩
              rw [f3]
              refine iteF ⟨_, rfl, p, _, 0, _, rfl, rfl, sT2, atI_nat (j := 0) rfl, rfl, _, rfl, ?_⟩
              rw [f4]
              refine iteF ⟨_, rfl, p, _, 0, _, rfl, rfl, sT2, atI_nat (j := 0) rfl, _, rfl, D1, _, 0, _, rfl, rfl, SqL.of hD, atI_nat (j := 0) rfl, _, rfl, D1, _, 1, _, rfl, rfl, SqL.of hD, atI_nat (j := 1) rfl, ?_⟩
              exact ⟨k, a, b, x1, x2, rfl, i1, i2, lim, fin2⟩
      · cases t with
        | un a => exact absurd rfl hc
        | bi k a b => exact absurd rfl hc
        | ch a b c => exact absurd rfl hc
        | num m =>
          obtain ⟨p, rfl, hp⟩ := tp
          have sT : SqT K H p [.str "number", .int m] := .inl (.inl hp)
          have b := lim.ok
          refine ⟨_, rfl, p, _, 0, _, rfl, rfl, sT, atI_nat (j := 0) rfl, rfl, _, rfl, iteT ?_⟩
          exact ⟨_, rfl, p, _, 1, _, rfl, rfl, sT, atI_nat (j := 1) rfl, mk_num b.1 b.2 fin⟩
        | var x =>
          obtain ⟨p, rfl, hp⟩ := tp
          have sT : SqT K H p [.str "variable", .str x] := .inl (.inl hp)
          have f1 : decide (V.str "variable" = V.str "number") = false := decide_eq_false fun e => by
            have e2 := V.str.inj e
            revert e2
            decide +kernel
          refine ⟨_, rfl, p, _, 0, _, rfl, rfl, sT, atI_nat (j := 0) rfl, rfl, _, rfl, ?_⟩
          rw [f1]
          refine iteF ⟨_, rfl, p, _, 0, _, rfl, rfl, sT, atI_nat (j := 0) rfl, rfl, _, rfl, iteT ?_⟩
          exact ⟨_, rfl, p, _, 1, _, rfl, rfl, sT, atI_nat (j := 1) rfl, mk_var lim.ok fin⟩
end
end Jo

set_option Elab.async false
set_option linter.all false
set_option maxRecDepth 100000
set_option maxHeartbeats 1000000
namespace Jo
open PySem PySem.Spec PyProof.Rows L2 ClX
/-! ### a comprehension of two clauses over tuples -/
theorem lc2_tt {K : PySem.W.Frag} {q : Addr} {xs : List V} {vs vs1 : List Nat} {a b : Nat} {ti te : TE} {σ : L2.St} {H1 : Hp} {D : Addr} {Qd : Hp → Prop} (rows : List (List V)) (hq : SqT K H1 q xs) (nD : H1 D = none) (hl : rows.length = xs.length) (few : rows.flatten.length ≤ 1000000)
    (hw2 : ∀ x, wipe ((wipe σ vs).set a (some x)) vs = wipe σ vs) (hw3 : ∀ x y, wipe ((wipe ((wipe σ vs).set a (some x)) vs1).set b (some y)) vs1 = wipe ((wipe σ vs).set a (some x)) vs1)
    (turn : ∀ (i : Nat) (x : V) (row : List V), xs[i]? = some x → rows[i]? = some row → ∃ (q1 : Addr) (ys : List V), SqT K H1 q1 ys ∧ ys.length = row.length ∧ (∀ (G : Hp) (P : VK), Same H1 G → P (.ref q1) G → ti ((wipe σ vs).set a (some x)) G P) ∧
      ∀ (j : Nat) (y r : V), ys[j]? = some y → row[j]? = some r → ∀ (G : Hp) (P : VK), Same H1 G → P r G → te ((wipe ((wipe σ vs).set a (some x)) vs1).set b (some y)) G P)
    (hd : ∀ G, Same H1 G → G D = some (.lst rows.flatten) → Qd G) :
    ∃ W : Nat → Nat → Hp → Prop, (∃ m, W 0 m (upd H1 D (.lst []))) ∧ ∀ i m H, W i m H →
      ((Itt K q).stop i H ∧ Qd H) ∨ ((Itt K q).go i H ∧ ∃ Nx : Hp → Prop, (∀ H', Nx H' → ∃ m', m' < m ∧ W (i + 1) m' H') ∧ ∀ x H', (Itt K q).yld i H x H' → gName a x (wipe σ vs) H' fun σ2 H2 => wipe σ2 vs = wipe σ vs ∧ tYes σ2 H2 fun c H3 =>
        if c = true then iTup K ti σ2 H3 fun J1 H4 => ∃ W1 : Nat → Nat → Hp → Prop, (∃ m, W1 0 m H4) ∧ ∀ j k H, W1 j k H → (J1.stop j H ∧ Nx H) ∨ (J1.go j H ∧ ∃ Nx1 : Hp → Prop, (∀ H', Nx1 H' → ∃ k', k' < k ∧ W1 (j + 1) k' H') ∧
          ∀ x H', J1.yld j H x H' → gName b x (wipe σ2 vs1) H' fun σ3 H4 => wipe σ3 vs1 = wipe σ2 vs1 ∧ tYes σ3 H4 fun c H5 => if c = true then te σ3 H5 fun y H6 => ∃ acc, H6 D = some (.lst acc) ∧ acc.length < sizeLine ∧ Nx1 (upd H6 D (.lst (acc ++ [y]))) else Nx1 H5)
        else Nx H3) := by
  have sD : ∀ {G : Hp} {o : HO}, Same H1 G → Same H1 (upd G D o) := fun {G o} s b u hb => by
    rw [upd_ne (fun e => by rw [e, nD] at hb; cases hb)]
    exact s b u hb
  have sub : ∀ (i : Nat) (row : List V) (j : Nat), rows[i]? = some row → ((rows.take i).flatten ++ row.take j).length ≤ 1000000 := fun i row j h => by
    have hi : i < rows.length := (List.getElem?_eq_some_iff.mp h).1
    have er : row = rows[i] := (List.getElem?_eq_some_iff.mp h).2.symm
    have e1 : rows.flatten = (rows.take i).flatten ++ (row ++ (rows.drop (i + 1)).flatten) := by
      conv => lhs; rw [← List.take_append_drop i rows, List.flatten_append, List.drop_eq_getElem_cons hi, List.flatten_cons, ← er]
    rw [e1, List.length_append, List.length_append] at few
    rw [List.length_append, List.length_take]
    have := Nat.min_le_right j row.length
    omega
  refine ⟨fun i m G => i ≤ xs.length ∧ m = xs.length - i ∧ Same H1 G ∧ G D = some (.lst (rows.take i).flatten), ⟨_, Nat.zero_le _, rfl, same_new nD, upd_same⟩, fun i m G hW => ?_⟩
  obtain ⟨hi, rfl, sG, hD⟩ := hW
  by_cases he : i = xs.length
  · subst he
    refine .inl ⟨⟨xs, seqT_same hq sG, Nat.le_refl _⟩, hd G sG ?_⟩
    rw [hD, ← hl, List.take_length]
  · have hi2 : i < xs.length := by omega
    have hx : xs[i]? = some xs[i] := List.getElem?_eq_getElem hi2
    have hr : rows[i]? = some (rows[i]'(by omega)) := List.getElem?_eq_getElem (by omega)
    generalize rows[i]'(by omega) = row at hr
    refine .inr ⟨⟨xs, _, seqT_same hq sG, hx⟩, fun G2 => Same H1 G2 ∧ G2 D = some (.lst (rows.take (i + 1)).flatten), fun G2 h => ⟨_, by omega, by omega, rfl, h.1, h.2⟩, fun x G2 hy => ?_⟩
    obtain ⟨rfl, hy2⟩ := hy
    have ex := hy2 xs (seqT_same hq sG)
    obtain ⟨q1, ys, hq1, hyl, hti, hte⟩ := turn i x row ex hr
    refine ⟨hw2 x, ?_⟩
    unfold tYes
    try dsimp only
    rw [if_pos rfl]
    refine hti G2 _ sG ⟨q1, rfl, ⟨_, seqT_same hq1 sG⟩, fun j k G3 => j ≤ ys.length ∧ k = ys.length - j ∧ Same H1 G3 ∧ G3 D = some (.lst ((rows.take i).flatten ++ row.take j)), ⟨_, Nat.zero_le _, rfl, sG, by rw [List.take_zero, List.append_nil]; exact hD⟩, fun j k G3 hW1 => ?_⟩
    obtain ⟨hj, rfl, s3, hD3⟩ := hW1
    by_cases hje : j = ys.length
    · subst hje
      refine .inl ⟨⟨ys, seqT_same hq1 s3, Nat.le_refl _⟩, s3, ?_⟩
      rw [hD3, hyl, List.take_length, List.take_succ, hr, List.flatten_append]
      simp
    · have hj2 : j < ys.length := by omega
      have hyj : ys[j]? = some ys[j] := List.getElem?_eq_getElem hj2
      have hrj : row[j]? = some (row[j]'(by omega)) := List.getElem?_eq_getElem (by omega)
      refine .inr ⟨⟨ys, _, seqT_same hq1 s3, hyj⟩, fun G4 => Same H1 G4 ∧ G4 D = some (.lst ((rows.take i).flatten ++ row.take (j + 1))), fun G4 h => ⟨_, by omega, by omega, rfl, h.1, h.2⟩, fun y G4 hy4 => ?_⟩
      obtain ⟨rfl, hy5⟩ := hy4
      have ey := hy5 ys (seqT_same hq1 s3)
      refine ⟨hw3 x y, ?_⟩
      rw [if_pos rfl]
      refine hte j y _ ey hrj G4 _ s3 ⟨_, hD3, ?_, sD s3, ?_⟩
      · exact Nat.lt_of_le_of_lt (sub i row j hr) (by decide)
      · rw [upd_same, List.take_succ, hrj, List.append_assoc]
        rfl
/-! ### statements, by what is shown of them -/
inductive Hd | assign (x : Str) (e : Tr) | ifs (e : Tr) | whl (e : Tr) | call (x : Str) (e : Tr) (into : Option Str) | ret (e : Tr) | fail | att
inductive Sk | assign | ifs | whl | call | ret | fail | att
  deriving DecidableEq
def Hd.kind : Hd → Sk
  | .assign _ _ => .assign
  | .ifs _ => .ifs
  | .whl _ => .whl
  | .call _ _ _ => .call
  | .ret _ => .ret
  | .fail => .fail
  | .att => .att
def Sk.word : Sk → Str
  | .assign => "assign"
  | .ifs => "if"
  | .whl => "while"
  | .call => "call"
  | .ret => "return"
  | .fail => "fail"
  | .att => "attempt"
def Sk.cname : Sk → Str
  | .assign => "Assign"
  | .ifs => "If"
  | .whl => "While"
  | .call => "Call"
  | .ret => "Return"
  | .fail => "Fail"
  | .att => "Attempt"
def Hd.line : Hd → Str
  | .assign x e => ((("assign " : Str) ++ x) ++ " ") ++ e.text
  | .ifs e => ("if " : Str) ++ e.text
  | .whl e => ("while " : Str) ++ e.text
  | .call x e none => ((("call " : Str) ++ x) ++ " ") ++ e.text
  | .call x e (some y) => ((((("call " : Str) ++ x) ++ " ") ++ e.text) ++ " into ") ++ y
  | .ret e => ("return " : Str) ++ e.text
  | .fail => "fail"
  | .att => "attempt"
/-- what is shown of a statement -/
structure SR where
  kind : Sk
  line : Str
  lines : List Str
  amount : Nat
  height : Nat
def pad (l : Str) : Str := ("  " : Str) ++ l
def indS (b : List SR) : List Str := b.flatMap fun s => s.lines.map pad
def insd : Nat → List (List SR) → List Str
  | _, [] => []
  | n, b :: r => (if 0 < n ∧ b ≠ [] then [("else" : Str)] else []) ++ (indS b ++ insd (n + 1) r)
def amtS (bs : List (List SR)) : Nat := (bs.flatten.map SR.amount).sum
def hgtS (bs : List (List SR)) : Nat := Tr.top1 (bs.flatten.map SR.height)
def mkS (h : Hd) (bs : List (List SR)) : SR := ⟨h.kind, h.line, h.line :: insd 0 bs, 1 + amtS bs, 1 + hgtS bs⟩
/-- v is the program's statement; CK: where the classes of the kinds stand -/
def SIs (CK : Sk → Addr) (H : Hp) (s : SR) (v : V) : Prop := ∃ (a dx q : Addr) (fs : List (Str × V)), v = .ref a ∧ H a = some (.ins (CK s.kind) dx fs) ∧ fs.lookup ("amount" : Str) = some (.int (s.amount : Int)) ∧ fs.lookup ("height" : Str) = some (.int (s.height : Int)) ∧
  fs.lookup ("lines" : Str) = some (.ref q) ∧ H q = some (.tup (s.lines.map V.str))
theorem SIs.same {CK : Sk → Addr} {H G : Hp} {s : SR} {v : V} (h : SIs CK H s v) (sm : Same H G) : SIs CK G s v := by
  obtain ⟨a, dx, q, fs, e, h1, h2, h3, h4, h5⟩ := h
  exact ⟨a, dx, q, fs, e, sm _ _ h1, h2, h3, h4, sm _ _ h5⟩
/-- a body: a tuple of statements -/
def BIs (K : PySem.W.Frag) (CK : Sk → Addr) (H : Hp) (b : List SR) (v : V) : Prop := ∃ (q : Addr) (us : List V), v = .ref q ∧ SqT K H q us ∧ Paired (SIs CK H) b us
theorem BIs.same {K : PySem.W.Frag} {CK : Sk → Addr} {H G : Hp} {b : List SR} {v : V} (h : BIs K CK H b v) (sm : Same H G) : BIs K CK G b v := by
  obtain ⟨q, us, e, h1, h2⟩ := h
  exact ⟨q, us, e, seqT_same h1 sm, pair_mem h2 fun x y i => i.same sm⟩
end Jo

set_option Elab.async false
set_option linter.all false
set_option maxRecDepth 100000
set_option maxHeartbeats 1000000
namespace Jo
open PySem PySem.Spec PyProof.Rows L2 ClX
/-- what is shown of a statement keeps bounds -/
structure SR.Fine (s : SR) : Prop where
  one : 1 ≤ s.amount
  amount : s.amount ≤ 400
  height : s.height ≤ 8
  many : s.lines.length ≤ 2 * s.amount
  long : ∀ l ∈ s.lines, l.length ≤ 1000 + 2 * s.height
  first : ∃ r, s.lines = s.line :: r
  ok : ∀ l ∈ s.lines, PyData.strOk l = true
/-- bodies that may stand in a statement -/
structure Fits (bs : List (List SR)) : Prop where
  two : bs.length ≤ 2
  fine : ∀ s ∈ bs.flatten, s.Fine
  amount : amtS bs ≤ 399
  height : hgtS bs ≤ 7
theorem sum_ge1 : ∀ l : List SR, (∀ s ∈ l, s.Fine) → l.length ≤ (l.map SR.amount).sum
  | [], _ => Nat.le_refl _
  | s :: l, h => by
    have h1 := sum_ge1 l fun x hx => h x (List.mem_cons_of_mem _ hx)
    have h2 := (h s (List.mem_cons_self ..)).one
    rw [List.length_cons, List.map_cons, List.sum_cons]
    omega
theorem Fits.few {bs : List (List SR)} (h : Fits bs) : bs.flatten.length ≤ 399 := Nat.le_trans (sum_ge1 _ h.fine) h.amount
theorem flat_rows (bs : List (List SR)) (f : SR → V) : (bs.map fun b => b.map f).flatten = bs.flatten.map f := by
  rw [List.map_flatten]
/-- the classes of statements: CS the base class, CK the kinds -/
structure ST2 (K : PySem.W.Frag) (mg : Str → Option Value) (C : Kd → Addr) (CE CS : Addr) (CK : Sk → Addr) : Prop where
  own : ∀ k, OwnC K (CK k)
  na : ∀ k, ∀ f ∈ (["amount", "height", "names", "bodies", "lines", "expression", "name", "test", "body", "otherwise", "handler", "into"] : List Str), NoAttr K (CK k) f
  mgS : mg "Statement" = some (.ref CS)
  mgK : ∀ k : Sk, mg k.cname = some (.ref (CK k))
  kit : ∀ k l, PySem.W.kitOne K (.ref (CK k)) (.ref (CK l)) = some (decide (k = l))
  kitS : ∀ k, PySem.W.kitOne K (.ref (CK k)) (.ref CS) = some true
  kitE : ∀ k, PySem.W.kitOne K (.ref (CK k)) (.ref CE) = some false
  kitC : ∀ k, PySem.W.kitOne K (.ref (C k)) (.ref CS) = some false
  kitStr : PySem.W.kitOne K (.type "str") (.ref CS) = some false
  kitTup : PySem.W.kitOne K (.type "tuple") (.ref CS) = some false
section
variable {P : Program} {w : World} {K : PySem.W.Frag} {mg : Str → Option Value} {base : Heap} {C : Kd → Addr} {CE CS : Addr} {CK : Sk → Addr}
/-- a def of bodies: what it says of them -/
def spBods (K : PySem.W.Frag) (CK : Sk → Addr) (v : List (List SR) → V) : Sp := fun vs H Q _ => ∃ (q : Addr) (bs : List (List SR)) (us : List V), vs = [.ref q] ∧ SqT K H q us ∧ Paired (BIs K CK H) bs us ∧ Fits bs ∧ ∀ H', Same H H' → Q (v bs) H'
theorem body_at {H : Hp} {bs : List (List SR)} {us : List V} {i : Nat} {x : V} (p : Paired (BIs K CK H) bs us) (hx : us[i]? = some x) : ∃ b, bs[i]? = some b ∧ BIs K CK H b x := pair_at p hx
def n_amount_of : List Str := ["bodies", "body", "statement"]
theorem sc_amount_of : FnScope n_amount_of ["bodies"] (defScope s_amount_of) := ⟨rfl, rfl, rfl, by decide +kernel, rfl, by decide +kernel, by decide +kernel⟩
theorem ok_amount_of (T : Txt mg) (S : ST2 K mg C CE CS CK) (D : Dfn K mg "amount_of" s_amount_of ["bodies"]) : CalF P w K mg base 1 "amount_of" ["bodies"] (spBods K CK fun bs => .int ((amtS bs : Nat) : Int)) := by
  refine D.okF sc_amount_of (fun vs H Q E h => ?_) (fun f cdv A fr s H vs Q E hr h => ?_)
  · obtain ⟨q, bs, us, rfl, _⟩ := h
    rfl
  · obtain ⟨q, bs, us, rfl, hq, pb, ft, fin⟩ := h
    refine ⟨_, pss_one (ps_ret (pe_callB (cr_sum rfl) rfl T.b_sum (by decide +kernel) (pa_cons (pe_lc2 (own := [("body", 1), ("statement", 2)]) (vs1 := [2]) (g := gName 1) (g1 := gName 2) (tt := tYes) (tt1 := tYes) (wi1 := iTup K (tVar 1)) (te := tFld K (tVar 2) "amount") rfl sc_amount_of.nd (pi_tup (pv 0)) (blkOk_by (N := n_amount_of) (sc := defScope s_amount_of) (by decide +kernel)) (fun i h => by rw [List.mem_singleton.mp h]; decide)
      (fun _ _ _ _ _ => pg_name (i := 1) sc_amount_of.nd rfl (Or.inl rfl)) (fun _ _ _ _ _ => pts_nil) (fun _ _ _ _ _ => pi_tup (pv 1)) (fun _ _ _ _ _ => pg_name (i := 2) sc_amount_of.nd rfl (Or.inl rfl)) (fun _ _ _ _ _ => pts_nil) (fun _ _ _ _ _ => pe_fld (pv 2) rfl)) pa_nil))), ?_⟩
    refine ⟨_, rfl, q, rfl, ⟨_, hq⟩, fun D1 nD => ?_⟩
    refine lc2_tt (K := K) (vs := [1, 2]) (vs1 := [2]) (a := 1) (b := 2) (ti := tVar 1) (te := tFld K (tVar 2) "amount") (σ := [some (.ref q), none, none]) (bs.map fun b => b.map fun s => V.int ((s.amount : Nat) : Int)) hq nD (by rw [List.length_map]; exact pair_len pb) (by rw [flat_rows, List.length_map]; have := ft.few; omega) (by intro _; rfl) (by intro _ _; rfl) (fun i x row hx hr => ?_) (fun G sG hD => ?_)
    · obtain ⟨b, hb, ib⟩ := body_at pb hx
      rw [List.getElem?_map, hb] at hr
      obtain rfl := Option.some.inj hr
      obtain ⟨q1, ys, rfl, hq1, ps⟩ := ib
      refine ⟨q1, ys, hq1, by rw [List.length_map]; exact (pair_len ps).symm, fun G P sG hP => ⟨_, rfl, hP⟩, fun j y r hy hr2 G P sG hP => ?_⟩
      obtain ⟨s, hs, is⟩ := pair_at ps hy
      rw [List.getElem?_map, hs] at hr2
      obtain rfl := Option.some.inj hr2
      obtain ⟨a, dx, q2, fs, rfl, ha, h1, h2, h3, h4⟩ := is.same sG
      exact ⟨_, rfl, a, _, dx, fs, _, rfl, ha, (S.own _).cl, S.na _ _ (by decide +kernel), h1, hP⟩
    · refine ⟨D1, (bs.flatten.map SR.amount).map fun n : Nat => (n : Int), rfl, SqL.of (by rw [hD, flat_rows, List.map_map, List.map_map]; rfl), ?_⟩
      rw [nat_sum]
      exact fin G sG
def n_height_of : List Str := ["bodies", "body", "statement"]
theorem sc_height_of : FnScope n_height_of ["bodies"] (defScope s_height_of) := ⟨rfl, rfl, rfl, by decide +kernel, rfl, by decide +kernel, by decide +kernel⟩
theorem ok_height_of (T : Txt mg) (S : ST2 K mg C CE CS CK) (D : Dfn K mg "height_of" s_height_of ["bodies"]) : CalF P w K mg base 2 "height_of" ["bodies"] (spBods K CK fun bs => .int ((hgtS bs : Nat) : Int)) := by
  refine D.okF sc_height_of (fun vs H Q E h => ?_) (fun f cdv A fr s H vs Q E hr h => ?_)
  · obtain ⟨q, bs, us, rfl, _⟩ := h
    rfl
  · obtain ⟨q, bs, us, rfl, hq, pb, ft, fin⟩ := h
    refine ⟨_, pss_one (ps_ret (pe_callBK (cr_maxD rfl hr) rfl T.b_max (by decide +kernel) (pa_cons (pe_lc2 (own := [("body", 1), ("statement", 2)]) (vs1 := [2]) (g := gName 1) (g1 := gName 2) (tt := tYes) (tt1 := tYes) (wi1 := iTup K (tVar 1)) (te := tFld K (tVar 2) "height") rfl sc_height_of.nd (pi_tup (pv 0)) (blkOk_by (N := n_height_of) (sc := defScope s_height_of) (by decide +kernel)) (fun i h => by rw [List.mem_singleton.mp h]; decide)
      (fun _ _ _ _ _ => pg_name (i := 1) sc_height_of.nd rfl (Or.inl rfl)) (fun _ _ _ _ _ => pts_nil) (fun _ _ _ _ _ => pi_tup (pv 1)) (fun _ _ _ _ _ => pg_name (i := 2) sc_height_of.nd rfl (Or.inl rfl)) (fun _ _ _ _ _ => pts_nil) (fun _ _ _ _ _ => pe_fld (pv 2) rfl)) pa_nil) (pk_cons pe_int pk_nil))), ?_⟩
    refine ⟨_, rfl, q, rfl, ⟨_, hq⟩, fun D1 nD => ?_⟩
    refine lc2_tt (K := K) (vs := [1, 2]) (vs1 := [2]) (a := 1) (b := 2) (ti := tVar 1) (te := tFld K (tVar 2) "height") (σ := [some (.ref q), none, none]) (bs.map fun b => b.map fun s => V.int ((s.height : Nat) : Int)) hq nD (by rw [List.length_map]; exact pair_len pb) (by rw [flat_rows, List.length_map]; have := ft.few; omega) (by intro _; rfl) (by intro _ _; rfl) (fun i x row hx hr => ?_) (fun G sG hD => ?_)
    · obtain ⟨b, hb, ib⟩ := body_at pb hx
      rw [List.getElem?_map, hb] at hr
      obtain rfl := Option.some.inj hr
      obtain ⟨q1, ys, rfl, hq1, ps⟩ := ib
      refine ⟨q1, ys, hq1, by rw [List.length_map]; exact (pair_len ps).symm, fun G P sG hP => ⟨_, rfl, hP⟩, fun j y r hy hr2 G P sG hP => ?_⟩
      obtain ⟨s, hs, is⟩ := pair_at ps hy
      rw [List.getElem?_map, hs] at hr2
      obtain rfl := Option.some.inj hr2
      obtain ⟨a, dx, q2, fs, rfl, ha, h1, h2, h3, h4⟩ := is.same sG
      exact ⟨_, rfl, a, _, dx, fs, _, rfl, ha, (S.own _).cl, S.na _ _ (by decide +kernel), h2, hP⟩
    · have q2 : Q (.int ((Tr.top1 (bs.flatten.map SR.height) : Nat) : Int)) G := fin G sG
      refine ⟨D1, (bs.flatten.map SR.height).map fun n : Nat => (n : Int), 0, rfl, rfl, SqL.of (by rw [hD, flat_rows, List.map_map, List.map_map]; rfl), fun e => ?_, fun n r e => ?_⟩
      · have e1 : bs.flatten.map SR.height = [] := List.map_eq_nil_iff.mp e
        rw [e1] at q2
        exact q2
      · generalize hL : bs.flatten.map SR.height = L at e q2
        match L, e with
        | m :: l, e =>
          rw [List.map_cons] at e
          injection e with e1 e2
          subst e1 e2
          rw [fold_int, fold_top1]
          exact q2
end
end Jo

set_option Elab.async false
set_option linter.all false
set_option maxRecDepth 100000
set_option maxHeartbeats 1000000
namespace Jo
open PySem PySem.Spec PyProof.Rows L2 ClX
theorem len_pad (l : Str) : (pad l).length = 2 + l.length := by
  unfold pad
  rw [len_cat]
  rfl
theorem ind_len : ∀ b : List SR, (∀ s ∈ b, s.Fine) → (indS b).length ≤ 2 * (b.map SR.amount).sum
  | [], _ => Nat.le_refl _
  | s :: b, h => by
    have h1 := ind_len b fun x hx => h x (List.mem_cons_of_mem _ hx)
    have h2 := (h s (List.mem_cons_self ..)).many
    unfold indS at h1 ⊢
    rw [List.flatMap_cons, List.length_append, List.length_map, List.map_cons, List.sum_cons]
    omega
theorem ind_rows (b : List SR) : (b.map fun s => s.lines.map fun l => V.str (pad l)).flatten = (indS b).map V.str := by
  unfold indS
  rw [List.flatMap_def, List.map_flatten, List.map_map]
  congr 1
  refine List.map_congr_left fun s _ => ?_
  show _ = (s.lines.map pad).map V.str
  rw [List.map_map]
  rfl
theorem insd_snoc : ∀ (l : List (List SR)) (b : List SR) (n : Nat), insd n (l ++ [b]) = insd n l ++ ((if 0 < n + l.length ∧ b ≠ [] then [("else" : Str)] else []) ++ indS b)
  | [], b, n => by simp [insd]
  | c :: l, b, n => by
    show _ ++ (indS c ++ insd (n + 1) (l ++ [b])) = (_ ++ (indS c ++ insd (n + 1) l)) ++ _
    rw [insd_snoc l b (n + 1), show n + 1 + l.length = n + (c :: l).length by rw [List.length_cons]; omega, List.append_assoc, List.append_assoc]
theorem insd_len : ∀ (bs : List (List SR)) (n : Nat), (∀ s ∈ bs.flatten, s.Fine) → (insd n bs).length ≤ bs.length + 2 * (bs.flatten.map SR.amount).sum
  | [], _, _ => Nat.zero_le _
  | b :: bs, n, h => by
    have h1 := insd_len bs (n + 1) fun x hx => h x (by rw [List.flatten_cons]; exact List.mem_append_right _ hx)
    have h2 := ind_len b fun x hx => h x (by rw [List.flatten_cons]; exact List.mem_append_left _ hx)
    have h3 : (if 0 < n ∧ b ≠ [] then [("else" : Str)] else []).length ≤ 1 := by
      split
      · exact Nat.le_refl _
      · exact Nat.zero_le _
    show (_ ++ (indS b ++ insd (n + 1) bs)).length ≤ _
    rw [List.length_append, List.length_append, List.flatten_cons, List.map_append, List.sum_append, List.length_cons]
    omega
/-- with two bodies at most, one else at most -/
theorem insd_two {bs : List (List SR)} (h : Fits bs) : (insd 0 bs).length ≤ 1 + 2 * amtS bs := by
  match bs, h with
  | [], _ => exact Nat.zero_le _
  | b :: r, h =>
    have h1 := insd_len r 1 fun x hx => h.fine x (by rw [List.flatten_cons]; exact List.mem_append_right _ hx)
    have h2 := ind_len b fun x hx => h.fine x (by rw [List.flatten_cons]; exact List.mem_append_left _ hx)
    have h3 := h.two
    rw [List.length_cons] at h3
    show (_ ++ (indS b ++ insd 1 r)).length ≤ _
    unfold amtS
    rw [if_neg (fun e => absurd e.1 (Nat.lt_irrefl 0)), List.length_append, List.length_append, List.flatten_cons, List.map_append, List.sum_append]
    show 0 + _ ≤ _
    omega
section
variable {P : Program} {w : World} {K : PySem.W.Frag} {mg : Str → Option Value} {base : Heap} {C : Kd → Addr} {CE CS : Addr} {CK : Sk → Addr}
def n_indented : List Str := ["body", "statement", "line"]
theorem sc_indented : FnScope n_indented ["body"] (defScope s_indented) := ⟨rfl, rfl, rfl, by decide +kernel, rfl, by decide +kernel, by decide +kernel⟩
def spInd (K : PySem.W.Frag) (CK : Sk → Addr) : Sp := fun vs H Q _ => ∃ (b : List SR) (v : V), vs = [v] ∧ BIs K CK H b v ∧ (∀ s ∈ b, s.Fine) ∧ (b.map SR.amount).sum ≤ 399 ∧ ∀ D H', Same H H' → H' D = some (.lst ((indS b).map V.str)) → H D = none → Q (.ref D) H'
theorem ok_indented (T : Txt mg) (S : ST2 K mg C CE CS CK) (D : Dfn K mg "indented" s_indented ["body"]) : CalF P w K mg base 1 "indented" ["body"] (spInd K CK) := by
  refine D.okF sc_indented (fun vs H Q E h => ?_) (fun f cdv A fr s H vs Q E hr h => ?_)
  · obtain ⟨b, v, rfl, _⟩ := h
    rfl
  · obtain ⟨b, v, rfl, ⟨q, us, rfl, hq, ps⟩, hf, ha, fin⟩ := h
    refine ⟨_, pss_one (ps_ret (pe_lc2 (own := [("statement", 1), ("line", 2)]) (vs1 := [2]) (g := gName 1) (g1 := gName 2) (tt := tYes) (tt1 := tYes) (wi1 := iTup K (tFld K (tVar 1) "lines")) rfl sc_indented.nd (pi_tup (pv 0)) (blkOk_by (N := n_indented) (sc := defScope s_indented) (by decide +kernel)) (fun i h => by rw [List.mem_singleton.mp h]; decide)
      (fun _ _ _ _ _ => pg_name (i := 1) sc_indented.nd rfl (Or.inl rfl)) (fun _ _ _ _ _ => pts_nil) (fun _ _ _ _ _ => pi_tup (pe_fld (pv 1) rfl)) (fun _ _ _ _ _ => pg_name (i := 2) sc_indented.nd rfl (Or.inl rfl)) (fun _ _ _ _ _ => pts_nil) (fun _ _ _ _ _ => pe_joined (.cons pe_str (.cons (pe_fmt (pv 2)) .nil))))), ?_⟩
    refine ⟨_, rfl, q, rfl, ⟨_, hq⟩, fun D1 nD => ?_⟩
    refine lc2_tt (K := K) (vs := [1, 2]) (vs1 := [2]) (a := 1) (b := 2) (ti := tFld K (tVar 1) "lines") (te := fun σ H Q => tJs [tC (.str "  "), tFmt (tVar 2)] Str.empty σ H fun out H1 => Q (.str out) H1) (σ := [some (.ref q), none, none]) (b.map fun s => s.lines.map fun l => V.str (pad l)) hq nD (by rw [List.length_map]; exact pair_len ps) (by rw [ind_rows, List.length_map]; have := ind_len b hf; omega) (by intro _; rfl) (by intro _ _; rfl) (fun i x row hx hr2 => ?_) (fun G sG hD => ?_)
    · obtain ⟨s, hs, is⟩ := pair_at ps hx
      rw [List.getElem?_map, hs] at hr2
      obtain rfl := Option.some.inj hr2
      have is0 := is
      obtain ⟨a, dx, q2, fs, rfl, h0, h1, h2, h3, h4⟩ := is
      refine ⟨q2, s.lines.map V.str, .inl (.inl h4), by rw [List.length_map, List.length_map], fun G P sG hP => ⟨_, rfl, a, _, dx, fs, _, rfl, sG _ _ h0, (S.own _).cl, S.na _ _ (by decide +kernel), h3, hP⟩, fun j y r hy hr3 G P sG hP => ?_⟩
      rw [List.getElem?_map] at hy hr3
      obtain ⟨l, hl, rfl⟩ := Option.map_eq_some_iff.mp hy
      rw [hl] at hr3
      obtain rfl := Option.some.inj hr3
      have fl := hf s (List.mem_of_getElem? hs)
      have ll := fl.long l (List.mem_of_getElem? hl)
      have lh := fl.height
      have c1 : ("  " : Str).length = 2 := by decide +kernel
      refine ⟨"  ", rfl, by rw [empty_cat, c1]; exact small_len (by decide), _, rfl, .inl ⟨l, rfl, small_len (by omega), l, rfl, ?_, ?_⟩⟩
      · rw [empty_cat, len_cat, c1]
        exact small_len (by omega)
      · rw [empty_cat]
        exact hP
    · exact fin D1 G sG (by rw [hD, ind_rows]) nD
def n_lines_inside : List Str := ["bodies", "lines", "number", "body"]
theorem sc_lines_inside : FnScope n_lines_inside ["bodies"] (defScope s_lines_inside) := ⟨rfl, rfl, rfl, by decide +kernel, rfl, by decide +kernel, by decide +kernel⟩
def spLines (K : PySem.W.Frag) (CK : Sk → Addr) : Sp := fun vs H Q _ => ∃ (q : Addr) (bs : List (List SR)) (us : List V), vs = [.ref q] ∧ SqT K H q us ∧ Paired (BIs K CK H) bs us ∧ Fits bs ∧ ∀ H' r, Same H H' → H' r = some (.tup ((insd 0 bs).map V.str)) → Q (.ref r) H'
theorem ok_lines_inside (T : Txt mg) (S : ST2 K mg C CE CS CK) (D : Dfn K mg "lines_inside" s_lines_inside ["bodies"]) (c_ind : CalF P w K mg base 1 "indented" ["body"] (spInd K CK)) : CalF P w K mg base 2 "lines_inside" ["bodies"] (spLines K CK) := by
  refine D.okF sc_lines_inside (fun vs H Q E h => ?_) (fun f cdv A fr s H vs Q E hr h => ?_)
  · obtain ⟨q, bs, us, rfl, _⟩ := h
    rfl
  · obtain ⟨q, bs, us, rfl, hq, pb, ft, fin⟩ := h
    refine ⟨_, pss_cons (ps_set (i := 1) sc_lines_inside.nd rfl (.inl rfl) (pe_lst pa_nil))
      (pss_cons (ps_for PassesOwn.never rfl (pi_enumT rfl T.b_enumerate (pa_cons (pv 0) pa_nil)) (pg_tup rfl (pgs_cons (pg_name (i := 2) sc_lines_inside.nd rfl (.inl rfl)) (pgs_cons (pg_name (i := 3) sc_lines_inside.nd rfl (.inl rfl)) pgs_nil)))
        (pss_cons (ps_if (PW.pt (pw_and (pt_cmpR op_gt (pv 2) pe_int (nomark _)) (pw_and1 (pt_truth (pv 3) (by intro _; rfl)))))
            (pss_one (ps_expr (pe_bm PySem.F.plainAttrs_list PySem.F.slot_list_append PySem.F.type_list_append mt_append (pv 1) (pa_cons pe_str pa_nil))))
            (pss_nil))
          (pss_one (ps_aug (i := 1) sc_lines_inside.nd rfl (.inl rfl) (pe_cF c_ind hr (by decide) rfl (pa_cons (pv 3) pa_nil)) iop_ext))))
      (pss_one (ps_ret (pe_callTy call_tuple_of rfl T.b_tuple (by decide +kernel) (pa_cons (pv 1) pa_nil))))), ?_⟩
    refine ⟨(show 0 ≤ sizeLine by decide), fun l nl => ?_⟩
    have s1 : Same H (upd H l (.lst [])) := same_new nl
    have pl := pair_len pb
    have hz := insd_two ft
    have ha := ft.amount
    refine ⟨_, rfl, q, _, rfl, seqT_same hq s1, ?_⟩
    refine for_it (walk_enumT (K := K) (a := q) (xs := us)) (fun i σ G => Same H G ∧ G l = some (.lst ((insd 0 (bs.take i)).map V.str)) ∧ ∃ y1 y2 : Option V, σ = [some (.ref q), some (.ref l), y1, y2]) ⟨s1, upd_same, none, none, rfl⟩ (fun i σ G hi hG => seqT_same hq hG.1) (fun i x σ G G' hi hG hy => ?_) (fun σ G hG => ?_)
    · obtain ⟨sG, hl, y1, y2, rfl⟩ := hG
      obtain ⟨Tp, a, b, rfl, hT, rfl, ea, eb⟩ := hy
      have ea2 : a = V.int (i : Int) := (Option.some.inj ea).symm
      subst ea2
      obtain ⟨bd, hb, ib⟩ := pair_at pb eb
      have hlT : l ≠ Tp := fun e => by rw [e, hT] at hl; cases hl
      have s2 := sG.trans (same_new (o := .tup [V.int (i : Int), b]) hT)
      have hl2 : upd G Tp (.tup [V.int (i : Int), b]) l = some (.lst ((insd 0 (bs.take i)).map V.str)) := by rw [upd_ne hlT]; exact hl
      have hT2 : upd G Tp (.tup [V.int (i : Int), b]) Tp = some (.tup [V.int (i : Int), b]) := upd_same
      generalize upd G Tp (.tup [V.int (i : Int), b]) = G1 at s2 hl2 hT2
      have ib1 := ib.same s2
      have hbs : i < bs.length := by have := (List.getElem?_eq_some_iff.mp hb).1; exact this
      have et : bs.take (i + 1) = bs.take i ++ [bd] := by rw [List.take_succ, hb]; rfl
      have e1 := insd_snoc (bs.take i) bd 0
      rw [← et, List.length_take, Nat.min_eq_left (Nat.le_of_lt hbs), Nat.zero_add] at e1
      have few : (insd 0 (bs.take (i + 1))).length ≤ 800 := by
        have h1 := insd_len (bs.take (i + 1)) 0 fun s hs => ft.fine s (by
          rw [← List.take_append_drop (i + 1) bs, List.flatten_append]
          exact List.mem_append_left _ hs)
        have h2 : ((bs.take (i + 1)).flatten.map SR.amount).sum ≤ amtS bs := by
          unfold amtS
          conv => rhs; rw [← List.take_append_drop (i + 1) bs, List.flatten_append, List.map_append, List.sum_append]
          exact Nat.le_add_right _ _
        have h3 := List.length_take (i := i + 1) (l := bs)
        have h4 := ft.two
        omega
      have hin : ∀ s ∈ bd, s.Fine := fun s hs => ft.fine s (List.mem_flatten.mpr ⟨bd, List.mem_of_getElem? hb, hs⟩)
      have ham : (bd.map SR.amount).sum ≤ 399 := by
        have h1 : bs.flatten = (bs.take i).flatten ++ (bd ++ (bs.drop (i + 1)).flatten) := by
          conv => lhs; rw [← List.take_append_drop i bs, List.flatten_append, List.drop_eq_getElem_cons hbs, List.flatten_cons]
          rw [show bs[i] = bd from Option.some.inj ((List.getElem?_eq_getElem hbs).symm.trans hb)]
        unfold amtS at ha
        rw [h1, List.map_append, List.map_append, List.sum_append, List.sum_append] at ha
        omega
      have sLine : ∀ n : Nat, n ≤ 800 → n ≤ sizeLine := fun n h => Nat.le_trans h (by decide)
      have rest : ∀ (D : Ends) (G2 : Hp) (pre : List Str), (∀ G3, Same H G3 → G3 l = some (.lst ((insd 0 (bs.take (i + 1))).map V.str)) → D.nx [some (.ref q), some (.ref l), some (.int (i : Int)), some b] G3) → Same H G2 → G2 l = some (.lst (pre.map V.str)) → pre ++ indS bd = insd 0 (bs.take (i + 1)) →
          tAug 1 (tCall (spInd K CK) [] E0 (tCons (tVar 3) tNil)) rExt2 D [some (.ref q), some (.ref l), some (.int (i : Int)), some b] G2 := fun D G2 pre hn s12 hl3 hp => by
        refine ⟨_, rfl, _, rfl, bd, b, rfl, ib.same s12, hin, ham, fun D2 G3 s23 hD2 nD2 => ?_⟩
        refine ⟨l, D2, pre.map V.str, (indS bd).map V.str, rfl, rfl, s23 _ _ hl3, hD2, ?_, ?_⟩
        · rw [List.length_map, List.length_map, ← List.length_append, hp]
          exact sLine _ few
        · rw [← List.map_append, hp]
          have s3 := s12.trans s23
          exact hn _ (fun c o hc => by rw [upd_ne (fun e => by rw [e, nl] at hc; cases hc)]; exact s3 c o hc) upd_same
      have end3 : ∀ G3, Same H G3 → G3 l = some (.lst ((insd 0 (bs.take (i + 1))).map V.str)) → Same H G3 ∧ G3 l = some (.lst ((insd 0 (bs.take (i + 1))).map V.str)) ∧ ∃ y1 y2 : Option V, [some (V.ref q), some (V.ref l), some (V.int (i : Int)), some b] = [some (.ref q), some (.ref l), y1, y2] := fun G3 h1 h2 => ⟨h1, h2, _, _, rfl⟩
      refine ⟨Tp, _, rfl, .inl (.inl hT2), rfl, _, _, rfl, _, _, rfl, rfl, ?_⟩
      obtain ⟨q1, ys, rfl, hq1, ps⟩ := ib1
      have pl1 := pair_len ps
      refine ⟨_, rfl, _, _, rfl, rfl, _, rfl, ?_⟩
      by_cases h0 : 0 < i
      · rw [decide_eq_true (by omega : (i : Int) > 0)]
        refine iteT ⟨_, rfl, !ys.isEmpty, .inr (.inl ⟨ys, hq1, rfl⟩), ?_⟩
        cases ys with
        | nil =>
          have e2 : bd = [] := List.eq_nil_of_length_eq_zero pl1
          refine iteF (rest _ _ _ end3 s2 hl2 ?_)
          rw [e1, if_neg (fun h => h.2 e2)]
          rfl
        | cons y ys =>
          have e2 : bd ≠ [] := fun e => by rw [e] at pl1; cases pl1
          have e3 : insd 0 (bs.take (i + 1)) = (insd 0 (bs.take i) ++ [("else" : Str)]) ++ indS bd := by
            rw [e1, if_pos ⟨h0, e2⟩, List.append_assoc]
          refine iteT ⟨_, rfl, .inl ⟨rfl, _, SqL.of hl2⟩, l, _, _, rfl, rfl, hl2, ?_, ?_⟩
          · rw [List.length_map]
            rw [e3, List.length_append, List.length_append] at few
            have : (insd 0 (bs.take i)).length < 800 := by simp only [List.length_singleton] at few; omega
            exact Nat.lt_of_lt_of_le this (by decide)
          · refine rest _ _ (insd 0 (bs.take i) ++ [("else" : Str)]) end3 (fun c o hc => ?_) ?_ e3.symm
            · rw [upd_ne (fun e => by rw [e, nl] at hc; cases hc)]
              exact s2 c o hc
            · rw [upd_same, List.map_append]
              rfl
      · rw [decide_eq_false (by omega : ¬ (i : Int) > 0)]
        refine iteF (iteF (rest _ _ _ end3 s2 hl2 ?_))
        rw [e1, if_neg (fun h => h0 h.1)]
        rfl
    · obtain ⟨sG, hl, y1, y2, rfl⟩ := hG
      rw [← pl, List.take_length] at hl
      exact ⟨_, rfl, l, _, rfl, .inl ⟨SqL.of hl, fun r nr => fin _ r (sG.trans (same_new nr)) upd_same⟩⟩
end
end Jo

set_option Elab.async false
set_option linter.all false
set_option maxRecDepth 100000
set_option maxHeartbeats 1000000
namespace Jo
open PySem PySem.Spec PyProof.Rows L2 ClX
theorem SIs.kp {CK : Sk → Addr} {H G : Hp} {a Cc dx : Addr} {s : SR} {v : V} (h : SIs CK H s v) (k : Kp a H G) (ha : H a = some (.ins Cc dx [])) : SIs CK G s v := by
  obtain ⟨b, dy, q, fs, e, h1, h2, h3, h4, h5⟩ := h
  refine ⟨b, dy, q, fs, e, k _ _ h1 fun e => ?_, h2, h3, h4, k _ _ h5 fun e => ?_⟩
  · rw [e, ha] at h1
    injection h1 with h1
    injection h1 with _ _ h1
    rw [← h1] at h2
    cases h2
  · rw [e, ha] at h5
    cases h5
theorem BIs.kp {K : PySem.W.Frag} {CK : Sk → Addr} {H G : Hp} {a Cc dx : Addr} {b : List SR} {v : V} (h : BIs K CK H b v) (k : Kp a H G) (ha : H a = some (.ins Cc dx [])) : BIs K CK G b v := by
  obtain ⟨q, us, e, h1, h2⟩ := h
  exact ⟨q, us, e, seqT_kp h1 k ha, pair_mem h2 fun x y i => i.kp k ha⟩
/-- the fields that every statement has -/
structure StF (s : SR) (q : Addr) (fs : List (Str × V)) : Prop where
  amount : fs.lookup ("amount" : Str) = some (.int (s.amount : Int))
  height : fs.lookup ("height" : Str) = some (.int (s.height : Int))
  lines : fs.lookup ("lines" : Str) = some (.ref q)
theorem StF.put {s : SR} {q : Addr} {fs : List (Str × V)} {f : Str} {y : V} (h : StF s q fs) (hf : f ∈ (["expression", "name", "test", "body", "otherwise", "handler", "into"] : List Str)) : StF s q (putF f y fs) := by
  have h4 : ∀ x ∈ (["amount", "height", "lines"] : List Str), ∀ f ∈ (["expression", "name", "test", "body", "otherwise", "handler", "into"] : List Str), ¬ x = f := by decide +kernel
  refine ⟨?_, ?_, ?_⟩
  · rw [lookup_putF, if_neg (h4 _ (by decide +kernel) f hf)]; exact h.amount
  · rw [lookup_putF, if_neg (h4 _ (by decide +kernel) f hf)]; exact h.height
  · rw [lookup_putF, if_neg (h4 _ (by decide +kernel) f hf)]; exact h.lines
theorem StF.is {CK : Sk → Addr} {G : Hp} {s : SR} {a dx q : Addr} {fs : List (Str × V)} (h : StF s q fs) (ha : G a = some (.ins (CK s.kind) dx fs)) (hq : G q = some (.tup (s.lines.map V.str))) : SIs CK G s (.ref a) := ⟨a, dx, q, fs, rfl, ha, h.amount, h.height, h.lines, hq⟩
/-- what is made of a line and bodies -/
def mkL (k : Sk) (z : Str) (bs : List (List SR)) : SR := ⟨k, z, z :: insd 0 bs, 1 + amtS bs, 1 + hgtS bs⟩
theorem mkS_eq (h : Hd) (bs : List (List SR)) : mkS h bs = mkL h.kind h.line bs := rfl
section
variable {P : Program} {w : World} {K : PySem.W.Frag} {mg : Str → Option Value} {base : Heap} {C : Kd → Addr} {CE CS : Addr} {CK : Sk → Addr}
def spSt (K : PySem.W.Frag) (CK : Sk → Addr) : Sp := fun vs H Q _ => ∃ (a dx B : Addr) (k : Sk) (z : Str) (x : V) (bs : List (List SR)) (us : List V), vs = [.ref a, .str z, x, .ref B] ∧ H a = some (.ins (CK k) dx []) ∧ SqT K H B us ∧ Paired (BIs K CK H) bs us ∧ Fits bs ∧
  ∀ G fs q, Kp a H G → G a = some (.ins (CK k) dx fs) → fs.length ≤ 10 → StF (mkL k z bs) q fs → q ≠ a → G q = some (.tup ((z :: insd 0 bs).map V.str)) → Q .non G
theorem sc_sti : FnScope ["self", "line", "names", "bodies"] ["self", "line", "names", "bodies"] (defScope m_Statement_init) := ⟨rfl, rfl, rfl, by decide +kernel, rfl, by decide +kernel, by decide +kernel⟩
theorem ok_sti {f : Addr} {fd : FuncData} {dvs : List V} (T : Txt mg) (S : ST2 K mg C CE CS CK) (D : FunD K "__init__" "Statement.__init__" (defArgs m_Statement_init) (defBody m_Statement_init) (defScope m_Statement_init) dvs [] f fd)
    (c_amount : CalF P w K mg base 1 "amount_of" ["bodies"] (spBods K CK fun bs => .int ((amtS bs : Nat) : Int))) (c_height : CalF P w K mg base 2 "height_of" ["bodies"] (spBods K CK fun bs => .int ((hgtS bs : Nat) : Int))) (c_lines : CalF P w K mg base 2 "lines_inside" ["bodies"] (spLines K CK)) :
    FnOk P w K mg base CX0 3 f fd ["self", "line", "names", "bodies"] (spSt K CK) := by
  refine D.ok sc_sti (fun vs H Q E h => ?_) (fun cdv A fr s H vs Q E hr h => ?_)
  · obtain ⟨a, dx, B, k, z, x, bs, us, rfl, _⟩ := h
    rfl
  · obtain ⟨a, dx, B, k, z, x, bs, us, rfl, ha, hB, pb, ft, fin⟩ := h
    have cl := (S.own k).cl
    have na := S.na k
    have f1 := ft.amount
    have f2 := ft.height
    refine ⟨_, pss_cons (ps_fld (pv 0) (pe_op op_add pe_int (pe_cF c_amount hr (by decide) rfl (pa_cons (pv 3) pa_nil))) rfl)
      (pss_cons (ps_fld (pv 0) (pe_op op_add pe_int (pe_cF c_height hr (by decide) rfl (pa_cons (pv 3) pa_nil))) rfl)
      (pss_cons (ps_if (pt_cmpR op_gt (pe_fld (pv 0) rfl) (C8.pe_gc rfl T.g_MAX_STATEMENTS) (nomark _))
        (pss_one ps_never)
        (pss_nil))
      (pss_cons (ps_if (pt_cmpR op_gt (pe_fld (pv 0) rfl) (C8.pe_gc rfl T.g_MAX_LEVEL) (nomark _))
        (pss_one ps_never)
        (pss_nil))
      (pss_cons (ps_fld (pv 0) (pv 2) rfl)
      (pss_cons (ps_fld (pv 0) (pv 3) rfl)
      (pss_one (ps_fld (pv 0) (pe_op op_catT (pe_tup (pa_cons (pv 1) pa_nil)) (pe_cF c_lines hr (by decide) rfl (pa_cons (pv 3) pa_nil))) rfl))))))), ?_⟩
    have e1 : (1 : Int) + ((amtS bs : Nat) : Int) = ((1 + amtS bs : Nat) : Int) := by omega
    have e2 : (1 : Int) + ((hgtS bs : Nat) : Int) = ((1 + hgtS bs : Nat) : Int) := by omega
    refine ⟨_, rfl, B, bs, us, rfl, hB, pb, ft, fun G1 s1 => ⟨_, _, rfl, rfl, _, rfl, a, _, dx, [], rfl, s1 _ _ ha, cl, na _ (by decide +kernel), by decide, ?_⟩⟩
    have k2 := kp_put (o := .ins (CK k) dx (putF "amount" (.int (1 + ((amtS bs : Nat) : Int))) [])) (kp_of (p := a) s1)
    refine ⟨_, rfl, B, bs, us, rfl, seqT_kp hB k2 ha, pair_mem pb fun x y i => i.kp k2 ha, ft, fun G3 s3 => ⟨_, _, rfl, rfl, _, rfl, a, _, dx, _, rfl, s3 _ _ upd_same, cl, na _ (by decide +kernel), Nat.lt_of_le_of_lt (pf pf0) (by decide), ?_⟩⟩
    have k4 := kp_put (o := .ins (CK k) dx (putF "height" (.int (1 + ((hgtS bs : Nat) : Int))) (putF "amount" (.int (1 + ((amtS bs : Nat) : Int))) []))) (k2.trans (kp_of s3))
    refine ⟨_, rfl, a, _, dx, _, _, rfl, upd_same, cl, na _ (by decide +kernel), put_past (ne_S (by decide +kernel)) put_get, _, _, rfl, rfl, _, rfl, ?_⟩
    rw [decide_eq_false (by omega)]
    refine iteF ⟨_, rfl, a, _, dx, _, _, rfl, upd_same, cl, na _ (by decide +kernel), put_get, _, _, rfl, rfl, _, rfl, ?_⟩
    rw [decide_eq_false (by omega)]
    refine iteF ⟨_, rfl, _, rfl, a, _, dx, _, rfl, upd_same, cl, na _ (by decide +kernel), Nat.lt_of_le_of_lt (pf (pf pf0)) (by decide), ?_⟩
    refine ⟨_, rfl, _, rfl, a, _, dx, _, rfl, upd_same, cl, na _ (by decide +kernel), Nat.lt_of_le_of_lt (pf (pf (pf pf0))) (by decide), ?_⟩
    have k6 := kp_put (o := .ins (CK k) dx (putF "bodies" (.ref B) (putF "names" x (putF "height" (.int (1 + ((hgtS bs : Nat) : Int))) (putF "amount" (.int (1 + ((amtS bs : Nat) : Int))) []))))) (kp_put (o := .ins (CK k) dx (putF "names" x (putF "height" (.int (1 + ((hgtS bs : Nat) : Int))) (putF "amount" (.int (1 + ((amtS bs : Nat) : Int))) [])))) k4)
    generalize hG : upd (upd (upd G3 a (.ins (CK k) dx (putF "height" (.int (1 + ((hgtS bs : Nat) : Int))) (putF "amount" (.int (1 + ((amtS bs : Nat) : Int))) [])))) a (.ins (CK k) dx (putF "names" x (putF "height" (.int (1 + ((hgtS bs : Nat) : Int))) (putF "amount" (.int (1 + ((amtS bs : Nat) : Int))) []))))) a (.ins (CK k) dx (putF "bodies" (.ref B) (putF "names" x (putF "height" (.int (1 + ((hgtS bs : Nat) : Int))) (putF "amount" (.int (1 + ((amtS bs : Nat) : Int))) []))))) = G6 at k6
    have a6 : G6 a = some (.ins (CK k) dx (putF "bodies" (.ref B) (putF "names" x (putF "height" (.int (1 + ((hgtS bs : Nat) : Int))) (putF "amount" (.int (1 + ((amtS bs : Nat) : Int))) []))))) := by rw [← hG, upd_same]
    refine ⟨_, rfl, (show 1 ≤ sizeLine by decide), fun q nq => ?_⟩
    have a7 : upd G6 q (.tup [.str z]) a = some (.ins (CK k) dx (putF "bodies" (.ref B) (putF "names" x (putF "height" (.int (1 + ((hgtS bs : Nat) : Int))) (putF "amount" (.int (1 + ((amtS bs : Nat) : Int))) []))))) := by
      rw [upd_ne (fun e => by rw [← e, a6] at nq; cases nq)]
      exact a6
    have k7 : Kp a H (upd G6 q (.tup [.str z])) := k6.trans (kp_of (same_new nq))
    refine ⟨_, rfl, B, bs, us, rfl, seqT_kp hB k7 ha, pair_mem pb fun x y i => i.kp k7 ha, ft, fun G8 r s8 hr8 => ?_⟩
    have a8 := s8 _ _ a7
    have q8 : G8 q = some (.tup [.str z]) := s8 _ _ upd_same
    have hz := insd_two ft
    have k8 := k7.trans (kp_of (p := a) s8)
    generalize insd 0 bs = ls at hr8 hz fin
    -- the fields when lines stands at p
    have close : ∀ (G9 : Hp) (p : Addr), Same G8 G9 → G9 p = some (.tup ((z :: ls).map V.str)) → ∃ a_1 C dx_1 fs, V.ref a = V.ref a_1 ∧ G9 a_1 = some (HO.ins C dx_1 fs) ∧ Cls K C ∧ NoAttr K C "lines" ∧ fs.length < 1000 ∧ Q V.non (upd G9 a_1 (HO.ins C dx_1 (putF "lines" (.ref p) fs))) := fun G9 p s9 hp => by
      have a9 := s9 _ _ a8
      have npa : p ≠ a := fun e => by rw [e, a9] at hp; cases hp
      refine ⟨a, _, dx, _, rfl, a9, cl, na _ (by decide +kernel), Nat.lt_of_le_of_lt (pf (pf (pf (pf pf0)))) (by decide), ?_⟩
      exact fin _ _ p (kp_put (k8.trans (kp_of s9))) upd_same (Nat.le_trans (pf (pf (pf (pf (pf pf0))))) (by decide)) ⟨put_past (ne_S (by decide +kernel)) (put_past (ne_S (by decide +kernel)) (put_past (ne_S (by decide +kernel)) (put_past (ne_S (by decide +kernel)) (put_get.trans (congrArg (fun n : Int => some (V.int n)) e1))))), put_past (ne_S (by decide +kernel)) (put_past (ne_S (by decide +kernel)) (put_past (ne_S (by decide +kernel)) (put_get.trans (congrArg (fun n : Int => some (V.int n)) e2)))), put_get⟩ npa (by rw [upd_ne npa]; exact hp)
    refine ⟨q, r, [.str z], ls.map V.str, rfl, rfl, .inl (.inl q8), .inl (.inl hr8), (fun e => by cases e), ?_, fun e => ?_, fun ne p np => ?_⟩
    · rw [List.length_map]
      exact Nat.le_trans (by show 1 + ls.length ≤ 1000; omega : [V.str z].length + ls.length ≤ 1000) (by decide)
    · have e3 : ls = [] := List.map_eq_nil_iff.mp e
      exact ⟨_, rfl, close G8 q (.refl _) (by rw [e3]; exact q8)⟩
    · exact ⟨_, rfl, close _ p (same_new np) upd_same⟩
end
end Jo

set_option Elab.async false
set_option linter.all false
set_option maxRecDepth 100000
set_option maxHeartbeats 1000000
namespace Jo
open PySem PySem.Spec PyProof.Rows L2 ClX
theorem seqT_ty {K : PySem.W.Frag} {H : Hp} {a : Addr} {xs : List V} (h : SqT K H a xs) : ∃ t, TyX K H (.ref a) t ∧ PySem.W.kitOne K t (.type "tuple") = some true := by
  rcases h with (h | ⟨o, h⟩) | ⟨o, its, n, h1, h2, _⟩
  · exact ⟨_, .base (.tup h), kit_ty (by decide +kernel)⟩
  · exact ⟨_, .fTuple h, kit_ty (by decide +kernel)⟩
  · exact ⟨_, .kTuple h1 h2, kit_ty (by decide +kernel)⟩
theorem SIs.ins {CK : Sk → Addr} {H : Hp} {s : SR} {v : V} (h : SIs CK H s v) : ∃ a dx fs, v = .ref a ∧ H a = some (.ins (CK s.kind) dx fs) := by
  obtain ⟨a, dx, q, fs, e, h1, _⟩ := h
  exact ⟨a, dx, fs, e, h1⟩
section
variable {P : Program} {w : World} {K : PySem.W.Frag} {mg : Str → Option Value} {base : Heap} {C : Kd → Addr} {CE CS : Addr} {CK : Sk → Addr}
theorem sc_check_name : FnScope ["value"] ["value"] (defScope s_check_name) := ⟨rfl, rfl, rfl, by decide +kernel, rfl, by decide +kernel, by decide +kernel⟩
def spCheckName : Sp := fun vs H Q _ => ∃ z : Str, vs = [.str z] ∧ nmS z = true ∧ ∀ H', Same H H' → Q .non H'
theorem ok_check_name (D : Dfn K mg "check_name" s_check_name ["value"]) (c_is_name : CalF P w K mg base 1 "is_name" ["value"] (spIsName K)) : CalF P w K mg base 2 "check_name" ["value"] spCheckName := by
  refine D.okF sc_check_name (fun vs H Q E h => ?_) (fun f cdv A fr s H vs Q E hr h => ?_)
  · obtain ⟨z, rfl, _⟩ := h
    rfl
  · obtain ⟨z, rfl, nz, fin⟩ := h
    refine ⟨_, pss_one (ps_if (pt_not (pt_val (pe_cF c_is_name hr (by decide) rfl (pa_cons (pv 0) pa_nil))))
        (pss_one ps_never)
        (pss_nil)), ?_⟩
    have l8 := nm_len nz
    exact ⟨_, rfl, .str z, rfl, any_str z, (fun y e => by cases e; omega), fun H1 s1 => ⟨true, by show V.bl (nmS z) = _; rw [nz], iteF (fin H1 s1)⟩⟩
def n_check_expression : List Str := ["value"]
theorem sc_check_expression : FnScope n_check_expression ["value"] (defScope s_check_expression) := ⟨rfl, rfl, rfl, by decide +kernel, rfl, by decide +kernel, by decide +kernel⟩
def spCheckEx (C : Kd → Addr) : Sp := fun vs H Q _ => ∃ (t : Tr) (x : V), vs = [x] ∧ Is C H t x ∧ Q .non H
theorem ok_check_expression (T : Txt mg) (X : XT K mg C CE) (D : Dfn K mg "check_expression" s_check_expression ["value"]) : CalF P w K mg base 1 "check_expression" ["value"] (spCheckEx C) := by
  refine D.okF sc_check_expression (fun vs H Q E h => ?_) (fun f cdv A fr s H vs Q E hr h => ?_)
  · obtain ⟨t, x, rfl, _⟩ := h
    rfl
  · obtain ⟨t, x, rfl, ix, fin⟩ := h
    refine ⟨_, pss_one (ps_if (pt_not (pt_val (pe_callB call_isi rfl T.b_isinstance (by decide +kernel) (pa_cons (pv 0) (pa_cons (pe_glob (v := .ref CE) rfl X.mgE rfl) pa_nil)))))
        (pss_one ps_never)
        (pss_nil)), ?_⟩
    obtain ⟨a, fs, rfl, hh⟩ := ix.has
    obtain ⟨dx, ha⟩ := hh.at_
    exact ⟨_, rfl, _, _, _, _, true, rfl, .own CE, (X.own _).ty ha, X.kitE _, true, rfl, iteF fin⟩
def n_check_body : List Str := ["body", "index", "statement"]
theorem sc_check_body : FnScope n_check_body ["body"] (defScope s_check_body) := ⟨rfl, rfl, rfl, by decide +kernel, rfl, by decide +kernel, by decide +kernel⟩
def spCheckBody (K : PySem.W.Frag) (CK : Sk → Addr) : Sp := fun vs H Q _ => ∃ (b : List SR) (v : V), vs = [v] ∧ BIs K CK H b v ∧ ∀ H', Same H H' → Q .non H'
theorem ok_check_body (T : Txt mg) (S : ST2 K mg C CE CS CK) (D : Dfn K mg "check_body" s_check_body ["body"]) : CalF P w K mg base 1 "check_body" ["body"] (spCheckBody K CK) := by
  refine D.okF sc_check_body (fun vs H Q E h => ?_) (fun f cdv A fr s H vs Q E hr h => ?_)
  · obtain ⟨b, v, rfl, _⟩ := h
    rfl
  · obtain ⟨b, v, rfl, ⟨q, us, rfl, hq, ps⟩, fin⟩ := h
    obtain ⟨ty, ht, hk⟩ := seqT_ty hq
    refine ⟨_, pss_cons (ps_if (pt_not (pt_val (pe_callB call_isi rfl T.b_isinstance (by decide +kernel) (pa_cons (pv 0) (pa_cons (pe_bltn (v := .ty "tuple") (u := .type "tuple") rfl T.b_tuple (by decide +kernel) rfl) pa_nil)))))
        (pss_one ps_never)
        (pss_nil))
      (pss_one (ps_for PassesOwn.never rfl (pi_enumT rfl T.b_enumerate (pa_cons (pv 0) pa_nil)) (pg_tup rfl (pgs_cons (pg_name (i := 1) sc_check_body.nd rfl (.inl rfl)) (pgs_cons (pg_name (i := 2) sc_check_body.nd rfl (.inl rfl)) pgs_nil)))
        (pss_one (ps_if (pt_not (pt_val (pe_callB call_isi rfl T.b_isinstance (by decide +kernel) (pa_cons (pv 2) (pa_cons (pe_glob (v := .ref CS) rfl S.mgS rfl) pa_nil)))))
            (pss_one ps_never)
            (pss_nil))))), ?_⟩
    refine ⟨_, rfl, _, _, ty, _, true, rfl, .ty "tuple", ht, hk, true, rfl, iteF ?_⟩
    refine ⟨_, rfl, q, _, rfl, hq, for_it (walk_enumT (K := K) (a := q) (xs := us)) (fun i σ H1 => Same H H1 ∧ ∃ y1 y2 : Option V, σ = [some (.ref q), y1, y2]) ⟨Same.refl _, _, _, rfl⟩ (fun i σ H1 _ hp => seqT_same hq hp.1) (fun i x σ H1 H1' hi hp hy => ?_) (fun σ H1 hp => ?_)⟩
    · obtain ⟨s1, y1, y2, rfl⟩ := hp
      obtain ⟨Tp, a, b2, rfl, hT, rfl, ea, eb⟩ := hy
      have s2 := s1.trans (same_new (o := .tup [a, b2]) hT)
      obtain ⟨s, hs, is⟩ := pair_at ps eb
      obtain ⟨a3, dx, fs, rfl, h3⟩ := (is.same s2).ins
      refine ⟨Tp, _, rfl, .inl (.inl upd_same), rfl, _, _, rfl, _, _, rfl, rfl, ?_⟩
      exact ⟨_, rfl, _, _, _, _, true, rfl, .own CS, (S.own _).ty h3, S.kitS _, true, rfl, iteF ⟨s2, _, _, rfl⟩⟩
    · obtain ⟨s1, y1, y2, rfl⟩ := hp
      exact fin H1 s1
end
end Jo

set_option Elab.async false
set_option linter.all false
set_option maxRecDepth 100000
set_option maxHeartbeats 1000000
namespace Jo
open PySem PySem.Spec PyProof.Rows L2 ClX
/-- Statement's __init__ with its two defaults, empty tuples at e1 and e2 -/
structure StI (K : PySem.W.Frag) (CS : Addr) : Prop where
  ex : ∃ (f : Addr) (fd : FuncData) (e1 e2 : Addr), FunD K "__init__" "Statement.__init__" (defArgs m_Statement_init) (defBody m_Statement_init) (defScope m_Statement_init) [.ref e1, .ref e2] [] f fd ∧ ClFn K CS "__init__" f ∧ PySem.W.keepIn K (.ref f) = true ∧
    (∀ H, SqT K H e1 []) ∧ (∀ H, SqT K H e2 []) ∧ Binds K fd ["self", "line", "names", "bodies"] [] ∧ (∃ ds, Vals [V.ref e1, V.ref e2] ds ∧ Binds K fd ["self", "line", "names", "bodies"] ds) ∧ (∃ ds, Vals [V.ref e2] ds ∧ Binds K fd ["self", "line", "names", "bodies"] ds)
structure StC (P : Program) (w : World) (K : PySem.W.Frag) (mg : Str → Option Value) (base : Heap) (CS : Addr) (CK : Sk → Addr) : Prop where
  ex : ∃ (f : Addr) (fd : FuncData) (e1 e2 : Addr), FnOk P w K mg base CX0 3 f fd ["self", "line", "names", "bodies"] (spSt K CK) ∧ ClFn K CS "__init__" f ∧ PySem.W.keepIn K (.ref f) = true ∧
    (∀ H, SqT K H e1 []) ∧ (∀ H, SqT K H e2 []) ∧ Binds K fd ["self", "line", "names", "bodies"] [] ∧ (∃ ds, Vals [V.ref e1, V.ref e2] ds ∧ Binds K fd ["self", "line", "names", "bodies"] ds) ∧ (∃ ds, Vals [V.ref e2] ds ∧ Binds K fd ["self", "line", "names", "bodies"] ds)
theorem Lim.len {t : Tr} (l : Lim t) : t.text.length ≤ 640 := by
  have := Tr.text_len (fun x h => nm_len h) l.ok
  have := l.parts
  omega
theorem fits0 : Fits [] := ⟨Nat.zero_le _, (fun s h => by cases h), Nat.zero_le _, Nat.zero_le _⟩
section
variable {P : Program} {w : World} {K : PySem.W.Frag} {mg : Str → Option Value} {base : Heap} {C : Kd → Addr} {CE CS : Addr} {CK : Sk → Addr}
theorem stC_of (T : Txt mg) (S : ST2 K mg C CE CS CK) (I : StI K CS) (c_amount : CalF P w K mg base 1 "amount_of" ["bodies"] (spBods K CK fun bs => .int ((amtS bs : Nat) : Int))) (c_height : CalF P w K mg base 2 "height_of" ["bodies"] (spBods K CK fun bs => .int ((hgtS bs : Nat) : Int))) (c_lines : CalF P w K mg base 2 "lines_inside" ["bodies"] (spLines K CK)) :
    StC P w K mg base CS CK := by
  obtain ⟨f, fd, e1, e2, D, r⟩ := I.ex
  exact ⟨f, fd, e1, e2, ok_sti T S D c_amount c_height c_lines, r⟩
/-- what a kind's __init__ leads to -/
def Made (CK : Sk → Addr) (H : Hp) (a : Addr) (s : SR) (Q : VK) : Prop := ∀ G, Kp a H G → SIs CK G s (.ref a) → Q .non G
theorem ex_str (X : XT K mg C CE) {H : Hp} {t : Tr} {v : V} (i : Is C H t v) : ∃ (b dy q : Addr) (fs : List (Str × V)), v = .ref b ∧ H b = some (.ins (C t.kd) dy fs) ∧ fs.lookup ("names" : Str) = some (.ref q) := by
  obtain ⟨b, fs, e, hh⟩ := i.has
  obtain ⟨dy, hb⟩ := hh.at_
  obtain ⟨q, hq, _⟩ := hh.names
  exact ⟨b, dy, q, fs, e, hb, hq⟩
theorem l_assign : ("assign " : Str).length = 7 := by decide +kernel
theorem l_if : ("if " : Str).length = 3 := by decide +kernel
theorem l_while : ("while " : Str).length = 6 := by decide +kernel
theorem l_call : ("call " : Str).length = 5 := by decide +kernel
theorem l_return : ("return " : Str).length = 7 := by decide +kernel
theorem l_into : (" into " : Str).length = 6 := by decide +kernel
theorem l_sp : (" " : Str).length = 1 := by decide +kernel
theorem sc_assign : FnScope ["self", "name", "expression"] ["self", "name", "expression"] (defScope m_Assign_init) := ⟨rfl, rfl, rfl, by decide +kernel, rfl, by decide +kernel, by decide +kernel⟩
def spAssign (C : Kd → Addr) (CK : Sk → Addr) : Sp := fun vs H Q _ => ∃ (a dx : Addr) (x : Str) (t : Tr) (v : V), vs = [.ref a, .str x, v] ∧ H a = some (.ins (CK .assign) dx []) ∧ nmS x = true ∧ Is C H t v ∧ Lim t ∧ Made CK H a (mkS (.assign x t) []) Q
theorem ok_assign (T : Txt mg) (X : XT K mg C CE) (XM : ∀ k, PySem.W.mroIn K (C k) (.type "object") = some true) (O : Own P w K mg base 1 "__str__" ["self"] (IsK C) (spExStr C)) (S : ST2 K mg C CE CS CK) (c : StC P w K mg base CS CK) (c_ex : CalF P w K mg base 1 "check_expression" ["value"] (spCheckEx C)) (c_nm : CalF P w K mg base 2 "check_name" ["value"] spCheckName) (c_bd : CalF P w K mg base 1 "check_body" ["body"] (spCheckBody K CK)) (D : Mth K (CK .assign) "__init__" "Assign.__init__" m_Assign_init ["self", "name", "expression"]) : MtF P w K mg base 4 (CK .assign) "__init__" ["self", "name", "expression"] (spAssign C CK) := by
  refine D.okF sc_assign (fun vs H Q E h => ?_) (fun f cdv A fr s H vs Q E hr h => ?_)
  · obtain ⟨a, dx, x, t, v, rfl, _⟩ := h
    rfl
  · obtain ⟨a, dx, x, t, v, rfl, ha, nx, ix, lt, fin⟩ := h
    obtain ⟨f2, fd2, e1, e2, F, cf, kp, t1, t2, b0, ⟨ds2, rv2, bn2⟩, ds1, rv1, bn1⟩ := c.ex
    refine ⟨_, pss_cons (ps_expr (pe_cF c_nm hr (by decide) rfl (pa_cons (pv 1) pa_nil)))
      (pss_cons (ps_expr (pe_cF c_ex hr (by decide) rfl (pa_cons (pv 2) pa_nil)))
      (pss_cons (ps_expr (pe_cfn (pe_glob (v := .ref CS) rfl S.mgS rfl) cf F hr (by decide) kp bn1 rv1 (pa_cons (pv 0) (pa_cons (pe_joined (.cons pe_str (.cons (pe_fmt (pv 1)) (.cons pe_str (.cons (pe_fmtO (pv 2) O (fun A ⟨k, e⟩ => by rw [e]; exact ⟨X.fmt k, XM k⟩) (hr.mono (by decide))) .nil))))) (pa_cons (pe_fld (pv 2) rfl) pa_nil)))))
      (pss_cons (ps_fld (pv 0) (pv 1) rfl)
      (pss_one (ps_fld (pv 0) (pv 2) rfl))))), ?_⟩
    refine ⟨_, rfl, x, rfl, nx, fun H1 s1 => ?_⟩
    have ix2 := ix.same s1
    refine ⟨_, rfl, t, v, rfl, ix2, ?_⟩
    obtain ⟨b2, dy, q, fs, rfl, hb, hq1⟩ := ex_str X ix2
    have lx := nm_len nx
    have le := lt.len
    refine ⟨rfl, _, rfl, "assign ", rfl, by rw [empty_cat, l_assign]; exact small_len (by decide), _, rfl, .inl ⟨x, rfl, small_len (by omega), x, rfl, by rw [empty_cat, len_cat, l_assign]; exact small_len (by omega), " ", rfl, by rw [empty_cat, len_cat, len_cat, l_assign, l_sp]; exact small_len (by omega), _, rfl, b2, _, dy, fs, rfl, ⟨t.kd, rfl⟩, hb, t, .ref b2, rfl, ix2, ⟨_, rfl⟩, t.text, rfl, ?_, ?_⟩⟩
    · rw [empty_cat, len_cat, len_cat, len_cat, l_assign, l_sp]
      exact small_len (by omega)
    · rw [empty_cat]
      refine ⟨_, rfl, b2, _, dy, fs, _, rfl, hb, (X.own _).cl, X.nof _ (by decide +kernel), hq1, ?_⟩
      refine ⟨a, dx, e2, .assign, _, _, [], [], rfl, s1 _ _ ha, t2 _, .nil, fits0, fun G fs3 q kG aG hf SF nq hq => ?_⟩
      exact ⟨_, rfl, _, rfl, a, _, dx, _, rfl, aG, (S.own _).cl, S.na _ _ (by decide +kernel), Nat.lt_of_le_of_lt hf (by decide), _, rfl, _, rfl, a, _, dx, _, rfl, upd_same, (S.own _).cl, S.na _ _ (by decide +kernel), Nat.lt_of_le_of_lt (pf hf) (by decide), fin _ (kp_put (kp_put ((kp_of s1).trans kG))) (StF.is (StF.put (StF.put SF (by decide +kernel)) (by decide +kernel)) upd_same (by rw [upd_ne nq, upd_ne nq]; exact hq))⟩
theorem sc_return : FnScope ["self", "expression"] ["self", "expression"] (defScope m_Return_init) := ⟨rfl, rfl, rfl, by decide +kernel, rfl, by decide +kernel, by decide +kernel⟩
def spReturn (C : Kd → Addr) (CK : Sk → Addr) : Sp := fun vs H Q _ => ∃ (a dx : Addr) (t : Tr) (v : V), vs = [.ref a, v] ∧ H a = some (.ins (CK .ret) dx []) ∧ Is C H t v ∧ Lim t ∧ Made CK H a (mkS (.ret t) []) Q
theorem ok_return (T : Txt mg) (X : XT K mg C CE) (XM : ∀ k, PySem.W.mroIn K (C k) (.type "object") = some true) (O : Own P w K mg base 1 "__str__" ["self"] (IsK C) (spExStr C)) (S : ST2 K mg C CE CS CK) (c : StC P w K mg base CS CK) (c_ex : CalF P w K mg base 1 "check_expression" ["value"] (spCheckEx C)) (c_nm : CalF P w K mg base 2 "check_name" ["value"] spCheckName) (c_bd : CalF P w K mg base 1 "check_body" ["body"] (spCheckBody K CK)) (D : Mth K (CK .ret) "__init__" "Return.__init__" m_Return_init ["self", "expression"]) : MtF P w K mg base 4 (CK .ret) "__init__" ["self", "expression"] (spReturn C CK) := by
  refine D.okF sc_return (fun vs H Q E h => ?_) (fun f cdv A fr s H vs Q E hr h => ?_)
  · obtain ⟨a, dx, t, v, rfl, _⟩ := h
    rfl
  · obtain ⟨a, dx, t, v, rfl, ha, ix2, lt, fin⟩ := h
    obtain ⟨f2, fd2, e1, e2, F, cf, kp, t1, t2, b0, ⟨ds2, rv2, bn2⟩, ds1, rv1, bn1⟩ := c.ex
    refine ⟨_, pss_cons (ps_expr (pe_cF c_ex hr (by decide) rfl (pa_cons (pv 1) pa_nil)))
      (pss_cons (ps_expr (pe_cfn (pe_glob (v := .ref CS) rfl S.mgS rfl) cf F hr (by decide) kp bn1 rv1 (pa_cons (pv 0) (pa_cons (pe_joined (.cons pe_str (.cons (pe_fmtO (pv 1) O (fun A ⟨k, e⟩ => by rw [e]; exact ⟨X.fmt k, XM k⟩) (hr.mono (by decide))) .nil))) (pa_cons (pe_fld (pv 1) rfl) pa_nil)))))
      (pss_one (ps_fld (pv 0) (pv 1) rfl))), ?_⟩
    refine ⟨_, rfl, t, v, rfl, ix2, ?_⟩
    obtain ⟨b2, dy, q, fs, rfl, hb, hq1⟩ := ex_str X ix2
    have le := lt.len
    refine ⟨rfl, _, rfl, "return ", rfl, by rw [empty_cat, l_return]; exact small_len (by decide), _, rfl, b2, _, dy, fs, rfl, ⟨t.kd, rfl⟩, hb, t, .ref b2, rfl, ix2, ⟨_, rfl⟩, t.text, rfl, ?_, ?_⟩
    · rw [empty_cat, len_cat, l_return]
      exact small_len (by omega)
    · rw [empty_cat]
      refine ⟨_, rfl, b2, _, dy, fs, _, rfl, hb, (X.own _).cl, X.nof _ (by decide +kernel), hq1, ?_⟩
      refine ⟨a, dx, e2, .ret, _, _, [], [], rfl, ha, t2 _, .nil, fits0, fun G fs3 q kG aG hf SF nq hq => ?_⟩
      exact ⟨_, rfl, _, rfl, a, _, dx, _, rfl, aG, (S.own _).cl, S.na _ _ (by decide +kernel), Nat.lt_of_le_of_lt hf (by decide), fin _ (kp_put (kG)) (StF.is (StF.put SF (by decide +kernel)) upd_same (by rw [upd_ne nq]; exact hq))⟩
theorem sc_fail : FnScope ["self"] ["self"] (defScope m_Fail_init) := ⟨rfl, rfl, rfl, by decide +kernel, rfl, by decide +kernel, by decide +kernel⟩
def spFail (CK : Sk → Addr) : Sp := fun vs H Q _ => ∃ (a dx : Addr), vs = [.ref a] ∧ H a = some (.ins (CK .fail) dx []) ∧ Made CK H a (mkS .fail []) Q
theorem ok_fail (S : ST2 K mg C CE CS CK) (c : StC P w K mg base CS CK) (D : Mth K (CK .fail) "__init__" "Fail.__init__" m_Fail_init ["self"]) : MtF P w K mg base 4 (CK .fail) "__init__" ["self"] (spFail CK) := by
  refine D.okF sc_fail (fun vs H Q E h => ?_) (fun f cdv A fr s H vs Q E hr h => ?_)
  · obtain ⟨a, dx, rfl, _⟩ := h
    rfl
  · obtain ⟨a, dx, rfl, ha, fin⟩ := h
    obtain ⟨f2, fd2, e1, e2, F, cf, kp, t1, t2, b0, ⟨ds2, rv2, bn2⟩, ds1, rv1, bn1⟩ := c.ex
    refine ⟨_, pss_one (ps_expr (pe_cfn (pe_glob (v := .ref CS) rfl S.mgS rfl) cf F hr (by decide) kp bn2 rv2 (pa_cons (pv 0) (pa_cons pe_str pa_nil)))), ?_⟩
    exact ⟨rfl, _, rfl, a, dx, e2, .fail, _, _, [], [], rfl, ha, t2 _, .nil, fits0, fun G fs3 q kG aG hf SF nq hq => fin _ kG (SF.is aG hq)⟩
theorem sc_while : FnScope ["self", "test", "body"] ["self", "test", "body"] (defScope m_While_init) := ⟨rfl, rfl, rfl, by decide +kernel, rfl, by decide +kernel, by decide +kernel⟩
def spWhile (K : PySem.W.Frag) (C : Kd → Addr) (CK : Sk → Addr) : Sp := fun vs H Q _ => ∃ (a dx : Addr) (t : Tr) (v v1 : V) (b1 : List SR), vs = [.ref a, v, v1] ∧ H a = some (.ins (CK .whl) dx []) ∧ Is C H t v ∧ Lim t ∧ BIs K CK H b1 v1 ∧ Fits [b1] ∧ Made CK H a (mkS (.whl t) [b1]) Q
theorem ok_while (T : Txt mg) (X : XT K mg C CE) (XM : ∀ k, PySem.W.mroIn K (C k) (.type "object") = some true) (O : Own P w K mg base 1 "__str__" ["self"] (IsK C) (spExStr C)) (S : ST2 K mg C CE CS CK) (c : StC P w K mg base CS CK) (c_ex : CalF P w K mg base 1 "check_expression" ["value"] (spCheckEx C)) (c_nm : CalF P w K mg base 2 "check_name" ["value"] spCheckName) (c_bd : CalF P w K mg base 1 "check_body" ["body"] (spCheckBody K CK)) (D : Mth K (CK .whl) "__init__" "While.__init__" m_While_init ["self", "test", "body"]) : MtF P w K mg base 4 (CK .whl) "__init__" ["self", "test", "body"] (spWhile K C CK) := by
  refine D.okF sc_while (fun vs H Q E h => ?_) (fun f cdv A fr s H vs Q E hr h => ?_)
  · obtain ⟨a, dx, t, v, v1, b1, rfl, _⟩ := h
    rfl
  · obtain ⟨a, dx, t, v, v1, b1, rfl, ha, ix, lt, i1, ft, fin⟩ := h
    obtain ⟨f2, fd2, e1, e2, F, cf, kp, t1, t2, b0, ⟨ds2, rv2, bn2⟩, ds1, rv1, bn1⟩ := c.ex
    refine ⟨_, pss_cons (ps_expr (pe_cF c_ex hr (by decide) rfl (pa_cons (pv 1) pa_nil)))
      (pss_cons (ps_expr (pe_cF c_bd hr (by decide) rfl (pa_cons (pv 2) pa_nil)))
      (pss_cons (ps_expr (pe_cfn (pe_glob (v := .ref CS) rfl S.mgS rfl) cf F hr (by decide) kp b0 .nil (pa_cons (pv 0) (pa_cons (pe_joined (.cons pe_str (.cons (pe_fmtO (pv 1) O (fun A ⟨k, e⟩ => by rw [e]; exact ⟨X.fmt k, XM k⟩) (hr.mono (by decide))) .nil))) (pa_cons (pe_fld (pv 1) rfl) (pa_cons (pe_tup (pa_cons (pv 2) pa_nil)) pa_nil))))))
      (pss_cons (ps_fld (pv 0) (pv 1) rfl)
      (pss_one (ps_fld (pv 0) (pv 2) rfl))))), ?_⟩
    refine ⟨_, rfl, t, v, rfl, ix, ?_⟩
    refine ⟨_, rfl, b1, v1, rfl, i1, fun H1 s1 => ?_⟩
    have ix2 := ix.same s1
    obtain ⟨b2, dy, q, fs, rfl, hb, hq1⟩ := ex_str X ix2
    have le := lt.len
    refine ⟨rfl, _, rfl, "while ", rfl, by rw [empty_cat, l_while]; exact small_len (by decide), _, rfl, b2, _, dy, fs, rfl, ⟨t.kd, rfl⟩, hb, t, .ref b2, rfl, ix2, ⟨_, rfl⟩, t.text, rfl, ?_, ?_⟩
    · rw [empty_cat, len_cat, l_while]
      exact small_len (by omega)
    · rw [empty_cat]
      refine ⟨_, rfl, b2, _, dy, fs, _, rfl, hb, (X.own _).cl, X.nof _ (by decide +kernel), hq1, ?_⟩
      refine ⟨_, rfl, (show 1 ≤ sizeLine by decide), fun B nB => ?_⟩
      have s2 := s1.trans (same_new (o := .tup [v1]) nB)
      refine ⟨a, dx, B, .whl, _, _, [b1], [v1], rfl, s2 _ _ ha, .inl (.inl upd_same), .cons (i1.same s2) .nil, ft, fun G fs3 q kG aG hf SF nq hq => ?_⟩
      exact ⟨_, rfl, _, rfl, a, _, dx, _, rfl, aG, (S.own _).cl, S.na _ _ (by decide +kernel), Nat.lt_of_le_of_lt hf (by decide), _, rfl, _, rfl, a, _, dx, _, rfl, upd_same, (S.own _).cl, S.na _ _ (by decide +kernel), Nat.lt_of_le_of_lt (pf hf) (by decide), fin _ (kp_put (kp_put ((kp_of s2).trans kG))) (StF.is (StF.put (StF.put SF (by decide +kernel)) (by decide +kernel)) upd_same (by rw [upd_ne nq, upd_ne nq]; exact hq))⟩
theorem sc_if : FnScope ["self", "test", "body", "otherwise"] ["self", "test", "body", "otherwise"] (defScope m_If_init) := ⟨rfl, rfl, rfl, by decide +kernel, rfl, by decide +kernel, by decide +kernel⟩
def spIf (K : PySem.W.Frag) (C : Kd → Addr) (CK : Sk → Addr) : Sp := fun vs H Q _ => ∃ (a dx : Addr) (t : Tr) (v v1 v2 : V) (b1 b2 : List SR), vs = [.ref a, v, v1, v2] ∧ H a = some (.ins (CK .ifs) dx []) ∧ Is C H t v ∧ Lim t ∧ BIs K CK H b1 v1 ∧ BIs K CK H b2 v2 ∧ Fits [b1, b2] ∧ Made CK H a (mkS (.ifs t) [b1, b2]) Q
theorem ok_if (T : Txt mg) (X : XT K mg C CE) (XM : ∀ k, PySem.W.mroIn K (C k) (.type "object") = some true) (O : Own P w K mg base 1 "__str__" ["self"] (IsK C) (spExStr C)) (S : ST2 K mg C CE CS CK) (c : StC P w K mg base CS CK) (c_ex : CalF P w K mg base 1 "check_expression" ["value"] (spCheckEx C)) (c_nm : CalF P w K mg base 2 "check_name" ["value"] spCheckName) (c_bd : CalF P w K mg base 1 "check_body" ["body"] (spCheckBody K CK)) {f : Addr} {fd : FuncData} {dvs : List V} (D : FunD K "__init__" "If.__init__" (defArgs m_If_init) (defBody m_If_init) (defScope m_If_init) dvs [] f fd) : FnOk P w K mg base CX0 4 f fd ["self", "test", "body", "otherwise"] (spIf K C CK) := by
  refine D.ok sc_if (fun vs H Q E h => ?_) (fun cdv A fr s H vs Q E hr h => ?_)
  · obtain ⟨a, dx, t, v, v1, v2, b1, b2, rfl, _⟩ := h
    rfl
  · obtain ⟨a, dx, t, v, v1, v2, bb1, bb2, rfl, ha, ix, lt, i1, i2, ft, fin⟩ := h
    obtain ⟨f2, fd2, e1, e2, F, cf, kp, t1, t2, b0, ⟨ds2, rv2, bn2⟩, ds1, rv1, bn1⟩ := c.ex
    refine ⟨_, pss_cons (ps_expr (pe_cF c_ex hr (by decide) rfl (pa_cons (pv 1) pa_nil)))
      (pss_cons (ps_expr (pe_cF c_bd hr (by decide) rfl (pa_cons (pv 2) pa_nil)))
      (pss_cons (ps_expr (pe_cF c_bd hr (by decide) rfl (pa_cons (pv 3) pa_nil)))
      (pss_cons (ps_expr (pe_cfn (pe_glob (v := .ref CS) rfl S.mgS rfl) cf F hr (by decide) kp b0 .nil (pa_cons (pv 0) (pa_cons (pe_joined (.cons pe_str (.cons (pe_fmtO (pv 1) O (fun A ⟨k, e⟩ => by rw [e]; exact ⟨X.fmt k, XM k⟩) (hr.mono (by decide))) .nil))) (pa_cons (pe_fld (pv 1) rfl) (pa_cons (pe_tup (pa_cons (pv 2) (pa_cons (pv 3) pa_nil))) pa_nil))))))
      (pss_cons (ps_fld (pv 0) (pv 1) rfl)
      (pss_cons (ps_fld (pv 0) (pv 2) rfl)
      (pss_one (ps_fld (pv 0) (pv 3) rfl))))))), ?_⟩
    refine ⟨_, rfl, t, v, rfl, ix, ?_⟩
    refine ⟨_, rfl, bb1, v1, rfl, i1, fun H0 s0 => ?_⟩
    refine ⟨_, rfl, bb2, v2, rfl, i2.same s0, fun H1 s01 => ?_⟩
    have s1 := s0.trans s01
    have ix2 := ix.same s1
    obtain ⟨b2, dy, q, fs, rfl, hb, hq1⟩ := ex_str X ix2
    have le := lt.len
    refine ⟨rfl, _, rfl, "if ", rfl, by rw [empty_cat, l_if]; exact small_len (by decide), _, rfl, b2, _, dy, fs, rfl, ⟨t.kd, rfl⟩, hb, t, .ref b2, rfl, ix2, ⟨_, rfl⟩, t.text, rfl, ?_, ?_⟩
    · rw [empty_cat, len_cat, l_if]
      exact small_len (by omega)
    · rw [empty_cat]
      refine ⟨_, rfl, b2, _, dy, fs, _, rfl, hb, (X.own _).cl, X.nof _ (by decide +kernel), hq1, ?_⟩
      refine ⟨_, rfl, _, rfl, (show 2 ≤ sizeLine by decide), fun B nB => ?_⟩
      have s2 := s1.trans (same_new (o := .tup [v1, v2]) nB)
      refine ⟨a, dx, B, .ifs, _, _, [bb1, bb2], [v1, v2], rfl, s2 _ _ ha, .inl (.inl upd_same), .cons (i1.same s2) (.cons (i2.same s2) .nil), ft, fun G fs3 q kG aG hf SF nq hq => ?_⟩
      exact ⟨_, rfl, _, rfl, a, _, dx, _, rfl, aG, (S.own _).cl, S.na _ _ (by decide +kernel), Nat.lt_of_le_of_lt hf (by decide), _, rfl, _, rfl, a, _, dx, _, rfl, upd_same, (S.own _).cl, S.na _ _ (by decide +kernel), Nat.lt_of_le_of_lt (pf hf) (by decide), _, rfl, _, rfl, a, _, dx, _, rfl, upd_same, (S.own _).cl, S.na _ _ (by decide +kernel), Nat.lt_of_le_of_lt (pf (pf hf)) (by decide), fin _ (kp_put (kp_put (kp_put ((kp_of s2).trans kG)))) (StF.is (StF.put (StF.put (StF.put SF (by decide +kernel)) (by decide +kernel)) (by decide +kernel)) upd_same (by rw [upd_ne nq, upd_ne nq, upd_ne nq]; exact hq))⟩
theorem sc_attempt : FnScope ["self", "body", "handler"] ["self", "body", "handler"] (defScope m_Attempt_init) := ⟨rfl, rfl, rfl, by decide +kernel, rfl, by decide +kernel, by decide +kernel⟩
def spAttempt (K : PySem.W.Frag) (CK : Sk → Addr) : Sp := fun vs H Q _ => ∃ (a dx : Addr) (v1 v2 : V) (b1 b2 : List SR), vs = [.ref a, v1, v2] ∧ H a = some (.ins (CK .att) dx []) ∧ BIs K CK H b1 v1 ∧ BIs K CK H b2 v2 ∧ Fits [b1, b2] ∧ Made CK H a (mkS .att [b1, b2]) Q
theorem ok_attempt (S : ST2 K mg C CE CS CK) (c : StC P w K mg base CS CK) (c_bd : CalF P w K mg base 1 "check_body" ["body"] (spCheckBody K CK)) {f : Addr} {fd : FuncData} {dvs : List V} (D : FunD K "__init__" "Attempt.__init__" (defArgs m_Attempt_init) (defBody m_Attempt_init) (defScope m_Attempt_init) dvs [] f fd) : FnOk P w K mg base CX0 4 f fd ["self", "body", "handler"] (spAttempt K CK) := by
  refine D.ok sc_attempt (fun vs H Q E h => ?_) (fun cdv A fr s H vs Q E hr h => ?_)
  · obtain ⟨a, dx, v1, v2, b1, b2, rfl, _⟩ := h
    rfl
  · obtain ⟨a, dx, v1, v2, bb1, bb2, rfl, ha, i1, i2, ft, fin⟩ := h
    obtain ⟨f2, fd2, e1, e2, F, cf, kp, t1, t2, b0, ⟨ds2, rv2, bn2⟩, ds1, rv1, bn1⟩ := c.ex
    refine ⟨_, pss_cons (ps_expr (pe_cF c_bd hr (by decide) rfl (pa_cons (pv 1) pa_nil)))
      (pss_cons (ps_expr (pe_cF c_bd hr (by decide) rfl (pa_cons (pv 2) pa_nil)))
      (pss_cons (ps_expr (pe_cfn (pe_glob (v := .ref CS) rfl S.mgS rfl) cf F hr (by decide) kp b0 .nil (pa_cons (pv 0) (pa_cons pe_str (pa_cons (pe_tup pa_nil) (pa_cons (pe_tup (pa_cons (pv 1) (pa_cons (pv 2) pa_nil))) pa_nil))))))
      (pss_cons (ps_fld (pv 0) (pv 1) rfl)
      (pss_one (ps_fld (pv 0) (pv 2) rfl))))), ?_⟩
    refine ⟨_, rfl, bb1, v1, rfl, i1, fun H0 s0 => ?_⟩
    refine ⟨_, rfl, bb2, v2, rfl, i2.same s0, fun H1 s01 => ?_⟩
    have s1 := s0.trans s01
    refine ⟨rfl, _, rfl, (show 0 ≤ sizeLine by decide), fun B0 nB0 => ?_⟩
    refine ⟨_, rfl, _, rfl, (show 2 ≤ sizeLine by decide), fun B nB => ?_⟩
    have s2 := (s1.trans (same_new (o := .tup []) nB0)).trans (same_new (o := .tup [v1, v2]) nB)
    refine ⟨a, dx, B, .att, _, _, [bb1, bb2], [v1, v2], rfl, s2 _ _ ha, .inl (.inl upd_same), .cons (i1.same s2) (.cons (i2.same s2) .nil), ft, fun G fs3 q kG aG hf SF nq hq => ?_⟩
    exact ⟨_, rfl, _, rfl, a, _, dx, _, rfl, aG, (S.own _).cl, S.na _ _ (by decide +kernel), Nat.lt_of_le_of_lt hf (by decide), _, rfl, _, rfl, a, _, dx, _, rfl, upd_same, (S.own _).cl, S.na _ _ (by decide +kernel), Nat.lt_of_le_of_lt (pf hf) (by decide), fin _ (kp_put (kp_put ((kp_of s2).trans kG))) (StF.is (StF.put (StF.put SF (by decide +kernel)) (by decide +kernel)) upd_same (by rw [upd_ne nq, upd_ne nq]; exact hq))⟩
def ovS : Option Str → V
  | none => .non
  | some y => .str y
theorem sc_call : FnScope ["self", "name", "expression", "into", "line"] ["self", "name", "expression", "into"] (defScope m_Call_init) := ⟨rfl, rfl, rfl, by decide +kernel, rfl, by decide +kernel, by decide +kernel⟩
def spCall (C : Kd → Addr) (CK : Sk → Addr) : Sp := fun vs H Q _ => ∃ (a dx : Addr) (x : Str) (t : Tr) (v : V) (o : Option Str), vs = [.ref a, .str x, v, ovS o] ∧ H a = some (.ins (CK .call) dx []) ∧ nmS x = true ∧ (∀ y, o = some y → nmS y = true) ∧ Is C H t v ∧ Lim t ∧ Made CK H a (mkS (.call x t o) []) Q
theorem ok_call (T : Txt mg) (X : XT K mg C CE) (XM : ∀ k, PySem.W.mroIn K (C k) (.type "object") = some true) (O : Own P w K mg base 1 "__str__" ["self"] (IsK C) (spExStr C)) (S : ST2 K mg C CE CS CK) (c : StC P w K mg base CS CK) (c_ex : CalF P w K mg base 1 "check_expression" ["value"] (spCheckEx C)) (c_nm : CalF P w K mg base 2 "check_name" ["value"] spCheckName) (c_bd : CalF P w K mg base 1 "check_body" ["body"] (spCheckBody K CK)) {f : Addr} {fd : FuncData} {dvs : List V} (D : FunD K "__init__" "Call.__init__" (defArgs m_Call_init) (defBody m_Call_init) (defScope m_Call_init) dvs [] f fd) : FnOk P w K mg base CX0 4 f fd ["self", "name", "expression", "into"] (spCall C CK) := by
  refine D.ok sc_call (fun vs H Q E h => ?_) (fun cdv A fr s H vs Q E hr h => ?_)
  · obtain ⟨a, dx, x, t, v, o, rfl, _⟩ := h
    rfl
  · obtain ⟨a, dx, x, t, v, o, rfl, ha, nx, no, ix, lt, fin⟩ := h
    obtain ⟨f2, fd2, e1, e2, F, cf, kp, t1, t2, b0, ⟨ds2, rv2, bn2⟩, ds1, rv1, bn1⟩ := c.ex
    refine ⟨_, pss_cons (ps_expr (pe_cF c_nm hr (by decide) rfl (pa_cons (pv 1) pa_nil)))
      (pss_cons (ps_expr (pe_cF c_ex hr (by decide) rfl (pa_cons (pv 2) pa_nil)))
      (pss_cons (ps_set (i := 4) sc_call.nd rfl (.inl rfl) (pe_joined (.cons pe_str (.cons (pe_fmt (pv 1)) (.cons pe_str (.cons (pe_fmtO (pv 2) O (fun A ⟨k, e⟩ => by rw [e]; exact ⟨X.fmt k, XM k⟩) (hr.mono (by decide))) .nil))))))
      (pss_cons (ps_if (pt_cmpR op_notN (pv 3) pe_non (nomark _))
          (pss_cons (ps_expr (pe_cF c_nm hr (by decide) rfl (pa_cons (pv 3) pa_nil)))
          (pss_one (ps_set (i := 4) sc_call.nd rfl (.inl rfl) (pe_joined (.cons (pe_fmt (pv 4)) (.cons pe_str (.cons (pe_fmt (pv 3)) .nil)))))))
          (pss_nil))
      (pss_cons (ps_expr (pe_cfn (pe_glob (v := .ref CS) rfl S.mgS rfl) cf F hr (by decide) kp bn1 rv1 (pa_cons (pv 0) (pa_cons (pv 4) (pa_cons (pe_fld (pv 2) rfl) pa_nil)))))
      (pss_cons (ps_fld (pv 0) (pv 1) rfl)
      (pss_cons (ps_fld (pv 0) (pv 2) rfl)
      (pss_one (ps_fld (pv 0) (pv 3) rfl)))))))), ?_⟩
    refine ⟨_, rfl, x, rfl, nx, fun H1 s1 => ?_⟩
    have ix2 := ix.same s1
    refine ⟨_, rfl, t, v, rfl, ix2, ?_⟩
    obtain ⟨b2, dy, q, fs, rfl, hb, hq1⟩ := ex_str X ix2
    have lx := nm_len nx
    have le := lt.len
    refine ⟨"call ", rfl, by rw [empty_cat, l_call]; exact small_len (by decide), _, rfl, .inl ⟨x, rfl, small_len (by omega), x, rfl, by rw [empty_cat, len_cat, l_call]; exact small_len (by omega), " ", rfl, by rw [empty_cat, len_cat, len_cat, l_call, l_sp]; exact small_len (by omega), _, rfl, b2, _, dy, fs, rfl, ⟨t.kd, rfl⟩, hb, t, .ref b2, rfl, ix2, ⟨_, rfl⟩, t.text, rfl, ?_, ?_⟩⟩
    · rw [empty_cat, len_cat, len_cat, len_cat, l_call, l_sp]
      exact small_len (by omega)
    · rw [empty_cat]
      cases o with
      | none =>
        refine ⟨_, rfl, rfl, _, rfl, iteF ?_⟩
        refine ⟨rfl, _, rfl, _, rfl, _, rfl, b2, _, dy, fs, _, rfl, hb, (X.own _).cl, X.nof _ (by decide +kernel), hq1, ?_⟩
        refine ⟨a, dx, e2, .call, _, _, [], [], rfl, s1 _ _ ha, t2 _, .nil, fits0, fun G fs3 q kG aG hf SF nq hq => ?_⟩
        exact ⟨_, rfl, _, rfl, a, _, dx, _, rfl, aG, (S.own _).cl, S.na _ _ (by decide +kernel), Nat.lt_of_le_of_lt hf (by decide), _, rfl, _, rfl, a, _, dx, _, rfl, upd_same, (S.own _).cl, S.na _ _ (by decide +kernel), Nat.lt_of_le_of_lt (pf hf) (by decide), _, rfl, _, rfl, a, _, dx, _, rfl, upd_same, (S.own _).cl, S.na _ _ (by decide +kernel), Nat.lt_of_le_of_lt (pf (pf hf)) (by decide), fin _ (kp_put (kp_put (kp_put ((kp_of s1).trans kG)))) (StF.is (StF.put (StF.put (StF.put SF (by decide +kernel)) (by decide +kernel)) (by decide +kernel)) upd_same (by rw [upd_ne nq, upd_ne nq, upd_ne nq]; exact hq))⟩
      | some y =>
        have ny := no y rfl
        have ly := nm_len ny
        refine ⟨_, rfl, rfl, _, rfl, iteT ?_⟩
        refine ⟨_, rfl, y, rfl, ny, fun H2 s2 => ?_⟩
        have hb := s2 _ _ hb
        refine ⟨_, rfl, .inl ⟨_, rfl, by rw [len_cat, len_cat, len_cat, l_call, l_sp]; exact small_len (by omega), _, rfl, by rw [empty_cat, len_cat, len_cat, len_cat, l_call, l_sp]; exact small_len (by omega), " into ", rfl, by rw [empty_cat, len_cat, len_cat, len_cat, len_cat, l_call, l_sp, l_into]; exact small_len (by omega), _, rfl, .inl ⟨y, rfl, small_len (by omega), y, rfl, by rw [empty_cat, len_cat, len_cat, len_cat, len_cat, len_cat, l_call, l_sp, l_into]; exact small_len (by omega), ?_⟩⟩⟩
        rw [empty_cat]
        refine ⟨rfl, _, rfl, _, rfl, _, rfl, b2, _, dy, fs, _, rfl, hb, (X.own _).cl, X.nof _ (by decide +kernel), hq1, ?_⟩
        refine ⟨a, dx, e2, .call, _, _, [], [], rfl, s2 _ _ (s1 _ _ ha), t2 _, .nil, fits0, fun G fs3 q kG aG hf SF nq hq => ?_⟩
        exact ⟨_, rfl, _, rfl, a, _, dx, _, rfl, aG, (S.own _).cl, S.na _ _ (by decide +kernel), Nat.lt_of_le_of_lt hf (by decide), _, rfl, _, rfl, a, _, dx, _, rfl, upd_same, (S.own _).cl, S.na _ _ (by decide +kernel), Nat.lt_of_le_of_lt (pf hf) (by decide), _, rfl, _, rfl, a, _, dx, _, rfl, upd_same, (S.own _).cl, S.na _ _ (by decide +kernel), Nat.lt_of_le_of_lt (pf (pf hf)) (by decide), fin _ (kp_put (kp_put (kp_put ((kp_of (s1.trans s2)).trans kG)))) (StF.is (StF.put (StF.put (StF.put SF (by decide +kernel)) (by decide +kernel)) (by decide +kernel)) upd_same (by rw [upd_ne nq, upd_ne nq, upd_ne nq]; exact hq))⟩
end
end Jo

set_option Elab.async false
set_option linter.all false
set_option maxRecDepth 100000
set_option maxHeartbeats 1000000
namespace Jo
open PySem PySem.Spec PyProof.Rows L2 ClX
theorem eqv_tup_strs (xs ys : List Str) : PyData.eqv (.tuple (xs.map .str)) (.tuple (ys.map .str)) = decide (xs = ys) := eqv_strs xs ys
theorem shapedT_strs {xs : List Str} (h : ∀ x ∈ xs, PyData.strOk x = true) : SeqAt.shaped (.tuple (xs.map .str)) = true := by
  show (PyData.canLayAll0 (xs.map .str) && decide (PyData.depthAll (xs.map .str) + 1 ≤ 64)) = true
  rw [lay_strs h, depth_strs]
  rfl
theorem sum_le_mul : ∀ (l : List Nat) (b : Nat), (∀ x ∈ l, x ≤ b) → l.sum ≤ l.length * b
  | [], b, _ => Nat.zero_le _
  | x :: l, b, h => by
    have h1 := sum_le_mul l b fun y hy => h y (List.mem_cons_of_mem _ hy)
    have h2 := h x (List.mem_cons_self ..)
    rw [List.sum_cons, List.length_cons, Nat.add_mul]
    omega
def shownS (s : SR) : Str := (("Statement(" : Str) ++ s.line) ++ ")"
def textS (s : SR) : Str := Txt.join "\n" s.lines
theorem SR.Fine.size {s : SR} (h : s.Fine) : (s.lines.map (·.length)).sum + s.lines.length * ("\n" : Str).length ≤ 820000 := by
  have h1 := h.many
  have h2 := h.amount
  have h3 : (s.lines.map (·.length)).sum ≤ s.lines.length * 1016 := by
    have := sum_le_mul (s.lines.map (·.length)) 1016 fun x hx => by
      obtain ⟨l, hl, rfl⟩ := List.mem_map.mp hx
      have h4 := h.long l hl
      have h5 := h.height
      omega
    rw [List.length_map] at this
    exact this
  have c : ("\n" : Str).length = 1 := by decide +kernel
  rw [c]
  have h6 : s.lines.length * 1016 ≤ 800 * 1016 := Nat.mul_le_mul_right _ (by omega)
  omega
theorem SR.Fine.lineLen {s : SR} (h : s.Fine) : s.line.length ≤ 1016 := by
  obtain ⟨r, hr⟩ := h.first
  have h4 := h.long s.line (by rw [hr]; exact List.mem_cons_self ..)
  have h5 := h.height
  omega
/-- what the kinds take over from their base class -/
structure XH2 (K : PySem.W.Frag) (CK : Sk → Addr) (CS : Addr) : Prop where
  inh : ∀ m ∈ (["__eq__", "__str__", "__repr__"] : List Str), ∀ f, Meth K CS m f → ∀ k, PySem.W.findIn K (.ref (CK k)) m = some (some (.ref f))
abbrev IsS (CK : Sk → Addr) : Addr → Prop := fun A => ∃ k, A = CK k
theorem own2_of {P : Program} {w : World} {K : PySem.W.Frag} {mg : Str → Option Value} {base : Heap} {CK : Sk → Addr} {CS : Addr} {k : Nat} {m : Str} {ps : List Str} {sp : Sp} (h : XH2 K CK CS) (hm : m ∈ (["__eq__", "__str__", "__repr__"] : List Str)) (c : MtF P w K mg base k CS m ps sp) : Own P w K mg base k m ps (IsS CK) sp := by
  obtain ⟨f, fd, F, mt, b, _⟩ := c.ex
  exact ⟨f, fd, F, b, mt.fn, fun A ⟨k, e⟩ => by rw [e]; exact h.inh m hm f mt k⟩
/-- what __eq__ sees on the right -/
def EqS (K : PySem.W.Frag) (CK : Sk → Addr) (CS : Addr) (H : Hp) (s : SR) (y : V) (b : Bool) : Prop :=
  (∃ s2, SIs CK H s2 y ∧ s2.Fine ∧ b = decide (s.lines = s2.lines)) ∨ (∃ ty, TyX K H y ty ∧ PySem.W.kitOne K ty (.ref CS) = some false ∧ b = false)
section
variable {P : Program} {w : World} {K : PySem.W.Frag} {mg : Str → Option Value} {base : Heap} {C : Kd → Addr} {CE CS : Addr} {CK : Sk → Addr}
theorem sc_steq : FnScope ["self", "other"] ["self", "other"] (defScope m_Statement_eq) := ⟨rfl, rfl, rfl, by decide +kernel, rfl, by decide +kernel, by decide +kernel⟩
def spStEq (K : PySem.W.Frag) (CK : Sk → Addr) (CS : Addr) : Sp := fun vs H Q _ => ∃ (s : SR) (x y : V) (b : Bool), vs = [x, y] ∧ SIs CK H s x ∧ s.Fine ∧ EqS K CK CS H s y b ∧ Q (.bl b) H
theorem ok_steq (T : Txt mg) (S : ST2 K mg C CE CS CK) (D : Mth K CS "__eq__" "Statement.__eq__" m_Statement_eq ["self", "other"]) : MtF P w K mg base 1 CS "__eq__" ["self", "other"] (spStEq K CK CS) := by
  refine D.okF sc_steq (fun vs H Q E h => ?_) (fun f cdv A fr s H vs Q E hr h => ?_)
  · obtain ⟨s, x, y, b, rfl, _⟩ := h
    rfl
  · obtain ⟨s, x, y, b, rfl, ix, fx, hy, fin⟩ := h
    refine ⟨_, pss_one (ps_ret (pe_and (pe_callB call_isi rfl T.b_isinstance (by decide +kernel) (pa_cons (pv 1) (pa_cons (pe_glob (v := .ref CS) rfl S.mgS rfl) pa_nil))) (pe_one (pe_cmpR (op_eqD hr.units) (pe_fld (pv 0) rfl) (pe_fld (pv 1) rfl) (nomark _))))), ?_⟩
    obtain ⟨a, dx, q, fs, rfl, h1, h2, h3, h4, h5⟩ := ix
    rcases hy with ⟨s2, iy, fy, rfl⟩ | ⟨ty, g1, g2, rfl⟩
    · obtain ⟨a2, dx2, q2, fs2, rfl, e1, e2, e3, e4, e5⟩ := iy
      refine ⟨_, rfl, _, _, _, _, true, rfl, .own CS, (S.own _).ty e1, S.kitS _, true, rfl, iteT ?_⟩
      refine ⟨_, rfl, a, _, dx, fs, _, rfl, h1, (S.own _).cl, S.na _ _ (by decide +kernel), h4, _, rfl, a2, _, dx2, fs2, _, rfl, e1, (S.own _).cl, S.na _ _ (by decide +kernel), e4, ?_⟩
      refine ⟨.tuple (s.lines.map PyData.str), .tuple (s2.lines.map PyData.str), .tup (.inl (.inl h5)) (dp_strs _), .tup (.inl (.inl e5)) (dp_strs _), shapedT_strs fx.ok, shapedT_strs fy.ok, ?_⟩
      rw [eqv_tup_strs]
      exact fin
    · exact ⟨_, rfl, _, _, _, _, false, rfl, .own CS, g1, g2, false, rfl, iteF fin⟩
theorem sc_ststr : FnScope ["self"] ["self"] (defScope m_Statement_str) := ⟨rfl, rfl, rfl, by decide +kernel, rfl, by decide +kernel, by decide +kernel⟩
def spStStr (CK : Sk → Addr) : Sp := fun vs H Q _ => ∃ (s : SR) (x : V), vs = [x] ∧ SIs CK H s x ∧ s.Fine ∧ Q (.str (textS s)) H
theorem ok_ststr (T : Txt mg) (S : ST2 K mg C CE CS CK) (D : Mth K CS "__str__" "Statement.__str__" m_Statement_str ["self"]) : MtF P w K mg base 1 CS "__str__" ["self"] (spStStr CK) := by
  refine D.okF sc_ststr (fun vs H Q E h => ?_) (fun f cdv A fr s H vs Q E hr h => ?_)
  · obtain ⟨s, x, rfl, _⟩ := h
    rfl
  · obtain ⟨s, x, rfl, ix, fx, fin⟩ := h
    refine ⟨_, pss_one (ps_ret (pe_join pe_str (pe_fld (pv 0) rfl))), ?_⟩
    obtain ⟨a, dx, q, fs, rfl, h1, h2, h3, h4, h5⟩ := ix
    have sz := fx.size
    exact ⟨⟨_, rfl⟩, _, rfl, a, _, dx, fs, _, rfl, h1, (S.own _).cl, S.na _ _ (by decide +kernel), h4, "\n", q, s.lines, rfl, rfl, .inr (.inl (.inl h5)), Nat.le_trans sz (by decide), fin⟩
theorem sc_strepr : FnScope ["self"] ["self"] (defScope m_Statement_repr) := ⟨rfl, rfl, rfl, by decide +kernel, rfl, by decide +kernel, by decide +kernel⟩
def spStRepr (CK : Sk → Addr) : Sp := fun vs H Q _ => ∃ (s : SR) (x : V), vs = [x] ∧ SIs CK H s x ∧ s.Fine ∧ Q (.str (shownS s)) H
theorem ok_strepr (T : Txt mg) (S : ST2 K mg C CE CS CK) (D : Mth K CS "__repr__" "Statement.__repr__" m_Statement_repr ["self"]) : MtF P w K mg base 1 CS "__repr__" ["self"] (spStRepr CK) := by
  refine D.okF sc_strepr (fun vs H Q E h => ?_) (fun f cdv A fr s H vs Q E hr h => ?_)
  · obtain ⟨s, x, rfl, _⟩ := h
    rfl
  · obtain ⟨s, x, rfl, ix, fx, fin⟩ := h
    refine ⟨_, pss_one (ps_ret (pe_joined (.cons pe_str (.cons (pe_fmt (pe_ix ix_tup (pe_fld (pv 0) rfl) pe_int (fun _ _ => rfl))) (.cons pe_str .nil))))), ?_⟩
    obtain ⟨a, dx, q, fs, rfl, h1, h2, h3, h4, h5⟩ := ix
    have c1 : ("Statement(" : Str).length = 10 := by decide +kernel
    have c2 : (")" : Str).length = 1 := by decide +kernel
    have ll := fx.lineLen
    obtain ⟨r, hr2⟩ := fx.first
    rw [hr2] at h5
    refine ⟨"Statement(", rfl, by rw [empty_cat, c1]; exact small_len (by decide), _, rfl, a, _, dx, fs, _, rfl, h1, (S.own _).cl, S.na _ _ (by decide +kernel), h4, q, _, 0, _, rfl, rfl, .inl (.inl h5), atI_nat (j := 0) rfl, .inl ⟨s.line, rfl, small_len (by omega), s.line, rfl, ?_, ")", rfl, ?_, ?_⟩⟩
    · rw [empty_cat, len_cat, c1]
      exact small_len (by omega)
    · rw [empty_cat, len_cat, len_cat, c1, c2]
      exact small_len (by omega)
    · rw [empty_cat]
      exact fin
end
end Jo

set_option Elab.async false
set_option linter.all false
set_option maxRecDepth 100000
set_option maxHeartbeats 1000000
namespace Jo
open PySem PySem.Spec PyProof.Rows L2 ClX
/-- a head that may stand -/
def Hd.Ok : Hd → Prop
  | .assign x e => nmS x = true ∧ Lim e
  | .ifs e => Lim e
  | .whl e => Lim e
  | .call x e o => nmS x = true ∧ Lim e ∧ ∀ y, o = some y → nmS y = true
  | .ret e => Lim e
  | .fail => True
  | .att => True
/-- what stands behind the word in the law's tuple; L: lists of statements -/
def ArgsOf (L : List SR → V → Prop) (H : Hp) : Hd → List (List SR) → List V → Prop
  | .assign x e, bs, us => bs = [] ∧ ∃ v, us = [.str x, v] ∧ Tp H e v
  | .ifs e, bs, us => ∃ v b1 b2 v1 v2, bs = [b1, b2] ∧ us = [v, v1, v2] ∧ Tp H e v ∧ L b1 v1 ∧ L b2 v2
  | .whl e, bs, us => ∃ v b1 v1, bs = [b1] ∧ us = [v, v1] ∧ Tp H e v ∧ L b1 v1
  | .call x e o, bs, us => bs = [] ∧ ∃ v, us = [.str x, v, .str (o.getD "")] ∧ Tp H e v
  | .ret e, bs, us => bs = [] ∧ ∃ v, us = [v] ∧ Tp H e v
  | .fail, bs, us => bs = [] ∧ us = []
  | .att, bs, us => ∃ b1 b2 v1 v2, bs = [b1, b2] ∧ us = [v1, v2] ∧ L b1 v1 ∧ L b2 v2
/-- a list of statements of the law's -/
def LsOf (T : SR → V → Prop) (H : Hp) (b : List SR) (v : V) : Prop := ∃ (l : Addr) (us : List V), v = .ref l ∧ H l = some (.lst us) ∧ Paired T b us
/-- the law's statement, n deep -/
def TsN : Nat → Hp → SR → V → Prop
  | 0, _, _, _ => False
  | n + 1, H, s, v => ∃ (q : Addr) (h : Hd) (bs : List (List SR)) (us : List V), v = .ref q ∧ H q = some (.tup (.str h.kind.word :: us)) ∧ s = mkS h bs ∧ h.Ok ∧ Fits bs ∧ ArgsOf (LsOf (TsN n H) H) H h bs us
theorem LsOf.imp {T T' : SR → V → Prop} {H H' : Hp} (s2 : ∀ a xs, H a = some (.lst xs) → H' a = some (.lst xs)) (t : ∀ s v, T s v → T' s v) {b : List SR} {v : V} (h : LsOf T H b v) : LsOf T' H' b v := by
  obtain ⟨l, us, e, h1, h2⟩ := h
  exact ⟨l, us, e, s2 _ _ h1, pair_mem h2 t⟩
theorem ArgsOf.imp {L L' : List SR → V → Prop} {H H' : Hp} (s1 : ∀ a xs, H a = some (.tup xs) → H' a = some (.tup xs)) (t : ∀ b v, L b v → L' b v) : ∀ {h : Hd} {bs : List (List SR)} {us : List V}, ArgsOf L H h bs us → ArgsOf L' H' h bs us
  | .assign x e, bs, us, ⟨h1, v, h2, h3⟩ => ⟨h1, v, h2, h3.imp s1⟩
  | .ifs e, bs, us, ⟨v, b1, b2, v1, v2, h1, h2, h3, h4, h5⟩ => ⟨v, b1, b2, v1, v2, h1, h2, h3.imp s1, t _ _ h4, t _ _ h5⟩
  | .whl e, bs, us, ⟨v, b1, v1, h1, h2, h3, h4⟩ => ⟨v, b1, v1, h1, h2, h3.imp s1, t _ _ h4⟩
  | .call x e o, bs, us, ⟨h1, v, h2, h3⟩ => ⟨h1, v, h2, h3.imp s1⟩
  | .ret e, bs, us, ⟨h1, v, h2, h3⟩ => ⟨h1, v, h2, h3.imp s1⟩
  | .fail, bs, us, h => h
  | .att, bs, us, ⟨b1, b2, v1, v2, h1, h2, h4, h5⟩ => ⟨b1, b2, v1, v2, h1, h2, t _ _ h4, t _ _ h5⟩
theorem TsN.imp {H H' : Hp} (s1 : ∀ a xs, H a = some (.tup xs) → H' a = some (.tup xs)) (s2 : ∀ a xs, H a = some (.lst xs) → H' a = some (.lst xs)) : ∀ {n : Nat} {s : SR} {v : V}, TsN n H s v → TsN n H' s v
  | 0, _, _, h => h
  | n + 1, s, v, ⟨q, h, bs, us, e, h1, h2, h3, h4, h5⟩ => ⟨q, h, bs, us, e, s1 _ _ h1, h2, h3, h4, h5.imp s1 fun b v hb => hb.imp s2 fun s v hs => hs.imp s1 s2⟩
theorem TsN.same {H G : Hp} {n : Nat} {s : SR} {v : V} (h : TsN n H s v) (sm : Same H G) : TsN n G s v := h.imp (fun a xs e => sm _ _ e) (fun a xs e => sm _ _ e)
theorem TsN.up {H : Hp} : ∀ {n : Nat} {s : SR} {v : V}, TsN n H s v → TsN (n + 1) H s v
  | 0, _, _, h => h.elim
  | n + 1, s, v, ⟨q, h, bs, us, e, h1, h2, h3, h4, h5⟩ => ⟨q, h, bs, us, e, h1, h2, h3, h4, h5.imp (fun _ _ e => e) fun b v hb => hb.imp (fun _ _ e => e) fun s v hs => hs.up⟩
theorem LsOf.same {H G : Hp} {n : Nat} {b : List SR} {v : V} (h : LsOf (TsN n H) H b v) (sm : Same H G) : LsOf (TsN n G) G b v := h.imp (fun a xs e => sm _ _ e) fun s v hs => hs.same sm
theorem Hd.Ok.len {h : Hd} (o : h.Ok) : h.line.length ≤ 1000 := by
  cases h with
  | assign x e =>
    have h1 := nm_len o.1
    have h2 := o.2.len
    show (((("assign " : Str) ++ x) ++ " ") ++ e.text).length ≤ 1000
    rw [len_cat, len_cat, len_cat, l_assign, l_sp]
    omega
  | ifs e =>
    have h2 := Lim.len o
    show (("if " : Str) ++ e.text).length ≤ 1000
    rw [len_cat, l_if]
    omega
  | whl e =>
    have h2 := Lim.len o
    show (("while " : Str) ++ e.text).length ≤ 1000
    rw [len_cat, l_while]
    omega
  | call x e into =>
    have h1 := nm_len o.1
    have h2 := o.2.1.len
    cases into with
    | none =>
      show (((("call " : Str) ++ x) ++ " ") ++ e.text).length ≤ 1000
      rw [len_cat, len_cat, len_cat, l_call, l_sp]
      omega
    | some y =>
      have h3 := nm_len (o.2.2 y rfl)
      show (((((("call " : Str) ++ x) ++ " ") ++ e.text) ++ " into ") ++ y).length ≤ 1000
      rw [len_cat, len_cat, len_cat, len_cat, len_cat, l_call, l_sp, l_into]
      omega
  | ret e =>
    have h2 := Lim.len o
    show (("return " : Str) ++ e.text).length ≤ 1000
    rw [len_cat, l_return]
    omega
  | fail => show ("fail" : Str).length ≤ 1000; decide +kernel
  | att => show ("attempt" : Str).length ≤ 1000; decide +kernel
theorem Hd.Ok.str {h : Hd} (o : h.Ok) : PyData.strOk h.line = true := by
  cases h with
  | assign x e => exact strOk_cat (strOk_cat (strOk_cat (strOk_of _) (strOk_nm o.1)) (strOk_of _)) (strOk_text o.2.ok)
  | ifs e => exact strOk_cat (strOk_of _) (strOk_text (Lim.ok o))
  | whl e => exact strOk_cat (strOk_of _) (strOk_text (Lim.ok o))
  | call x e into =>
    cases into with
    | none => exact strOk_cat (strOk_cat (strOk_cat (strOk_of _) (strOk_nm o.1)) (strOk_of _)) (strOk_text o.2.1.ok)
    | some y => exact strOk_cat (strOk_cat (strOk_cat (strOk_cat (strOk_cat (strOk_of _) (strOk_nm o.1)) (strOk_of _)) (strOk_text o.2.1.ok)) (strOk_of _)) (strOk_nm (o.2.2 y rfl))
  | ret e => exact strOk_cat (strOk_of _) (strOk_text (Lim.ok o))
  | fail => exact strOk_of _
  | att => exact strOk_of _
theorem ind_mem {b : List SR} {l : Str} (h : l ∈ indS b) : ∃ s ∈ b, ∃ l2 ∈ s.lines, l = pad l2 := by
  unfold indS at h
  obtain ⟨s, hs, h2⟩ := List.mem_flatMap.mp h
  obtain ⟨l2, h3, h4⟩ := List.mem_map.mp h2
  exact ⟨s, hs, l2, h3, h4.symm⟩
theorem insd_mem : ∀ {bs : List (List SR)} {n : Nat} {l : Str}, l ∈ insd n bs → l = "else" ∨ ∃ s ∈ bs.flatten, ∃ l2 ∈ s.lines, l = pad l2
  | [], _, _, h => by cases h
  | b :: bs, n, l, h => by
    rcases List.mem_append.mp (show l ∈ _ ++ (indS b ++ insd (n + 1) bs) from h) with h | h
    · by_cases c : 0 < n ∧ b ≠ []
      · rw [if_pos c] at h
        exact .inl (List.mem_singleton.mp h)
      · rw [if_neg c] at h
        cases h
    · rcases List.mem_append.mp h with h | h
      · obtain ⟨s, hs, r⟩ := ind_mem h
        exact .inr ⟨s, by rw [List.flatten_cons]; exact List.mem_append_left _ hs, r⟩
      · rcases insd_mem h with h | ⟨s, hs, r⟩
        · exact .inl h
        · exact .inr ⟨s, by rw [List.flatten_cons]; exact List.mem_append_right _ hs, r⟩
theorem top1_ge {l : List Nat} {x : Nat} (h : x ∈ l) : x ≤ Tr.top1 l := (fold_ge l 0).2.1 x h
theorem fine_mk {h : Hd} {bs : List (List SR)} (o : h.Ok) (f : Fits bs) : (mkS h bs).Fine := by
  have h1 := f.amount
  have h2 := f.height
  have h3 := insd_two f
  refine ⟨by show 1 ≤ 1 + _; omega, by show 1 + _ ≤ 400; omega, by show 1 + _ ≤ 8; omega, ?_, fun l hl => ?_, ⟨_, rfl⟩, fun l hl => ?_⟩
  · show (h.line :: insd 0 bs).length ≤ 2 * (1 + amtS bs)
    rw [List.length_cons]
    omega
  · show l.length ≤ 1000 + 2 * (1 + hgtS bs)
    rcases List.mem_cons.mp hl with e | hl
    · rw [e]
      have := o.len
      omega
    · rcases insd_mem hl with e | ⟨s, hs, l2, hl2, e⟩
      · rw [e, show ("else" : Str).length = 4 by decide +kernel]
        omega
      · rw [e, len_pad]
        have h4 := (f.fine s hs).long l2 hl2
        have h5 : s.height ≤ hgtS bs := top1_ge (List.mem_map.mpr ⟨s, hs, rfl⟩)
        omega
  · rcases List.mem_cons.mp hl with e | hl
    · rw [e]
      exact o.str
    · rcases insd_mem hl with e | ⟨s, hs, l2, hl2, e⟩
      · rw [e]
        exact strOk_of _
      · rw [e]
        exact strOk_cat (strOk_of _) ((f.fine s hs).ok l2 hl2)
theorem TsN.fine {H : Hp} : ∀ {n : Nat} {s : SR} {v : V}, TsN n H s v → s.Fine
  | 0, _, _, h => h.elim
  | n + 1, s, v, ⟨q, h, bs, us, e, h1, h2, h3, h4, h5⟩ => by
    rw [h2]
    exact fine_mk h3 h4
end Jo

set_option Elab.async false
set_option linter.all false
set_option maxRecDepth 100000
set_option maxHeartbeats 1000000
namespace Jo
open PySem PySem.Spec PyProof.Rows L2 ClX
theorem Lim.sm {t : Tr} (l : Lim t) : Sm t 6 := ⟨l.ok, by have := l.parts; omega, l.depth⟩
theorem cut2 (x y : V) (us : List V) : cutV (x :: y :: us) (some 2) none = us := by
  unfold cutV
  rw [show HT.sIx (x :: y :: us).length 0 (some (2 : Int)) = 2 by
    show HT.sIx (us.length + 2) 0 (some ((2 : Nat) : Int)) = 2
    rw [HT.sIx_nat]
    omega, HT.sIx_none]
  simp
theorem not_whole2 (x y : V) (us : List V) : ¬ (HT.sIx (x :: y :: us).length 0 (some (2 : Int)) = 0 ∧ HT.sIx (x :: y :: us).length (x :: y :: us).length none = (x :: y :: us).length) := by
  rw [show HT.sIx (x :: y :: us).length 0 (some (2 : Int)) = 2 by
    show HT.sIx (us.length + 2) 0 (some ((2 : Nat) : Int)) = 2
    rw [HT.sIx_nat]
    omega]
  exact fun h => by cases h.1
def wordsH : List Str := ["if", "while", "return"]
theorem inH (k : Sk) : inV (.str k.word) (wordsH.map V.str) = (match k with | .ifs => true | .whl => true | .ret => true | _ => false) := by
  rw [inV_str]
  cases k <;> decide +kernel
theorem inH2 (k : Sk) : inV (.str k.word) ((["if", "while"] : List Str).map V.str) = (match k with | .ifs => true | .whl => true | _ => false) := by
  rw [inV_str]
  cases k <;> decide +kernel
section
variable {P : Program} {w : World} {K : PySem.W.Frag} {mg : Str → Option Value} {base : Heap} {C : Kd → Addr} {CE CS : Addr} {CK : Sk → Addr}
def n_head : List Str := ["_law_each", "_law_word"]
theorem sc_head : FnScope n_head ["_law_each"] (defScope s_head) := ⟨rfl, rfl, rfl, by decide +kernel, rfl, by decide +kernel, by decide +kernel⟩
def spHead (n : Nat) : Sp := fun vs H Q _ => ∃ (s : SR) (v : V), vs = [v] ∧ TsN n H s v ∧ ∀ H', Same H H' → Q (.str s.line) H'
theorem ok_head (T : Txt mg) (n : Nat) (D : Dfn K mg "_law_head" s_head ["_law_each"]) (c_text : CalG P w K mg base 7 "_law_text" ["_law_tree_here"] (spText 6)) : CalG P w K mg base 8 "_law_head" ["_law_each"] (spHead n) := by
  refine D.ok sc_head (fun vs H Q E h => ?_) (fun f cdv A fr s H vs Q E hr hgd h => ?_)
  · obtain ⟨s, v, rfl, _⟩ := h
    rfl
  · obtain ⟨s, v, rfl, ts, fin⟩ := h
    cases n with
    | zero => exact ts.elim
    | succ n =>
    obtain ⟨q, h, bs, us, rfl, hq, rfl, ho, ft, ar⟩ := ts
    refine ⟨_, pss_cons (ps_set (i := 1) sc_head.nd rfl (.inl rfl) (pe_ix ix_tup (pv 0) pe_int (fun _ _ => rfl)))
      (pss_cons (ps_if (pt_cmpR op_eq (pv 1) pe_str (nomark _))
        (pss_one (ps_ret (pe_op op_add_str (pe_op op_add_str (pe_op op_add_str pe_str (pe_ix ix_tup (pv 0) pe_int (fun _ _ => rfl))) pe_str) (pe_cG c_text hr (by decide) hgd rfl (pa_cons (pe_ix ix_tup (pv 0) pe_int (fun _ _ => rfl)) pa_nil)))))
        (pss_nil))
      (pss_cons (ps_if (pt_cmpR op_in_seq (pv 1) (pe_lst (pa_cons pe_str (pa_cons pe_str (pa_cons pe_str pa_nil)))) rfl)
        (pss_one (ps_ret (pe_op op_add_str (pe_op op_add_str (pv 1) pe_str) (pe_cG c_text hr (by decide) hgd rfl (pa_cons (pe_ix ix_tup (pv 0) pe_int (fun _ _ => rfl)) pa_nil)))))
        (pss_nil))
      (pss_cons (ps_if (pt_cmpR op_ne (pv 1) pe_str (nomark _))
        (pss_one (ps_ret (pv 1)))
        (pss_nil))
      (pss_one (ps_ret (pe_op op_add_str (pe_op op_add_str (pe_op op_add_str (pe_op op_add_str pe_str (pe_ix ix_tup (pv 0) pe_int (fun _ _ => rfl))) pe_str) (pe_cG c_text hr (by decide) hgd rfl (pa_cons (pe_ix ix_tup (pv 0) pe_int (fun _ _ => rfl)) pa_nil)))
        (pe_ifExp (pt_cmpR op_eq (pe_ix ix_tup (pv 0) pe_int (fun _ _ => rfl)) pe_str (nomark _)) pe_str (pe_op op_add_str pe_str (pe_ix ix_tup (pv 0) pe_int (fun _ _ => rfl)))))))))), ?_⟩
    have sT : SqT K H q (.str h.kind.word :: us) := .inl (.inl hq)
    refine ⟨_, rfl, q, _, 0, _, rfl, rfl, sT, atI_nat (j := 0) rfl, ?_⟩
    -- the list of words, once
    have ask : ∀ (R : VK), (∀ G, Same H G → R (.bl (inV (.str h.kind.word) (wordsH.map V.str))) G) → ∀ l, H l = none → R (.bl (inV (.str h.kind.word) (wordsH.map V.str))) (upd H l (.lst [.str "if", .str "while", .str "return"])) := fun R hR l nl => hR _ (same_new nl)
    cases h with
    | assign x e =>
      obtain ⟨rfl, v, rfl, tp⟩ := ar
      have lx := nm_len ho.1
      have le := ho.2.len
      refine ⟨_, rfl, rfl, _, rfl, iteT ?_⟩
      refine ⟨_, rfl, q, _, 1, _, rfl, rfl, sT, atI_nat (j := 1) rfl, _, _, rfl, rfl, by rw [l_assign]; exact small_len (by omega), _, _, rfl, rfl, by rw [len_cat, l_assign, l_sp]; exact small_len (by omega), ?_⟩
      refine ⟨_, rfl, q, _, 2, _, rfl, rfl, sT, atI_nat (j := 2) rfl, e, _, rfl, tp, ho.2.sm, fun G sG => ⟨_, _, rfl, rfl, by rw [len_cat, len_cat, l_assign, l_sp]; exact small_len (by omega), fin G sG⟩⟩
    | ifs e =>
      obtain ⟨v, b1, b2, v1, v2, rfl, rfl, tp, _⟩ := ar
      have le := Lim.len ho
      refine ⟨_, rfl, rfl, _, rfl, iteF ⟨_, rfl, (show 3 ≤ sizeLine by decide), fun l nl => ?_⟩⟩
      have s1 : Same H (upd H l (.lst [V.str "if", V.str "while", V.str "return"])) := same_new nl
      refine ⟨l, wordsH.map V.str, rfl, .inl (SqL.of upd_same), rfl, flat_strs _, _, rfl, ?_⟩
      rw [show inV (.str (Hd.ifs e).kind.word) (wordsH.map V.str) = true from inH .ifs]
      refine iteT ⟨_, rfl, _, _, rfl, rfl, (by decide +kernel : ("if" : Str).length + (" " : Str).length ≤ sizeLine), _, rfl, q, _, 1, _, rfl, rfl, .inl (.inl (s1 _ _ hq)), atI_nat (j := 1) rfl, e, _, rfl, tp.same s1, Lim.sm ho, fun G sG => ⟨_, _, rfl, rfl, ?_, ?_⟩⟩
      · rw [len_cat, l_sp, show (Hd.ifs e).kind.word.length = 2 from (by decide +kernel : ("if" : Str).length = 2)]
        exact small_len (by omega)
      · have q2 := fin G (s1.trans sG)
        exact q2
    | whl e =>
      obtain ⟨v, b1, v1, rfl, rfl, tp, _⟩ := ar
      have le := Lim.len ho
      refine ⟨_, rfl, rfl, _, rfl, iteF ⟨_, rfl, (show 3 ≤ sizeLine by decide), fun l nl => ?_⟩⟩
      have s1 : Same H (upd H l (.lst [V.str "if", V.str "while", V.str "return"])) := same_new nl
      refine ⟨l, wordsH.map V.str, rfl, .inl (SqL.of upd_same), rfl, flat_strs _, _, rfl, ?_⟩
      rw [show inV (.str (Hd.whl e).kind.word) (wordsH.map V.str) = true from inH .whl]
      refine iteT ⟨_, rfl, _, _, rfl, rfl, (by decide +kernel : ("while" : Str).length + (" " : Str).length ≤ sizeLine), _, rfl, q, _, 1, _, rfl, rfl, .inl (.inl (s1 _ _ hq)), atI_nat (j := 1) rfl, e, _, rfl, tp.same s1, Lim.sm ho, fun G sG => ⟨_, _, rfl, rfl, ?_, ?_⟩⟩
      · rw [len_cat, l_sp, show (Hd.whl e).kind.word.length = 5 from (by decide +kernel : ("while" : Str).length = 5)]
        exact small_len (by omega)
      · have q2 := fin G (s1.trans sG)
        exact q2
    | ret e =>
      obtain ⟨rfl, v, rfl, tp⟩ := ar
      have le := Lim.len ho
      refine ⟨_, rfl, rfl, _, rfl, iteF ⟨_, rfl, (show 3 ≤ sizeLine by decide), fun l nl => ?_⟩⟩
      have s1 : Same H (upd H l (.lst [V.str "if", V.str "while", V.str "return"])) := same_new nl
      refine ⟨l, wordsH.map V.str, rfl, .inl (SqL.of upd_same), rfl, flat_strs _, _, rfl, ?_⟩
      rw [show inV (.str (Hd.ret e).kind.word) (wordsH.map V.str) = true from inH .ret]
      refine iteT ⟨_, rfl, _, _, rfl, rfl, (by decide +kernel : ("return" : Str).length + (" " : Str).length ≤ sizeLine), _, rfl, q, _, 1, _, rfl, rfl, .inl (.inl (s1 _ _ hq)), atI_nat (j := 1) rfl, e, _, rfl, tp.same s1, Lim.sm ho, fun G sG => ⟨_, _, rfl, rfl, ?_, ?_⟩⟩
      · rw [len_cat, l_sp, show (Hd.ret e).kind.word.length = 6 from (by decide +kernel : ("return" : Str).length = 6)]
        exact small_len (by omega)
      · have q2 := fin G (s1.trans sG)
        exact q2
    | fail =>
      refine ⟨_, rfl, rfl, _, rfl, iteF ⟨_, rfl, (show 3 ≤ sizeLine by decide), fun l nl => ?_⟩⟩
      have s1 : Same H (upd H l (.lst [V.str "if", V.str "while", V.str "return"])) := same_new nl
      refine ⟨l, wordsH.map V.str, rfl, .inl (SqL.of upd_same), rfl, flat_strs _, _, rfl, ?_⟩
      rw [show inV (.str Hd.fail.kind.word) (wordsH.map V.str) = false from inH .fail]
      exact iteF ⟨_, rfl, rfl, _, rfl, iteT ⟨_, rfl, fin _ s1⟩⟩
    | att =>
      refine ⟨_, rfl, rfl, _, rfl, iteF ⟨_, rfl, (show 3 ≤ sizeLine by decide), fun l nl => ?_⟩⟩
      have s1 : Same H (upd H l (.lst [V.str "if", V.str "while", V.str "return"])) := same_new nl
      refine ⟨l, wordsH.map V.str, rfl, .inl (SqL.of upd_same), rfl, flat_strs _, _, rfl, ?_⟩
      rw [show inV (.str Hd.att.kind.word) (wordsH.map V.str) = false from inH .att]
      exact iteF ⟨_, rfl, rfl, _, rfl, iteT ⟨_, rfl, fin _ s1⟩⟩
    | call x e o =>
      obtain ⟨rfl, v, rfl, tp⟩ := ar
      have lx := nm_len ho.1
      have le := ho.2.1.len
      refine ⟨_, rfl, rfl, _, rfl, iteF ⟨_, rfl, (show 3 ≤ sizeLine by decide), fun l nl => ?_⟩⟩
      have s1 : Same H (upd H l (.lst [V.str "if", V.str "while", V.str "return"])) := same_new nl
      refine ⟨l, wordsH.map V.str, rfl, .inl (SqL.of upd_same), rfl, flat_strs _, _, rfl, ?_⟩
      rw [show inV (.str (Hd.call x e o).kind.word) (wordsH.map V.str) = false from inH .call]
      refine iteF ⟨_, rfl, rfl, _, rfl, iteF ?_⟩
      have sT1 : SqT K (upd H l (.lst [V.str "if", V.str "while", V.str "return"])) q _ := .inl (.inl (s1 _ _ hq))
      refine ⟨_, rfl, q, _, 1, _, rfl, rfl, sT1, atI_nat (j := 1) rfl, _, _, rfl, rfl, by rw [l_call]; exact small_len (by omega), _, _, rfl, rfl, by rw [len_cat, l_call, l_sp]; exact small_len (by omega), ?_⟩
      refine ⟨_, rfl, q, _, 2, _, rfl, rfl, sT1, atI_nat (j := 2) rfl, e, _, rfl, tp.same s1, ho.2.1.sm, fun G sG => ⟨_, _, rfl, rfl, by rw [len_cat, len_cat, l_call, l_sp]; exact small_len (by omega), ?_⟩⟩
      have s2 := s1.trans sG
      have sT2 : SqT K G q _ := .inl (.inl (s2 _ _ hq))
      refine ⟨_, rfl, q, _, 3, _, rfl, rfl, sT2, atI_nat (j := 3) rfl, rfl, _, rfl, ?_⟩
      cases o with
      | none =>
        refine iteT ⟨_, _, rfl, rfl, by rw [len_cat, len_cat, len_cat, l_call, l_sp]; exact small_len (by rw [show ("" : Str).length = 0 by decide +kernel]; omega), ?_⟩
        rw [show ("" : Str) = Str.empty by rfl, Str.append_empty]
        exact fin G s2
      | some y =>
        have ny := ho.2.2 y rfl
        have ly := nm_len ny
        have ne : decide (V.str ((some y).getD "") = V.str "") = false := decide_eq_false fun e => by
          have e2 : y = ("" : Str) := V.str.inj e
          rw [e2] at ny
          revert ny
          decide +kernel
        rw [ne]
        refine iteF ⟨_, rfl, q, _, 3, _, rfl, rfl, sT2, atI_nat (j := 3) rfl, _, _, rfl, rfl, by rw [l_into]; exact small_len (by show 6 + y.length ≤ _; omega), _, _, rfl, rfl, ?_, ?_⟩
        · rw [len_cat, len_cat, len_cat, len_cat, l_call, l_sp, l_into]
          exact small_len (by show _ + (6 + y.length) ≤ _; omega)
        · rw [← Str.append_assoc]
          exact fin G s2
end
end Jo

set_option Elab.async false
set_option linter.all false
set_option maxRecDepth 100000
set_option maxHeartbeats 1000000
namespace Jo
open PySem PySem.Spec PyProof.Rows L2 ClX
/-- xs != [], whatever stands in xs -/
def rNeE (K : PySem.W.Frag) : R2 := fun x y H Q => ∃ (a b : Addr) (xs : List V), x = .ref a ∧ y = .ref b ∧ SqL K H a xs ∧ SqL K H b [] ∧ Q (.bl (!xs.isEmpty)) H
theorem op_neE {X : Cx} (hu : X.A.units + 64 < cLine) : OpR X (compareOp .NotEq) (rNeE X.K) := by
  intro pins s σ H x y v u Q I rx ry h
  obtain ⟨a, b, xs, rfl, rfl, ha, hb, q⟩ := h
  cases xs with
  | nil => exact op_neD hu pins s σ H _ _ v u Q I rx ry ⟨.list [], .list [], .lst ha .nil, .lst hb .nil, rfl, rfl, q⟩
  | cons x0 xr =>
    obtain rfl : v = Value.ref a := rx
    obtain rfl : u = Value.ref b := ry
    obtain ⟨its, rv, ⟨o, n, ho, hc, hdn, hd⟩, hlen⟩ := I.list ha
    obtain ⟨its2, rv2, ⟨o2, n2, ho2, hc2, hdn2, hd2⟩, hlen2⟩ := I.list hb
    have e1 := rv.length
    have e2 := rv2.length
    have ne : its.toArray.size ≠ its2.toArray.size := by
      rw [List.size_toArray, List.size_toArray, ← e1, ← e2]
      exact Nat.succ_ne_zero _
    exact PySem.SeqAt.RcNeAt.lists_lengths ⟨o, ho, hc, n, hd⟩ ⟨o2, ho2, hc2, n2, hd2⟩ (bne_iff_ne.mpr ne) (by omega) _ _ _ _ ⟨.bl true, H, I, rfl, q⟩
def repS (n : Nat) (z : Str) : Str := ⟨List.foldl (fun x1 x2 => x1 ++ x2) #[] (List.replicate n z.cps)⟩
theorem rep_succ (n : Nat) (z : Str) : repS (n + 1) z = repS n z ++ z := by
  unfold repS
  rw [List.replicate_succ', List.foldl_append]
  rfl
theorem rep_zero (z : Str) : repS 0 z = Str.empty := rfl
theorem rep_len : ∀ (n : Nat) (z : Str), (repS n z).length = n * z.length
  | 0, z => by rw [rep_zero, Nat.zero_mul]; rfl
  | n + 1, z => by rw [rep_succ, len_cat, rep_len n z, Nat.succ_mul]
/-- s * n -/
theorem op_mulS {X : Cx} : OpR X (binaryOp .Mult) (fun x y H Q => ∃ (z : Str) (n : Nat), x = .str z ∧ y = .int (n : Int) ∧ n ≤ 1000 ∧ 0 < z.length ∧ z.length ≤ 1000 ∧ Q (.str (repS n z)) H) := by
  intro pins s σ H x y v u Q I rx ry h
  obtain ⟨z, n, rfl, rfl, n1, z0, z1, q⟩ := h
  obtain ⟨t, rfl⟩ := rx
  obtain ⟨t', rfl⟩ := ry
  have hm : z.length * n ≤ 1000000 := Nat.le_trans (Nat.mul_le_mul z1 n1) (by decide)
  refine PySem.P.mul_str ?_ (fun h0 _ => ?_) (fun h0 _ => ?_) ?_
  · rw [decide_eq_false (by omega), decide_eq_false (by omega)]
    rfl
  · have h3 : (z.length : Int) ≤ (2 ^ 63 - 1) / (n : Int) := (Int.le_ediv_iff_mul_le (by omega)).mpr (by
      have h4 : ((z.length * n : Nat) : Int) ≤ 1000000 := by omega
      rw [Int.natCast_mul] at h4
      exact Int.le_trans h4 (by decide))
    exact Int.not_lt.mpr h3
  · refine decide_eq_false ?_
    have : z.length * ((n : Int)).toNat ≤ sizeLine := small_len (by rw [show ((n : Int)).toNat = n by omega]; omega)
    omega
  · by_cases h0 : n = 0
    · subst h0
      rw [if_pos (by decide)]
      exact ⟨by decide, .str Str.empty, H, I.tok _, ⟨_, rfl⟩, q⟩
    · rw [if_neg (by omega)]
      by_cases h1 : n = 1
      · subst h1
        have e1 : (((1 : Nat) : Int) == 1 || z.length == 0) = true := rfl
        rw [e1, if_pos rfl]
        have e2 : repS 1 z = z := by rw [rep_succ, rep_zero, empty_cat]
        rw [e2] at q
        exact ⟨.str z, H, I, ⟨_, rfl⟩, q⟩
      · have e1 : ((n : Int) == 1 || z.length == 0) = false := by
          rw [Bool.or_eq_false_iff]
          exact ⟨beq_eq_false_iff_ne.mpr (by omega), beq_eq_false_iff_ne.mpr (by omega)⟩
        rw [e1, if_neg (by decide), show ((n : Int)).toNat = n by omega]
        exact ⟨by have := rep_len n z; rw [Nat.mul_comm] at this; exact Nat.le_trans (Nat.le_of_eq this) (small_len (by omega)), .str (repS n z), H, I.tok _, ⟨_, rfl⟩, q⟩
section
variable {P : Program} {w : World} {K : PySem.W.Frag} {mg : Str → Option Value} {base : Heap} {C : Kd → Addr} {CE CS : Addr} {CK : Sk → Addr}
theorem sc_inner : FnScope ["_law_each"] ["_law_each"] (defScope s_inner) := ⟨rfl, rfl, rfl, by decide +kernel, rfl, by decide +kernel, by decide +kernel⟩
theorem none_back {H G : Hp} {l : Addr} (s : Same H G) (h : G l = none) : H l = none := by
  cases e : H l with
  | none => rfl
  | some o =>
    have := s _ _ e
    rw [h] at this
    cases this
def spInner : Sp := fun vs H Q _ => ∃ (L : List SR → V → Prop) (H0 : Hp) (q : Addr) (h : Hd) (bs : List (List SR)) (us : List V), vs = [.ref q] ∧ H q = some (.tup (.str h.kind.word :: us)) ∧ ArgsOf L H0 h bs us ∧ ∀ l xs G, Same H G → H l = none → G l = some (.lst xs) → Paired L bs xs → Q (.ref l) G
theorem ok_inner (T : Txt mg) (D : Dfn K mg "_law_inner" s_inner ["_law_each"]) : CalG P w K mg base 1 "_law_inner" ["_law_each"] spInner := by
  refine D.ok sc_inner (fun vs H Q E h => ?_) (fun f cdv A fr s H vs Q E hr hgd h => ?_)
  · obtain ⟨L, H0, q, h, bs, us, rfl, _⟩ := h
    rfl
  · obtain ⟨L, H0, q, h, bs, us, rfl, hq, ar, fin⟩ := h
    refine ⟨_, pss_cons (ps_if (pt_cmpR op_in_seq (pe_ix ix_tup (pv 0) pe_int (fun _ _ => rfl)) (pe_lst (pa_cons pe_str (pa_cons pe_str pa_nil))) rfl)
        (pss_one (ps_ret (pe_callTy call_list_of rfl T.b_list (by decide +kernel) (pa_cons (pe_slice sl_tup (pv 0) (po_some pe_int) po_none) pa_nil))))
        (pss_nil))
      (pss_one (ps_ret (pe_ifExp (pt_cmpR op_eq (pe_ix ix_tup (pv 0) pe_int (fun _ _ => rfl)) pe_str (nomark _)) (pe_callTy call_list_of rfl T.b_list (by decide +kernel) (pa_cons (pe_slice sl_tup (pv 0) (po_some pe_int) po_none) pa_nil)) (pe_lst pa_nil)))), ?_⟩
    refine ⟨_, rfl, q, _, 0, _, rfl, rfl, .inl (.inl hq), atI_nat (j := 0) rfl, (show 2 ≤ sizeLine by decide), fun l0 n0 => ?_⟩
    have s1 : Same H (upd H l0 (.lst [V.str "if", V.str "while"])) := same_new n0
    refine ⟨l0, (["if", "while"] : List Str).map V.str, rfl, .inl (SqL.of upd_same), rfl, flat_strs _, _, rfl, ?_⟩
    have h1 := s1 _ _ hq
    generalize upd H l0 (.lst [V.str "if", V.str "while"]) = H1 at s1 h1
    cases h with
    | ifs e =>
      obtain ⟨v, b1, b2, v1, v2, rfl, rfl, tp, l1, l2⟩ := ar
      rw [show inV (.str (Hd.ifs e).kind.word) ((["if", "while"] : List Str).map V.str) = true from inH2 .ifs]
      refine iteT ⟨_, rfl, _, rfl, q, _, rfl, .inl (.inl h1), not_whole2 _ _ _, fun q1 nq => ?_⟩
      rw [cut2]
      refine ⟨q1, _, rfl, .inr (.inl (.inl upd_same)), fun l nl => ?_⟩
      exact fin l _ _ ((s1.trans (same_new nq)).trans (same_new nl)) (none_back (s1.trans (same_new nq)) nl) upd_same (.cons l1 (.cons l2 .nil))
    | whl e =>
      obtain ⟨v, b1, v1, rfl, rfl, tp, l1⟩ := ar
      rw [show inV (.str (Hd.whl e).kind.word) ((["if", "while"] : List Str).map V.str) = true from inH2 .whl]
      refine iteT ⟨_, rfl, _, rfl, q, _, rfl, .inl (.inl h1), not_whole2 _ _ _, fun q1 nq => ?_⟩
      rw [cut2]
      refine ⟨q1, _, rfl, .inr (.inl (.inl upd_same)), fun l nl => ?_⟩
      exact fin l _ _ ((s1.trans (same_new nq)).trans (same_new nl)) (none_back (s1.trans (same_new nq)) nl) upd_same (.cons l1 .nil)
    | att =>
      obtain ⟨b1, b2, v1, v2, rfl, rfl, l1, l2⟩ := ar
      rw [show inV (.str Hd.att.kind.word) ((["if", "while"] : List Str).map V.str) = false from inH2 .att]
      refine iteF ⟨_, rfl, q, _, 0, _, rfl, rfl, .inl (.inl h1), atI_nat (j := 0) rfl, rfl, _, rfl, iteT ⟨_, rfl, _, rfl, q, _, rfl, .inl (.inl h1), not_whole _ _, fun q1 nq => ?_⟩⟩
      rw [cut1]
      refine ⟨q1, _, rfl, .inr (.inl (.inl upd_same)), fun l nl => ?_⟩
      exact fin l _ _ ((s1.trans (same_new nq)).trans (same_new nl)) (none_back (s1.trans (same_new nq)) nl) upd_same (.cons l1 (.cons l2 .nil))
    | assign x e =>
      rw [show inV (.str (Hd.assign x e).kind.word) ((["if", "while"] : List Str).map V.str) = false from inH2 .assign]
      refine iteF ⟨_, rfl, q, _, 0, _, rfl, rfl, .inl (.inl h1), atI_nat (j := 0) rfl, rfl, _, rfl, iteF ⟨(show 0 ≤ sizeLine by decide), fun l nl => ?_⟩⟩
      exact fin l [] _ (s1.trans (same_new nl)) (none_back s1 nl) upd_same (by rw [ar.1]; exact .nil)
    | call x e o =>
      rw [show inV (.str (Hd.call x e o).kind.word) ((["if", "while"] : List Str).map V.str) = false from inH2 .call]
      refine iteF ⟨_, rfl, q, _, 0, _, rfl, rfl, .inl (.inl h1), atI_nat (j := 0) rfl, rfl, _, rfl, iteF ⟨(show 0 ≤ sizeLine by decide), fun l nl => ?_⟩⟩
      exact fin l [] _ (s1.trans (same_new nl)) (none_back s1 nl) upd_same (by rw [ar.1]; exact .nil)
    | ret e =>
      rw [show inV (.str (Hd.ret e).kind.word) ((["if", "while"] : List Str).map V.str) = false from inH2 .ret]
      refine iteF ⟨_, rfl, q, _, 0, _, rfl, rfl, .inl (.inl h1), atI_nat (j := 0) rfl, rfl, _, rfl, iteF ⟨(show 0 ≤ sizeLine by decide), fun l nl => ?_⟩⟩
      exact fin l [] _ (s1.trans (same_new nl)) (none_back s1 nl) upd_same (by rw [ar.1]; exact .nil)
    | fail =>
      rw [show inV (.str Hd.fail.kind.word) ((["if", "while"] : List Str).map V.str) = false from inH2 .fail]
      refine iteF ⟨_, rfl, q, _, 0, _, rfl, rfl, .inl (.inl h1), atI_nat (j := 0) rfl, rfl, _, rfl, iteF ⟨(show 0 ≤ sizeLine by decide), fun l nl => ?_⟩⟩
      exact fin l [] _ (s1.trans (same_new nl)) (none_back s1 nl) upd_same (by rw [ar.1]; exact .nil)
end
end Jo

set_option Elab.async false
set_option linter.all false
set_option maxRecDepth 100000
set_option maxHeartbeats 2000000
namespace Jo
open PySem PySem.Spec PyProof.Rows L2 ClX
def padN (n : Nat) (l : Str) : Str := repS n "  " ++ l
def rowsOf (n : Nat) (b : List SR) : List Str := b.flatMap fun s => s.lines.map (padN n)
theorem padN_succ (n : Nat) (l : Str) : padN (n + 1) l = padN n (pad l) := by
  unfold padN pad
  rw [rep_succ, Str.append_assoc]
theorem padN_len (n : Nat) (l : Str) : (padN n l).length = 2 * n + l.length := by
  unfold padN
  rw [len_cat, rep_len, show ("  " : Str).length = 2 by decide +kernel]
  omega
theorem rows_ind (n : Nat) : ∀ b : List SR, rowsOf (n + 1) b = (indS b).map (padN n)
  | [] => rfl
  | s :: b => by
    have h := rows_ind n b
    unfold rowsOf indS at h ⊢
    rw [List.flatMap_cons, List.flatMap_cons, List.map_append, h, List.map_map]
    congr 1
    exact List.map_congr_left fun l _ => padN_succ n l
theorem rows_len (n : Nat) : ∀ b : List SR, (∀ s ∈ b, s.Fine) → (rowsOf n b).length ≤ 2 * (b.map SR.amount).sum
  | [], _ => Nat.le_refl _
  | s :: b, h => by
    have h1 := rows_len n b fun x hx => h x (List.mem_cons_of_mem _ hx)
    have h2 := (h s (List.mem_cons_self ..)).many
    unfold rowsOf at h1 ⊢
    rw [List.flatMap_cons, List.length_append, List.length_map, List.map_cons, List.sum_cons]
    omega
theorem rows_snoc (n : Nat) (b : List SR) (s : SR) : rowsOf n (b ++ [s]) = rowsOf n b ++ s.lines.map (padN n) := by
  unfold rowsOf
  rw [List.flatMap_append]
  simp
theorem lsTake {b : List SR} {i : Nat} {s : SR} (h : b[i]? = some s) : b.take (i + 1) = b.take i ++ [s] := by
  rw [List.take_succ, h]
  rfl
theorem sum_take (b : List SR) (i : Nat) : ((b.take i).map SR.amount).sum ≤ (b.map SR.amount).sum := by
  conv => rhs; rw [← List.take_append_drop i b, List.map_append, List.sum_append]
  exact Nat.le_add_right _ _
section
variable {P : Program} {w : World} {K : PySem.W.Frag} {mg : Str → Option Value} {base : Heap} {C : Kd → Addr} {CE CS : Addr} {CK : Sk → Addr}
def n_rows : List Str := ["_law_steps_here", "_law_level", "_law_found", "_law_each", "_law_inner_here", "_law_at"]
theorem sc_rows : FnScope n_rows ["_law_steps_here", "_law_level"] (defScope s_rows) := ⟨rfl, rfl, rfl, by decide +kernel, rfl, by decide +kernel, by decide +kernel⟩
def spRows (n : Nat) : Sp := fun vs H Q _ => ∃ (b : List SR) (v : V) (L : Nat), vs = [v, .int (L : Int)] ∧ LsOf (TsN n H) H b v ∧ (b.map SR.amount).sum ≤ 400 ∧ L ≤ 20 ∧ L + n ≤ 20 ∧ ∀ l G, Same H G → G l = some (.lst ((rowsOf L b).map V.str)) → H l = none → Q (.ref l) G
theorem ok_rows (T : Txt mg) (D : Dfn K mg "_law_rows" s_rows ["_law_steps_here", "_law_level"]) (c_head : ∀ n, CalG P w K mg base 8 "_law_head" ["_law_each"] (spHead n)) (c_inner : CalG P w K mg base 1 "_law_inner" ["_law_each"] spInner) :
    ∀ n, CalG P w K mg base (n + 9) "_law_rows" ["_law_steps_here", "_law_level"] (spRows n) := by
  intro n
  induction n with
  | zero =>
    refine D.ok sc_rows (fun vs H Q E h => ?_) (fun f cdv A fr s H vs Q E hr hgd h => ?_)
    · obtain ⟨b, v, L, rfl, _⟩ := h
      rfl
    · obtain ⟨b, v, L, rfl, ⟨l0, us, rfl, h0, pr⟩, ha, hL, _, fin⟩ := h
      refine ⟨_, pss_cons (ps_set (i := 2) sc_rows.nd rfl (.inl rfl) (pe_lst pa_nil))
        (pss_cons (ps_for PassesOwn.never rfl (pi_list (pv 0)) (pg_name (i := 3) sc_rows.nd rfl (.inl rfl)) (pss_cons ps_never (pss_cons ps_never (pss_one ps_never))))
        (pss_one (ps_ret (pv 2)))), ?_⟩
      cases pr with
      | cons p _ => exact p.elim
      | nil =>
        refine ⟨(show 0 ≤ sizeLine by decide), fun l nl => ?_⟩
        have s1 : Same H (upd H l (.lst [])) := same_new nl
        refine ⟨_, rfl, l0, rfl, ⟨_, SqL.of (s1 _ _ h0)⟩, ?_⟩
        refine for_it (walk_list (K := K) (a := l0) (xs := [])) (fun i σ G => G = upd H l (.lst []) ∧ σ = [some (.ref l0), some (.int (L : Int)), some (.ref l), none, none, none]) ⟨rfl, rfl⟩ (fun i σ G hi hG => ?_) (fun i x σ G G' hi _ _ => ?_) (fun σ G hG => ?_)
        · rw [hG.1]
          exact SqL.of (s1 _ _ h0)
        · exact absurd hi (Nat.not_lt_zero _)
        · obtain ⟨rfl, rfl⟩ := hG
          exact ⟨_, rfl, fin l _ s1 upd_same nl⟩
  | succ n c_rows =>
    refine D.ok sc_rows (fun vs H Q E h => ?_) (fun f cdv A fr s H vs Q E hr hgd h => ?_)
    · obtain ⟨b, v, L, rfl, _⟩ := h
      rfl
    · obtain ⟨b, v, L, rfl, ⟨l0, us, rfl, h0, pr⟩, ha, hL, hLn, fin⟩ := h
      refine ⟨_, pss_cons (ps_set (i := 2) sc_rows.nd rfl (.inl rfl) (pe_lst pa_nil))
        (pss_cons (ps_for PassesOwn.never rfl (pi_list (pv 0)) (pg_name (i := 3) sc_rows.nd rfl (.inl rfl))
          (pss_cons (ps_expr (pe_bm PySem.F.plainAttrs_list PySem.F.slot_list_append PySem.F.type_list_append mt_append (pv 2) (pa_cons (pe_op op_add_str (pe_op op_mulS pe_str (pv 1)) (pe_cG (c_head (n + 1)) hr (by omega) hgd rfl (pa_cons (pv 3) pa_nil))) pa_nil)))
          (pss_cons (ps_set (i := 4) sc_rows.nd rfl (.inl rfl) (pe_cG c_inner hr (by omega) hgd rfl (pa_cons (pv 3) pa_nil)))
          (pss_one (ps_for PassesOwn.never rfl (pi_range1 rfl T.b_range (pa_cons (pe_callB call_len rfl T.b_len (by decide +kernel) (pa_cons (pv 4) pa_nil)) pa_nil)) (pg_name (i := 5) sc_rows.nd rfl (.inl rfl))
            (pss_cons (ps_if (PW.pt (pw_and (pt_cmpR op_eq (pv 5) pe_int (nomark _)) (pw_and1 (pt_cmpR (op_neE hr.units) (pe_ix ix_list (pv 4) pe_int (fun _ _ => rfl)) (pe_lst pa_nil) (nomark _)))))
                (pss_one (ps_expr (pe_bm PySem.F.plainAttrs_list PySem.F.slot_list_append PySem.F.type_list_append mt_append (pv 2) (pa_cons (pe_op op_add_str (pe_op op_mulS pe_str (pv 1)) pe_str) pa_nil))))
                (pss_nil))
            (pss_one (ps_set (i := 2) sc_rows.nd rfl (.inl rfl) (pe_op op_cat (pv 2) (pe_cG c_rows hr (Nat.le_refl _) hgd rfl (pa_cons (pe_ix ix_list (pv 4) (pv 5) (fun _ _ => rfl)) (pa_cons (pe_op op_add (pv 1) pe_int) pa_nil))))))))))))
        (pss_one (ps_ret (pv 2)))), ?_⟩
      have fine : ∀ s ∈ b, s.Fine := fun s hs => by
        obtain ⟨i, hi, e⟩ := List.mem_iff_getElem.mp hs
        obtain ⟨y, hy⟩ : ∃ y, us[i]? = some y := ⟨us[i]'(by rw [← pair_len pr]; exact hi), List.getElem?_eq_getElem _⟩
        obtain ⟨s2, hs2, t2⟩ := pair_at pr hy
        rw [List.getElem?_eq_getElem hi, e] at hs2
        cases hs2
        exact t2.fine
      have pl := pair_len pr
      refine ⟨(show 0 ≤ sizeLine by decide), fun l nl => ?_⟩
      have s1 : Same H (upd H l (.lst [])) := same_new nl
      refine ⟨_, rfl, l0, rfl, ⟨_, SqL.of (s1 _ _ h0)⟩, ?_⟩
      refine for_it (walk_list (K := K) (a := l0) (xs := us)) (fun i σ G => Same H G ∧ ∃ (l : Addr) (y3 y4 y5 : Option V), H l = none ∧ G l = some (.lst ((rowsOf L (b.take i)).map V.str)) ∧ σ = [some (.ref l0), some (.int (L : Int)), some (.ref l), y3, y4, y5]) ⟨s1, l, none, none, none, nl, upd_same, rfl⟩ (fun i σ G hi hG => SqL.of (hG.1 _ _ h0)) (fun i x σ G G' hi hG hy => ?_) (fun σ G hG => ?_)
      · obtain ⟨sG, l, y3, y4, y5, nl, hl, rfl⟩ := hG
        obtain ⟨rfl, hx⟩ := hy
        obtain ⟨s, hs, ts⟩ := pair_at pr hx
        have fs := ts.fine
        obtain ⟨q, hd, bs, us2, rfl, hq, es, ho, ft, ar⟩ := ts
        have et0 := lsTake hs
        have fm := fs.many
        have r1 : (rowsOf L (b.take (i + 1))).length ≤ 800 := by
          have h1 := rows_len L (b.take (i + 1)) fun s hs => fine s (List.mem_of_mem_take hs)
          have h2 := sum_take b (i + 1)
          omega
        rw [et0, rows_snoc] at r1
        have e2 : s.lines = hd.line :: insd 0 bs := by rw [es]; rfl
        have e3 : s.line = hd.line := by rw [es]; rfl
        rw [e2, List.length_append, List.length_map, List.length_cons] at r1
        have ll := ho.len
        have sz : ∀ m : Nat, m ≤ 800 → m ≤ sizeLine := fun m h => Nat.le_trans h (by decide)
        have sz2 : ∀ m : Nat, m < 800 → m < sizeLine := fun m h => Nat.lt_of_lt_of_le h (by decide)
        have c2 : ("  " : Str).length = 2 := by decide +kernel
        refine ⟨_, rfl, .inl ⟨rfl, _, SqL.of hl⟩, _, rfl, "  ", L, rfl, rfl, by omega, by decide +kernel, by decide +kernel, _, rfl, s, _, rfl, ⟨q, hd, bs, us2, rfl, sG _ _ hq, es, ho, ft, ar.imp (fun _ _ e => sG _ _ e) fun b v hb => hb.same sG⟩, fun G2 s2 => ⟨_, _, rfl, rfl, ?_, l, _, _, rfl, rfl, s2 _ _ hl, ?_, ?_⟩⟩
        · rw [e3, rep_len, c2]
          exact small_len (by omega)
        · rw [List.length_map]
          exact sz2 _ (by omega)
        have s3 : Same H (upd G2 l (.lst ((rowsOf L (b.take i)).map V.str ++ [V.str (repS L "  " ++ hd.line)]))) := fun c o hc => by
          rw [upd_ne (fun e => by rw [e, nl] at hc; cases hc)]
          exact s2 _ _ (sG _ _ hc)
        have hl3 : upd G2 l (.lst ((rowsOf L (b.take i)).map V.str ++ [V.str (repS L "  " ++ hd.line)])) l = some (.lst ((rowsOf L (b.take i) ++ [padN L hd.line]).map V.str)) := by
          rw [upd_same, List.map_append]
          rfl
        rw [e3]
        generalize upd G2 l (.lst ((rowsOf L (b.take i)).map V.str ++ [V.str (repS L "  " ++ hd.line)])) = G3 at s3 hl3
        refine ⟨_, rfl, LsOf (TsN n H) H, H, q, hd, bs, us2, rfl, s3 _ _ hq, ar, fun li xs G4 s4 nli hli pb => ?_⟩
        have plb := pair_len pb
        have l2 := ft.two
        have hl4 := s4 _ _ hl3
        have lne : l ≠ li := fun e => by rw [e, nli] at hl3; cases hl3
        refine ⟨_, rfl, .ref li, xs.length, rfl, .inl ⟨_, SqL.of hli, rfl⟩, _, rfl, by omega, by omega, ?_⟩
        rw [Int.toNat_natCast]
        refine for_range (lo := 0) (n := xs.length) (fun j σ G => Same H G ∧ G li = some (.lst xs) ∧ ∃ (l : Addr) (y5 : Option V), H l = none ∧ l ≠ li ∧ G l = some (.lst ((rowsOf L (b.take i) ++ ([padN L hd.line] ++ (insd 0 (bs.take j)).map (padN L))).map V.str)) ∧ σ = [some (.ref l0), some (.int (L : Int)), some (.ref l), some (.ref q), some (.ref li), y5])
          ⟨s3.trans s4, hli, l, y5, nl, lne, hl4, rfl⟩ (fun j σ G hj hG => ?_) (fun σ G hG => ?_)
        · obtain ⟨sG, hli, l, y5, nl, lne, hl, rfl⟩ := hG
          rw [show (0 : Int) + (j : Int) = (j : Int) by omega]
          obtain ⟨y, hy⟩ : ∃ y, xs[j]? = some y := ⟨xs[j], List.getElem?_eq_getElem hj⟩
          obtain ⟨bd, hb, lb⟩ := pair_at pb hy
          have hbs : j < bs.length := (List.getElem?_eq_some_iff.mp hb).1
          have et : bs.take (j + 1) = bs.take j ++ [bd] := by rw [List.take_succ, hb]; rfl
          have e1 := insd_snoc (bs.take j) bd 0
          rw [← et, List.length_take, Nat.min_eq_left (Nat.le_of_lt hbs), Nat.zero_add] at e1
          have goalL : (rowsOf L (b.take i) ++ ([padN L hd.line] ++ (insd 0 (bs.take (j + 1))).map (padN L))).length ≤ 900 := by
            have h1 := insd_len (bs.take (j + 1)) 0 fun s hs => ft.fine s (by
              rw [← List.take_append_drop (j + 1) bs, List.flatten_append]
              exact List.mem_append_left _ hs)
            have h2 : ((bs.take (j + 1)).flatten.map SR.amount).sum ≤ amtS bs := by
              unfold amtS
              conv => rhs; rw [← List.take_append_drop (j + 1) bs, List.flatten_append, List.map_append, List.sum_append]
              exact Nat.le_add_right _ _
            have h3 := List.length_take (i := j + 1) (l := bs)
            have h4 := rows_len L (b.take i) fun s hs => fine s (List.mem_of_mem_take hs)
            have h5 : ((b.take i).map SR.amount).sum + s.amount ≤ 400 := by
              have h6 := sum_take b (i + 1)
              rw [et0, List.map_append, List.sum_append] at h6
              simp only [List.map_cons, List.map_nil, List.sum_cons, List.sum_nil] at h6
              omega
            have h7 : s.amount = 1 + amtS bs := by rw [es]; rfl
            rw [List.length_append, List.length_append, List.length_map, List.length_singleton]
            omega
          have ham : (bd.map SR.amount).sum ≤ 400 := by
            have h1 : bs.flatten = (bs.take j).flatten ++ (bd ++ (bs.drop (j + 1)).flatten) := by
              conv => lhs; rw [← List.take_append_drop j bs, List.flatten_append, List.drop_eq_getElem_cons hbs, List.flatten_cons]
              rw [show bs[j] = bd from Option.some.inj ((List.getElem?_eq_getElem hbs).symm.trans hb)]
            have h2 := ft.amount
            unfold amtS at h2
            rw [h1, List.map_append, List.map_append, List.sum_append, List.sum_append] at h2
            omega
          have rest : ∀ (D : Ends) (G2 : Hp) (pre : List Str) (l : Addr), (∀ (l2 : Addr) G3, Same H G3 → G3 li = some (.lst xs) → H l2 = none → l2 ≠ li → G3 l2 = some (.lst ((rowsOf L (b.take i) ++ ([padN L hd.line] ++ (insd 0 (bs.take (j + 1))).map (padN L))).map V.str)) → D.nx [some (.ref l0), some (.int (L : Int)), some (.ref l2), some (.ref q), some (.ref li), some (.int (j : Int))] G3) →
              Same H G2 → G2 li = some (.lst xs) → G2 l = some (.lst (pre.map V.str)) → pre ++ rowsOf (L + 1) bd = rowsOf L (b.take i) ++ ([padN L hd.line] ++ (insd 0 (bs.take (j + 1))).map (padN L)) →
              tAsg (tOp rCat (tVar 2) (tCall (spRows n) [] E0 (tCons (tOp (rIxL K) (tVar 4) (tVar 5)) (tCons (tOp (rI0 fun i j => V.int (i + j)) (tVar 1) (tC (.int 1))) tNil)))) (gName 2) D [some (.ref l0), some (.int (L : Int)), some (.ref l), some (.ref q), some (.ref li), some (.int (j : Int))] G2 := fun D G2 pre l hn sH hli2 hl2 hp => by
            refine ⟨_, rfl, _, rfl, _, rfl, li, _, (j : Int), _, rfl, rfl, SqL.of hli2, atI_nat hy, _, rfl, _, _, rfl, rfl, bd, y, L + 1, rfl, lb.same sH, ham, by omega, by omega, fun l3 G4 s4 hl3 nl3 => ?_⟩
            refine ⟨l, l3, pre.map V.str, (rowsOf (L + 1) bd).map V.str, rfl, rfl, s4 _ _ hl2, hl3, ?_, fun p np => ?_⟩
            · rw [List.length_map, List.length_map, ← List.length_append, hp]
              exact Nat.le_trans goalL (by decide)
            · have s5 := (sH.trans s4).trans (same_new (o := .lst (pre.map V.str ++ (rowsOf (L + 1) bd).map V.str)) np)
              have hli3 := s4 _ _ hli2
              refine hn p _ s5 (by rw [upd_ne (fun e => by rw [← e, hli3] at np; cases np)]; exact hli3) (none_back (sH.trans s4) np) (fun e => by rw [e, hli3] at np; cases np) ?_
              rw [upd_same, ← List.map_append, hp]
          have fin2 : ∀ (l2 : Addr) G3, Same H G3 → G3 li = some (.lst xs) → H l2 = none → l2 ≠ li → G3 l2 = some (.lst ((rowsOf L (b.take i) ++ ([padN L hd.line] ++ (insd 0 (bs.take (j + 1))).map (padN L))).map V.str)) → (Same H G3 ∧ G3 li = some (.lst xs) ∧ ∃ (l : Addr) (y5 : Option V), H l = none ∧ l ≠ li ∧ G3 l = some (.lst ((rowsOf L (b.take i) ++ ([padN L hd.line] ++ (insd 0 (bs.take (j + 1))).map (padN L))).map V.str)) ∧ [some (V.ref l0), some (V.int (L : Int)), some (V.ref l2), some (V.ref q), some (V.ref li), some (V.int (j : Int))] = [some (.ref l0), some (.int (L : Int)), some (.ref l), some (.ref q), some (.ref li), y5]) := fun l2 G3 h1 h2 h3 h4 h5 => ⟨h1, h2, l2, _, h3, h4, h5, rfl⟩
          have e5 : rowsOf (L + 1) bd = (indS bd).map (padN L) := rows_ind L bd
          refine ⟨_, rfl, rfl, _, rfl, ?_⟩
          by_cases h1 : j = 1
          · subst h1
            refine iteT ?_
            refine ⟨_, rfl, li, _, 1, _, rfl, rfl, SqL.of hli, atI_nat (j := 1) hy, (show 0 ≤ sizeLine by decide), fun le ne => ?_⟩
            have s6 := sG.trans (same_new (o := .lst []) ne)
            have hli6 : upd G le (.lst []) li = some (.lst xs) := by rw [upd_ne (fun e => by rw [← e, hli] at ne; cases ne)]; exact hli
            have hl6 : upd G le (.lst []) l = some (.lst ((rowsOf L (b.take i) ++ ([padN L hd.line] ++ (insd 0 (bs.take 1)).map (padN L))).map V.str)) := by rw [upd_ne (fun e => by rw [← e, hl] at ne; cases ne)]; exact hl
            have he6 : upd G le (.lst []) le = some (.lst []) := upd_same
            generalize upd G le (.lst []) = G6 at s6 hli6 hl6 he6
            obtain ⟨lb1, ub, rfl, hlb, pbd⟩ := lb
            have plb2 := pair_len pbd
            refine ⟨lb1, le, ub, rfl, rfl, SqL.of (s6 _ _ hlb), SqL.of he6, _, rfl, ?_⟩
            cases ub with
            | nil =>
              have eb : bd = [] := List.eq_nil_of_length_eq_zero plb2
              refine iteF (rest _ _ _ l fin2 s6 hli6 hl6 ?_)
              rw [e1, e5, if_neg (fun h => h.2 eb), List.append_assoc, List.append_assoc, List.map_append, List.nil_append]
            | cons u0 ur =>
              have eb : bd ≠ [] := fun e => by rw [e] at plb2; cases plb2
              have e6 : (rowsOf L (b.take i) ++ ([padN L hd.line] ++ (insd 0 (bs.take 1)).map (padN L)) ++ [padN L "else"]) ++ rowsOf (L + 1) bd = rowsOf L (b.take i) ++ ([padN L hd.line] ++ (insd 0 (bs.take (1 + 1))).map (padN L)) := by
                rw [e1, e5, if_pos ⟨by decide, eb⟩, List.map_append, List.map_append]
                simp only [List.append_assoc]
                rfl
              have sz3 : (rowsOf L (b.take i) ++ ([padN L hd.line] ++ (insd 0 (bs.take 1)).map (padN L))).length ≤ 900 := by
                rw [← e6, List.length_append, List.length_append] at goalL
                omega
              refine iteT ⟨_, rfl, .inl ⟨rfl, _, SqL.of hl6⟩, _, rfl, "  ", L, rfl, rfl, by omega, by decide +kernel, by decide +kernel, _, _, rfl, rfl, ?_, l, _, _, rfl, rfl, hl6, ?_, ?_⟩
              · rw [rep_len, c2, show ("else" : Str).length = 4 by decide +kernel]
                exact small_len (by omega)
              · rw [List.length_map]
                exact Nat.lt_of_le_of_lt sz3 (by decide)
              · refine rest _ _ _ l fin2 (fun c o hc => ?_) ?_ ?_ e6
                · rw [upd_ne (fun e => by rw [e, nl] at hc; cases hc)]
                  exact s6 _ _ hc
                · rw [upd_ne (fun e => lne e.symm)]
                  exact hli6
                · rw [upd_same, List.map_append (l₁ := rowsOf L (b.take i) ++ _)]
                  rfl
          · have e7 : decide (V.int (j : Int) = V.int 1) = false := decide_eq_false fun e => by
              have := V.int.inj e
              omega
            rw [e7]
            refine iteF (iteF (rest _ _ _ l fin2 sG hli hl ?_))
            rw [e1, e5, if_neg (fun h => by have := h.1; omega), List.append_assoc, List.append_assoc, List.map_append, List.nil_append]
        · obtain ⟨sG, hli, l, y5, nl, lne, hl, rfl⟩ := hG
          rw [← plb, List.take_length] at hl
          refine ⟨sG, l, _, _, _, nl, ?_, rfl⟩
          rw [hl, et0, rows_snoc, e2]
          rfl
      · obtain ⟨sG, l, y3, y4, y5, nl, hl, rfl⟩ := hG
        rw [← pl, List.take_length] at hl
        exact ⟨_, rfl, fin l G sG hl nl⟩
end
end Jo

set_option Elab.async false
set_option linter.all false
set_option maxRecDepth 100000
set_option maxHeartbeats 2000000
namespace Jo
open PySem PySem.Spec PyProof.Rows L2 ClX
theorem pe_never {X : Cx} {e : Expr} : PE X e (fun _ _ _ => False) := ⟨fun _ _ _ _ _ _ h => h.elim⟩
def scope0 : Scope := { kind := .function, names := [], isGenerator := false, isCoroutine := false }
def lcScope (s : Stmt) : Scope := match (defBody s).getLastD (.Pass ⟨0, 0, 0, 0⟩) with
  | .Return (some (.Call _ (.ListComp _ _ sc _ :: _) _ _)) _ => sc
  | _ => scope0
theorem sum_flat : ∀ bs : List (List SR), (bs.flatten.map SR.amount).sum = (bs.map fun b => (b.map SR.amount).sum).sum
  | [] => rfl
  | b :: bs => by
    rw [List.flatten_cons, List.map_append, List.sum_append, List.map_cons, List.sum_cons, sum_flat bs]
theorem top1_append (l m : List Nat) : Tr.top1 (l ++ m) = max (Tr.top1 l) (Tr.top1 m) := by
  refine Nat.le_antisymm (top1_le fun x hx => ?_) (Nat.max_le.mpr ⟨top1_le fun x hx => top1_ge (List.mem_append_left _ hx), top1_le fun x hx => top1_ge (List.mem_append_right _ hx)⟩)
  rcases List.mem_append.mp hx with h | h
  · exact Nat.le_trans (top1_ge h) (Nat.le_max_left _ _)
  · exact Nat.le_trans (top1_ge h) (Nat.le_max_right _ _)
theorem top1_flat : ∀ bs : List (List SR), Tr.top1 (bs.flatten.map SR.height) = Tr.top1 (bs.map fun b => Tr.top1 (b.map SR.height))
  | [] => rfl
  | b :: bs => by
    rw [List.flatten_cons, List.map_append, top1_append, List.map_cons, top1_flat bs]
    show _ = Tr.top1 ([_] ++ _)
    rw [top1_append, show ∀ x, Tr.top1 [x] = x from Nat.zero_max]
section
variable {P : Program} {w : World} {K : PySem.W.Frag} {mg : Str → Option Value} {base : Heap} {C : Kd → Addr} {CE CS : Addr} {CK : Sk → Addr}
def n_amount : List Str := ["_law_steps_here", "_law_each", "_law_lot_here"]
theorem sc_amount : FnScope n_amount ["_law_steps_here"] (defScope s_amount) := ⟨rfl, rfl, rfl, by decide +kernel, rfl, by decide +kernel, by decide +kernel⟩
def spAmount (n : Nat) : Sp := fun vs H Q _ => ∃ (b : List SR) (v : V), vs = [v] ∧ LsOf (TsN n H) H b v ∧ b.length ≤ 400 ∧ ∀ G, Same H G → Q (.int (((b.map SR.amount).sum : Nat) : Int)) G
def teAmt (K : PySem.W.Frag) (n : Nat) : TE := tOp (rI0 fun i j => V.int (i + j)) (tC (.int 1)) (tCB (rSum K) (tCons (tLc (iList K (tCall spInner [] E0 (tCons (tVar 1) tNil))) (gName 2) tYes (tCall (spAmount n) [] E0 (tCons (tVar 2) tNil)) [2]) tNil))
theorem ok_amount (T : Txt mg) (D : Dfn K mg "_law_amount" s_amount ["_law_steps_here"]) (c_inner : CalG P w K mg base 1 "_law_inner" ["_law_each"] spInner) :
    ∀ n, CalG P w K mg base (n + 2) "_law_amount" ["_law_steps_here"] (spAmount n) := by
  intro n
  induction n with
  | zero =>
    refine D.ok sc_amount (fun vs H Q E h => ?_) (fun f cdv A fr s H vs Q E hr hgd h => ?_)
    · obtain ⟨b, v, rfl, _⟩ := h
      rfl
    · obtain ⟨b, v, rfl, ⟨l0, us, rfl, h0, pr⟩, hl, fin⟩ := h
      refine ⟨_, pss_one (ps_ret (pe_callB (cr_sum rfl) rfl T.b_sum (by decide +kernel) (pa_cons (pe_lc (own := [("_law_each", 1)]) (g := gName 1) (tt := tYes) (te := fun _ _ _ => False) rfl sc_amount.nd (pi_list (pv 0)) (blkOk_by (N := n_amount) (sc := defScope s_amount) (by decide +kernel)) (fun _ _ _ _ _ => pg_name (i := 1) sc_amount.nd rfl (Or.inl rfl)) (fun _ _ _ _ _ => pts_nil) (fun _ _ _ _ _ => pe_never)) pa_nil))), ?_⟩
      cases pr with
      | cons p _ => exact p.elim
      | nil =>
        refine ⟨_, rfl, l0, rfl, ⟨_, SqL.of h0⟩, fun D1 nD => ?_⟩
        refine lc_call (te := fun _ _ _ => False) (g := gName 1) (vs := [1]) (walk_list (K := K) (a := l0) (xs := [])) nD [] rfl (Nat.zero_le _) (fun G sG => SqL.of (sG _ _ h0)) (fun i x v G G' R hv _ _ _ => by cases hv) (fun G sG hD => ?_)
        exact ⟨D1, [], rfl, SqL.of hD, fin G sG⟩
  | succ n c_amount =>
    refine D.ok sc_amount (fun vs H Q E h => ?_) (fun f cdv A fr s H vs Q E hr hgd h => ?_)
    · obtain ⟨b, v, rfl, _⟩ := h
      rfl
    · obtain ⟨b, v, rfl, ⟨l0, us, rfl, h0, pr⟩, hl, fin⟩ := h
      refine ⟨_, pss_one (ps_ret (pe_callB (cr_sum rfl) rfl T.b_sum (by decide +kernel) (pa_cons (pe_lc (own := [("_law_each", 1)]) (g := gName 1) (tt := tYes) (te := teAmt K n) rfl sc_amount.nd (pi_list (pv 0)) (blkOk_by (N := n_amount) (sc := defScope s_amount) (by decide +kernel)) (fun _ _ _ _ _ => pg_name (i := 1) sc_amount.nd rfl (Or.inl rfl)) (fun _ _ _ _ _ => pts_nil)
        (fun _ _ _ _ _ => pe_op op_add pe_int (pe_callB (cr_sum rfl) rfl T.b_sum (by decide +kernel) (pa_cons (pe_lc (own := [("_law_lot_here", 2)]) (g := gName 2) (tt := tYes) rfl sc_amount.nd (pi_list (pe_cG c_inner hr (by omega) hgd rfl (pa_cons (pv 1) pa_nil))) (blkOk_by (N := n_amount) (sc := lcScope s_amount) (by decide +kernel)) (fun _ _ _ _ _ => pg_name (i := 2) sc_amount.nd rfl (Or.inl rfl)) (fun _ _ _ _ _ => pts_nil)
          (fun _ _ _ _ _ => pe_cG c_amount hr (Nat.le_refl _) hgd rfl (pa_cons (pv 2) pa_nil))) pa_nil)))) pa_nil))), ?_⟩
      refine ⟨_, rfl, l0, rfl, ⟨_, SqL.of h0⟩, fun D1 nD => ?_⟩
      refine lc_call (walk_list (K := K) (a := l0) (xs := us)) nD (b.map fun s => V.int ((s.amount : Nat) : Int)) (by rw [List.length_map]; exact pair_len pr) (by rw [← pair_len pr]; omega) (fun G sG => SqL.of (sG _ _ h0)) (fun i x v G G' R hv sG hy hR => ?_) (fun G sG hD => ?_)
      · obtain ⟨rfl, hx⟩ := hy
        obtain ⟨s, hs, ts⟩ := pair_at pr hx
        rw [List.getElem?_map, hs] at hv
        obtain rfl := Option.some.inj hv
        obtain ⟨q, hd, bs, us2, rfl, hq, es, ho, ft, ar⟩ := ts
        refine ⟨rfl, _, rfl, LsOf (TsN n H) H, H, q, hd, bs, us2, rfl, sG _ _ hq, ar, fun li xs G4 s4 nli hli pb => ?_⟩
        refine ⟨li, rfl, ⟨_, SqL.of hli⟩, fun D2 nD2 => ?_⟩
        refine lc_call (walk_list (K := K) (a := li) (xs := xs)) nD2 (bs.map fun b => V.int (((b.map SR.amount).sum : Nat) : Int)) (by rw [List.length_map]; exact pair_len pb) (by have := ft.two; have := pair_len pb; omega) (fun G sG => SqL.of (sG _ _ hli)) (fun j y v2 G5 G5' R2 hv2 s5 hy2 hR2 => ?_) (fun G5 s5 hD2 => ?_)
        · obtain ⟨rfl, hx2⟩ := hy2
          obtain ⟨bd, hb, lb⟩ := pair_at pb hx2
          rw [List.getElem?_map, hb] at hv2
          obtain rfl := Option.some.inj hv2
          have hin : bd.length ≤ 400 := by
            have h1 := ft.few
            have h2 : bd.length ≤ bs.flatten.length := (List.sublist_flatten_of_mem (List.mem_of_getElem? hb)).length_le
            omega
          exact ⟨rfl, _, rfl, bd, y, rfl, lb.same (sG.trans (s4.trans s5)), hin, fun G6 s6 => hR2 G6 s6⟩
        · refine ⟨D2, (bs.map fun b => (b.map SR.amount).sum).map fun n : Nat => (n : Int), rfl, SqL.of (by rw [hD2, List.map_map, List.map_map]; rfl), _, _, rfl, rfl, ?_⟩
          rw [nat_sum]
          have e1 : (1 : Int) + (((bs.map fun b => (b.map SR.amount).sum).sum : Nat) : Int) = ((s.amount : Nat) : Int) := by
            have e2 : s.amount = 1 + amtS bs := by rw [es]; rfl
            rw [e2]
            unfold amtS
            rw [sum_flat]
            omega
          have q2 : R (.int ((s.amount : Nat) : Int)) G5 := hR G5 (s4.trans s5)
          rw [← e1] at q2
          exact q2
      · refine ⟨D1, (b.map SR.amount).map fun n : Nat => (n : Int), rfl, SqL.of (by rw [hD, List.map_map, List.map_map]; rfl), ?_⟩
        rw [nat_sum]
        exact fin G sG
def n_height : List Str := ["_law_steps_here", "_law_each", "_law_lot_here"]
theorem sc_height : FnScope n_height ["_law_steps_here"] (defScope s_height) := ⟨rfl, rfl, rfl, by decide +kernel, rfl, by decide +kernel, by decide +kernel⟩
def spHeight (n : Nat) : Sp := fun vs H Q _ => ∃ (b : List SR) (v : V), vs = [v] ∧ LsOf (TsN n H) H b v ∧ b.length ≤ 400 ∧ ∀ G, Same H G → Q (.int ((Tr.top1 (b.map SR.height) : Nat) : Int)) G
def teHgt (K : PySem.W.Frag) (n : Nat) : TE := tOp (rI0 fun i j => V.int (i + j)) (tC (.int 1)) (tCKw (rMaxD K) (tCons (tLc (iList K (tCall spInner [] E0 (tCons (tVar 1) tNil))) (gName 2) tYes (tCall (spHeight n) [] E0 (tCons (tVar 2) tNil)) [2]) tNil) (tCons (tC (.int 0)) tNil))
theorem ok_height (T : Txt mg) (D : Dfn K mg "_law_height" s_height ["_law_steps_here"]) (c_inner : CalG P w K mg base 1 "_law_inner" ["_law_each"] spInner) :
    ∀ n, CalG P w K mg base (n + 2) "_law_height" ["_law_steps_here"] (spHeight n) := by
  intro n
  induction n with
  | zero =>
    refine D.ok sc_height (fun vs H Q E h => ?_) (fun f cdv A fr s H vs Q E hr hgd h => ?_)
    · obtain ⟨b, v, rfl, _⟩ := h
      rfl
    · obtain ⟨b, v, rfl, ⟨l0, us, rfl, h0, pr⟩, hl, fin⟩ := h
      have hr1 := hr.mono (show 1 ≤ _ by omega)
      refine ⟨_, pss_one (ps_ret (pe_callBK (cr_maxD rfl hr1) rfl T.b_max (by decide +kernel) (pa_cons (pe_lc (own := [("_law_each", 1)]) (g := gName 1) (tt := tYes) (te := fun _ _ _ => False) rfl sc_height.nd (pi_list (pv 0)) (blkOk_by (N := n_height) (sc := defScope s_height) (by decide +kernel)) (fun _ _ _ _ _ => pg_name (i := 1) sc_height.nd rfl (Or.inl rfl)) (fun _ _ _ _ _ => pts_nil) (fun _ _ _ _ _ => pe_never)) pa_nil) (pk_cons pe_int pk_nil))), ?_⟩
      cases pr with
      | cons p _ => exact p.elim
      | nil =>
        refine ⟨_, rfl, l0, rfl, ⟨_, SqL.of h0⟩, fun D1 nD => ?_⟩
        refine lc_call (te := fun _ _ _ => False) (g := gName 1) (vs := [1]) (walk_list (K := K) (a := l0) (xs := [])) nD [] rfl (Nat.zero_le _) (fun G sG => SqL.of (sG _ _ h0)) (fun i x v G G' R hv _ _ _ => by cases hv) (fun G sG hD => ?_)
        exact ⟨D1, [], 0, rfl, rfl, SqL.of hD, fun _ => fin G sG, fun n r e => by cases e⟩
  | succ n c_height =>
    refine D.ok sc_height (fun vs H Q E h => ?_) (fun f cdv A fr s H vs Q E hr hgd h => ?_)
    · obtain ⟨b, v, rfl, _⟩ := h
      rfl
    · obtain ⟨b, v, rfl, ⟨l0, us, rfl, h0, pr⟩, hl, fin⟩ := h
      have hr1 := hr.mono (show 1 ≤ _ by omega)
      refine ⟨_, pss_one (ps_ret (pe_callBK (cr_maxD rfl hr1) rfl T.b_max (by decide +kernel) (pa_cons (pe_lc (own := [("_law_each", 1)]) (g := gName 1) (tt := tYes) (te := teHgt K n) rfl sc_height.nd (pi_list (pv 0)) (blkOk_by (N := n_height) (sc := defScope s_height) (by decide +kernel)) (fun _ _ _ _ _ => pg_name (i := 1) sc_height.nd rfl (Or.inl rfl)) (fun _ _ _ _ _ => pts_nil)
        (fun _ _ _ _ _ => pe_op op_add pe_int (pe_callBK (cr_maxD rfl hr1) rfl T.b_max (by decide +kernel) (pa_cons (pe_lc (own := [("_law_lot_here", 2)]) (g := gName 2) (tt := tYes) rfl sc_height.nd (pi_list (pe_cG c_inner hr (by omega) hgd rfl (pa_cons (pv 1) pa_nil))) (blkOk_by (N := n_height) (sc := lcScope s_height) (by decide +kernel)) (fun _ _ _ _ _ => pg_name (i := 2) sc_height.nd rfl (Or.inl rfl)) (fun _ _ _ _ _ => pts_nil)
          (fun _ _ _ _ _ => pe_cG c_height hr (Nat.le_refl _) hgd rfl (pa_cons (pv 2) pa_nil))) pa_nil) (pk_cons pe_int pk_nil)))) pa_nil) (pk_cons pe_int pk_nil))), ?_⟩
      refine ⟨_, rfl, l0, rfl, ⟨_, SqL.of h0⟩, fun D1 nD => ?_⟩
      refine lc_call (walk_list (K := K) (a := l0) (xs := us)) nD (b.map fun s => V.int ((s.height : Nat) : Int)) (by rw [List.length_map]; exact pair_len pr) (by rw [← pair_len pr]; omega) (fun G sG => SqL.of (sG _ _ h0)) (fun i x v G G' R hv sG hy hR => ?_) (fun G sG hD => ?_)
      · obtain ⟨rfl, hx⟩ := hy
        obtain ⟨s, hs, ts⟩ := pair_at pr hx
        rw [List.getElem?_map, hs] at hv
        obtain rfl := Option.some.inj hv
        obtain ⟨q, hd, bs, us2, rfl, hq, es, ho, ft, ar⟩ := ts
        refine ⟨rfl, _, rfl, LsOf (TsN n H) H, H, q, hd, bs, us2, rfl, sG _ _ hq, ar, fun li xs G4 s4 nli hli pb => ?_⟩
        refine ⟨li, rfl, ⟨_, SqL.of hli⟩, fun D2 nD2 => ?_⟩
        refine lc_call (walk_list (K := K) (a := li) (xs := xs)) nD2 (bs.map fun b => V.int ((Tr.top1 (b.map SR.height) : Nat) : Int)) (by rw [List.length_map]; exact pair_len pb) (by have := ft.two; have := pair_len pb; omega) (fun G sG => SqL.of (sG _ _ hli)) (fun j y v2 G5 G5' R2 hv2 s5 hy2 hR2 => ?_) (fun G5 s5 hD2 => ?_)
        · obtain ⟨rfl, hx2⟩ := hy2
          obtain ⟨bd, hb, lb⟩ := pair_at pb hx2
          rw [List.getElem?_map, hb] at hv2
          obtain rfl := Option.some.inj hv2
          have hin : bd.length ≤ 400 := by
            have h1 := ft.few
            have h2 : bd.length ≤ bs.flatten.length := (List.sublist_flatten_of_mem (List.mem_of_getElem? hb)).length_le
            omega
          exact ⟨rfl, _, rfl, bd, y, rfl, lb.same (sG.trans (s4.trans s5)), hin, fun G6 s6 => hR2 G6 s6⟩
        · have e2 : s.height = 1 + hgtS bs := by rw [es]; rfl
          have q2 : R (.int (1 + ((Tr.top1 (bs.map fun b => Tr.top1 (b.map SR.height)) : Nat) : Int))) G5 := by
            have q3 : R (.int ((s.height : Nat) : Int)) G5 := hR G5 (s4.trans s5)
            rw [e2] at q3
            unfold hgtS at q3
            rw [top1_flat] at q3
            exact q3
          refine ⟨D2, (bs.map fun b => Tr.top1 (b.map SR.height)).map fun n : Nat => (n : Int), 0, rfl, rfl, SqL.of (by rw [hD2, List.map_map, List.map_map]; rfl), fun e => ?_, fun m r e => ?_⟩
          · rw [List.map_eq_nil_iff.mp e] at q2
            exact ⟨_, _, rfl, rfl, q2⟩
          · generalize (bs.map fun b => Tr.top1 (b.map SR.height)) = Lh at e q2
            match Lh, e with
            | m1 :: r1, e =>
              rw [List.map_cons] at e
              injection e with e3 e4
              subst e3 e4
              rw [fold_int, fold_top1]
              exact ⟨_, _, rfl, rfl, q2⟩
      · have q2 : Q (.int ((Tr.top1 (b.map SR.height) : Nat) : Int)) G := fin G sG
        refine ⟨D1, (b.map SR.height).map fun n : Nat => (n : Int), 0, rfl, rfl, SqL.of (by rw [hD, List.map_map, List.map_map]; rfl), fun e => ?_, fun m r e => ?_⟩
        · rw [List.map_eq_nil_iff.mp e] at q2
          exact q2
        · generalize (b.map SR.height) = Lh at e q2
          match Lh, e with
          | m1 :: r1, e =>
            rw [List.map_cons] at e
            injection e with e3 e4
            subst e3 e4
            rw [fold_int, fold_top1]
            exact q2
end
end Jo

set_option Elab.async false
set_option linter.all false
set_option maxRecDepth 100000
set_option maxHeartbeats 2000000
namespace Jo
open PySem PySem.Spec PyProof.Rows L2 ClX
/-- xs == [], whatever stands in xs -/
def rEqE (K : PySem.W.Frag) : R2 := fun x y H Q => ∃ (a b : Addr) (xs : List V), x = .ref a ∧ y = .ref b ∧ SqL K H a xs ∧ SqL K H b [] ∧ Q (.bl (xs.isEmpty)) H
theorem op_eqE {X : Cx} (hu : X.A.units + 64 < cLine) : OpR X (compareOp .Eq) (rEqE X.K) := by
  intro pins s σ H x y v u Q I rx ry h
  obtain ⟨a, b, xs, rfl, rfl, ha, hb, q⟩ := h
  cases xs with
  | nil => exact op_eqD hu pins s σ H _ _ v u Q I rx ry ⟨.list [], .list [], .lst ha .nil, .lst hb .nil, rfl, rfl, q⟩
  | cons x0 xr =>
    obtain rfl : v = Value.ref a := rx
    obtain rfl : u = Value.ref b := ry
    obtain ⟨its, rv, ⟨o, n, ho, hc, hdn, hd⟩, hlen⟩ := I.list ha
    obtain ⟨its2, rv2, ⟨o2, n2, ho2, hc2, hdn2, hd2⟩, hlen2⟩ := I.list hb
    have e1 := rv.length
    have e2 := rv2.length
    have ne : its.toArray.size ≠ its2.toArray.size := by
      rw [List.size_toArray, List.size_toArray, ← e1, ← e2]
      exact Nat.succ_ne_zero _
    exact PySem.SeqAt.eq_list_lengthsAt ⟨o, ho, hc, n, hd⟩ ⟨o2, ho2, hc2, n2, hd2⟩ (bne_iff_ne.mpr ne) (by omega) ⟨.bl false, H, I, rfl, q⟩
/-- a method whose last parameter has a default -/
structure MtD (P : Program) (w : World) (K : PySem.W.Frag) (mg : Str → Option Value) (base : Heap) (k : Nat) (C : Addr) (m : Str) (ps : List Str) (sp : Sp) (d : V → Prop) : Prop where
  ex : ∃ (f : Addr) (fd : FuncData) (v : V), FnOk P w K mg base CX0 k f fd ps sp ∧ Meth K C m f ∧ Binds K fd ps [] ∧ d v ∧ (∃ ds, Vals [v] ds ∧ Binds K fd ps ds) ∧
    ∀ (s : Shared) (u : Value) (us : List Value), K.In s.heap → (u :: us).length = ps.length → BindsTo s fd ⟨[u], (ps.drop 1).reverse.zip us.reverse⟩ (ps.zip (u :: us))
/-- the base class's parts of a made statement -/
structure MakesS (P : Program) (w : World) (K : PySem.W.Frag) (mg : Str → Option Value) (base : Heap) (C : Kd → Addr) (CK : Sk → Addr) : Prop where
  cls : ∀ k, ∃ fi, Mk K (CK k) fi
  assign : MtF P w K mg base 4 (CK .assign) "__init__" ["self", "name", "expression"] (spAssign C CK)
  ifs : MtD P w K mg base 4 (CK .ifs) "__init__" ["self", "test", "body", "otherwise"] (spIf K C CK) (fun v => ∃ e, v = .ref e ∧ ∀ H, SqT K H e [])
  whl : MtF P w K mg base 4 (CK .whl) "__init__" ["self", "test", "body"] (spWhile K C CK)
  call : MtD P w K mg base 4 (CK .call) "__init__" ["self", "name", "expression", "into"] (spCall C CK) (fun v => v = .non)
  ret : MtF P w K mg base 4 (CK .ret) "__init__" ["self", "expression"] (spReturn C CK)
  fail : MtF P w K mg base 4 (CK .fail) "__init__" ["self"] (spFail CK)
  att : MtD P w K mg base 4 (CK .att) "__init__" ["self", "body", "handler"] (spAttempt K CK) (fun v => ∃ e, v = .ref e ∧ ∀ H, SqT K H e [])
section
variable {C : Kd → Addr} {CK : Sk → Addr} {K : PySem.W.Frag} {H : Hp} {Q : VK}
theorem mks_assign {z : Str} {t : Tr} {v : V} (nz : nmS z = true) (i : Is C H t v) (l : Lim t) (q : ∀ x G, Same H G → SIs CK G (mkS (.assign z t) []) (.ref x) → Q (.ref x) G) (x dx : Addr) (hx : H x = none) (hd : H dx = none) (ne : dx ≠ x) :
    spAssign C CK [.ref x, .str z, v] (upd (upd H dx (.own x)) x (.ins (CK .assign) dx [])) (fun v H2 => v = .non ∧ Q (.ref x) H2) E0 := ⟨x, dx, z, t, v, rfl, upd_same, nz, i.same (same_in hx hd), l, fun G k i => ⟨rfl, q x G (same_mk hx hd k) i⟩⟩
theorem mks_ret {t : Tr} {v : V} (i : Is C H t v) (l : Lim t) (q : ∀ x G, Same H G → SIs CK G (mkS (.ret t) []) (.ref x) → Q (.ref x) G) (x dx : Addr) (hx : H x = none) (hd : H dx = none) (ne : dx ≠ x) :
    spReturn C CK [.ref x, v] (upd (upd H dx (.own x)) x (.ins (CK .ret) dx [])) (fun v H2 => v = .non ∧ Q (.ref x) H2) E0 := ⟨x, dx, t, v, rfl, upd_same, i.same (same_in hx hd), l, fun G k i => ⟨rfl, q x G (same_mk hx hd k) i⟩⟩
theorem mks_fail (q : ∀ x G, Same H G → SIs CK G (mkS .fail []) (.ref x) → Q (.ref x) G) (x dx : Addr) (hx : H x = none) (hd : H dx = none) (ne : dx ≠ x) :
    spFail CK [.ref x] (upd (upd H dx (.own x)) x (.ins (CK .fail) dx [])) (fun v H2 => v = .non ∧ Q (.ref x) H2) E0 := ⟨x, dx, rfl, upd_same, fun G k i => ⟨rfl, q x G (same_mk hx hd k) i⟩⟩
theorem mks_while {t : Tr} {v v1 : V} {b1 : List SR} (i : Is C H t v) (l : Lim t) (i1 : BIs K CK H b1 v1) (ft : Fits [b1]) (q : ∀ x G, Same H G → SIs CK G (mkS (.whl t) [b1]) (.ref x) → Q (.ref x) G) (x dx : Addr) (hx : H x = none) (hd : H dx = none) (ne : dx ≠ x) :
    spWhile K C CK [.ref x, v, v1] (upd (upd H dx (.own x)) x (.ins (CK .whl) dx [])) (fun v H2 => v = .non ∧ Q (.ref x) H2) E0 := ⟨x, dx, t, v, v1, b1, rfl, upd_same, i.same (same_in hx hd), l, i1.same (same_in hx hd), ft, fun G k i => ⟨rfl, q x G (same_mk hx hd k) i⟩⟩
theorem mks_if {t : Tr} {v v1 v2 : V} {b1 b2 : List SR} (i : Is C H t v) (l : Lim t) (i1 : BIs K CK H b1 v1) (i2 : BIs K CK H b2 v2) (ft : Fits [b1, b2]) (q : ∀ x G, Same H G → SIs CK G (mkS (.ifs t) [b1, b2]) (.ref x) → Q (.ref x) G) (x dx : Addr) (hx : H x = none) (hd : H dx = none) (ne : dx ≠ x) :
    spIf K C CK [.ref x, v, v1, v2] (upd (upd H dx (.own x)) x (.ins (CK .ifs) dx [])) (fun v H2 => v = .non ∧ Q (.ref x) H2) E0 := ⟨x, dx, t, v, v1, v2, b1, b2, rfl, upd_same, i.same (same_in hx hd), l, i1.same (same_in hx hd), i2.same (same_in hx hd), ft, fun G k i => ⟨rfl, q x G (same_mk hx hd k) i⟩⟩
theorem mks_att {v1 v2 : V} {b1 b2 : List SR} (i1 : BIs K CK H b1 v1) (i2 : BIs K CK H b2 v2) (ft : Fits [b1, b2]) (q : ∀ x G, Same H G → SIs CK G (mkS .att [b1, b2]) (.ref x) → Q (.ref x) G) (x dx : Addr) (hx : H x = none) (hd : H dx = none) (ne : dx ≠ x) :
    spAttempt K CK [.ref x, v1, v2] (upd (upd H dx (.own x)) x (.ins (CK .att) dx [])) (fun v H2 => v = .non ∧ Q (.ref x) H2) E0 := ⟨x, dx, v1, v2, b1, b2, rfl, upd_same, i1.same (same_in hx hd), i2.same (same_in hx hd), ft, fun G k i => ⟨rfl, q x G (same_mk hx hd k) i⟩⟩
theorem mks_call {z : Str} {t : Tr} {v : V} (o : Option Str) (nz : nmS z = true) (no : ∀ y, o = some y → nmS y = true) (i : Is C H t v) (l : Lim t) (q : ∀ x G, Same H G → SIs CK G (mkS (.call z t o) []) (.ref x) → Q (.ref x) G) (x dx : Addr) (hx : H x = none) (hd : H dx = none) (ne : dx ≠ x) :
    spCall C CK [.ref x, .str z, v, ovS o] (upd (upd H dx (.own x)) x (.ins (CK .call) dx [])) (fun v H2 => v = .non ∧ Q (.ref x) H2) E0 := ⟨x, dx, z, t, v, o, rfl, upd_same, nz, no, i.same (same_in hx hd), l, fun G k i => ⟨rfl, q x G (same_mk hx hd k) i⟩⟩
end
section
variable {X : Cx} {j k : Nat} {ps : List Str} {sp : Sp} {x : Str} {p pos : Pos} {e : Expr} {es : List Expr} {t : TA} {C : Addr} {d : V → Prop}
/-- C(a, ..), the last parameter by its default -/
theorem pe_mkD {fi : Addr} (M : Mk X.K C fi) (c : MtD X.prog X.w X.K X.mg X.base k C "__init__" ps sp d) (hr : Room j X.A) (hk : k + 1 ≤ j) (hg : Gl X x) (hm : X.mg x = some (.ref C))
    (ha : PA X (e :: es) t) (hdb : (x == ("__debug__" : Str)) = false := by decide)
    (he : starEach (e :: es) X.env = (false, eval e X.env) :: starEach es X.env := by rfl) (hpl : (backTo pos (starEach es X.env)).any (·.1) = false := by rfl) :
    PE X (.Call (.Name x p) (e :: es) [] pos) (fun σ H Q => ∀ v, d v → tMake C sp [v] E0 t σ H Q) := by
  obtain ⟨f, fd, v, F, mt, _, dv, ⟨ds, rv, b⟩, _⟩ := c.ex
  have ef : fi = f := by
    have e1 := M.init.symm.trans mt.at_
    cases e1
    rfl
  subst ef
  exact ⟨fun pins s σ H Q I h => (pe_make M F (hr.mono hk) hg hm b rv pass0 ha hdb he hpl).run pins s σ H Q I (h v dv)⟩
/-- C(a, ..), every parameter -/
theorem pe_mkE {fi : Addr} (M : Mk X.K C fi) (c : MtD X.prog X.w X.K X.mg X.base k C "__init__" ps sp d) (hr : Room j X.A) (hk : k + 1 ≤ j) (hg : Gl X x) (hm : X.mg x = some (.ref C))
    (ha : PA X (e :: es) t) (hdb : (x == ("__debug__" : Str)) = false := by decide)
    (he : starEach (e :: es) X.env = (false, eval e X.env) :: starEach es X.env := by rfl) (hpl : (backTo pos (starEach es X.env)).any (·.1) = false := by rfl) :
    PE X (.Call (.Name x p) (e :: es) [] pos) (tMake C sp [] E0 t) := by
  obtain ⟨f, fd, v, F, mt, b, _⟩ := c.ex
  have ef : fi = f := by
    have e1 := M.init.symm.trans mt.at_
    cases e1
    rfl
  subst ef
  exact pe_make M F (hr.mono hk) hg hm b .nil pass0 ha hdb he hpl
/-- C(b=.., a=..): the parameters by name, the last ahead -/
theorem pe_mkKD {fi : Addr} {kws : List Keyword} (M : Mk X.K C fi) (c : MtD X.prog X.w X.K X.mg X.base k C "__init__" ps sp d) (hr : Room j X.A) (hk : k + 1 ≤ j) (hg : Gl X x) (hm : X.mg x = some (.ref C)) {n : Nat} (hn : ps.length = n + 1)
    (hkw : PK X kws t) (hall : (backToKw pos (keywordEach kws X.env)).all (·.1.isSome) = true := by rfl)
    (hks : (backToKw pos (keywordEach kws X.env)).filterMap (·.1) = (ps.drop 1).reverse := by rfl)
    (hdb : (x == ("__debug__" : Str)) = false := by decide)
    (hpl : ((backTo pos (starEach [] X.env)).any (·.1) || (backToKw pos (keywordEach kws X.env)).any (·.1.isNone)) = false := by rfl) :
    PE X (.Call (.Name x p) [] kws pos) (tMakeK C 0 (ps.drop 1).reverse.length sp (fun vs zs => vs ++ zs.reverse) E0 tNil t) := by
  obtain ⟨f, fd, _, F, mt, _, _, _, b⟩ := c.ex
  have ef : fi = f := by
    have e1 := M.init.symm.trans mt.at_
    cases e1
    rfl
  subst ef
  refine pe_makeK0 (g := fun us ws => us ++ ws.reverse) M F (hr.mono hk) hg hm ⟨fun s us ws X l1 l2 => ?_, fun r1 r2 => r1.append r2.reverse⟩ pass0 hkw hall hks hdb hpl
  match us, l1 with
  | [u], _ =>
    have h3 : (u :: ws.reverse).length = ps.length := by
      rw [List.length_reverse, List.length_drop] at l2
      rw [List.length_cons, List.length_reverse]
      omega
    have bb := b s u ws.reverse X h3
    rw [List.reverse_reverse] at bb
    exact bb
end
end Jo

set_option Elab.async false
set_option linter.all false
set_option maxRecDepth 100000
set_option maxHeartbeats 2000000
namespace Jo
open PySem PySem.Spec PyProof.Rows L2 ClX
/-- C() -/
theorem pe_mkF0 {X : Cx} {j k : Nat} {C fi : Addr} {ps : List Str} {sp : Sp} {x : Str} {p pos : Pos} (M : Mk X.K C fi) (c : MtF X.prog X.w X.K X.mg X.base k C "__init__" ps sp) (hr : Room j X.A) (hk : k + 1 ≤ j) (hg : Gl X x) (hm : X.mg x = some (.ref C)) (hdb : (x == ("__debug__" : Str)) = false := by decide) :
    PE X (.Call (.Name x p) [] [] pos) (tMake C sp [] E0 tNil) := by
  obtain ⟨f, fd, F, mt, b, _⟩ := c.ex
  have ef : fi = f := by
    have e1 := M.init.symm.trans mt.at_
    cases e1
    rfl
  subst ef
  exact pe_make0 M F (hr.mono hk) hg hm b .nil pass0 hdb
theorem sis_put {CK : Sk → Addr} {H : Hp} {D : Addr} {xs : List V} {o : HO} (hD : H D = some (.lst xs)) {s : SR} {v : V} (h : SIs CK H s v) : SIs CK (upd H D o) s v := by
  obtain ⟨a, dx, q, fs, e, h1, h2, h3, h4, h5⟩ := h
  exact ⟨a, dx, q, fs, e, by rw [upd_ne (fun q => by rw [q, hD] at h1; cases h1)]; exact h1, h2, h3, h4, by rw [upd_ne (fun q => by rw [q, hD] at h5; cases h5)]; exact h5⟩
/-- a comprehension over a list whose turns make statements -/
theorem lc_sis {CK : Sk → Addr} {K : PySem.W.Frag} {q : Addr} {us : List V} {g : TG} {te : TE} {vs : List Nat} {σ : L2.St} {H1 : Hp} {D : Addr} {Qd : Hp → Prop} (nD : H1 D = none) (ts : List SR) (hl : ts.length = us.length) (hz : us.length ≤ 1000) (hq : H1 q = some (.lst us))
    (hs : ∀ (i : Nat) (x : V) (t : SR) (G : Hp) (R : VK), us[i]? = some x → ts[i]? = some t → Same H1 G → (∀ y G2, Same G G2 → SIs CK G2 t (.ref y) → R (.ref y) G2) → g x (wipe σ vs) G fun σ2 H2 => wipe σ2 vs = wipe σ vs ∧ te σ2 H2 R)
    (hd : ∀ G xs, Same H1 G → G D = some (.lst xs) → Paired (SIs CK G) ts xs → Qd G) :
    ∃ W : Nat → Nat → Hp → Prop, (∃ m, W 0 m (upd H1 D (.lst []))) ∧ ∀ i m H, W i m H →
      ((Itl K q).stop i H ∧ Qd H) ∨ ((Itl K q).go i H ∧ ∃ Nx : Hp → Prop, (∀ H', Nx H' → ∃ m', m' < m ∧ W (i + 1) m' H') ∧ ∀ x H', (Itl K q).yld i H x H' → g x (wipe σ vs) H' fun σ2 H2 => wipe σ2 vs = wipe σ vs ∧ tYes σ2 H2 fun b H3 =>
        if b = true then te σ2 H3 fun y H4 => ∃ acc, H4 D = some (.lst acc) ∧ acc.length < sizeLine ∧ Nx (upd H4 D (.lst (acc ++ [y]))) else Nx H3) := by
  refine lc_it (walk_list (K := K) (a := q) (xs := us)) (fun i G => Same H1 G ∧ ∃ xs, G D = some (.lst xs) ∧ Paired (SIs CK G) (ts.take i) xs) ⟨same_new nD, [], upd_same, by rw [List.take_zero]; exact .nil⟩ (fun i G hi h => SqL.of (h.1 _ _ hq)) (fun i x G G' hi h y => ?_) (fun G h => ?_)
  · obtain ⟨sG, xs, hD, pr⟩ := h
    obtain ⟨rfl, hx⟩ := y
    have hi2 : i < ts.length := by rw [hl]; exact hi
    have ht : ts[i]? = some ts[i] := List.getElem?_eq_getElem hi2
    refine hs i x ts[i] G' _ hx ht sG fun y G2 s2 iy => ?_
    have hD2 := s2 _ _ hD
    have pl := pair_len pr
    rw [List.length_take] at pl
    refine ⟨xs, hD2, small1000 (by omega), fun b o hb => ?_, xs ++ [.ref y], upd_same, ?_⟩
    · have nb : b ≠ D := fun e => by rw [e, nD] at hb; cases hb
      rw [upd_ne nb]
      exact s2 _ _ (sG _ _ hb)
    · rw [List.take_succ, ht]
      exact pair_end (pair_mem pr fun a b h => sis_put hD2 (h.same s2)) (sis_put hD2 iy)
  · obtain ⟨sG, xs, hD, pr⟩ := h
    rw [← hl, List.take_length] at pr
    exact hd G xs sG hD pr
section
variable {P : Program} {w : World} {K : PySem.W.Frag} {mg : Str → Option Value} {base : Heap} {C : Kd → Addr} {CE CS : Addr} {CK : Sk → Addr}
def n_lot : List Str := ["_law_steps_here", "_law_each"]
theorem sc_lot : FnScope n_lot ["_law_steps_here"] (defScope s_lot) := ⟨rfl, rfl, rfl, by decide +kernel, rfl, by decide +kernel, by decide +kernel⟩
def n_statement : List Str := ["_law_each", "_law_word", "_law_sent"]
theorem sc_statement : FnScope n_statement ["_law_each"] (defScope s_statement) := ⟨rfl, rfl, rfl, by decide +kernel, rfl, by decide +kernel, by decide +kernel⟩
def spStm (CK : Sk → Addr) (n : Nat) : Sp := fun vs H Q _ => ∃ (s : SR) (v : V), vs = [v] ∧ TsN n H s v ∧ ∀ x G, Same H G → SIs CK G s (.ref x) → Q (.ref x) G
def spLot (K : PySem.W.Frag) (CK : Sk → Addr) (n : Nat) : Sp := fun vs H Q _ => ∃ (b : List SR) (v : V), vs = [v] ∧ LsOf (TsN n H) H b v ∧ b.length ≤ 400 ∧ ∀ x G, Same H G → BIs K CK G b (.ref x) → Q (.ref x) G
theorem ok_lot (T : Txt mg) (n k : Nat) (D : Dfn K mg "_law_lot" s_lot ["_law_steps_here"]) (c_st : CalG P w K mg base k "_law_statement" ["_law_each"] (spStm CK n)) : CalG P w K mg base (k + 1) "_law_lot" ["_law_steps_here"] (spLot K CK n) := by
  refine D.ok sc_lot (fun vs H Q E h => ?_) (fun f cdv A fr s H vs Q E hr hgd h => ?_)
  · obtain ⟨b, v, rfl, _⟩ := h
    rfl
  · obtain ⟨b, v, rfl, ⟨l0, us, rfl, h0, pr⟩, hl, fin⟩ := h
    refine ⟨_, pss_one (ps_ret (pe_callTy call_tuple_of rfl T.b_tuple (by decide +kernel) (pa_cons (pe_lc (own := [("_law_each", 1)]) (g := gName 1) (tt := tYes) rfl sc_lot.nd (pi_list (pv 0)) (blkOk_by (N := n_lot) (sc := defScope s_lot) (by decide +kernel)) (fun _ _ _ _ _ => pg_name (i := 1) sc_lot.nd rfl (Or.inl rfl)) (fun _ _ _ _ _ => pts_nil) (fun _ _ _ _ _ => (pe_cG c_st hr (Nat.le_refl _) hgd rfl (pa_cons (pv 1) pa_nil)))) pa_nil))), ?_⟩
    have pl := pair_len pr
    refine ⟨_, rfl, l0, rfl, ⟨_, SqL.of h0⟩, fun D1 nD => ?_⟩
    refine lc_sis (CK := CK) nD b pl (by omega) h0 (fun i x t G R hx ht sG hR => ?_) (fun G xs sG hD ps => ?_)
    · obtain ⟨t2, ht2, ts⟩ := pair_at pr hx
      rw [ht] at ht2
      cases ht2
      exact ⟨rfl, _, rfl, t, x, rfl, ts.same sG, hR⟩
    · refine ⟨D1, _, rfl, .inl ⟨SqL.of hD, fun r nr => ?_⟩⟩
      exact fin r _ (sG.trans (same_new nr)) ⟨r, xs, rfl, .inl (.inl upd_same), pair_mem ps fun x y i => i.same (same_new nr)⟩
theorem fitsL {bs : List (List SR)} {b : List SR} (ft : Fits bs) (h : b ∈ bs) : b.length ≤ 400 := by
  have h1 := ft.few
  have h2 : b.length ≤ bs.flatten.length := (List.sublist_flatten_of_mem h).length_le
  omega
theorem ok_statement (T : Txt mg) (S : ST2 K mg C CE CS CK) (MS : MakesS P w K mg base C CK) (D : Dfn K mg "_law_statement" s_statement ["_law_each"]) (DL : Dfn K mg "_law_lot" s_lot ["_law_steps_here"]) (c_made : CalG P w K mg base 14 "_law_made" ["_law_tree_here"] (spMade C 6)) :
    ∀ n, CalG P w K mg base (2 * n + 15) "_law_statement" ["_law_each"] (spStm CK n) := by
  intro n
  induction n with
  | zero =>
    refine D.ok sc_statement (fun vs H Q E h => ?_) (fun f cdv A fr s H vs Q E hr hgd h => ?_)
    · obtain ⟨s, v, rfl, _⟩ := h
      rfl
    · obtain ⟨s, v, _, ts, _⟩ := h
      exact ts.elim
  | succ n c_st =>
    have c_lot := ok_lot T n _ DL c_st
    refine D.ok sc_statement (fun vs H Q E h => ?_) (fun f cdv A fr s H vs Q E hr hgd h => ?_)
    · obtain ⟨s, v, rfl, _⟩ := h
      rfl
    · obtain ⟨s, v, rfl, ⟨q, hd, bs, us, rfl, hq, rfl, ho, ft, ar⟩, fin⟩ := h
      obtain ⟨fA, mA⟩ := MS.cls .assign
      obtain ⟨fI, mI⟩ := MS.cls .ifs
      obtain ⟨fW, mW⟩ := MS.cls .whl
      obtain ⟨fC, mC⟩ := MS.cls .call
      obtain ⟨fR, mR⟩ := MS.cls .ret
      obtain ⟨fF, mF⟩ := MS.cls .fail
      obtain ⟨fT, mT⟩ := MS.cls .att
      refine ⟨_, pss_cons (ps_set (i := 1) sc_statement.nd rfl (.inl rfl) (pe_ix ix_tup (pv 0) pe_int (fun _ _ => rfl)))
      (pss_cons (ps_if (pt_cmpR op_eq (pv 1) pe_str (nomark _))
        (pss_one (ps_ret (pe_mkF mA MS.assign hr (by omega) rfl (S.mgK .assign) (pa_cons (pe_ix ix_tup (pv 0) pe_int (fun _ _ => rfl)) (pa_cons (pe_cG c_made hr (by omega) hgd rfl (pa_cons (pe_ix ix_tup (pv 0) pe_int (fun _ _ => rfl)) pa_nil)) pa_nil)))))
        (pss_nil))
      (pss_cons (ps_if (pt_cmpR op_eq (pv 1) pe_str (nomark _))
        (pss_cons (ps_if (pt_cmpR (op_eqE hr.units) (pe_ix ix_tup (pv 0) pe_int (fun _ _ => rfl)) (pe_lst pa_nil) (nomark _)) (pss_one (ps_ret (pe_mkD mI MS.ifs hr (by omega) rfl (S.mgK .ifs) (pa_cons (pe_cG c_made hr (by omega) hgd rfl (pa_cons (pe_ix ix_tup (pv 0) pe_int (fun _ _ => rfl)) pa_nil)) (pa_cons (pe_cG c_lot hr (by omega) hgd rfl (pa_cons (pe_ix ix_tup (pv 0) pe_int (fun _ _ => rfl)) pa_nil)) pa_nil))))) (pss_nil)) (pss_one (ps_ret (pe_mkE mI MS.ifs hr (by omega) rfl (S.mgK .ifs) (pa_cons (pe_cG c_made hr (by omega) hgd rfl (pa_cons (pe_ix ix_tup (pv 0) pe_int (fun _ _ => rfl)) pa_nil)) (pa_cons (pe_cG c_lot hr (by omega) hgd rfl (pa_cons (pe_ix ix_tup (pv 0) pe_int (fun _ _ => rfl)) pa_nil)) (pa_cons (pe_cG c_lot hr (by omega) hgd rfl (pa_cons (pe_ix ix_tup (pv 0) pe_int (fun _ _ => rfl)) pa_nil)) pa_nil)))))))
        (pss_nil))
      (pss_cons (ps_if (pt_cmpR op_eq (pv 1) pe_str (nomark _))
        (pss_one (ps_ret (pe_mkF mW MS.whl hr (by omega) rfl (S.mgK .whl) (pa_cons (pe_cG c_made hr (by omega) hgd rfl (pa_cons (pe_ix ix_tup (pv 0) pe_int (fun _ _ => rfl)) pa_nil)) (pa_cons (pe_cG c_lot hr (by omega) hgd rfl (pa_cons (pe_ix ix_tup (pv 0) pe_int (fun _ _ => rfl)) pa_nil)) pa_nil)))))
        (pss_nil))
      (pss_cons (ps_if (pt_cmpR op_eq (pv 1) pe_str (nomark _))
        (pss_cons (ps_set (i := 2) sc_statement.nd rfl (.inl rfl) (pe_cG c_made hr (by omega) hgd rfl (pa_cons (pe_ix ix_tup (pv 0) pe_int (fun _ _ => rfl)) pa_nil))) (pss_one (ps_ret (pe_ifExp (pt_cmpR op_eq (pe_ix ix_tup (pv 0) pe_int (fun _ _ => rfl)) pe_str (nomark _)) (pe_mkD mC MS.call hr (by omega) rfl (S.mgK .call) (pa_cons (pe_ix ix_tup (pv 0) pe_int (fun _ _ => rfl)) (pa_cons (pv 2) pa_nil))) (pe_mkE mC MS.call hr (by omega) rfl (S.mgK .call) (pa_cons (pe_ix ix_tup (pv 0) pe_int (fun _ _ => rfl)) (pa_cons (pv 2) (pa_cons (pe_ix ix_tup (pv 0) pe_int (fun _ _ => rfl)) pa_nil))))))))
        (pss_nil))
      (pss_cons (ps_if (pt_cmpR op_eq (pv 1) pe_str (nomark _))
        (pss_one (ps_ret (pe_mkF mR MS.ret hr (by omega) rfl (S.mgK .ret) (pa_cons (pe_cG c_made hr (by omega) hgd rfl (pa_cons (pe_ix ix_tup (pv 0) pe_int (fun _ _ => rfl)) pa_nil)) pa_nil))))
        (pss_nil))
      (pss_cons (ps_if (pt_cmpR op_eq (pv 1) pe_str (nomark _))
        (pss_one (ps_ret (pe_mkF0 mF MS.fail hr (by omega) rfl (S.mgK .fail))))
        (pss_nil))
      (pss_one (ps_ret (pe_ifExp (pt_cmpR (op_eqE hr.units) (pe_ix ix_tup (pv 0) pe_int (fun _ _ => rfl)) (pe_lst pa_nil) (nomark _)) (pe_mkD mT MS.att hr (by omega) rfl (S.mgK .att) (pa_cons (pe_cG c_lot hr (by omega) hgd rfl (pa_cons (pe_ix ix_tup (pv 0) pe_int (fun _ _ => rfl)) pa_nil)) pa_nil)) (pe_mkE mT MS.att hr (by omega) rfl (S.mgK .att) (pa_cons (pe_cG c_lot hr (by omega) hgd rfl (pa_cons (pe_ix ix_tup (pv 0) pe_int (fun _ _ => rfl)) pa_nil)) (pa_cons (pe_cG c_lot hr (by omega) hgd rfl (pa_cons (pe_ix ix_tup (pv 0) pe_int (fun _ _ => rfl)) pa_nil)) pa_nil)))))))))))), ?_⟩
      refine ⟨_, rfl, q, _, 0, _, rfl, rfl, .inl (.inl (hq)), atI_nat (j := 0) rfl, ?_⟩
      cases hd with
      | assign x e =>
        obtain ⟨rfl, v, rfl, tp⟩ := ar
        refine ⟨_, rfl, rfl, _, rfl, iteT ?_⟩
        exact ⟨_, rfl, q, _, 1, _, rfl, rfl, .inl (.inl (hq)), atI_nat (j := 1) rfl, _, rfl, q, _, 2, _, rfl, rfl, .inl (.inl (hq)), atI_nat (j := 2) rfl, e, v, rfl, tp, ho.2, ho.2.depth, fun z G sG i => mks_assign ho.1 i ho.2 fun x G2 s2 => fin x G2 (sG.trans s2)⟩
      | ifs e =>
        obtain ⟨v, b1, b2, v1, v2, rfl, rfl, tp, l1, l2⟩ := ar
        refine ⟨_, rfl, rfl, _, rfl, iteF ⟨_, rfl, rfl, _, rfl, iteT ?_⟩⟩
        obtain ⟨a2, u2, rfl, h2, p2⟩ := l2
        refine ⟨_, rfl, q, _, 3, _, rfl, rfl, .inl (.inl (hq)), atI_nat (j := 3) rfl, (show 0 ≤ sizeLine by decide), fun le ne => ?_⟩
        have s1 : Same H (upd H le (.lst [])) := same_new ne
        refine ⟨a2, le, u2, rfl, rfl, SqL.of (s1 _ _ h2), SqL.of upd_same, _, rfl, ?_⟩
        have h1 := s1 _ _ hq
        generalize upd H le (.lst []) = H1 at s1 h1
        have f1 := fitsL ft (List.mem_cons_self ..)
        have f2 := fitsL ft (List.mem_cons_of_mem _ (List.mem_cons_self ..))
        cases u2 with
        | nil =>
          have e2 : b2 = [] := List.eq_nil_of_length_eq_zero (pair_len p2)
          subst e2
          refine iteT ?_
          rintro _ ⟨e0, rfl, t0⟩
          refine ⟨_, rfl, q, _, 1, _, rfl, rfl, .inl (.inl (h1)), atI_nat (j := 1) rfl, e, v, rfl, tp.same s1, ho, Lim.depth ho, fun z G sG i => ?_⟩
          have sH := s1.trans sG
          refine ⟨_, rfl, q, _, 2, _, rfl, rfl, .inl (.inl (sH _ _ hq)), atI_nat (j := 2) rfl, b1, v1, rfl, l1.same sH, f1, fun z2 G2 s2 j1 => ?_⟩
          exact mks_if (i.same s2) ho j1 ⟨e0, [], rfl, t0 _, .nil⟩ ft fun x G3 s3 => fin x G3 (sH.trans (s2.trans s3))
        | cons u0 ur =>
          refine iteF ?_
          refine ⟨_, rfl, q, _, 1, _, rfl, rfl, .inl (.inl (h1)), atI_nat (j := 1) rfl, e, v, rfl, tp.same s1, ho, Lim.depth ho, fun z G sG i => ?_⟩
          have sH := s1.trans sG
          refine ⟨_, rfl, q, _, 2, _, rfl, rfl, .inl (.inl (sH _ _ hq)), atI_nat (j := 2) rfl, b1, v1, rfl, l1.same sH, f1, fun z2 G2 s2 j1 => ?_⟩
          have sH2 := sH.trans s2
          refine ⟨_, rfl, q, _, 3, _, rfl, rfl, .inl (.inl (sH2 _ _ hq)), atI_nat (j := 3) rfl, b2, _, rfl, (show LsOf (TsN n H) H b2 (.ref a2) from ⟨a2, _, rfl, h2, p2⟩).same sH2, f2, fun z3 G3 s3 j2 => ?_⟩
          exact mks_if (i.same (s2.trans s3)) ho (j1.same s3) j2 ft fun x G4 s4 => fin x G4 (sH2.trans (s3.trans s4))
      | whl e =>
        obtain ⟨v, b1, v1, rfl, rfl, tp, l1⟩ := ar
        refine ⟨_, rfl, rfl, _, rfl, iteF ⟨_, rfl, rfl, _, rfl, iteF ⟨_, rfl, rfl, _, rfl, iteT ?_⟩⟩⟩
        have f1 := fitsL ft (List.mem_cons_self ..)
        refine ⟨_, rfl, q, _, 1, _, rfl, rfl, .inl (.inl (hq)), atI_nat (j := 1) rfl, e, v, rfl, tp, ho, Lim.depth ho, fun z G sG i => ?_⟩
        refine ⟨_, rfl, q, _, 2, _, rfl, rfl, .inl (.inl (sG _ _ hq)), atI_nat (j := 2) rfl, b1, v1, rfl, l1.same sG, f1, fun z2 G2 s2 j1 => ?_⟩
        exact mks_while (i.same s2) ho j1 ft fun x G3 s3 => fin x G3 (sG.trans (s2.trans s3))
      | call x e o =>
        obtain ⟨rfl, v, rfl, tp⟩ := ar
        refine ⟨_, rfl, rfl, _, rfl, iteF ⟨_, rfl, rfl, _, rfl, iteF ⟨_, rfl, rfl, _, rfl, iteF ⟨_, rfl, rfl, _, rfl, iteT ?_⟩⟩⟩⟩
        refine ⟨_, rfl, q, _, 2, _, rfl, rfl, .inl (.inl (hq)), atI_nat (j := 2) rfl, e, v, rfl, tp, ho.2.1, ho.2.1.depth, fun z G sG i => ?_⟩
        refine ⟨_, rfl, q, _, 3, _, rfl, rfl, .inl (.inl (sG _ _ hq)), atI_nat (j := 3) rfl, rfl, _, rfl, ?_⟩
        cases o with
        | none =>
          refine iteT ?_
          rintro _ rfl
          exact ⟨_, rfl, q, _, 1, _, rfl, rfl, .inl (.inl (sG _ _ hq)), atI_nat (j := 1) rfl, _, rfl, mks_call none ho.1 (fun y e => by cases e) i ho.2.1 fun x G2 s2 => fin x G2 (sG.trans s2)⟩
        | some y =>
          have ny := ho.2.2 y rfl
          have ne : decide (V.str ((some y).getD "") = V.str "") = false := decide_eq_false fun e => by
            have e2 : y = ("" : Str) := V.str.inj e
            rw [e2] at ny
            revert ny
            decide +kernel
          rw [ne]
          exact iteF ⟨_, rfl, q, _, 1, _, rfl, rfl, .inl (.inl (sG _ _ hq)), atI_nat (j := 1) rfl, _, rfl, _, rfl, q, _, 3, _, rfl, rfl, .inl (.inl (sG _ _ hq)), atI_nat (j := 3) rfl, mks_call (some y) ho.1 ho.2.2 i ho.2.1 fun x G2 s2 => fin x G2 (sG.trans s2)⟩
      | ret e =>
        obtain ⟨rfl, v, rfl, tp⟩ := ar
        refine ⟨_, rfl, rfl, _, rfl, iteF ⟨_, rfl, rfl, _, rfl, iteF ⟨_, rfl, rfl, _, rfl, iteF ⟨_, rfl, rfl, _, rfl, iteF ⟨_, rfl, rfl, _, rfl, iteT ?_⟩⟩⟩⟩⟩
        exact ⟨_, rfl, q, _, 1, _, rfl, rfl, .inl (.inl (hq)), atI_nat (j := 1) rfl, e, v, rfl, tp, ho, Lim.depth ho, fun z G sG i => mks_ret i ho fun x G2 s2 => fin x G2 (sG.trans s2)⟩
      | fail =>
        obtain ⟨rfl, rfl⟩ := ar
        refine ⟨_, rfl, rfl, _, rfl, iteF ⟨_, rfl, rfl, _, rfl, iteF ⟨_, rfl, rfl, _, rfl, iteF ⟨_, rfl, rfl, _, rfl, iteF ⟨_, rfl, rfl, _, rfl, iteF ⟨_, rfl, rfl, _, rfl, iteT ?_⟩⟩⟩⟩⟩⟩
        exact mks_fail fun x G2 s2 => fin x G2 s2
      | att =>
        obtain ⟨b1, b2, v1, v2, rfl, rfl, l1, l2⟩ := ar
        obtain ⟨a2, u2, rfl, h2, p2⟩ := l2
        refine ⟨_, rfl, rfl, _, rfl, iteF ⟨_, rfl, rfl, _, rfl, iteF ⟨_, rfl, rfl, _, rfl, iteF ⟨_, rfl, rfl, _, rfl, iteF ⟨_, rfl, rfl, _, rfl, iteF ⟨_, rfl, rfl, _, rfl, iteF ⟨_, rfl, q, _, 2, _, rfl, rfl, .inl (.inl (hq)), atI_nat (j := 2) rfl, (show 0 ≤ sizeLine by decide), fun le ne => ?_⟩⟩⟩⟩⟩⟩⟩
        have s1 : Same H (upd H le (.lst [])) := same_new ne
        refine ⟨a2, le, u2, rfl, rfl, SqL.of (s1 _ _ h2), SqL.of upd_same, _, rfl, ?_⟩
        have h1 := s1 _ _ hq
        generalize upd H le (.lst []) = H1 at s1 h1
        have f1 := fitsL ft (List.mem_cons_self ..)
        have f2 := fitsL ft (List.mem_cons_of_mem _ (List.mem_cons_self ..))
        cases u2 with
        | nil =>
          have e2 : b2 = [] := List.eq_nil_of_length_eq_zero (pair_len p2)
          subst e2
          refine iteT ?_
          rintro _ ⟨e0, rfl, t0⟩
          refine ⟨_, rfl, q, _, 1, _, rfl, rfl, .inl (.inl (h1)), atI_nat (j := 1) rfl, b1, v1, rfl, l1.same s1, f1, fun z2 G2 s2 j1 => ?_⟩
          exact mks_att j1 ⟨e0, [], rfl, t0 _, .nil⟩ ft fun x G3 s3 => fin x G3 (s1.trans (s2.trans s3))
        | cons u0 ur =>
          refine iteF ?_
          refine ⟨_, rfl, q, _, 1, _, rfl, rfl, .inl (.inl (h1)), atI_nat (j := 1) rfl, b1, v1, rfl, l1.same s1, f1, fun z2 G2 s2 j1 => ?_⟩
          have sH2 := s1.trans s2
          refine ⟨_, rfl, q, _, 2, _, rfl, rfl, .inl (.inl (sH2 _ _ hq)), atI_nat (j := 2) rfl, b2, _, rfl, (show LsOf (TsN n H) H b2 (.ref a2) from ⟨a2, _, rfl, h2, p2⟩).same sH2, f2, fun z3 G3 s3 j2 => ?_⟩
          exact mks_att (j1.same s3) j2 ft fun x G4 s4 => fin x G4 (sH2.trans (s3.trans s4))
end
end Jo

set_option Elab.async false
set_option linter.all false
set_option maxRecDepth 100000
set_option maxHeartbeats 2000000
namespace Jo
open PySem PySem.Spec PyProof.Rows L2 ClX
theorem from_le : ∀ (ts : List Str) (k : Nat) (acc : Str), (textFrom k acc ts).length ≤ acc.length + piled ts
  | [], _, acc => by show acc.length ≤ _; omega
  | t :: r, k, acc => by
    unfold textFrom
    refine Nat.le_trans (from_le r _ _) ?_
    rw [piled_cons]
    have h2 : ((if k > 0 then ", " else "" : String) : Str).length ≤ 2 := by
      by_cases h : k > 0
      · rw [if_pos h]; decide
      · rw [if_neg h]; decide
    simp only [Str.length_append]
    omega
theorem lstT_le (ts : List Str) : (listText ts).length ≤ 2 + piled ts := by
  unfold listText
  rw [Str.length_append]
  have h1 := from_le ts 0 "["
  have h2 : (("[" : Str)).length = 1 := by decide
  have h3 : (("]" : Str)).length = 1 := by decide
  omega
/-- a list of two small numbers, shown -/
theorem ints2 {m n : Nat} (hm : m ≤ 900) (hn : n ≤ 900) : (PyData.list [.int (m : Int), .int (n : Int)]).showable = true ∧ (PyData.list [.int (m : Int), .int (n : Int)]).hasDict = false ∧ (PyData.list [.int (m : Int), .int (n : Int)]).depth ≤ 60 ∧ (PyData.list [.int (m : Int), .int (n : Int)]).shown.length ≤ sizeLine := by
  have s : ∀ {k : Nat}, k ≤ 900 → ((toString (k : Int) : String) : Str).length ≤ 3 := fun {k} h => num_len (by omega) (by omega)
  refine ⟨?_, rfl, (show 1 ≤ 60 by decide), ?_⟩
  · show (decide ((m : Int).natAbs.log2 < 1920) && (decide ((n : Int).natAbs.log2 < 1920) && true)) = true
    rw [decide_eq_true (log_s (by omega)), decide_eq_true (log_s (by omega))]
    rfl
  · have h := lstT_le [((toString (m : Int) : String) : Str), ((toString (n : Int) : String) : Str)]
    have h1 := s hm
    have h2 := s hn
    rw [piled_cons, piled_cons] at h
    have h0 : piled [] = 0 := rfl
    exact small_len (Nat.le_trans h (by omega))
def skL : List Sk := [.assign, .ifs, .whl, .call, .ret, .fail, .att]
theorem wordS_is {k l : Sk} (h : k.word = l.word) : k = l := by
  revert h
  cases k <;> cases l <;> decide +kernel
theorem eqv_list_strs (xs ys : List Str) : PyData.eqv (.list (xs.map .str)) (.list (ys.map .str)) = decide (xs = ys) := eqv_strs xs ys
theorem eqv_list_bls (xs ys : List Bool) : PyData.eqv (.list (xs.map .bool)) (.list (ys.map .bool)) = decide (xs = ys) := eqv_bls xs ys
theorem pad0 (l : Str) : padN 0 l = l := Str.empty_append l
theorem rows0 (s : SR) : rowsOf 0 [s] = s.lines := by
  unfold rowsOf
  rw [List.flatMap_cons, List.flatMap_nil, List.append_nil]
  conv => rhs; rw [← List.map_id s.lines]
  exact List.map_congr_left fun l _ => pad0 l
theorem strOk_textS {s : SR} (f : s.Fine) : PyData.strOk (textS s) = true := by
  unfold textS
  rw [TL.join_eq]
  exact strOk_join (strOk_of _) f.ok
theorem strOk_shownS {s : SR} (f : s.Fine) : PyData.strOk (shownS s) = true := by
  obtain ⟨r, hr⟩ := f.first
  exact strOk_cat (strOk_cat (strOk_of _) (f.ok _ (by rw [hr]; exact List.mem_cons_self ..))) (strOk_of _)
section
variable {P : Program} {w : World} {K : PySem.W.Frag} {mg : Str → Option Value} {base : Heap} {C : Kd → Addr} {CE CS : Addr} {CK : Sk → Addr}
def n_kinds : List Str := ["_law_mine", "_law_found"]
theorem sc_kinds : FnScope n_kinds ["_law_mine"] (defScope s_kinds) := ⟨rfl, rfl, rfl, by decide +kernel, rfl, by decide +kernel, by decide +kernel⟩
def spKinds (CK : Sk → Addr) : Sp := fun vs H Q _ => ∃ (s : SR) (v : V), vs = [v] ∧ SIs CK H s v ∧ ∀ l G, Same H G → G l = some (.lst ((skL.map fun k => decide (s.kind = k)).map V.bl)) → Q (.ref l) G
theorem ok_kinds (T : Txt mg) (S : ST2 K mg C CE CS CK) (D : Dfn K mg "_law_kinds" s_kinds ["_law_mine"]) : CalG P w K mg base 1 "_law_kinds" ["_law_mine"] (spKinds CK) := by
  refine D.ok sc_kinds (fun vs H Q E h => ?_) (fun f cdv A fr s H vs Q E hr hgd h => ?_)
  · obtain ⟨s, v, rfl, _⟩ := h
    rfl
  · obtain ⟨s, v, rfl, is, fin⟩ := h
    obtain ⟨a, dx, fs, rfl, ha⟩ := is.ins
    refine ⟨_, pss_cons (ps_set (i := 1) sc_kinds.nd rfl (.inl rfl) (pe_lst (pa_cons (pe_callB call_isi rfl T.b_isinstance (by decide +kernel) (pa_cons (pv 0) (pa_cons (pe_glob (v := .ref (CK .assign)) rfl (S.mgK .assign) rfl) pa_nil))) (pa_cons (pe_callB call_isi rfl T.b_isinstance (by decide +kernel) (pa_cons (pv 0) (pa_cons (pe_glob (v := .ref (CK .ifs)) rfl (S.mgK .ifs) rfl) pa_nil))) (pa_cons (pe_callB call_isi rfl T.b_isinstance (by decide +kernel) (pa_cons (pv 0) (pa_cons (pe_glob (v := .ref (CK .whl)) rfl (S.mgK .whl) rfl) pa_nil))) (pa_cons (pe_callB call_isi rfl T.b_isinstance (by decide +kernel) (pa_cons (pv 0) (pa_cons (pe_glob (v := .ref (CK .call)) rfl (S.mgK .call) rfl) pa_nil))) pa_nil))))))
      (pss_one (ps_ret (pe_op op_cat (pv 1) (pe_lst (pa_cons (pe_callB call_isi rfl T.b_isinstance (by decide +kernel) (pa_cons (pv 0) (pa_cons (pe_glob (v := .ref (CK .ret)) rfl (S.mgK .ret) rfl) pa_nil))) (pa_cons (pe_callB call_isi rfl T.b_isinstance (by decide +kernel) (pa_cons (pv 0) (pa_cons (pe_glob (v := .ref (CK .fail)) rfl (S.mgK .fail) rfl) pa_nil))) (pa_cons (pe_callB call_isi rfl T.b_isinstance (by decide +kernel) (pa_cons (pv 0) (pa_cons (pe_glob (v := .ref (CK .att)) rfl (S.mgK .att) rfl) pa_nil))) pa_nil))))))), ?_⟩
    refine ⟨_, rfl, _, _, _, _, _, rfl, .own _, (S.own _).ty ha, S.kit _ .assign, _, rfl, _, _, _, _, _, rfl, .own _, (S.own _).ty ha, S.kit _ .ifs, _, rfl, _, _, _, _, _, rfl, .own _, (S.own _).ty ha, S.kit _ .whl, _, rfl, _, _, _, _, _, rfl, .own _, (S.own _).ty ha, S.kit _ .call, (show 4 ≤ sizeLine by decide), fun l nl => ?_⟩
    have s1 : Same H (upd H l (.lst [V.bl (decide (s.kind = .assign)), V.bl (decide (s.kind = .ifs)), V.bl (decide (s.kind = .whl)), V.bl (decide (s.kind = .call))])) := same_new nl
    have h1 := s1 _ _ ha
    refine ⟨_, rfl, _, rfl, _, _, _, _, _, rfl, .own _, (S.own _).ty h1, S.kit _ .ret, _, rfl, _, _, _, _, _, rfl, .own _, (S.own _).ty h1, S.kit _ .fail, _, rfl, _, _, _, _, _, rfl, .own _, (S.own _).ty h1, S.kit _ .att, (show 3 ≤ sizeLine by decide), fun l2 nl2 => ?_⟩
    have ne : l ≠ l2 := fun e => by rw [← e, upd_same] at nl2; cases nl2
    exact ⟨l, l2, _, _, rfl, rfl, by rw [upd_ne ne, upd_same], upd_same, (by show 7 ≤ sizeLine; decide), fun l3 nl3 => fin l3 _ ((s1.trans (same_new nl2)).trans (same_new nl3)) upd_same⟩
def n_shown : List Str := ["_law_each", "_law_mine", "_law_words", "_law_rows_here", "_law_word"]
theorem sc_shown : FnScope n_shown ["_law_each", "_law_mine"] (defScope s_shown) := ⟨rfl, rfl, rfl, by decide +kernel, rfl, by decide +kernel, by decide +kernel⟩
def spShown (CK : Sk → Addr) (n : Nat) : Sp := fun vs H Q _ => ∃ (s : SR) (v x : V), vs = [v, x] ∧ TsN n H s v ∧ SIs CK H s x ∧ ∀ G, Same H G → Q (.bl true) G
theorem one_ls {H : Hp} {n : Nat} {s : SR} {v : V} {l : Addr} (ts : TsN n H s v) (nl : H l = none) : LsOf (TsN n (upd H l (.lst [v]))) (upd H l (.lst [v])) [s] (.ref l) := ⟨l, [v], rfl, upd_same, .cons (ts.same (same_new nl)) .nil⟩
theorem ok_shown (T : Txt mg) (n : Nat) (hn : n ≤ 10) (S : ST2 K mg C CE CS CK) (O1 : Own P w K mg base 1 "__str__" ["self"] (IsS CK) (spStStr CK)) (O2 : Own P w K mg base 1 "__repr__" ["self"] (IsS CK) (spStRepr CK)) (D : Dfn K mg "_law_shown" s_shown ["_law_each", "_law_mine"])
    (c_kinds : CalG P w K mg base 1 "_law_kinds" ["_law_mine"] (spKinds CK)) (c_amount : CalG P w K mg base (n + 2) "_law_amount" ["_law_steps_here"] (spAmount n)) (c_height : CalG P w K mg base (n + 2) "_law_height" ["_law_steps_here"] (spHeight n)) (c_rows : CalG P w K mg base (n + 9) "_law_rows" ["_law_steps_here", "_law_level"] (spRows n)) :
    CalG P w K mg base (n + 10) "_law_shown" ["_law_each", "_law_mine"] (spShown CK n) := by
  refine D.ok sc_shown (fun vs H Q E h => ?_) (fun f cdv A fr s H vs Q E hr hgd h => ?_)
  · obtain ⟨s, v, x, rfl, _⟩ := h
    rfl
  · obtain ⟨s, v, x, rfl, ts, is, fin⟩ := h
    refine ⟨_, pss_cons (ps_set (i := 2) sc_shown.nd rfl (.inl rfl) (pe_lst (pa_cons pe_str (pa_cons pe_str (pa_cons pe_str (pa_cons pe_str (pa_cons pe_str (pa_cons pe_str (pa_cons pe_str pa_nil)))))))))
      (pss_cons (ps_if (PW.pt (pw_or (pt_not (pt_val (pe_callB call_isi rfl T.b_isinstance (by decide +kernel) (pa_cons (pv 1) (pa_cons (pe_glob (v := .ref CS) rfl S.mgS rfl) pa_nil))))) (pw_or1 (pt_cmpR (op_neD hr.units) (pe_cG c_kinds hr (by omega) hgd rfl (pa_cons (pv 1) pa_nil)) (pe_lc (own := [("_law_word", 4)]) (g := gName 4) (tt := tYes) (te := tOp rEq (tOp (rIxT K) (tVar 0) (tC (.int 0))) (tVar 4)) rfl sc_shown.nd (pi_list (pv 2)) (blkOk_by (N := n_shown) (sc := defScope s_shown) (by decide +kernel)) (fun _ _ _ _ _ => pg_name (i := 4) sc_shown.nd rfl (Or.inl rfl)) (fun _ _ _ _ _ => pts_nil) (fun _ _ _ _ _ => (pe_cmpR op_eq (pe_ix ix_tup (pv 0) pe_int (fun _ _ => rfl)) (pv 4) (nomark _)))) (nomark _)))))
        (pss_one (ps_ret pe_bl))
        (pss_nil))
      (pss_cons (ps_if (pt_cmpR op_ne (pe_callB (call_repr hgd hr.units) rfl T.b_repr (by decide +kernel) (pa_cons (pe_lst (pa_cons (pe_fld (pv 1) rfl) (pa_cons (pe_fld (pv 1) rfl) pa_nil))) pa_nil)) (pe_callB (call_repr hgd hr.units) rfl T.b_repr (by decide +kernel) (pa_cons (pe_lst (pa_cons (pe_cG c_amount hr (by omega) hgd rfl (pa_cons (pe_lst (pa_cons (pv 0) pa_nil)) pa_nil)) (pa_cons (pe_cG c_height hr (by omega) hgd rfl (pa_cons (pe_lst (pa_cons (pv 0) pa_nil)) pa_nil)) pa_nil))) pa_nil)) (nomark _))
        (pss_one (ps_ret pe_bl))
        (pss_nil))
      (pss_cons (ps_set (i := 3) sc_shown.nd rfl (.inl rfl) (pe_cG c_rows hr (Nat.le_refl _) hgd rfl (pa_cons (pe_lst (pa_cons (pv 0) pa_nil)) (pa_cons pe_int pa_nil))))
      (pss_one (ps_ret (pe_cmpR (op_eqD hr.units) (pe_lst (pa_cons (pe_callTy (cr_strO O1 (hr.mono (by omega))) rfl T.b_str (by decide +kernel) (pa_cons (pv 1) pa_nil)) (pa_cons (pe_callB (cr_reprO O2 (hr.mono (by omega))) rfl T.b_repr (by decide +kernel) (pa_cons (pv 1) pa_nil)) pa_nil))) (pe_lst (pa_cons (pe_join pe_str (pv 3)) (pa_cons (pe_op op_add_str (pe_op op_add_str pe_str (pe_ix ix_list (pv 3) pe_int (fun _ _ => rfl))) pe_str) pa_nil))) (nomark _))))))), ?_⟩
    have fs := is
    obtain ⟨a, dx, qx, fl, rfl, ha, f1, f2, f3, f4⟩ := is
    have fine := ts.fine
    have ts0 := ts
    cases n with
    | zero => exact ts.elim
    | succ n =>
    obtain ⟨q, hd, bs, us, rfl, hq, es, _⟩ := ts
    have ek : hd.kind = s.kind := by rw [es]; rfl
    rw [ek] at hq
    refine ⟨(show 7 ≤ sizeLine by decide), fun lw nw => ?_⟩
    have s0 : Same H (upd H lw (.lst (skL.map fun k => V.str k.word))) := same_new nw
    refine ⟨_, rfl, _, _, _, _, true, rfl, .own CS, (S.own _).ty (s0 _ _ ha), S.kitS _, true, rfl, iteF ?_⟩
    refine ⟨_, rfl, s, _, rfl, fs.same s0, fun l G1 s1 hl => ?_⟩
    have hlw : upd H lw (.lst (skL.map fun k => V.str k.word)) lw = some (.lst (skL.map fun k => V.str k.word)) := upd_same
    have hlw1 := s1 _ _ hlw
    have s01 := s0.trans s1
    refine ⟨_, rfl, lw, rfl, ⟨_, SqL.of hlw1⟩, fun D1 nD => ?_⟩
    refine lc_call (walk_list (K := K) (a := lw) (xs := skL.map fun k => V.str k.word)) nD ((skL.map fun k => decide (s.kind = k)).map V.bl) rfl (by decide) (fun G sG => SqL.of (sG _ _ hlw1)) (fun i y v G G' R hv sG hy hR => ?_) (fun G sG hD => ?_)
    · obtain ⟨rfl, hx⟩ := hy
      refine ⟨rfl, _, rfl, q, _, 0, _, rfl, rfl, .inl (.inl (sG _ _ (s01 _ _ hq))), atI_nat (j := 0) rfl, _, rfl, ?_⟩
      rw [List.getElem?_map, List.getElem?_map] at hv
      rw [List.getElem?_map] at hx
      cases hk : skL[i]? with
      | none => rw [hk] at hx; cases hx
      | some k =>
        rw [hk] at hx hv
        have e1 : y = .str k.word := (Option.some.inj hx).symm
        have e2 : v = .bl (decide (s.kind = k)) := (Option.some.inj hv).symm
        subst e1 e2
        refine ⟨rfl, ?_⟩
        have e : decide (V.str s.kind.word = V.str k.word) = decide (s.kind = k) := by
          by_cases c : s.kind = k
          · rw [decide_eq_true c, decide_eq_true (by rw [c])]
          · have c2 : ¬ (V.str s.kind.word = V.str k.word) := fun z => c (wordS_is (V.str.inj z))
            rw [decide_eq_false c, decide_eq_false c2]
        have q2 := hR _ (.refl _)
        rw [← e] at q2
        exact q2
    · have s3 := s01.trans sG
      refine ⟨.list ((skL.map fun k => decide (s.kind = k)).map PyData.bool), .list ((skL.map fun k => decide (s.kind = k)).map PyData.bool), .lst (SqL.of (sG _ _ hl)) (dp_bls _), .lst (SqL.of hD) (dp_bls _), shaped_bls _, shaped_bls _, _, rfl, ?_⟩
      rw [eqv_list_bls, decide_eq_true rfl]
      refine iteF ?_
      have na := S.na s.kind
      have cl := (S.own s.kind).cl
      have b1 := fine.amount
      have b2 := fine.height
      obtain ⟨i1, i2, i3, i4⟩ := ints2 (m := s.amount) (n := s.height) (by omega) (by omega)
      refine ⟨_, rfl, a, _, dx, fl, _, rfl, s3 _ _ ha, cl, na _ (by decide +kernel), f1, _, rfl, a, _, dx, fl, _, rfl, s3 _ _ ha, cl, na _ (by decide +kernel), f2, (show 2 ≤ sizeLine by decide), fun l5 n5 => ?_⟩
      have s7 := s3.trans (same_new (o := .lst [V.int (s.amount : Int), V.int (s.height : Int)]) n5)
      refine ⟨l5, _, 2, rfl, Shw.lst (SqL.of upd_same) (.cons (Shw.int _) (.cons (Shw.int _) .nil)), i1, i2, i3, i4, ?_⟩
      refine ⟨_, rfl, (show 1 ≤ sizeLine by decide), fun m1 nm1 => ?_⟩
      refine ⟨[s], _, rfl, one_ls (ts0.same s7) nm1, (show 1 ≤ 400 by decide), fun G6 s8 => ?_⟩
      have s9 := (s7.trans (same_new (o := .lst [V.ref q]) nm1)).trans s8
      refine ⟨_, rfl, (show 1 ≤ sizeLine by decide), fun m2 nm2 => ?_⟩
      refine ⟨[s], _, rfl, one_ls (ts0.same s9) nm2, (show 1 ≤ 400 by decide), fun G7 s10 => ?_⟩
      have s11 := (s9.trans (same_new (o := .lst [V.ref q]) nm2)).trans s10
      refine ⟨(show 2 ≤ sizeLine by decide), fun l6 n6 => ?_⟩
      have s12 := s11.trans (same_new (o := .lst [V.int (s.amount : Int), V.int (s.height : Int)]) n6)
      have ev1 : ([s].map SR.amount).sum = s.amount := by simp
      have ev2 : Tr.top1 ([s].map SR.height) = s.height := Nat.zero_max _
      refine ⟨l6, .list [.int (s.amount : Int), .int (s.height : Int)], 2, rfl, Shw.lst (SqL.of (by rw [upd_same, ev1, ev2])) (.cons (Shw.int _) (.cons (Shw.int _) .nil)), i1, i2, i3, i4, ?_⟩
      rw [ev1, ev2]
      refine ⟨rfl, _, rfl, ite2 (fun e => ?_) (fun _ => ?_)⟩
      · exact absurd e (by simp)
      · refine ⟨_, rfl, (show 1 ≤ sizeLine by decide), fun m3 nm3 => ?_⟩
        refine ⟨[s], _, 0, rfl, one_ls (ts0.same s12) nm3, by rw [ev1]; exact b1, by decide, by omega, fun lr G8 s13 hlr _ => ?_⟩
        rw [rows0] at hlr
        have s14 := (s12.trans (same_new (o := .lst [V.ref q]) nm3)).trans s13
        refine ⟨_, rfl, a, _, dx, fl, rfl, ⟨s.kind, rfl⟩, s14 _ _ ha, s, _, rfl, fs.same s14, fine, ⟨_, rfl⟩, ?_⟩
        refine ⟨_, rfl, a, _, dx, fl, rfl, ⟨s.kind, rfl⟩, s14 _ _ ha, s, _, rfl, fs.same s14, fine, ⟨_, rfl⟩, (show 2 ≤ sizeLine by decide), fun l7 n7 => ?_⟩
        have hlr2 : upd G8 l7 (.lst [V.str (textS s), V.str (shownS s)]) lr = some (.lst (s.lines.map V.str)) := by rw [upd_ne (fun e => by rw [← e, hlr] at n7; cases n7)]; exact hlr
        have s15 := s14.trans (same_new (o := .lst [V.str (textS s), V.str (shownS s)]) n7)
        have h7 : upd G8 l7 (.lst [V.str (textS s), V.str (shownS s)]) l7 = some (.lst ([textS s, shownS s].map V.str)) := upd_same
        generalize upd G8 l7 (.lst [V.str (textS s), V.str (shownS s)]) = G9 at hlr2 s15 h7
        have sz := fine.size
        have sl := fine.lineLen
        obtain ⟨r, hr2⟩ := fine.first
        have c1 : ("Statement(" : Str).length = 10 := by decide +kernel
        have c2 : (")" : Str).length = 1 := by decide +kernel
        refine ⟨⟨_, rfl⟩, _, rfl, "\n", lr, s.lines, rfl, rfl, .inl (SqL.of hlr2), Nat.le_trans sz (by decide), ?_⟩
        refine ⟨_, rfl, lr, _, 0, _, rfl, rfl, SqL.of hlr2, atI_nat (j := 0) (by rw [hr2]; rfl), _, _, rfl, rfl, by rw [c1]; exact small_len (by omega), _, _, rfl, rfl, by rw [len_cat, c1, c2]; exact small_len (by omega), (show 2 ≤ sizeLine by decide), fun l8 n8 => ?_⟩
        have e78 : l7 ≠ l8 := fun e => by rw [← e, h7] at n8; cases n8
        have ok2 : ∀ z ∈ [textS s, shownS s], PyData.strOk z = true := fun z hz => by
          rcases List.mem_cons.mp hz with e | hz
          · rw [e]; exact strOk_textS fine
          · rw [List.mem_singleton.mp hz]; exact strOk_shownS fine
        refine ⟨.list ([textS s, shownS s].map PyData.str), .list ([textS s, shownS s].map PyData.str), .lst (SqL.of (by rw [upd_ne e78]; exact h7)) (dp_strs [textS s, shownS s]), .lst (SqL.of upd_same) (dp_strs [textS s, shownS s]), shaped_strs ok2, shaped_strs ok2, ?_⟩
        rw [eqv_list_strs, decide_eq_true rfl]
        exact fin _ (s15.trans (same_new n8))
end
end Jo

set_option Elab.async false
set_option linter.all false
set_option maxRecDepth 100000
set_option maxHeartbeats 2000000
namespace Jo
open PySem PySem.Spec PyProof.Rows L2 ClX
section
variable {P : Program} {w : World} {K : PySem.W.Frag} {mg : Str → Option Value} {base : Heap} {C : Kd → Addr} {CE CS : Addr} {CK : Sk → Addr}
def n_named : List Str := ["_law_each", "_law_word", "_law_target"]
theorem sc_named : FnScope n_named ["_law_each"] (defScope s_named) := ⟨rfl, rfl, rfl, by decide +kernel, rfl, by decide +kernel, by decide +kernel⟩
theorem ok_named (T : Txt mg) (S : ST2 K mg C CE CS CK) (MS : MakesS P w K mg base C CK) (D : Dfn K mg "_law_named" s_named ["_law_each"]) (c_made : CalG P w K mg base 14 "_law_made" ["_law_tree_here"] (spMade C 6)) (n k : Nat) (hk : 14 ≤ k) (c_lot : CalG P w K mg base k "_law_lot" ["_law_steps_here"] (spLot K CK n)) :
    CalG P w K mg base (k + 1) "_law_named" ["_law_each"] (spStm CK (n + 1)) := by
  refine D.ok sc_named (fun vs H Q E h => ?_) (fun f cdv A fr s H vs Q E hr hgd h => ?_)
  · obtain ⟨s, v, rfl, _⟩ := h
    rfl
  · obtain ⟨s, v, rfl, ⟨q, hd, bs, us, rfl, hq, rfl, ho, ft, ar⟩, fin⟩ := h
    obtain ⟨fA, mA⟩ := MS.cls .assign
    obtain ⟨fI, mI⟩ := MS.cls .ifs
    obtain ⟨fW, mW⟩ := MS.cls .whl
    obtain ⟨fC, mC⟩ := MS.cls .call
    obtain ⟨fR, mR⟩ := MS.cls .ret
    obtain ⟨fF, mF⟩ := MS.cls .fail
    obtain ⟨fT, mT⟩ := MS.cls .att
    refine ⟨_, pss_cons (ps_set (i := 1) sc_named.nd rfl (.inl rfl) (pe_ix ix_tup (pv 0) pe_int (fun _ _ => rfl)))
      (pss_cons (ps_if (pt_cmpR op_eq (pv 1) pe_str (nomark _))
        (pss_one (ps_ret (pe_mkK mA MS.assign hr (by omega) rfl (S.mgK .assign) rfl (pk_cons (pe_cG c_made hr (by omega) hgd rfl (pa_cons (pe_ix ix_tup (pv 0) pe_int (fun _ _ => rfl)) pa_nil)) (pk_cons (pe_ix ix_tup (pv 0) pe_int (fun _ _ => rfl)) pk_nil)))))
        (pss_nil))
      (pss_cons (ps_if (pt_cmpR op_eq (pv 1) pe_str (nomark _))
        (pss_one (ps_ret (pe_mkKD mI MS.ifs hr (by omega) rfl (S.mgK .ifs) rfl (pk_cons (pe_cG c_lot hr (Nat.le_refl _) hgd rfl (pa_cons (pe_ix ix_tup (pv 0) pe_int (fun _ _ => rfl)) pa_nil)) (pk_cons (pe_cG c_lot hr (Nat.le_refl _) hgd rfl (pa_cons (pe_ix ix_tup (pv 0) pe_int (fun _ _ => rfl)) pa_nil)) (pk_cons (pe_cG c_made hr (by omega) hgd rfl (pa_cons (pe_ix ix_tup (pv 0) pe_int (fun _ _ => rfl)) pa_nil)) pk_nil))))))
        (pss_nil))
      (pss_cons (ps_if (pt_cmpR op_eq (pv 1) pe_str (nomark _))
        (pss_one (ps_ret (pe_mkK mW MS.whl hr (by omega) rfl (S.mgK .whl) rfl (pk_cons (pe_cG c_lot hr (Nat.le_refl _) hgd rfl (pa_cons (pe_ix ix_tup (pv 0) pe_int (fun _ _ => rfl)) pa_nil)) (pk_cons (pe_cG c_made hr (by omega) hgd rfl (pa_cons (pe_ix ix_tup (pv 0) pe_int (fun _ _ => rfl)) pa_nil)) pk_nil)))))
        (pss_nil))
      (pss_cons (ps_if (pt_cmpR op_eq (pv 1) pe_str (nomark _))
        (pss_cons (ps_set (i := 2) sc_named.nd rfl (.inl rfl) (pe_ifExp (pt_cmpR op_eq (pe_ix ix_tup (pv 0) pe_int (fun _ _ => rfl)) pe_str (nomark _)) pe_non (pe_ix ix_tup (pv 0) pe_int (fun _ _ => rfl)))) (pss_one (ps_ret (pe_mkKD mC MS.call hr (by omega) rfl (S.mgK .call) rfl (pk_cons (pv 2) (pk_cons (pe_cG c_made hr (by omega) hgd rfl (pa_cons (pe_ix ix_tup (pv 0) pe_int (fun _ _ => rfl)) pa_nil)) (pk_cons (pe_ix ix_tup (pv 0) pe_int (fun _ _ => rfl)) pk_nil)))))))
        (pss_nil))
      (pss_cons (ps_if (pt_cmpR op_eq (pv 1) pe_str (nomark _))
        (pss_one (ps_ret (pe_mkK mR MS.ret hr (by omega) rfl (S.mgK .ret) rfl (pk_cons (pe_cG c_made hr (by omega) hgd rfl (pa_cons (pe_ix ix_tup (pv 0) pe_int (fun _ _ => rfl)) pa_nil)) pk_nil))))
        (pss_nil))
      (pss_one (ps_ret (pe_ifExp (pt_cmpR op_eq (pv 1) pe_str (nomark _)) (pe_mkF0 mF MS.fail hr (by omega) rfl (S.mgK .fail)) (pe_mkKD mT MS.att hr (by omega) rfl (S.mgK .att) rfl (pk_cons (pe_cG c_lot hr (Nat.le_refl _) hgd rfl (pa_cons (pe_ix ix_tup (pv 0) pe_int (fun _ _ => rfl)) pa_nil)) (pk_cons (pe_cG c_lot hr (Nat.le_refl _) hgd rfl (pa_cons (pe_ix ix_tup (pv 0) pe_int (fun _ _ => rfl)) pa_nil)) pk_nil))))))))))), ?_⟩
    refine ⟨_, rfl, q, _, 0, _, rfl, rfl, .inl (.inl (hq)), atI_nat (j := 0) rfl, ?_⟩
    cases hd with
    | assign x e =>
      obtain ⟨rfl, v, rfl, tp⟩ := ar
      refine ⟨_, rfl, rfl, _, rfl, iteT ?_⟩
      exact ⟨_, rfl, q, _, 2, _, rfl, rfl, .inl (.inl (hq)), atI_nat (j := 2) rfl, e, v, rfl, tp, ho.2, ho.2.depth, fun z G sG i => ⟨_, rfl, q, _, 1, _, rfl, rfl, .inl (.inl (sG _ _ hq)), atI_nat (j := 1) rfl, rfl, rfl, mks_assign ho.1 i ho.2 fun x G2 s2 => fin x G2 (sG.trans s2)⟩⟩
    | ifs e =>
      obtain ⟨v, b1, b2, v1, v2, rfl, rfl, tp, l1, l2⟩ := ar
      refine ⟨_, rfl, rfl, _, rfl, iteF ⟨_, rfl, rfl, _, rfl, iteT ?_⟩⟩
      have f1 := fitsL ft (List.mem_cons_self ..)
      have f2 := fitsL ft (List.mem_cons_of_mem _ (List.mem_cons_self ..))
      refine ⟨_, rfl, q, _, 3, _, rfl, rfl, .inl (.inl (hq)), atI_nat (j := 3) rfl, b2, _, rfl, l2, f2, fun z2 G2 s2 j2 => ?_⟩
      refine ⟨_, rfl, q, _, 2, _, rfl, rfl, .inl (.inl (s2 _ _ hq)), atI_nat (j := 2) rfl, b1, _, rfl, l1.same s2, f1, fun z1 G1 s1 j1 => ?_⟩
      have sH := s2.trans s1
      refine ⟨_, rfl, q, _, 1, _, rfl, rfl, .inl (.inl (sH _ _ hq)), atI_nat (j := 1) rfl, e, v, rfl, tp.same sH, ho, Lim.depth ho, fun z G sG i => ⟨rfl, rfl, ?_⟩⟩
      exact mks_if i ho (j1.same sG) (j2.same (s1.trans sG)) ft fun x G3 s3 => fin x G3 (sH.trans (sG.trans s3))
    | whl e =>
      obtain ⟨v, b1, v1, rfl, rfl, tp, l1⟩ := ar
      refine ⟨_, rfl, rfl, _, rfl, iteF ⟨_, rfl, rfl, _, rfl, iteF ⟨_, rfl, rfl, _, rfl, iteT ?_⟩⟩⟩
      have f1 := fitsL ft (List.mem_cons_self ..)
      refine ⟨_, rfl, q, _, 2, _, rfl, rfl, .inl (.inl (hq)), atI_nat (j := 2) rfl, b1, _, rfl, l1, f1, fun z1 G1 s1 j1 => ?_⟩
      refine ⟨_, rfl, q, _, 1, _, rfl, rfl, .inl (.inl (s1 _ _ hq)), atI_nat (j := 1) rfl, e, v, rfl, tp.same s1, ho, Lim.depth ho, fun z G sG i => ⟨rfl, rfl, ?_⟩⟩
      exact mks_while i ho (j1.same sG) ft fun x G3 s3 => fin x G3 (s1.trans (sG.trans s3))
    | call x e o =>
      obtain ⟨rfl, v, rfl, tp⟩ := ar
      refine ⟨_, rfl, rfl, _, rfl, iteF ⟨_, rfl, rfl, _, rfl, iteF ⟨_, rfl, rfl, _, rfl, iteF ⟨_, rfl, rfl, _, rfl, iteT ?_⟩⟩⟩⟩
      refine ⟨_, rfl, q, _, 3, _, rfl, rfl, .inl (.inl (hq)), atI_nat (j := 3) rfl, rfl, _, rfl, ?_⟩
      cases o with
      | none =>
        refine iteT ⟨_, rfl, _, rfl, q, _, 2, _, rfl, rfl, .inl (.inl (hq)), atI_nat (j := 2) rfl, e, v, rfl, tp, ho.2.1, ho.2.1.depth, fun z G sG i => ?_⟩
        exact ⟨_, rfl, q, _, 1, _, rfl, rfl, .inl (.inl (sG _ _ hq)), atI_nat (j := 1) rfl, rfl, rfl, mks_call none ho.1 (fun y e => by cases e) i ho.2.1 fun x G2 s2 => fin x G2 (sG.trans s2)⟩
      | some y =>
        have ny := ho.2.2 y rfl
        have ne : decide (V.str ((some y).getD "") = V.str "") = false := decide_eq_false fun e => by
          have e2 : y = ("" : Str) := V.str.inj e
          rw [e2] at ny
          revert ny
          decide +kernel
        rw [ne]
        refine iteF ⟨_, rfl, q, _, 3, _, rfl, rfl, .inl (.inl (hq)), atI_nat (j := 3) rfl, _, rfl, _, rfl, q, _, 2, _, rfl, rfl, .inl (.inl (hq)), atI_nat (j := 2) rfl, e, v, rfl, tp, ho.2.1, ho.2.1.depth, fun z G sG i => ?_⟩
        exact ⟨_, rfl, q, _, 1, _, rfl, rfl, .inl (.inl (sG _ _ hq)), atI_nat (j := 1) rfl, rfl, rfl, mks_call (some y) ho.1 ho.2.2 i ho.2.1 fun x G2 s2 => fin x G2 (sG.trans s2)⟩
    | ret e =>
      obtain ⟨rfl, v, rfl, tp⟩ := ar
      refine ⟨_, rfl, rfl, _, rfl, iteF ⟨_, rfl, rfl, _, rfl, iteF ⟨_, rfl, rfl, _, rfl, iteF ⟨_, rfl, rfl, _, rfl, iteF ⟨_, rfl, rfl, _, rfl, iteT ?_⟩⟩⟩⟩⟩
      exact ⟨_, rfl, q, _, 1, _, rfl, rfl, .inl (.inl (hq)), atI_nat (j := 1) rfl, e, v, rfl, tp, ho, Lim.depth ho, fun z G sG i => ⟨rfl, rfl, mks_ret i ho fun x G2 s2 => fin x G2 (sG.trans s2)⟩⟩
    | fail =>
      obtain ⟨rfl, rfl⟩ := ar
      refine ⟨_, rfl, rfl, _, rfl, iteF ⟨_, rfl, rfl, _, rfl, iteF ⟨_, rfl, rfl, _, rfl, iteF ⟨_, rfl, rfl, _, rfl, iteF ⟨_, rfl, rfl, _, rfl, iteF ⟨_, rfl, rfl, _, rfl, iteT ?_⟩⟩⟩⟩⟩⟩
      exact mks_fail fun x G2 s2 => fin x G2 s2
    | att =>
      obtain ⟨b1, b2, v1, v2, rfl, rfl, l1, l2⟩ := ar
      refine ⟨_, rfl, rfl, _, rfl, iteF ⟨_, rfl, rfl, _, rfl, iteF ⟨_, rfl, rfl, _, rfl, iteF ⟨_, rfl, rfl, _, rfl, iteF ⟨_, rfl, rfl, _, rfl, iteF ⟨_, rfl, rfl, _, rfl, iteF ?_⟩⟩⟩⟩⟩⟩
      have f1 := fitsL ft (List.mem_cons_self ..)
      have f2 := fitsL ft (List.mem_cons_of_mem _ (List.mem_cons_self ..))
      refine ⟨_, rfl, q, _, 2, _, rfl, rfl, .inl (.inl (hq)), atI_nat (j := 2) rfl, b2, _, rfl, l2, f2, fun z2 G2 s2 j2 => ?_⟩
      refine ⟨_, rfl, q, _, 1, _, rfl, rfl, .inl (.inl (s2 _ _ hq)), atI_nat (j := 1) rfl, b1, _, rfl, l1.same s2, f1, fun z1 G1 s1 j1 => ⟨rfl, rfl, ?_⟩⟩
      exact mks_att j1 (j2.same s1) ft fun x G3 s3 => fin x G3 (s2.trans (s1.trans s3))
end
end Jo

set_option Elab.async false
set_option linter.all false
set_option maxRecDepth 100000
set_option maxHeartbeats 2000000
namespace Jo
open PySem PySem.Spec PyProof.Rows L2 ClX
/-- no class of the statements comes first when it stands on the right -/
structure NF2 (K : PySem.W.Frag) (C : Kd → Addr) (CK : Sk → Addr) : Prop where
  kk : ∀ k l, PySem.W.notFirst K (CK k) (.ref (CK l)) = true
  ks : ∀ k, PySem.W.notFirst K (CK k) (.type "str") = true
  kt : ∀ k, PySem.W.notFirst K (CK k) (.type "tuple") = true
  kc : ∀ k l, PySem.W.notFirst K (CK k) (.ref (C l)) = true
  ck : ∀ k l, PySem.W.notFirst K (C k) (.ref (CK l)) = true
theorem data8 (d : Bool) : (PyData.list [.bool d, .bool d, .bool true, .bool false, .bool true, .bool false, .bool false, .bool false]).showable = true ∧ (PyData.list [.bool d, .bool d, .bool true, .bool false, .bool true, .bool false, .bool false, .bool false]).hasDict = false ∧ (PyData.list [.bool d, .bool d, .bool true, .bool false, .bool true, .bool false, .bool false, .bool false]).depth ≤ 60 ∧ (PyData.list [.bool d, .bool d, .bool true, .bool false, .bool true, .bool false, .bool false, .bool false]).shown.length ≤ sizeLine := by
  revert d
  decide +kernel
/-- rows beside D -/
def RowIs (D : Addr) (G : Hp) (s : SR) (y : V) : Prop := ∃ l, y = .ref l ∧ l ≠ D ∧ G l = some (.lst (s.lines.map V.str))
theorem lc_rows {K : PySem.W.Frag} {q : Addr} {us : List V} {g : TG} {te : TE} {vs : List Nat} {σ : L2.St} {H1 : Hp} {D : Addr} {Qd : Hp → Prop} (nD : H1 D = none) (ts : List SR) (hl : ts.length = us.length) (hz : us.length ≤ 1000) (hq : H1 q = some (.lst us))
    (hs : ∀ (i : Nat) (x : V) (t : SR) (G : Hp) (R : VK), us[i]? = some x → ts[i]? = some t → Same H1 G → (∀ l G2, Same G G2 → G2 l = some (.lst (t.lines.map V.str)) → G l = none → R (.ref l) G2) → g x (wipe σ vs) G fun σ2 H2 => wipe σ2 vs = wipe σ vs ∧ te σ2 H2 R)
    (hd : ∀ G xs, Same H1 G → G D = some (.lst xs) → Paired (RowIs D G) ts xs → Qd G) :
    ∃ W : Nat → Nat → Hp → Prop, (∃ m, W 0 m (upd H1 D (.lst []))) ∧ ∀ i m H, W i m H →
      ((Itl K q).stop i H ∧ Qd H) ∨ ((Itl K q).go i H ∧ ∃ Nx : Hp → Prop, (∀ H', Nx H' → ∃ m', m' < m ∧ W (i + 1) m' H') ∧ ∀ x H', (Itl K q).yld i H x H' → g x (wipe σ vs) H' fun σ2 H2 => wipe σ2 vs = wipe σ vs ∧ tYes σ2 H2 fun b H3 =>
        if b = true then te σ2 H3 fun y H4 => ∃ acc, H4 D = some (.lst acc) ∧ acc.length < sizeLine ∧ Nx (upd H4 D (.lst (acc ++ [y]))) else Nx H3) := by
  refine lc_it (walk_list (K := K) (a := q) (xs := us)) (fun i G => Same H1 G ∧ ∃ xs, G D = some (.lst xs) ∧ Paired (RowIs D G) (ts.take i) xs) ⟨same_new nD, [], upd_same, by rw [List.take_zero]; exact .nil⟩ (fun i G hi h => SqL.of (h.1 _ _ hq)) (fun i x G G' hi h y => ?_) (fun G h => ?_)
  · obtain ⟨sG, xs, hD, pr⟩ := h
    obtain ⟨rfl, hx⟩ := y
    have hi2 : i < ts.length := by rw [hl]; exact hi
    have ht : ts[i]? = some ts[i] := List.getElem?_eq_getElem hi2
    refine hs i x ts[i] G' _ hx ht sG fun l G2 s2 hl2 nl => ?_
    have hD2 := s2 _ _ hD
    have pl := pair_len pr
    rw [List.length_take] at pl
    refine ⟨xs, hD2, small1000 (by omega), fun b o hb => ?_, xs ++ [.ref l], upd_same, ?_⟩
    · have nb : b ≠ D := fun e => by rw [e, nD] at hb; cases hb
      rw [upd_ne nb]
      exact s2 _ _ (sG _ _ hb)
    · rw [List.take_succ, ht]
      refine pair_end (pair_mem pr fun a b h => ?_) ⟨l, rfl, fun e => (by rw [e, hD] at nl; cases nl), by rw [upd_ne (fun e => by rw [e, hD] at nl; cases nl)]; exact hl2⟩
      obtain ⟨l2, e, n2, h2⟩ := h
      exact ⟨l2, e, n2, by rw [upd_ne n2]; exact s2 _ _ h2⟩
  · obtain ⟨sG, xs, hD, pr⟩ := h
    rw [← hl, List.take_length] at pr
    exact hd G xs sG hD pr
/-- the class of a tuple, too -/
inductive RTy2 (H : Hp) : V → Value → Prop where
  | old {y : V} {t : Value} (h : RTy H y t) : RTy2 H y t
  | tup {a : Addr} {xs : List V} (h : H a = some (.tup xs)) : RTy2 H (.ref a) (.type "tuple")
theorem rty2_looks {X : Cx} {pins : List (Addr × Obj)} {σ : L2.St} {H : Hp} {s : Shared} {y : V} {u t : Value} (I : Inv X pins σ H s) (r : RelV y u) (h : RTy2 H y t) : PySem.W.Looks (model X.prog X.w) s.heap (typeOf u) t := by
  cases h with
  | old h => exact rty_looks I r h
  | @tup a xs h =>
    obtain rfl : u = Value.ref a := r
    obtain ⟨its, rv, ⟨o, ho, hc, _⟩, _⟩ := I.tuple (show SqT X.K H a xs from .inl (.inl h))
    exact fun A Q E s' k q => wpAny_typeOf_ref (k _ _ ho) (by rw [hc]; exact q)
def rEqO2 (K : PySem.W.Frag) (Cs : Addr → Prop) (sp : Sp) : R2 := fun x y H Q => ∃ a C dx fs t, x = .ref a ∧ Cs C ∧ H a = some (.ins C dx fs) ∧ RTy2 H y t ∧ PySem.W.notFirst K C t = true ∧ sp [x, y] H (fun v H' => (∃ b, v = .bl b) ∧ Q v H') E0
theorem op_eqO2 {X : Cx} {n : Nat} {ps : List Str} {Cs : Addr → Prop} {sp : Sp} (O : Own X.prog X.w X.K X.mg X.base n "__eq__" ps Cs sp) (hr : Room n X.A) : OpR X (compareOp .Eq) (rEqO2 X.K Cs sp) := by
  intro pins s σ H x y v u Q I rx ry h
  obtain ⟨a, C, dx, fs, t, e, hC, ha, ty, nf, q⟩ := h
  subst e
  obtain rfl : v = Value.ref a := rx
  obtain ⟨f, fd, F, b, hf, hm⟩ := O.ex
  obtain ⟨od, J⟩ := inst_at I ha
  obtain ⟨m2, hF⟩ := I.fr
  refine PySem.W.cmp_K (op := .Eq) hr.units0 hF I.ok.mod.kin J (rty2_looks I ry ty) nf (hm C hC) hf (wpAny_mono (run_at F ⟨hr, rfl⟩ b I (.cons (show RelV (.ref a) (.ref a) from rfl) (.cons ry .nil)) q) (fun w s' z => ?_) fun _ _ z => z)
  obtain ⟨x, H', I', r, ⟨bb, e⟩, q'⟩ := z
  subst e
  cases (show w = Value.bool bb from r)
  exact ⟨.bl bb, H', I', rfl, q'⟩
section
variable {P : Program} {w : World} {K : PySem.W.Frag} {mg : Str → Option Value} {base : Heap} {C : Kd → Addr} {CE CS : Addr} {CK : Sk → Addr}
theorem rd_eqS (N : NF2 K C CK) {H : Hp} {Q : VK} {s s2 : SR} {x y : V} {b : Bool} (ix : SIs CK H s x) (iy : SIs CK H s2 y) (fx : s.Fine) (fy : s2.Fine) (hb : b = decide (s.lines = s2.lines)) (q : Q (.bl b) H) : rEqO K (IsS CK) (spStEq K CK CS) x y H Q := by
  obtain ⟨a, dx, fs, rfl, ha⟩ := ix.ins
  obtain ⟨a2, dx2, fs2, rfl, ha2⟩ := iy.ins
  exact ⟨a, _, dx, fs, _, rfl, ⟨s.kind, rfl⟩, ha, .ins ha2, N.kk _ _, s, _, _, b, rfl, ix, fx, .inl ⟨s2, iy, fy, hb⟩, ⟨_, rfl⟩, q⟩
theorem rd_noS {H : Hp} {Q : VK} {s : SR} {x y : V} {ty : Value} (ix : SIs CK H s x) (fx : s.Fine) (hy : TyX K H y ty) (hr : RTy H y ty) (hk : PySem.W.kitOne K ty (.ref CS) = some false) (nf : PySem.W.notFirst K (CK s.kind) ty = true) (q : Q (.bl false) H) : rEqO K (IsS CK) (spStEq K CK CS) x y H Q := by
  obtain ⟨a, dx, fs, rfl, ha⟩ := ix.ins
  exact ⟨a, _, dx, fs, _, rfl, ⟨s.kind, rfl⟩, ha, hr, nf, s, _, _, false, rfl, ix, fx, .inr ⟨ty, hy, hk, rfl⟩, ⟨_, rfl⟩, q⟩
theorem rd_noT {H : Hp} {Q : VK} {s : SR} {x : V} {a : Addr} {xs : List V} (S : ST2 K mg C CE CS CK) (N : NF2 K C CK) (ix : SIs CK H s x) (fx : s.Fine) (hr : H a = some (.tup xs)) (q : Q (.bl false) H) : rEqO2 K (IsS CK) (spStEq K CK CS) x (.ref a) H Q := by
  obtain ⟨b, dx, fs, rfl, ha⟩ := ix.ins
  exact ⟨b, _, dx, fs, _, rfl, ⟨s.kind, rfl⟩, ha, .tup hr, N.kt _, s, _, _, false, rfl, ix, fx, .inr ⟨_, .base (.tup hr), S.kitTup, rfl⟩, ⟨_, rfl⟩, q⟩
theorem rd_noX {H : Hp} {Q : VK} {t : Tr} {x y : V} {ty : Value} (ix : Is C H t x) (hy : TyX K H y ty) (hr : RTy H y ty) (hk : PySem.W.kitOne K ty (.ref CE) = some false) (nf : PySem.W.notFirst K (C t.kd) ty = true) (q : Q (.bl false) H) : rEqO K (IsK C) (spExEq K C CE) x y H Q := by
  obtain ⟨a, fs, rfl, hh⟩ := ix.has
  obtain ⟨dx, ha⟩ := hh.at_
  exact ⟨a, _, dx, fs, _, rfl, ⟨t.kd, rfl⟩, ha, hr, nf, t, _, _, _, rfl, ix, .inr ⟨ty, hy, hk, rfl⟩, ⟨_, rfl⟩, q⟩
def n_eqr : List Str := ["_law_some", "_law_mine", "_law_rows_here", "_law_due", "_law_told", "_law_each"]
theorem sc_eqr : FnScope n_eqr ["_law_some", "_law_mine"] (defScope s_equal_right) := ⟨rfl, rfl, rfl, by decide +kernel, rfl, by decide +kernel, by decide +kernel⟩
def spEqR (CK : Sk → Addr) : Sp := fun vs H Q _ => ∃ (A B : Addr) (ss : List SR) (ys xs : List V), vs = [.ref A, .ref B] ∧ H A = some (.lst ys) ∧ H B = some (.lst xs) ∧ Paired (TsN 3 H) ss ys ∧ Paired (SIs CK H) ss xs ∧ 2 ≤ ss.length ∧ ss.length ≤ 3 ∧ ∀ G, Same H G → Q (.bl true) G
theorem ok_eqr (T : Txt mg) (X : XT K mg C CE) (S : ST2 K mg C CE CS CK) (N : NF2 K C CK) (M : Makes P w K mg base C) (MS : MakesS P w K mg base C CK) (O : Own P w K mg base 1 "__eq__" ["self", "other"] (IsK C) (spExEq K C CE)) (OS : Own P w K mg base 1 "__eq__" ["self", "other"] (IsS CK) (spStEq K CK CS)) (D : Dfn K mg "_law_equal_right" s_equal_right ["_law_some", "_law_mine"])
    (c_rows : CalG P w K mg base 12 "_law_rows" ["_law_steps_here", "_law_level"] (spRows 3)) (c_st : CalG P w K mg base 21 "_law_statement" ["_law_each"] (spStm CK 3)) (c_named : CalG P w K mg base 21 "_law_named" ["_law_each"] (spStm CK 3)) : CalG P w K mg base 22 "_law_equal_right" ["_law_some", "_law_mine"] (spEqR CK) := by
  refine D.ok sc_eqr (fun vs H Q E h => ?_) (fun f cdv A fr s H vs Q E hr hgd h => ?_)
  · obtain ⟨A, B, ss, ys, xs, rfl, _⟩ := h
    rfl
  · obtain ⟨La, Lb, ss, ys, xs, rfl, hA, hB, pt, pi, l2, l3, fin⟩ := h
    obtain ⟨fV, mV⟩ := M.cls .var
    obtain ⟨fF, mF⟩ := MS.cls .fail
    have r1 := hr.mono (show 1 ≤ 21 by decide)
    refine ⟨_, pss_cons (ps_setLc (i := 2) (own := [("_law_each", 5)]) (g := gName 5) (tt := tYes) rfl sc_eqr.nd rfl rfl (sw_true rfl rfl rfl (by decide +kernel)) (pi_list (pv 0)) (blkOk_by (N := n_eqr) (sc := defScope s_equal_right) (by decide +kernel)) (fun _ _ _ _ _ => pg_name (i := 5) sc_eqr.nd rfl (Or.inl rfl)) (fun _ _ _ _ _ => pts_nil) (fun _ _ _ _ _ => (pe_cG c_rows hr (by decide) hgd rfl (pa_cons (pe_lst (pa_cons (pv 5) pa_nil)) (pa_cons pe_int pa_nil)))))
      (pss_cons (ps_set (i := 3) sc_eqr.nd rfl (.inl rfl) (pe_cmpR (op_eqD hr.units) (pe_ix ix_list (pv 2) pe_int (fun _ _ => rfl)) (pe_ix ix_list (pv 2) pe_int (fun _ _ => rfl)) (nomark _)))
      (pss_cons (ps_set (i := 4) sc_eqr.nd rfl (.inl rfl) (pe_lst (pa_cons (pe_cmpR (op_eqO OS r1) (pe_ix ix_list (pv 1) pe_int (fun _ _ => rfl)) (pe_ix ix_list (pv 1) pe_int (fun _ _ => rfl)) (nomark _)) (pa_cons (pe_cmpR (op_eqO OS r1) (pe_ix ix_list (pv 1) pe_int (fun _ _ => rfl)) (pe_ix ix_list (pv 1) pe_int (fun _ _ => rfl)) (nomark _)) (pa_cons (pe_cmpR (op_eqO OS r1) (pe_ix ix_list (pv 1) pe_int (fun _ _ => rfl)) (pe_cG c_st hr (by decide) hgd rfl (pa_cons (pe_ix ix_list (pv 0) pe_int (fun _ _ => rfl)) pa_nil)) (nomark _)) pa_nil)))))
      (pss_cons (ps_set (i := 4) sc_eqr.nd rfl (.inl rfl) (pe_op op_cat (pv 4) (pe_lst (pa_cons (pe_cmpR (op_eqO OS r1) (pe_ix ix_list (pv 1) pe_int (fun _ _ => rfl)) (pe_join pe_str (pe_ix ix_list (pv 2) pe_int (fun _ _ => rfl))) (nomark _)) (pa_cons (pe_cmpR (op_eqO OS r1) (pe_ix ix_list (pv 1) pe_int (fun _ _ => rfl)) (pe_cG c_named hr (by decide) hgd rfl (pa_cons (pe_ix ix_list (pv 0) pe_int (fun _ _ => rfl)) pa_nil)) (nomark _)) (pa_cons (pe_cmpR (op_eqO2 OS r1) (pe_ix ix_list (pv 1) pe_int (fun _ _ => rfl)) (pe_tup pa_nil) (nomark _)) pa_nil))))))
      (pss_cons (ps_set (i := 4) sc_eqr.nd rfl (.inl rfl) (pe_op op_cat (pv 4) (pe_lst (pa_cons (pe_cmpR (op_eqO OS r1) (pe_mkF0 mF MS.fail hr (by decide) rfl (S.mgK .fail)) (pe_mkF mV M.var hr (by decide) rfl (X.mgC .var) (pa_cons pe_str pa_nil)) (nomark _)) (pa_cons (pe_cmpR (op_eqO O r1) (pe_mkF mV M.var hr (by decide) rfl (X.mgC .var) (pa_cons pe_str pa_nil)) (pe_mkF0 mF MS.fail hr (by decide) rfl (S.mgK .fail)) (nomark _)) pa_nil)))))
      (pss_one (ps_ret (pe_cmpR op_eq (pe_callB (call_repr hgd hr.units) rfl T.b_repr (by decide +kernel) (pa_cons (pv 4) pa_nil)) (pe_callB (call_repr hgd hr.units) rfl T.b_repr (by decide +kernel) (pa_cons (pe_lst (pa_cons (pv 3) (pa_cons (pv 3) (pa_cons pe_bl (pa_cons pe_bl (pa_cons pe_bl (pa_cons pe_bl (pa_cons pe_bl (pa_cons pe_bl pa_nil))))))))) pa_nil)) (nomark _)))))))), ?_⟩
    have py := pair_len pt
    have px := pair_len pi
    -- the first two of each
    obtain ⟨s0, s1, hs0, hs1⟩ : ∃ s0 s1, ss[0]? = some s0 ∧ ss[1]? = some s1 := ⟨ss[0], ss[1], List.getElem?_eq_getElem (by omega), List.getElem?_eq_getElem (by omega)⟩
    have at_ : ∀ {F : SR → V → Prop} {zs : List V} {j : Nat} {s : SR}, Paired F ss zs → ss[j]? = some s → ∃ z, zs[j]? = some z ∧ F s z := fun {F zs j s} p h => by
      have hj := (List.getElem?_eq_some_iff.mp h).1
      have hz : zs[j]? = some (zs[j]'(by rw [← pair_len p]; exact hj)) := List.getElem?_eq_getElem _
      obtain ⟨s2, h2, f2⟩ := pair_at p hz
      rw [h] at h2
      cases h2
      exact ⟨_, hz, f2⟩
    obtain ⟨y0, hy0, ty0⟩ := at_ pt hs0
    obtain ⟨y1, hy1, ty1⟩ := at_ pt hs1
    obtain ⟨x0, hx0, i0⟩ := at_ pi hs0
    obtain ⟨x1, hx1, i1⟩ := at_ pi hs1
    have f0 := ty0.fine
    have f1 := ty1.fine
    refine ⟨_, rfl, La, rfl, ⟨_, SqL.of hA⟩, fun D1 nD => ?_⟩
    refine lc_rows nD ss py (by omega) hA (fun i x t G R hx ht sG hR => ?_) (fun G zs sG hD ps => ?_)
    · obtain ⟨t2, ht2, ts⟩ := pair_at pt hx
      rw [ht] at ht2
      cases ht2
      refine ⟨rfl, _, rfl, (show 1 ≤ sizeLine by decide), fun m nm => ?_⟩
      refine ⟨[t], _, 0, rfl, one_ls (ts.same sG) nm, by have := ts.fine.amount; simp only [List.map_cons, List.map_nil, List.sum_cons, List.sum_nil]; omega, by decide, by decide, fun lr G8 s8 hlr nlr => ?_⟩
      rw [rows0] at hlr
      exact hR lr G8 ((same_new nm).trans s8) hlr (none_back (same_new nm) nlr)
    · obtain ⟨z0, hz0, ⟨r0, rfl, _, hr0⟩⟩ := at_ ps hs0
      obtain ⟨z1, hz1, ⟨r1a, rfl, _, hr1⟩⟩ := at_ ps hs1
      refine ⟨_, rfl, D1, _, 0, _, rfl, rfl, SqL.of hD, atI_nat (j := 0) hz0, _, rfl, D1, _, 1, _, rfl, rfl, SqL.of hD, atI_nat (j := 1) hz1, .list (s0.lines.map PyData.str), .list (s1.lines.map PyData.str), .lst (SqL.of hr0) (dp_strs _), .lst (SqL.of hr1) (dp_strs _), shaped_strs f0.ok, shaped_strs f1.ok, ?_⟩
      rw [eqv_list_strs]
      generalize ed : decide (s0.lines = s1.lines) = d
      have ed2 : d = decide (s1.lines = s0.lines) := by
        rw [← ed]
        by_cases c : s0.lines = s1.lines
        · rw [decide_eq_true c, decide_eq_true c.symm]
        · rw [decide_eq_false c, decide_eq_false fun z => c z.symm]
      have ed3 : true = decide (s0.lines = s0.lines) := (decide_eq_true rfl).symm
      have hB1 := sG _ _ hB
      have hA1 := sG _ _ hA
      have j0 := i0.same sG
      have j1 := i1.same sG
      refine ⟨_, rfl, Lb, _, 0, _, rfl, rfl, SqL.of hB1, atI_nat (j := 0) hx0, _, rfl, Lb, _, 1, _, rfl, rfl, SqL.of hB1, atI_nat (j := 1) hx1, rd_eqS N j0 j1 f0 f1 ed.symm ?_⟩
      refine ⟨_, rfl, Lb, _, 1, _, rfl, rfl, SqL.of hB1, atI_nat (j := 1) hx1, _, rfl, Lb, _, 0, _, rfl, rfl, SqL.of hB1, atI_nat (j := 0) hx0, rd_eqS N j1 j0 f1 f0 ed2 ?_⟩
      refine ⟨_, rfl, Lb, _, 0, _, rfl, rfl, SqL.of hB1, atI_nat (j := 0) hx0, _, rfl, La, _, 0, _, rfl, rfl, SqL.of hA1, atI_nat (j := 0) hy0, s0, y0, rfl, ty0.same sG, fun a2 G2 s2 k0 => rd_eqS N (j0.same s2) k0 f0 f0 ed3 ?_⟩
      refine ⟨(show 3 ≤ sizeLine by decide), fun L1 n1 => ?_⟩
      have s3 := s2.trans (same_new (o := .lst [.bl d, .bl d, .bl true]) n1)
      have h1 : upd G2 L1 (.lst [.bl d, .bl d, .bl true]) L1 = some (.lst [.bl d, .bl d, .bl true]) := upd_same
      generalize upd G2 L1 (.lst [.bl d, .bl d, .bl true]) = G3 at s3 h1
      have hB3 := s3 _ _ hB1
      have hA3 := s3 _ _ hA1
      have k0 := j0.same s3
      have sz := f0.size
      refine ⟨_, rfl, _, rfl, Lb, _, 0, _, rfl, rfl, SqL.of hB3, atI_nat (j := 0) hx0, ⟨_, rfl⟩, _, rfl, D1, _, 0, _, rfl, rfl, SqL.of (s3 _ _ hD), atI_nat (j := 0) hz0, "\n", r0, s0.lines, rfl, rfl, .inl (SqL.of (s3 _ _ hr0)), Nat.le_trans sz (by decide), rd_noS k0 f0 (.base (.str _)) (.str _) S.kitStr (N.ks _) ?_⟩
      refine ⟨_, rfl, Lb, _, 0, _, rfl, rfl, SqL.of hB3, atI_nat (j := 0) hx0, _, rfl, La, _, 0, _, rfl, rfl, SqL.of hA3, atI_nat (j := 0) hy0, s0, y0, rfl, (ty0.same sG).same s3, fun a4 G4 s4 m0 => rd_eqS N (k0.same s4) m0 f0 f0 ed3 ?_⟩
      refine ⟨_, rfl, Lb, _, 0, _, rfl, rfl, SqL.of (s4 _ _ hB3), atI_nat (j := 0) hx0, (show 0 ≤ sizeLine by decide), fun e0 ne0 => rd_noT S N ((k0.same s4).same (same_new ne0)) f0 upd_same ?_⟩
      have s5 := s4.trans (same_new (o := .tup []) ne0)
      generalize upd G4 e0 (.tup []) = G5 at s5
      refine ⟨(show 3 ≤ sizeLine by decide), fun L2 n2 => ?_⟩
      have h15 := s5 _ _ h1
      have ne2 : L1 ≠ L2 := fun e => by rw [← e, h15] at n2; cases n2
      refine ⟨L1, L2, [.bl d, .bl d, .bl true], [.bl false, .bl true, .bl false], rfl, rfl, by rw [upd_ne ne2]; exact h15, upd_same, (show 6 ≤ sizeLine by decide), fun L3 n3 => ?_⟩
      have s7 := (s5.trans (same_new (o := .lst [.bl false, .bl true, .bl false]) n2)).trans (same_new (o := .lst ([.bl d, .bl d, .bl true] ++ [.bl false, .bl true, .bl false])) n3)
      have h7 : upd (upd G5 L2 (.lst [.bl false, .bl true, .bl false])) L3 (.lst ([.bl d, .bl d, .bl true] ++ [.bl false, .bl true, .bl false])) L3 = some (.lst [.bl d, .bl d, .bl true, .bl false, .bl true, .bl false]) := upd_same
      generalize upd (upd G5 L2 (.lst [.bl false, .bl true, .bl false])) L3 (.lst ([.bl d, .bl d, .bl true] ++ [.bl false, .bl true, .bl false])) = G7 at s7 h7
      have nmF : nmS "fail" = true := by decide +kernel
      refine ⟨_, rfl, fun a8 b8 hx8 hd8 _ => ⟨a8, b8, rfl, upd_same, fun G8 k8 i8 => ⟨rfl, ?_⟩⟩⟩
      have s8 : Same G7 G8 := same_mk hx8 hd8 k8
      refine fun a9 b9 hx9 hd9 _ => ⟨a9, b9, "fail", rfl, upd_same, nmF, fun G9 k9 i9 => ⟨rfl, ?_⟩⟩
      have s9 : Same G8 G9 := same_mk hx9 hd9 k9
      obtain ⟨dx9, fs9, e9, ha9⟩ : ∃ dx fs, True ∧ G9 a9 = some (.ins (C .var) dx fs) := by
        obtain ⟨a', fs, e, hh⟩ := i9.has
        cases e
        obtain ⟨dx9, ha9⟩ := hh.at_
        exact ⟨dx9, fs, trivial, ha9⟩
      have fF : (mkS .fail []).Fine := fine_mk trivial fits0
      refine rd_noS (i8.same s9) fF ((X.own _).ty ha9) (.ins ha9) (S.kitC _) (N.kc _ _) ?_
      refine fun a10 b10 hx10 hd10 _ => ⟨a10, b10, "fail", rfl, upd_same, nmF, fun G10 k10 i10 => ⟨rfl, ?_⟩⟩
      have s10 : Same G9 G10 := same_mk hx10 hd10 k10
      refine fun a11 c11 hx11 hd11 _ => ⟨a11, c11, rfl, upd_same, fun G11 k11 i11 => ⟨rfl, ?_⟩⟩
      have s11 : Same G10 G11 := same_mk hx11 hd11 k11
      obtain ⟨b11, dx11, fs11, e11, ha11⟩ := i11.ins
      cases e11
      refine rd_noX (i10.same s11) ((S.own _).ty ha11) (.ins ha11) (S.kitE _) (N.ck _ _) ?_
      refine ⟨(show 2 ≤ sizeLine by decide), fun L4 n4 => ?_⟩
      have s12 := ((s8.trans s9).trans s10).trans s11
      have h11 := s12 _ _ h7
      have ne4 : L3 ≠ L4 := fun e => by rw [← e, h11] at n4; cases n4
      refine ⟨L3, L4, [.bl d, .bl d, .bl true, .bl false, .bl true, .bl false], [.bl false, .bl false], rfl, rfl, by rw [upd_ne ne4]; exact h11, upd_same, (show 8 ≤ sizeLine by decide), fun L5 n5 => ?_⟩
      obtain ⟨w1, w2, w3, w4⟩ := data8 d
      refine ⟨_, rfl, L5, .list [.bool d, .bool d, .bool true, .bool false, .bool true, .bool false, .bool false, .bool false], 2, rfl, Shw.lst (SqL.of upd_same) (.cons (Shw.bl _) (.cons (Shw.bl _) (.cons (Shw.bl _) (.cons (Shw.bl _) (.cons (Shw.bl _) (.cons (Shw.bl _) (.cons (Shw.bl _) (.cons (Shw.bl _) .nil)))))))), w1, w2, w3, w4, ?_⟩
      refine ⟨_, rfl, _, rfl, (show 8 ≤ sizeLine by decide), fun L6 n6 => ?_⟩
      refine ⟨L6, .list [.bool d, .bool d, .bool true, .bool false, .bool true, .bool false, .bool false, .bool false], 2, rfl, Shw.lst (SqL.of upd_same) (.cons (Shw.bl _) (.cons (Shw.bl _) (.cons (Shw.bl _) (.cons (Shw.bl _) (.cons (Shw.bl _) (.cons (Shw.bl _) (.cons (Shw.bl _) (.cons (Shw.bl _) .nil)))))))), w1, w2, w3, w4, rfl, ?_⟩
      have q := fin _ ((((((sG.trans s3).trans s7).trans s12).trans (same_new n4)).trans (same_new n5)).trans (same_new (o := .lst [.bl d, .bl d, .bl true, .bl false, .bl true, .bl false, .bl false, .bl false]) n6))
      rw [decide_eq_true rfl]
      exact q
end
end Jo

set_option Elab.async false
set_option linter.all false
set_option maxRecDepth 100000
set_option maxHeartbeats 4000000
namespace Jo
open PySem PySem.Spec PyProof.Rows L2 ClX
theorem all_bl (n : Nat) : (List.replicate n true).all id = true := by
  rw [List.all_eq_true]
  intro x hx
  rw [List.eq_of_mem_replicate hx] <;> rfl
theorem repl_bl {n i : Nat} {v : V} (h : ((List.replicate n true).map V.bl)[i]? = some v) : v = .bl true := by
  obtain ⟨b, hb, rfl⟩ := List.mem_map.mp (List.mem_of_getElem? h)
  rw [List.eq_of_mem_replicate hb]
def eN3 : Tr := .bi .equal (.var "n") (.num 3)
theorem eN3_lim : Lim eN3 := ⟨⟨(by decide +kernel : nmS "n" = true), by decide, by decide⟩, by decide, by decide⟩
section
variable {P : Program} {w : World} {K : PySem.W.Frag} {mg : Str → Option Value} {base : Heap} {C : Kd → Addr} {CE CS : Addr} {CK : Sk → Addr}
def n_around : List Str := ["_law_lots", "_law_inner_here", "_law_test_here", "_law_around", "_law_tree_here", "_law_dues", "_law_at", "_law_k"]
theorem sc_around : FnScope n_around ["_law_lots", "_law_inner_here"] (defScope s_around_right) := ⟨rfl, rfl, rfl, by decide +kernel, rfl, by decide +kernel, by decide +kernel⟩
def spAround (K : PySem.W.Frag) (CK : Sk → Addr) : Sp := fun vs H Q _ => ∃ (A B : Addr) (b0 b1 : List SR) (v0 v1 w0 w1 : V), vs = [.ref A, .ref B] ∧ H A = some (.lst [v0, v1]) ∧ H B = some (.lst [w0, w1]) ∧ LsOf (TsN 3 H) H b0 v0 ∧ LsOf (TsN 3 H) H b1 v1 ∧ BIs K CK H b0 w0 ∧ BIs K CK H b1 w1 ∧ Fits [b0, b1] ∧ Fits [b1] ∧ Fits [b1, b0] ∧ ∀ G, Same H G → Q (.bl true) G
theorem LsOf.up {H : Hp} {n : Nat} {b : List SR} {v : V} (h : LsOf (TsN n H) H b v) : LsOf (TsN (n + 1) H) H b v := h.imp (fun _ _ e => e) fun s v hs => hs.up
theorem ok_around (T : Txt mg) (X : XT K mg C CE) (S : ST2 K mg C CE CS CK) (M : Makes P w K mg base C) (MS : MakesS P w K mg base C CK) (O : Own P w K mg base 1 "__str__" ["self"] (IsK C) (spExStr C)) (D : Dfn K mg "_law_around_right" s_around_right ["_law_lots", "_law_inner_here"])
    (c_shown : CalG P w K mg base 14 "_law_shown" ["_law_each", "_law_mine"] (spShown CK 4)) : CalG P w K mg base 15 "_law_around_right" ["_law_lots", "_law_inner_here"] (spAround K CK) := by
  refine D.ok sc_around (fun vs H Q E h => ?_) (fun f cdv A fr s H vs Q E hr hgd h => ?_)
  · obtain ⟨A, B, b0, b1, v0, v1, w0, w1, rfl, _⟩ := h
    rfl
  · obtain ⟨La, Lb, b0, b1, v0, v1, w0, w1, rfl, hA, hB, l0, l1, i0, i1, f01, f1, f10, fin⟩ := h
    obtain ⟨fV, mV⟩ := M.cls .var
    obtain ⟨fN, mN⟩ := M.cls .num
    obtain ⟨fE, mE⟩ := M.cls (.bi .equal)
    obtain ⟨fI, mI⟩ := MS.cls .ifs
    obtain ⟨fW, mW⟩ := MS.cls .whl
    obtain ⟨fT, mT⟩ := MS.cls .att
    have r1 := hr.mono (show 3 ≤ 14 by decide)
    refine ⟨_, pss_cons (ps_set (i := 2) sc_around.nd rfl (.inl rfl) (pe_mkF mE (M.bi .equal) hr (by decide) rfl (X.mgC (.bi .equal)) (pa_cons (pe_mkF mV M.var hr (by decide) rfl (X.mgC .var) (pa_cons pe_str pa_nil)) (pa_cons (pe_mkF mN M.num hr (by decide) rfl (X.mgC .num) (pa_cons pe_int pa_nil)) pa_nil))))
      (pss_cons (ps_set (i := 3) sc_around.nd rfl (.inr rfl) (pe_lst (pa_cons (pe_mkE mI MS.ifs hr (by decide) rfl (S.mgK .ifs) (pa_cons (pv 2) (pa_cons (pe_ix ix_list (pv 1) pe_int (fun _ _ => rfl)) (pa_cons (pe_ix ix_list (pv 1) pe_int (fun _ _ => rfl)) pa_nil)))) (pa_cons (pe_mkF mW MS.whl hr (by decide) rfl (S.mgK .whl) (pa_cons (pv 2) (pa_cons (pe_ix ix_list (pv 1) pe_int (fun _ _ => rfl)) pa_nil))) (pa_cons (pe_mkE mT MS.att hr (by decide) rfl (S.mgK .att) (pa_cons (pe_ix ix_list (pv 1) pe_int (fun _ _ => rfl)) (pa_cons (pe_ix ix_list (pv 1) pe_int (fun _ _ => rfl)) pa_nil))) pa_nil)))))
      (pss_cons (ps_set (i := 4) sc_around.nd rfl (.inl rfl) (pe_tup (pa_cons pe_str (pa_cons (pe_tup (pa_cons pe_str (pa_cons pe_str pa_nil))) (pa_cons (pe_tup (pa_cons pe_str (pa_cons pe_int pa_nil))) pa_nil)))))
      (pss_cons (ps_set (i := 5) sc_around.nd rfl (.inr rfl) (pe_lst (pa_cons (pe_tup (pa_cons pe_str (pa_cons (pv 4) (pa_cons (pe_ix ix_list (pv 0) pe_int (fun _ _ => rfl)) (pa_cons (pe_ix ix_list (pv 0) pe_int (fun _ _ => rfl)) pa_nil))))) (pa_cons (pe_tup (pa_cons pe_str (pa_cons (pv 4) (pa_cons (pe_ix ix_list (pv 0) pe_int (fun _ _ => rfl)) pa_nil)))) (pa_cons (pe_tup (pa_cons pe_str (pa_cons (pe_ix ix_list (pv 0) pe_int (fun _ _ => rfl)) (pa_cons (pe_ix ix_list (pv 0) pe_int (fun _ _ => rfl)) pa_nil)))) pa_nil)))))
      (pss_cons (ps_if (pt_not (pt_val (pe_callB (cr_all rfl) rfl T.b_all (by decide +kernel) (pa_cons (pe_lc (own := [("_law_at", 6)]) (g := gName 6) (tt := tYes) (te := tCall (spShown CK 4) [] E0 (tCons (tOp (rIxL K) (tVar 5) (tVar 6)) (tCons (tOp (rIxL K) (tVar 3) (tVar 6)) tNil))) rfl sc_around.nd (pi_range1 rfl T.b_range (pa_cons pe_int pa_nil)) (blkOk_by (N := n_around) (sc := defScope s_around_right) (by decide +kernel)) (fun _ _ _ _ _ => pg_name (i := 6) sc_around.nd rfl (Or.inl rfl)) (fun _ _ _ _ _ => pts_nil) (fun _ _ _ _ _ => (pe_cG c_shown hr (Nat.le_refl _) hgd rfl (pa_cons (pe_ix ix_list (pv 5) (pv 6) (fun _ _ => rfl)) (pa_cons (pe_ix ix_list (pv 3) (pv 6) (fun _ _ => rfl)) pa_nil))))) pa_nil))))
        (pss_one (ps_ret pe_bl))
        (pss_nil))
      (pss_cons (ps_for PassesOwn.never rfl (pi_range1 rfl T.b_range (pa_cons pe_int pa_nil)) (pg_name (i := 6) sc_around.nd rfl (.inr rfl))
        (pss_one (ps_if (pt_not (pt_val (pe_callB (cr_all rfl) rfl T.b_all (by decide +kernel) (pa_cons (pe_lc (own := [("_law_k", 7)]) (g := gName 7) (tt := tYes) (te := tCall (spShown CK 4) [] E0 (tCons (tOp (rIxL K) (tOp (rIxL K) (tVar 0) (tVar 6)) (tVar 7)) (tCons (tOp (rIxT K) (tOp (rIxL K) (tVar 1) (tVar 6)) (tVar 7)) tNil))) rfl sc_around.nd (pi_range1 rfl T.b_range (pa_cons (pe_callB call_len rfl T.b_len (by decide +kernel) (pa_cons (pe_ix ix_list (pv 0) (pv 6) (fun _ _ => rfl)) pa_nil)) pa_nil)) (blkOk_by (N := n_around) (sc := defScope s_around_right) (by decide +kernel)) (fun _ _ _ _ _ => pg_name (i := 7) sc_around.nd rfl (Or.inl rfl)) (fun _ _ _ _ _ => pts_nil) (fun _ _ _ _ _ => (pe_cG c_shown hr (Nat.le_refl _) hgd rfl (pa_cons (pe_ix ix_list (pe_ix ix_list (pv 0) (pv 6) (fun _ _ => rfl)) (pv 7) (fun _ _ => rfl)) (pa_cons (pe_ix ix_tup (pe_ix ix_list (pv 1) (pv 6) (fun _ _ => rfl)) (pv 7) (fun _ _ => rfl)) pa_nil))))) pa_nil))))
            (pss_one (ps_ret pe_bl))
            (pss_nil))))
      (pss_one (ps_ret (pe_cmpR op_eq (pe_callTy (cr_strO O r1) rfl T.b_str (by decide +kernel) (pa_cons (pv 2) pa_nil)) pe_str (nomark _))))))))), ?_⟩
    have nmN : nmS "n" = true := by decide +kernel
    -- the test
    refine fun x1 d1 hx1 hd1 _ => ⟨x1, d1, "n", rfl, upd_same, nmN, fun G1 k1 j1 => ⟨rfl, ?_⟩⟩
    have s1 : Same H G1 := same_mk hx1 hd1 k1
    refine fun x2 d2 hx2 hd2 _ => ⟨x2, d2, 3, rfl, upd_same, by decide, by decide, fun G2 k2 j2 => ⟨rfl, ?_⟩⟩
    have s2 : Same G1 G2 := same_mk hx2 hd2 k2
    refine fun x3 d3 hx3 hd3 _ => ⟨x3, d3, .var "n", .num 3, _, _, rfl, upd_same, (j1.same s2).same (same_in hx3 hd3), j2.same (same_in hx3 hd3), eN3_lim, fun G3 k3 j3 => ⟨rfl, ?_⟩⟩
    have s3 : Same H G3 := (s1.trans s2).trans (same_mk hx3 hd3 k3)
    have e3 : Is C G3 eN3 (.ref x3) := j3
    -- what stands around
    have hB3 := s3 _ _ hB
    refine ⟨_, rfl, _, rfl, Lb, _, 0, _, rfl, rfl, SqL.of hB3, atI_nat (j := 0) rfl, _, rfl, Lb, _, 1, _, rfl, rfl, SqL.of hB3, atI_nat (j := 1) rfl, ?_⟩
    refine fun x4 d4 hx4 hd4 _ => ⟨x4, d4, eN3, _, _, _, b0, b1, rfl, upd_same, e3.same (same_in hx4 hd4), eN3_lim, (i0.same s3).same (same_in hx4 hd4), (i1.same s3).same (same_in hx4 hd4), f01, fun G4 k4 j4 => ⟨rfl, ?_⟩⟩
    have s34 : Same G3 G4 := same_mk hx4 hd4 k4
    have s4 := s3.trans s34
    have e4 := e3.same s34
    have hB4 := s4 _ _ hB
    refine ⟨_, rfl, _, rfl, Lb, _, 1, _, rfl, rfl, SqL.of hB4, atI_nat (j := 1) rfl, ?_⟩
    refine fun x5 d5 hx5 hd5 _ => ⟨x5, d5, eN3, _, _, b1, rfl, upd_same, e4.same (same_in hx5 hd5), eN3_lim, (i1.same s4).same (same_in hx5 hd5), f1, fun G5 k5 j5 => ⟨rfl, ?_⟩⟩
    have s45 : Same G4 G5 := same_mk hx5 hd5 k5
    have s5 := s4.trans s45
    have hB5 := s5 _ _ hB
    refine ⟨_, rfl, Lb, _, 1, _, rfl, rfl, SqL.of hB5, atI_nat (j := 1) rfl, _, rfl, Lb, _, 0, _, rfl, rfl, SqL.of hB5, atI_nat (j := 0) rfl, ?_⟩
    refine fun x6 d6 hx6 hd6 _ => ⟨x6, d6, _, _, b1, b0, rfl, upd_same, (i1.same s5).same (same_in hx6 hd6), (i0.same s5).same (same_in hx6 hd6), f10, fun G6 k6 j6 => ⟨rfl, ?_⟩⟩
    have s56 : Same G5 G6 := same_mk hx6 hd6 k6
    have s6 := s5.trans s56
    have m4 := (j4.same s45).same s56
    have m5 := j5.same s56
    have e6 := (e4.same s45).same s56
    refine ⟨(show 3 ≤ sizeLine by decide), fun Lr nr => ?_⟩
    have s7 := s6.trans (same_new (o := .lst [.ref x4, .ref x5, .ref x6]) nr)
    have hR7 : upd G6 Lr (.lst [.ref x4, .ref x5, .ref x6]) Lr = some (.lst [.ref x4, .ref x5, .ref x6]) := upd_same
    have m47 := m4.same (same_new (o := .lst [.ref x4, .ref x5, .ref x6]) nr)
    have m57 := m5.same (same_new (o := .lst [.ref x4, .ref x5, .ref x6]) nr)
    have m67 := j6.same (same_new (o := .lst [.ref x4, .ref x5, .ref x6]) nr)
    have e7 := e6.same (same_new (o := .lst [.ref x4, .ref x5, .ref x6]) nr)
    generalize upd G6 Lr (.lst [.ref x4, .ref x5, .ref x6]) = G7 at s7 hR7 m47 m57 m67 e7
    -- the law's tree
    refine ⟨(show 2 ≤ sizeLine by decide), fun p1 np1 => ⟨(show 2 ≤ sizeLine by decide), fun p2 np2 => ⟨(show 3 ≤ sizeLine by decide), fun p3 np3 => ?_⟩⟩⟩
    have q1 : Same G7 (upd G7 p1 (.tup [.str "variable", .str "n"])) := same_new np1
    have h1 : upd G7 p1 (.tup [.str "variable", .str "n"]) p1 = _ := upd_same
    generalize upd G7 p1 (.tup [.str "variable", .str "n"]) = G8 at q1 h1 np2 np3
    have q2 : Same G8 (upd G8 p2 (.tup [.str "number", .int 3])) := same_new np2
    have h2 : upd G8 p2 (.tup [.str "number", .int 3]) p2 = _ := upd_same
    have h12 := q2 _ _ h1
    generalize upd G8 p2 (.tup [.str "number", .int 3]) = G9 at q2 h2 h12 np3
    have q3 : Same G9 (upd G9 p3 (.tup [.str "equal", .ref p1, .ref p2])) := same_new np3
    have tp : Tp (upd G9 p3 (.tup [.str "equal", .ref p1, .ref p2])) eN3 (.ref p3) := ⟨p3, _, _, rfl, upd_same, ⟨p1, rfl, q3 _ _ h12⟩, ⟨p2, rfl, q3 _ _ h2⟩⟩
    generalize upd G9 p3 (.tup [.str "equal", .ref p1, .ref p2]) = Ga at q3 tp
    have qa := q1.trans (q2.trans q3)
    have sa := s7.trans qa
    have hAa := sa _ _ hA
    -- the dues
    refine ⟨_, rfl, _, rfl, La, _, 0, _, rfl, rfl, SqL.of hAa, atI_nat (j := 0) rfl, _, rfl, La, _, 1, _, rfl, rfl, SqL.of hAa, atI_nat (j := 1) rfl, (show 4 ≤ sizeLine by decide), fun u1 nu1 => ?_⟩
    have t1 : Same Ga (upd Ga u1 (.tup [.str "if", .ref p3, v0, v1])) := same_new nu1
    have g1 : upd Ga u1 (.tup [.str "if", .ref p3, v0, v1]) u1 = _ := upd_same
    generalize upd Ga u1 (.tup [.str "if", .ref p3, v0, v1]) = Gb at t1 g1
    refine ⟨_, rfl, _, rfl, La, _, 1, _, rfl, rfl, SqL.of (t1 _ _ hAa), atI_nat (j := 1) rfl, (show 3 ≤ sizeLine by decide), fun u2 nu2 => ?_⟩
    have t2 : Same Gb (upd Gb u2 (.tup [.str "while", .ref p3, v1])) := same_new nu2
    have g2 : upd Gb u2 (.tup [.str "while", .ref p3, v1]) u2 = _ := upd_same
    have g12 := t2 _ _ g1
    generalize upd Gb u2 (.tup [.str "while", .ref p3, v1]) = Gc at t2 g2 g12
    have t12 := t1.trans t2
    refine ⟨_, rfl, La, _, 1, _, rfl, rfl, SqL.of (t12 _ _ hAa), atI_nat (j := 1) rfl, _, rfl, La, _, 0, _, rfl, rfl, SqL.of (t12 _ _ hAa), atI_nat (j := 0) rfl, (show 3 ≤ sizeLine by decide), fun u3 nu3 => ?_⟩
    have t3 : Same Gc (upd Gc u3 (.tup [.str "attempt", v1, v0])) := same_new nu3
    have g3 : upd Gc u3 (.tup [.str "attempt", v1, v0]) u3 = _ := upd_same
    have g13 := t3 _ _ g12
    have g23 := t3 _ _ g2
    generalize upd Gc u3 (.tup [.str "attempt", v1, v0]) = Gd at t3 g3 g13 g23
    have td := t12.trans t3
    refine ⟨(show 3 ≤ sizeLine by decide), fun Ld nd => ?_⟩
    have t4 : Same Gd (upd Gd Ld (.lst [.ref u1, .ref u2, .ref u3])) := same_new nd
    have hLd : upd Gd Ld (.lst [.ref u1, .ref u2, .ref u3]) Ld = some (.lst [.ref u1, .ref u2, .ref u3]) := upd_same
    generalize upd Gd Ld (.lst [.ref u1, .ref u2, .ref u3]) = Ge at t4 hLd
    have te := td.trans t4
    have se := sa.trans te
    have sx := qa.trans te
    have l0e := (l0.same se)
    have l1e := (l1.same se)
    have tpe := tp.same te
    have due1 : TsN 4 Ge (mkS (.ifs eN3) [b0, b1]) (.ref u1) := ⟨u1, .ifs eN3, [b0, b1], _, rfl, t4 _ _ g13, rfl, eN3_lim, f01, ⟨_, b0, b1, v0, v1, rfl, rfl, tpe, l0e, l1e⟩⟩
    have due2 : TsN 4 Ge (mkS (.whl eN3) [b1]) (.ref u2) := ⟨u2, .whl eN3, [b1], _, rfl, t4 _ _ g23, rfl, eN3_lim, f1, ⟨_, b1, v1, rfl, rfl, tpe, l1e⟩⟩
    have due3 : TsN 4 Ge (mkS .att [b1, b0]) (.ref u3) := ⟨u3, .att, [b1, b0], _, rfl, t4 _ _ g3, rfl, trivial, f10, ⟨b1, b0, v1, v0, rfl, rfl, l1e, l0e⟩⟩
    have hRe := sx _ _ hR7
    have m4e := m47.same sx
    have m5e := m57.same sx
    have m6e := m67.same sx
    have both : ∀ i : Nat, i < 3 → ∃ (s : SR) (v x : V), ([V.ref u1, V.ref u2, V.ref u3] : List V)[i]? = some v ∧ ([V.ref x4, V.ref x5, V.ref x6] : List V)[i]? = some x ∧ TsN 4 Ge s v ∧ SIs CK Ge s x := fun i hi => by
      have : i = 0 ∨ i = 1 ∨ i = 2 := by omega
      rcases this with e | e | e <;> subst e
      · exact ⟨_, _, _, rfl, rfl, due1, m4e⟩
      · exact ⟨_, _, _, rfl, rfl, due2, m5e⟩
      · exact ⟨_, _, _, rfl, rfl, due3, m6e⟩
    refine ⟨3, rfl, by decide, by decide, fun D1 nD1 => ?_⟩
    refine lc_call walk_range nD1 ((List.replicate 3 true).map V.bl) rfl (by decide) (fun _ _ => trivial) (fun i x v G G' R hv sG hy hR => ?_) (fun G sG hD => ?_)
    · have hi : i < 3 := by
        have := (List.getElem?_eq_some_iff.mp hv).1
        simpa using this
      obtain rfl := repl_bl hv
      obtain ⟨rfl, rfl⟩ := hy
      obtain ⟨s, v, x, hv2, hx2, ts, is⟩ := both i hi
      refine ⟨rfl, _, rfl, _, rfl, Ld, _, _, _, rfl, rfl, SqL.of (sG _ _ hLd), ?_, _, rfl, _, rfl, Lr, _, _, _, rfl, rfl, SqL.of (sG _ _ hRe), ?_, s, v, x, rfl, ts.same sG, is.same sG, fun G2 s2 => hR G2 s2⟩
      · rw [Int.zero_add]; exact atI_nat hv2
      · rw [Int.zero_add]; exact atI_nat hx2
    refine ⟨D1, List.replicate 3 true, rfl, SqL.of hD, true, rfl, iteF ?_⟩
    have sF := se.trans sG
    have e9 := e7.same (sx.trans sG)
    -- the lots
    have lots : ∀ i : Nat, i < 2 → ∃ (b : List SR) (v x : V), ([v0, v1] : List V)[i]? = some v ∧ ([w0, w1] : List V)[i]? = some x ∧ LsOf (TsN 3 H) H b v ∧ BIs K CK H b x ∧ b.length ≤ 400 := fun i hi => by
      have : i = 0 ∨ i = 1 := by omega
      rcases this with e | e <;> subst e
      · exact ⟨b0, _, _, rfl, rfl, l0, i0, fitsL f01 (List.mem_cons_self ..)⟩
      · exact ⟨b1, _, _, rfl, rfl, l1, i1, fitsL f1 (List.mem_cons_self ..)⟩
    refine ⟨2, rfl, by decide, by decide, ?_⟩
    refine for_range (lo := 0) (n := 2) (fun i σ G => Same H G ∧ Is C G eN3 (.ref x3) ∧ ∃ y6 y7 : Option V, σ = [some (.ref La), some (.ref Lb), some (.ref x3), some (.ref Lr), some (.ref p3), some (.ref Ld), y6, y7]) ⟨sF, e9, none, none, rfl⟩ (fun i σ G hi hG => ?_) (fun σ G hG => ?_)
    · obtain ⟨sG2, eG, y6, y7, rfl⟩ := hG
      rw [Int.zero_add]
      obtain ⟨b, v, x, hv, hx, lb, ib, lz⟩ := lots i hi
      obtain ⟨l, us, rfl, hl, pt⟩ := lb
      obtain ⟨q, xs, rfl, hq, pi⟩ := ib
      have hA2 := sG2 _ _ hA
      have hB2 := sG2 _ _ hB
      have pl := pair_len pt
      refine ⟨_, rfl, _, rfl, La, _, _, _, rfl, rfl, SqL.of hA2, atI_nat hv, .ref l, us.length, rfl, .inl ⟨_, SqL.of (sG2 _ _ hl), rfl⟩, _, rfl, by omega, by omega, fun D2 nD2 => ?_⟩
      rw [Int.toNat_natCast]
      refine lc_call walk_range nD2 ((List.replicate us.length true).map V.bl) (by rw [List.length_map, List.length_replicate]) (by omega) (fun _ _ => trivial) (fun j y v2 G2 G2' R2 hv2 s2 hy2 hR2 => ?_) (fun G2 s2 hD2 => ?_)
      · have hj : j < us.length := by
          have := (List.getElem?_eq_some_iff.mp hv2).1
          simpa using this
        obtain rfl := repl_bl hv2
        obtain ⟨rfl, rfl⟩ := hy2
        have hu : us[j]? = some us[j] := List.getElem?_eq_getElem hj
        obtain ⟨s, hs, ts⟩ := pair_at pt hu
        obtain ⟨z, hz⟩ : ∃ z, xs[j]? = some z := ⟨xs[j]'(by rw [← pair_len pi, pl]; exact hj), List.getElem?_eq_getElem _⟩
        obtain ⟨s', hs', is⟩ := pair_at pi hz
        rw [hs] at hs'
        cases hs'
        have sH2 := sG2.trans s2
        refine ⟨rfl, _, rfl, _, rfl, La, _, _, _, rfl, rfl, SqL.of (sH2 _ _ hA), atI_nat hv, _, rfl, l, _, _, _, rfl, rfl, SqL.of (sH2 _ _ hl), ?_, _, rfl, _, rfl, Lb, _, _, _, rfl, rfl, SqL.of (sH2 _ _ hB), atI_nat hx, _, rfl, q, _, _, _, rfl, rfl, seqT_same hq sH2, ?_, s, _, _, rfl, (ts.same sH2).up, is.same sH2, fun G3 s3 => hR2 G3 s3⟩
        · rw [Int.zero_add]; exact atI_nat hu
        · rw [Int.zero_add]; exact atI_nat hz
      · refine ⟨D2, List.replicate us.length true, rfl, SqL.of hD2, ?_⟩
        rw [all_bl]
        exact ⟨true, rfl, iteF ⟨sG2.trans s2, eG.same s2, _, _, rfl⟩⟩
    · obtain ⟨sG2, eG, y6, y7, rfl⟩ := hG
      obtain ⟨b, dx, q, fs, e, hb, hq⟩ := ex_str X eG
      cases e
      refine ⟨_, rfl, x3, _, dx, fs, rfl, ⟨eN3.kd, rfl⟩, hb, eN3, _, rfl, eG, ⟨_, rfl⟩, rfl, ?_⟩
      have e : decide (V.str eN3.text = V.str "equal(n, 3)") = true := by decide +kernel
      have q := fin _ sG2
      rw [← e] at q
      exact q
end
end Jo

set_option Elab.async false
set_option linter.all false
set_option maxRecDepth 100000
set_option maxHeartbeats 2000000
namespace Jo
open PySem PySem.Spec PyProof.Rows L2 ClX
/-- the heap G with its lists that are new since H0 alone -/
def NL (H0 G : Hp) : Hp := fun a => match G a with
  | some (.lst xs) => if H0 a = none then some (.lst xs) else none
  | o => o
theorem NL_tup {H0 G : Hp} {a : Addr} {xs : List V} : NL H0 G a = some (.tup xs) ↔ G a = some (.tup xs) := by
  unfold NL
  cases h : G a with
  | none => exact Iff.rfl
  | some o =>
    cases o with
    | lst ys =>
      by_cases e : H0 a = none
      · simp [e]
      · simp [e]
    | _ => exact Iff.rfl
theorem NL_lst {H0 G : Hp} {a : Addr} {xs : List V} : NL H0 G a = some (.lst xs) ↔ G a = some (.lst xs) ∧ H0 a = none := by
  unfold NL
  cases h : G a with
  | none => simp
  | some o =>
    cases o with
    | lst ys =>
      by_cases e : H0 a = none
      · simp [e]
      · simp [e]
    | _ => simp
theorem TsN.nl {H0 H1 H2 H3 : Hp} (h01 : ∀ a, H1 a = none → H0 a = none) (ht : ∀ a xs, H2 a = some (.tup xs) → H3 a = some (.tup xs)) (hl : ∀ a xs, H1 a = none → H2 a = some (.lst xs) → H3 a = some (.lst xs)) {n : Nat} {s : SR} {v : V} (h : TsN n (NL H1 H2) s v) : TsN n (NL H0 H3) s v :=
  h.imp (fun a xs e => NL_tup.mpr (ht _ _ (NL_tup.mp e))) fun a xs e => NL_lst.mpr ⟨hl _ _ (NL_lst.mp e).2 (NL_lst.mp e).1, h01 _ (NL_lst.mp e).2⟩
/-- the most statements that are drawn -/
def AM : Nat → Nat
  | 0 => 0
  | n + 1 => 1 + 4 * AM n
theorem AM_le : ∀ n, n ≤ 3 → AM n ≤ 21 := by decide
/-- a drawn body -/
structure BodyD (H0 G : Hp) (m : Nat) (b : List SR) (v : V) : Prop where
  ls : LsOf (TsN m (NL H0 G)) (NL H0 G) b v
  two : b.length ≤ 2
  small : ∀ s ∈ b, s.amount ≤ AM m ∧ s.height ≤ m
theorem BodyD.fine {H0 G : Hp} {m : Nat} {b : List SR} {v : V} (h : BodyD H0 G m b v) : ∀ s ∈ b, s.Fine := fun s hs => by
  obtain ⟨l, us, _, _, pr⟩ := h.ls
  obtain ⟨i, hi, e⟩ := List.mem_iff_getElem.mp hs
  obtain ⟨y, hy⟩ : ∃ y, us[i]? = some y := ⟨us[i]'(by rw [← pair_len pr]; exact hi), List.getElem?_eq_getElem _⟩
  obtain ⟨s2, hs2, t2⟩ := pair_at pr hy
  rw [List.getElem?_eq_getElem hi, e] at hs2
  cases hs2
  exact t2.fine
theorem BodyD.go {p : Addr} {H0 H1 H2 H3 : Hp} {m : Nat} {b : List SR} {v : V} (h : BodyD H1 H2 m b v) (hp1 : PurseAt H1 p) (hp2 : PurseAt H2 p) (k01 : Kp p H0 H1) (k23 : Kp p H2 H3) : BodyD H0 H3 m b v := by
  have np : ∀ a, H1 a = none → a ≠ p := fun a ha e => by
    obtain ⟨x, y, z, hh⟩ := hp1
    rw [e, hh] at ha
    cases ha
  have h01 : ∀ a, H1 a = none → H0 a = none := fun a ha => by
    cases e : H0 a with
    | none => rfl
    | some o =>
      have := k01 a o e (np a ha)
      rw [ha] at this
      cases this
  have ht : ∀ a xs, H2 a = some (.tup xs) → H3 a = some (.tup xs) := fun a xs e => k23 _ _ e fun q => by
    obtain ⟨x, y, z, hh⟩ := hp2
    rw [q, hh] at e
    cases e
  have hl : ∀ a xs, H1 a = none → H2 a = some (.lst xs) → H3 a = some (.lst xs) := fun a xs n e => k23 _ _ e (np a n)
  exact ⟨h.ls.imp (fun a xs e => NL_lst.mpr ⟨hl _ _ (NL_lst.mp e).2 (NL_lst.mp e).1, h01 _ (NL_lst.mp e).2⟩) fun s v t => t.nl h01 ht hl, h.two, h.small⟩
theorem sum_le_all : ∀ (l : List SR) (B : Nat), (∀ s ∈ l, s.amount ≤ B) → (l.map SR.amount).sum ≤ l.length * B
  | [], _, _ => Nat.zero_le _
  | s :: l, B, h => by
    have h1 := sum_le_all l B fun x hx => h x (List.mem_cons_of_mem _ hx)
    have h2 := h s (List.mem_cons_self ..)
    rw [List.map_cons, List.sum_cons, List.length_cons, Nat.succ_mul]
    omega
theorem fits_of {bs : List (List SR)} {m : Nat} (hm : m ≤ 3) (h2 : bs.length ≤ 2) (hf : ∀ b ∈ bs, b.length ≤ 3 ∧ (∀ s ∈ b, s.Fine ∧ s.amount ≤ AM m ∧ s.height ≤ m)) : Fits bs ∧ amtS bs ≤ 6 * AM m ∧ hgtS bs ≤ m := by
  have ham := AM_le m hm
  have hl : bs.flatten.length ≤ 6 := by
    have : ∀ bs : List (List SR), (∀ b ∈ bs, b.length ≤ 3) → bs.flatten.length ≤ 3 * bs.length := by
      intro bs
      induction bs with
      | nil => exact fun _ => Nat.le_refl _
      | cons b bs ih =>
        intro h
        have h1 := ih fun x hx => h x (List.mem_cons_of_mem _ hx)
        have h2 := h b (List.mem_cons_self ..)
        rw [List.flatten_cons, List.length_append, List.length_cons]
        omega
    have := this bs fun b hb => (hf b hb).1
    omega
  have all : ∀ s ∈ bs.flatten, s.Fine ∧ s.amount ≤ AM m ∧ s.height ≤ m := fun s hs => by
    obtain ⟨b, hb, hs2⟩ := List.mem_flatten.mp hs
    exact (hf b hb).2 s hs2
  have h3 : amtS bs ≤ 6 * AM m := Nat.le_trans (sum_le_all _ _ fun s hs => (all s hs).2.1) (Nat.mul_le_mul_right _ hl)
  have h4 : hgtS bs ≤ m := top1_le fun x hx => by
    obtain ⟨s, hs, rfl⟩ := List.mem_map.mp hx
    exact (all s hs).2.2
  exact ⟨⟨h2, fun s hs => (all s hs).1, by omega, by omega⟩, h3, h4⟩
theorem fits_two {bs : List (List SR)} {m : Nat} (hm : m ≤ 2) (h2 : bs.length ≤ 2) (hf : ∀ b ∈ bs, b.length ≤ 2 ∧ (∀ s ∈ b, s.Fine ∧ s.amount ≤ AM m ∧ s.height ≤ m)) : Fits bs ∧ amtS bs ≤ 4 * AM m ∧ hgtS bs ≤ m := by
  obtain ⟨f, _, h4⟩ := fits_of (by omega) h2 fun b hb => ⟨Nat.le_trans (hf b hb).1 (by decide), (hf b hb).2⟩
  refine ⟨f, ?_, h4⟩
  have hl : bs.flatten.length ≤ 4 := by
    have : ∀ bs : List (List SR), (∀ b ∈ bs, b.length ≤ 2) → bs.flatten.length ≤ 2 * bs.length := by
      intro bs
      induction bs with
      | nil => exact fun _ => Nat.le_refl _
      | cons b bs ih =>
        intro h
        have h1 := ih fun x hx => h x (List.mem_cons_of_mem _ hx)
        have h2 := h b (List.mem_cons_self ..)
        rw [List.flatten_cons, List.length_append, List.length_cons]
        omega
    have := this bs fun b hb => (hf b hb).1
    omega
  refine Nat.le_trans (sum_le_all _ (AM m) fun s hs => ?_) (Nat.mul_le_mul_right _ hl)
  obtain ⟨b, hb, hs2⟩ := List.mem_flatten.mp hs
  exact ((hf b hb).2 s hs2).2.1
/-- a drawn statement -/
structure StepD (H0 G : Hp) (m : Nat) (s : SR) (v : V) : Prop where
  ts : TsN m (NL H0 G) s v
  amount : s.amount ≤ AM m
  height : s.height ≤ m
theorem mk_step {H0 G : Hp} {r : Addr} {h : Hd} {bs : List (List SR)} {us : List V} {m : Nat} (nr : G r = none) (ok : h.Ok) (ft : Fits bs) (ha : amtS bs ≤ 4 * AM m) (hh : hgtS bs ≤ m) (ar : ArgsOf (LsOf (TsN m (NL H0 G)) (NL H0 G)) (NL H0 G) h bs us) :
    StepD H0 (upd G r (.tup (.str h.kind.word :: us))) (m + 1) (mkS h bs) (.ref r) := by
  have sm : Same G (upd G r (.tup (.str h.kind.word :: us))) := same_new nr
  have s1 : ∀ a xs, NL H0 G a = some (.tup xs) → NL H0 (upd G r (.tup (.str h.kind.word :: us))) a = some (.tup xs) := fun a xs e => NL_tup.mpr (sm _ _ (NL_tup.mp e))
  have s2 : ∀ a xs, NL H0 G a = some (.lst xs) → NL H0 (upd G r (.tup (.str h.kind.word :: us))) a = some (.lst xs) := fun a xs e => NL_lst.mpr ⟨sm _ _ (NL_lst.mp e).1, (NL_lst.mp e).2⟩
  exact ⟨⟨r, h, bs, us, rfl, NL_tup.mpr upd_same, rfl, ok, ft, ar.imp s1 fun b v hb => hb.imp s2 fun s v hs => hs.imp s1 s2⟩, by show 1 + _ ≤ 1 + 4 * AM m; omega, by show 1 + _ ≤ m + 1; omega⟩
theorem tp_nl {p : Addr} {H0 G : Hp} {t : Tr} {v : V} (h : Tp (Off p G) t v) : Tp (NL H0 G) t v := h.imp fun a xs e => NL_tup.mpr (off_get e).2
theorem Dn.lim {t : Tr} {ys : List Str} (d : Dn t 3 8 ys) : Lim t := ⟨d.ok, by have := d.parts; omega, by have := d.depth; omega⟩
section
variable {P : Program} {w : World} {K : PySem.W.Frag} {mg : Str → Option Value} {base : Heap}
theorem rd_pick {σ : L2.St} {H : Hp} {Q : VK} {i j : Nat} {p N : Addr} {ys : List Str} (hi : σ[i]? = some (some (.ref p))) (hj : σ[j]? = some (some (.ref N))) (d : Drw H p N ys) (pos : 0 < ys.length) (q : ∀ z H2, z ∈ ys → PurseAt H2 p → Kp p H H2 → Q (.str z) H2) :
    tOp (rIxL K) (tVar j) (tCall spDraw [] E0 (tCons (tVar i) (tCons (tCB (fun xs H Q => ∃ x n, xs = [x] ∧ LenV K x H n ∧ Q (.int n) H) (tCons (tVar j) tNil)) tNil))) σ H Q := by
  refine ⟨_, hj, rd_draw (m := (ys.length : Int)) hi d.purse (by omega) (by have := d.few; omega) (fun R hR => ⟨_, hj, _, ys.length, rfl, .inl ⟨_, SqL.of d.list, by rw [List.length_map]⟩, hR⟩) fun m H2 h2 p2 k2 => ?_⟩
  have d3 := d.go p2 k2
  obtain ⟨z, hz, e2⟩ := pick_at (xs := ys) (d := m) (by omega)
  exact ⟨N, _, m, _, rfl, rfl, SqL.of d3.list, atI_nat (by rw [List.getElem?_map, e2]; rfl), q z H2 hz p2 k2⟩
def n_step : List Str := ["_law_purse_here", "_law_deep", "_law_names_here", "_law_outs", "_law_way", "_law_one", "_law_two", "_law_tree_here", "_law_target"]
theorem sc_step : FnScope n_step ["_law_purse_here", "_law_deep", "_law_names_here", "_law_outs"] (defScope s_step) := ⟨rfl, rfl, rfl, by decide +kernel, rfl, by decide +kernel, by decide +kernel⟩
def n_steps : List Str := ["_law_purse_here", "_law_deep", "_law_names_here", "_law_outs", "_law_many", "_law_turn"]
theorem sc_steps : FnScope n_steps ["_law_purse_here", "_law_deep", "_law_names_here", "_law_outs"] (defScope s_steps) := ⟨rfl, rfl, rfl, by decide +kernel, rfl, by decide +kernel, by decide +kernel⟩
def spStep (n : Nat) : Sp := fun vs H Q _ => ∃ (p N O : Addr) (ys zs : List Str) (deep : Nat), vs = [.ref p, .int (deep : Int), .ref N, .ref O] ∧ Drw H p N ys ∧ Drw H p O zs ∧ 1 ≤ deep ∧ deep ≤ n ∧ deep ≤ 3 ∧
  ∀ (s : SR) (v : V) (H' : Hp), StepD H H' deep s v → PurseAt H' p → Kp p H H' → Q v H'
def spSteps (n : Nat) : Sp := fun vs H Q _ => ∃ (p N O : Addr) (ys zs : List Str) (deep : Nat), vs = [.ref p, .int (deep : Int), .ref N, .ref O] ∧ Drw H p N ys ∧ Drw H p O zs ∧ 1 ≤ deep ∧ deep ≤ n ∧ deep ≤ 3 ∧
  ∀ (b : List SR) (l : Addr) (H' : Hp), BodyD H H' deep b (.ref l) → PurseAt H' p → Kp p H H' → Q (.ref l) H'
theorem ok_steps (T : Txt mg) (n k : Nat) (hk : 1 ≤ k) (D : Dfn K mg "_law_steps" s_steps ["_law_purse_here", "_law_deep", "_law_names_here", "_law_outs"]) (c_draw : CalG P w K mg base 1 "_law_draw" ["_law_purse_here", "_law_many"] spDraw) (c_step : CalG P w K mg base k "_law_step" ["_law_purse_here", "_law_deep", "_law_names_here", "_law_outs"] (spStep n)) :
    CalG P w K mg base (k + 1) "_law_steps" ["_law_purse_here", "_law_deep", "_law_names_here", "_law_outs"] (spSteps n) := by
  refine D.ok sc_steps (fun vs H Q E h => ?_) (fun f cdv A fr s H vs Q E hr hgd h => ?_)
  · obtain ⟨p, N, O, ys, zs, deep, rfl, _⟩ := h
    rfl
  · obtain ⟨p, N, O, ys, zs, deep, rfl, dN, dO, h1, h2, h3, fin⟩ := h
    refine ⟨_, pss_cons (ps_set (i := 4) sc_steps.nd rfl (.inl rfl) (pe_cG c_draw hr (by omega) hgd rfl (pa_cons (pv 0) (pa_cons pe_int pa_nil))))
      (pss_one (ps_ret (pe_lc (own := [("_law_turn", 5)]) (g := gName 5) (tt := tYes) rfl sc_steps.nd (pi_range1 rfl T.b_range (pa_cons (pv 4) pa_nil)) (blkOk_by (N := n_steps) (sc := defScope s_steps) (by decide +kernel)) (fun _ _ _ _ _ => pg_name (i := 5) sc_steps.nd rfl (Or.inl rfl)) (fun _ _ _ _ _ => pts_nil) (fun _ _ _ _ _ => (pe_cG c_step hr (Nat.le_refl _) hgd rfl (pa_cons (pv 0) (pa_cons (pv 1) (pa_cons (pv 2) (pa_cons (pv 3) pa_nil))))))))), ?_⟩
    refine dr rfl dN.purse (by decide) (by decide) fun m H1 hm p1 k1 => ?_
    refine ⟨_, rfl, (m : Int), rfl, by omega, by omega, fun D1 nD => ?_⟩
    have nDp := purse_ne p1 nD
    rw [Int.toNat_natCast]
    have nD0 : H D1 = none := by
      cases e : H D1 with
      | none => rfl
      | some o =>
        have := k1 _ _ e nDp
        rw [nD] at this
        cases this
    refine lc_range (lo := 0) (n := m) (fun i G => PurseAt G p ∧ Kp p H G ∧ ∃ (b : List SR) (us : List V), G D1 = some (.lst us) ∧ b.length = i ∧ Paired (TsN deep (NL (upd H D1 (.lst [])) G)) b us ∧ ∀ s ∈ b, s.amount ≤ AM deep ∧ s.height ≤ deep)
      ⟨p1.new nD, k1.trans (kp_new nD), [], [], upd_same, rfl, .nil, fun u h => by cases h⟩ (fun i G hi hG => ?_) (fun G hG => ?_)
    · obtain ⟨pG, kG, b, us, hD, hl, pr, al⟩ := hG
      refine ⟨rfl, _, rfl, _, rfl, _, rfl, _, rfl, p, N, O, ys, zs, deep, rfl, dN.go pG kG, dO.go pG kG, h1, h2, h3, fun s v H' sd pH kH => ?_⟩
      have hD2 := kH D1 _ hD nDp
      have pl := pair_len pr
      refine ⟨us, hD2, small1000 (by omega), ?_, ?_, b ++ [s], us ++ [v], upd_same, by rw [List.length_append, hl]; rfl, ?_, fun u hu => ?_⟩
      · obtain ⟨x, y, z, hh⟩ := pH
        exact ⟨x, y, z, by rw [upd_ne (fun q => nDp q.symm)]; exact hh⟩
      · intro c o hc nc
        have ncD : c ≠ D1 := fun q => by rw [q, nD0] at hc; cases hc
        rw [upd_ne ncD]
        exact kH c o (kG c o hc nc) nc
      · have ht : ∀ (G1 : Hp), (∀ a xs, G1 a = some (.tup xs) → H' a = some (.tup xs)) → ∀ a xs, G1 a = some (.tup xs) → upd H' D1 (.lst (us ++ [v])) a = some (.tup xs) := fun G1 h a xs e => by
          have h2 := h a xs e
          rw [upd_ne (fun q => by rw [q, hD2] at h2; cases h2)]
          exact h2
        have notp : ∀ a xs, G a = some (.tup xs) → a ≠ p := fun a xs e q => by
          obtain ⟨x, y, z, hh⟩ := pG
          rw [q, hh] at e
          cases e
        refine pair_end (pair_mem pr fun x y h => h.nl (fun a ha => ha) (ht G fun a xs e => kH _ _ e (notp a xs e)) fun a xs ha e => ?_) (sd.ts.nl (fun a ha => ?_) (ht H' fun _ _ e => e) fun a xs ha e => ?_)
        · have naD : a ≠ D1 := fun q => by rw [q, upd_same] at ha; cases ha
          have nap : a ≠ p := fun q => by
            obtain ⟨x, y, z, hh⟩ := dN.purse
            rw [q, upd_ne (fun e => nDp e.symm), hh] at ha
            cases ha
          rw [upd_ne naD]
          exact kH _ _ e nap
        · have naD : a ≠ D1 := fun q => by rw [q, hD] at ha; cases ha
          rw [upd_ne naD]
          cases e : H a with
          | none => rfl
          | some o =>
            have nap : a ≠ p := fun q => by
              obtain ⟨x, y, z, hh⟩ := pG
              rw [q, hh] at ha
              cases ha
            have := kG _ _ e nap
            rw [ha] at this
            cases this
        · have naD : a ≠ D1 := fun q => by rw [q, hD] at ha; cases ha
          rw [upd_ne naD]
          exact e
      · rcases List.mem_append.mp hu with h | h
        · exact al u h
        · rw [List.mem_singleton.mp h]
          exact ⟨sd.amount, sd.height⟩
    · obtain ⟨pG, kG, b, us, hD, hl, pr, al⟩ := hG
      refine fin b D1 G ⟨⟨D1, us, rfl, NL_lst.mpr ⟨hD, nD0⟩, pair_mem pr fun x y h => h.nl (fun a ha => ?_) (fun _ _ e => e) fun _ _ _ e => e⟩, by omega, al⟩ pG kG
      have naD : a ≠ D1 := fun q => by rw [q, upd_same] at ha; cases ha
      rw [upd_ne naD] at ha
      exact ha
end
end Jo

set_option Elab.async false
set_option linter.all false
set_option maxRecDepth 100000
set_option maxHeartbeats 4000000
namespace Jo
open PySem PySem.Spec PyProof.Rows L2 ClX
theorem StepD.mk_of {H0 H1 G : Hp} {p : Addr} {m : Nat} {s : SR} {v : V} (h : StepD H1 G m s v) (hp1 : PurseAt H1 p) (k01 : Kp p H0 H1) : StepD H0 G m s v := by
  refine ⟨h.ts.nl (fun a ha => ?_) (fun _ _ e => e) fun _ _ _ e => e, h.amount, h.height⟩
  cases e : H0 a with
  | none => rfl
  | some o =>
    have nap : a ≠ p := fun q => by
      obtain ⟨x, y, z, hh⟩ := hp1
      rw [q, hh] at ha
      cases ha
    have := k01 a o e nap
    rw [ha] at this
    cases this
theorem rd_and {t u : TT} {σ : L2.St} {H : Hp} {R : Bool → Hp → Prop} (a b : Bool) (ht : ∀ R' : Bool → Hp → Prop, (∀ G, Same H G → R' a G) → t σ H R') (hu : ∀ G, Same H G → ∀ R' : Bool → Hp → Prop, (∀ G2, Same G G2 → R' b G2) → u σ G R') (h : ∀ G, Same H G → R (a && b) G) : tAnd t u σ H R := by
  refine ht _ fun G sG => ?_
  cases a with
  | false => exact h G sG
  | true => exact hu G sG _ fun G2 s2 => h G2 (sG.trans s2)
theorem rd_ne {K : PySem.W.Frag} {σ : L2.St} {H : Hp} {R : Bool → Hp → Prop} {j : Nat} {N : Addr} {ys : List Str} (hj : σ[j]? = some (some (.ref N))) (hl : H N = some (.lst (ys.map V.str))) (h : ∀ G, Same H G → R (!ys.isEmpty) G) : tTest (tOp (rNeE K) (tVar j) (tLst tNil)) σ H R := by
  refine ⟨_, hj, (show 0 ≤ sizeLine by decide), fun le ne => ⟨N, le, ys.map V.str, rfl, rfl, SqL.of (same_new ne _ _ hl), SqL.of upd_same, _, rfl, ?_⟩⟩
  have e : (ys.map V.str).isEmpty = ys.isEmpty := by cases ys <;> rfl
  rw [e]
  exact h _ (same_new ne)
section
variable {P : Program} {w : World} {K : PySem.W.Frag} {mg : Str → Option Value} {base : Heap}
theorem ok_step (T : Txt mg) (D : Dfn K mg "_law_step" s_step ["_law_purse_here", "_law_deep", "_law_names_here", "_law_outs"]) (DS : Dfn K mg "_law_steps" s_steps ["_law_purse_here", "_law_deep", "_law_names_here", "_law_outs"]) (c_draw : CalG P w K mg base 1 "_law_draw" ["_law_purse_here", "_law_many"] spDraw)
    (c_tree : CalG P w K mg base 6 "_law_tree" ["_law_purse_here", "_law_deep", "_law_room", "_law_names_here"] (spTree 3)) : ∀ n, CalG P w K mg base (2 * n + 7) "_law_step" ["_law_purse_here", "_law_deep", "_law_names_here", "_law_outs"] (spStep n) := by
  intro n
  induction n with
  | zero =>
    refine D.ok sc_step (fun vs H Q E h => ?_) (fun f cdv A fr s H vs Q E hr hgd h => ?_)
    · obtain ⟨p, N, O, ys, zs, deep, rfl, _⟩ := h
      rfl
    · obtain ⟨p, N, O, ys, zs, deep, _, _, _, h1, h2, _⟩ := h
      omega
  | succ n c_step =>
    have c_steps := ok_steps T n _ (by omega) DS c_draw c_step
    refine D.ok sc_step (fun vs H Q E h => ?_) (fun f cdv A fr s H vs Q E hr hgd h => ?_)
    · obtain ⟨p, N, O, ys, zs, deep, rfl, _⟩ := h
      rfl
    · obtain ⟨p, N, O, ys, zs, deep, rfl, dN, dO, h1, h2, h3, fin⟩ := h
      obtain ⟨m, rfl⟩ : ∃ m, deep = m + 1 := ⟨deep - 1, by omega⟩
      refine ⟨_, pss_cons (ps_set (i := 4) sc_step.nd rfl (.inl rfl) (pe_cG c_draw hr (by omega) hgd rfl (pa_cons (pv 0) (pa_cons pe_int pa_nil))))
      (pss_cons (ps_if (PW.pt (pw_and (pt_cmpR op_gt (pv 4) pe_int (nomark _)) (pw_and1 (pt_cmpR op_gt (pv 1) pe_int (nomark _)))))
        (pss_cons (ps_set (i := 5) sc_step.nd rfl (.inl rfl) (pe_cG c_steps hr (Nat.le_refl _) hgd rfl (pa_cons (pv 0) (pa_cons (pe_op op_sub (pv 1) pe_int) (pa_cons (pv 2) (pa_cons (pv 3) pa_nil))))))
      (pss_cons (ps_set (i := 6) sc_step.nd rfl (.inl rfl) (pe_ifExp (pt_cmpR op_eq (pe_cG c_draw hr (by omega) hgd rfl (pa_cons (pv 0) (pa_cons pe_int pa_nil))) pe_int (nomark _)) (pe_cG c_steps hr (Nat.le_refl _) hgd rfl (pa_cons (pv 0) (pa_cons (pe_op op_sub (pv 1) pe_int) (pa_cons (pv 2) (pa_cons (pv 3) pa_nil))))) (pe_lst pa_nil)))
      (pss_cons (ps_if (pt_cmpR op_eq (pv 4) pe_int (nomark _))
        (pss_one (ps_ret (pe_tup (pa_cons pe_str (pa_cons (pv 5) (pa_cons (pv 6) pa_nil))))))
        (pss_nil))
      (pss_cons (ps_set (i := 7) sc_step.nd rfl (.inl rfl) (pe_cG c_tree hr (by omega) hgd rfl (pa_cons (pv 0) (pa_cons pe_int (pa_cons pe_int (pa_cons (pv 2) pa_nil))))))
      (pss_one (ps_ret (pe_ifExp (pt_cmpR op_eq (pv 4) pe_int (nomark _)) (pe_tup (pa_cons pe_str (pa_cons (pv 7) (pa_cons (pv 5) pa_nil)))) (pe_tup (pa_cons pe_str (pa_cons (pv 7) (pa_cons (pv 5) (pa_cons (pv 6) pa_nil))))))))))))
        (pss_nil))
      (pss_cons (ps_if (pt_cmpR op_eq (pv 4) pe_int (nomark _))
        (pss_one (ps_ret (pe_tup (pa_cons pe_str pa_nil))))
        (pss_nil))
      (pss_cons (ps_set (i := 7) sc_step.nd rfl (.inl rfl) (pe_cG c_tree hr (by omega) hgd rfl (pa_cons (pv 0) (pa_cons pe_int (pa_cons pe_int (pa_cons (pv 2) pa_nil))))))
      (pss_cons (ps_if (PW.pt (pw_and (pt_cmpR op_lt (pv 4) pe_int (nomark _)) (pw_and1 (pt_cmpR (op_neE hr.units) (pv 2) (pe_lst pa_nil) (nomark _)))))
        (pss_one (ps_ret (pe_tup (pa_cons pe_str (pa_cons (pe_ix ix_list (pv 2) (pe_cG c_draw hr (by omega) hgd rfl (pa_cons (pv 0) (pa_cons (pe_callB call_len rfl T.b_len (by decide +kernel) (pa_cons (pv 2) pa_nil)) pa_nil))) (fun _ _ => rfl)) (pa_cons (pv 7) pa_nil))))))
        (pss_nil))
      (pss_cons (ps_if (PW.pt (pw_and (pt_cmpR op_in_seq (pv 4) (pe_lst (pa_cons pe_int (pa_cons pe_int (pa_cons pe_int (pa_cons pe_int pa_nil))))) rfl) (pw_and1 (pt_cmpR (op_neE hr.units) (pv 3) (pe_lst pa_nil) (nomark _)))))
        (pss_cons (ps_set (i := 8) sc_step.nd rfl (.inl rfl) (pe_ifExp (PW.pt (pw_and (pt_cmpR (op_neE hr.units) (pv 2) (pe_lst pa_nil) (nomark _)) (pw_and1 (pt_cmpR op_eq (pe_cG c_draw hr (by omega) hgd rfl (pa_cons (pv 0) (pa_cons pe_int pa_nil))) pe_int (nomark _))))) (pe_ix ix_list (pv 2) (pe_cG c_draw hr (by omega) hgd rfl (pa_cons (pv 0) (pa_cons (pe_callB call_len rfl T.b_len (by decide +kernel) (pa_cons (pv 2) pa_nil)) pa_nil))) (fun _ _ => rfl)) pe_str)) (pss_one (ps_ret (pe_tup (pa_cons pe_str (pa_cons (pe_ix ix_list (pv 3) (pe_cG c_draw hr (by omega) hgd rfl (pa_cons (pv 0) (pa_cons (pe_callB call_len rfl T.b_len (by decide +kernel) (pa_cons (pv 3) pa_nil)) pa_nil))) (fun _ _ => rfl)) (pa_cons (pv 7) (pa_cons (pv 8) pa_nil))))))))
        (pss_nil))
      (pss_one (ps_ret (pe_tup (pa_cons pe_str (pa_cons (pv 7) pa_nil)))))))))), ?_⟩
      refine dr rfl dN.purse (by decide) (by decide) fun w0 H1 hw p1 k1 => ?_
      have dN1 := dN.go p1 k1
      have dO1 := dO.go p1 k1
      have f0 := (fits_two (m := m) (bs := []) (by omega) (by decide) fun b hb => by cases hb)
      -- a statement is made
      have done : ∀ (G : Hp) (r : Addr) (h : Hd) (bs : List (List SR)) (us : List V), PurseAt G p → Kp p H G → G r = none → h.Ok → Fits bs ∧ amtS bs ≤ 4 * AM m ∧ hgtS bs ≤ m → ArgsOf (LsOf (TsN m (NL H G)) (NL H G)) (NL H G) h bs us → Q (.ref r) (upd G r (.tup (.str h.kind.word :: us))) := fun G r h bs us pG kG nr ok ft ar =>
        fin _ _ _ (mk_step nr ok ft.1 ft.2.1 ft.2.2 ar) (pG.new nr) (kG.trans (kp_new nr))
      -- an expression is drawn
      have tree : ∀ (σ : L2.St) (G : Hp) (R : VK), σ[0]? = some (some (.ref p)) → σ[2]? = some (some (.ref N)) → PurseAt G p → Kp p H G → (∀ (t : Tr) (v : V) (G2 : Hp), Tp (Off p G2) t v → Lim t → PurseAt G2 p → Kp p G G2 → R v G2) → tCall (spTree 3) [] E0 (tCons (tVar 0) (tCons (tC (.int 3)) (tCons (tC (.int 8)) (tCons (tVar 2) tNil)))) σ G R := fun σ G R e0 e2 pG kG hR =>
        ⟨_, e0, _, e2, p, N, ys, 3, 8, rfl, dN.go pG kG, by decide, by decide, by decide, by decide, fun t v G2 tp dn p2 k2 => hR t v G2 tp (Dn.lim dn) p2 k2⟩
      have sub1 : ((m + 1 : Nat) : Int) - 1 = (m : Int) := by omega
      -- a second body
      have two : 1 ≤ m → ∀ (σ : L2.St) (G2 : Hp) (R : VK), σ[0]? = some (some (.ref p)) → σ[1]? = some (some (.int ((m + 1 : Nat) : Int))) → σ[2]? = some (some (.ref N)) → σ[3]? = some (some (.ref O)) → PurseAt G2 p → Kp p H G2 → (∀ b2 l2 G4, BodyD H G4 m b2 (.ref l2) → PurseAt G4 p → Kp p G2 G4 → R (.ref l2) G4) →
          tIf (tTest (tOp rEq (tCall spDraw [] E0 (tCons (tVar 0) (tCons (tC (.int 2)) tNil))) (tC (.int 0)))) (tCall (spSteps n) [] E0 (tCons (tVar 0) (tCons (tOp (rI0 fun i j => V.int (i - j)) (tVar 1) (tC (.int 1))) (tCons (tVar 2) (tCons (tVar 3) tNil))))) (tLst tNil) σ G2 R := fun hm σ G2 R e0 e1 e2 e3 p2 k2 hR => by
        refine dr e0 p2 (by decide) (by decide) fun c G3 hc p3 k3 => ⟨rfl, _, rfl, ite2 (fun e => ?_) (fun e => ?_)⟩
        · refine ⟨_, e0, _, e1, _, _, rfl, rfl, _, e2, _, e3, p, N, O, ys, zs, m, by rw [← sub1]; rfl, dN.go p3 (k2.trans k3), dO.go p3 (k2.trans k3), hm, by omega, by omega, fun b l G4 bd p4 k4 => hR b l G4 (bd.go p3 p4 (k2.trans k3) (.refl _ _)) p4 (k3.trans k4)⟩
        · refine ⟨(show 0 ≤ sizeLine by decide), fun l nl => hR [] l _ ⟨⟨l, [], rfl, NL_lst.mpr ⟨upd_same, ?_⟩, .nil⟩, by decide, fun s h => by cases h⟩ (p3.new nl) (k3.trans (kp_new nl))⟩
          have nlp := purse_ne p3 nl
          cases e : H l with
          | none => rfl
          | some o =>
            have := k3 _ _ (k2 _ _ e nlp) nlp
            rw [nl] at this
            cases this
      show tAnd (tTest (tOp (rI0 fun i j => V.bl (decide (j < i))) (tVar 4) (tC (V.int 6)))) (tTest (tOp (rI0 fun i j => V.bl (decide (j < i))) (tVar 1) (tC (V.int 1)))) [some (.ref p), some (.int ((m + 1 : Nat) : Int)), some (.ref N), some (.ref O), some (.int (w0 : Int)), none, none, none, none] H1 _
      refine rd_and (decide ((w0 : Int) > 6)) (decide (((m + 1 : Nat) : Int) > 1)) (fun R h => ⟨_, rfl, _, _, rfl, rfl, _, rfl, h _ (.refl _)⟩) (fun G sG R h => ⟨_, rfl, _, _, rfl, rfl, _, rfl, h _ (.refl _)⟩) fun G sG => ?_
      have pG := p1.same sG
      have kG := k1.trans (kp_of (p := p) sG)
      by_cases hd : (w0 : Int) > 6 ∧ ((m + 1 : Nat) : Int) > 1
      · have hm1 : 1 ≤ m := by omega
        rw [decide_eq_true hd.1, decide_eq_true hd.2]
        refine iteT ?_
        refine ⟨_, rfl, _, rfl, _, _, rfl, rfl, _, rfl, _, rfl, p, N, O, ys, zs, m, by rw [← sub1]; rfl, dN.go pG kG, dO.go pG kG, hm1, by omega, by omega, fun b1 l1 G2 bd1 p2 k2 => ?_⟩
        have k02 := kG.trans k2
        have bd1 := bd1.go pG p2 kG (.refl _ _)
        refine two hm1 _ _ _ rfl rfl rfl rfl p2 k02 fun b2 l2 G3 bd2 p3 k3 => ?_
        have k03 := k02.trans k3
        have bd1 := bd1.go dN.purse p2 (.refl _ _) k3
        have fine1 := bd1.fine
        have fine2 := bd2.fine
        have ft2 := fits_two (m := m) (bs := [b1, b2]) (by omega) (show 2 ≤ 2 by decide) fun b hb => by
          rcases List.mem_cons.mp hb with e | hb
          · subst e; exact ⟨bd1.two, fun s hs => ⟨fine1 s hs, bd1.small s hs⟩⟩
          · rw [List.mem_singleton.mp hb]; exact ⟨bd2.two, fun s hs => ⟨fine2 s hs, bd2.small s hs⟩⟩
        have ft1 := fits_two (m := m) (bs := [b1]) (by omega) (show 1 ≤ 2 by decide) fun b hb => by
          rw [List.mem_singleton.mp hb]; exact ⟨bd1.two, fun s hs => ⟨fine1 s hs, bd1.small s hs⟩⟩
        refine ⟨_, rfl, rfl, _, rfl, ite2 (fun e => ?_) (fun e => ?_)⟩
        · exact ⟨_, rfl, _, rfl, (show 3 ≤ sizeLine by decide), fun r nr => done G3 r .att [b1, b2] _ p3 k03 nr trivial ft2 ⟨b1, b2, _, _, rfl, rfl, bd1.ls, bd2.ls⟩⟩
        · refine tree _ _ _ rfl rfl p3 k03 fun t v G4 tp lim p4 k4 => ?_
          have k04 := k03.trans k4
          have bd1 := bd1.go dN.purse p3 (.refl _ _) k4
          have bd2 := bd2.go dN.purse p3 (.refl _ _) k4
          refine ⟨_, rfl, rfl, _, rfl, ite2 (fun e => ?_) (fun e => ?_)⟩
          · exact ⟨_, rfl, _, rfl, (show 3 ≤ sizeLine by decide), fun r nr => done G4 r (.whl t) [b1] _ p4 k04 nr lim ft1 ⟨v, b1, _, rfl, rfl, tp_nl tp, bd1.ls⟩⟩
          · exact ⟨_, rfl, _, rfl, _, rfl, (show 4 ≤ sizeLine by decide), fun r nr => done G4 r (.ifs t) [b1, b2] _ p4 k04 nr lim ft2 ⟨v, b1, b2, _, _, rfl, rfl, tp_nl tp, bd1.ls, bd2.ls⟩⟩
      · have ef : (decide ((w0 : Int) > 6) && decide (((m + 1 : Nat) : Int) > 1)) = false := by
          rw [Bool.and_eq_false_iff]
          by_cases a : (w0 : Int) > 6
          · exact .inr (decide_eq_false fun b => hd ⟨a, b⟩)
          · exact .inl (decide_eq_false a)
        rw [ef]
        refine iteF ⟨_, rfl, rfl, _, rfl, ite2 (fun e => ?_) (fun e => ?_)⟩
        · exact ⟨(show 1 ≤ sizeLine by decide), fun r nr => done G r .fail [] _ pG kG nr trivial f0 ⟨rfl, rfl⟩⟩
        · refine tree _ _ _ rfl rfl pG kG fun t v G2 tp lim p2 k2 => ?_
          have k02 := kG.trans k2
          show tAnd (tTest (tOp (rI0 fun i j => V.bl (decide (i < j))) (tVar 4) (tC (V.int 2)))) (tTest (tOp (rNeE K) (tVar 2) (tLst tNil))) [some (.ref p), some (.int ((m + 1 : Nat) : Int)), some (.ref N), some (.ref O), some (.int (w0 : Int)), none, none, some v, none] G2 _
          refine rd_and (decide ((w0 : Int) < 2)) (!ys.isEmpty) (fun R h => ⟨_, rfl, _, _, rfl, rfl, _, rfl, h _ (.refl _)⟩) (fun G3 s3 R h => rd_ne rfl (s3 _ _ (dN.go p2 k02).list) h) fun G3 s3 => ?_
          have p3 := p2.same s3
          have k03 := k02.trans (kp_of (p := p) s3)
          have tp3 := tp.same (off_kp (kp_of (p := p) s3))
          by_cases hn : (w0 : Int) < 2 ∧ ys ≠ []
          · have e2 : (!ys.isEmpty) = true := by
              cases ys with
              | nil => exact absurd rfl hn.2
              | cons y r => rfl
            rw [decide_eq_true hn.1, e2]
            refine iteT (rd_pick rfl rfl (dN.go p3 k03) (by cases ys with | nil => exact absurd rfl hn.2 | cons y r => exact Nat.succ_pos _) fun z G4 hz p4 k4 => ?_)
            exact ⟨_, rfl, (show 3 ≤ sizeLine by decide), fun r nr => done G4 r (.assign z t) [] _ p4 (k03.trans k4) nr ⟨dN.nm z hz, lim⟩ f0 ⟨rfl, v, rfl, tp_nl (tp3.same (off_kp k4))⟩⟩
          · have ef : (decide ((w0 : Int) < 2) && !ys.isEmpty) = false := by
              rw [Bool.and_eq_false_iff]
              by_cases a : (w0 : Int) < 2
              · refine .inr ?_
                cases ys with
                | nil => rfl
                | cons y r => exact absurd ⟨a, fun e => by cases e⟩ hn
              · exact .inl (decide_eq_false a)
            rw [ef]
            refine iteF ?_
            show tAnd (tTest (tOp (rIn K false) (tVar 4) (tLst (tCons (tC (.int 2)) (tCons (tC (.int 3)) (tCons (tC (.int 7)) (tCons (tC (.int 8)) tNil))))))) (tTest (tOp (rNeE K) (tVar 3) (tLst tNil))) [some (.ref p), some (.int ((m + 1 : Nat) : Int)), some (.ref N), some (.ref O), some (.int (w0 : Int)), none, none, some v, none] G3 _
            refine rd_and (inV (.int (w0 : Int)) [.int 2, .int 3, .int 7, .int 8]) (!zs.isEmpty) (fun R h => ⟨_, rfl, (show 4 ≤ sizeLine by decide), fun l nl => ⟨l, _, rfl, .inl (SqL.of upd_same), rfl, rfl, _, rfl, h _ (same_new nl)⟩⟩) (fun G4 s4 R h => rd_ne rfl (s4 _ _ (dO.go p3 k03).list) h) fun G4 s4 => ?_
            have p4 := p3.same s4
            have k04 := k03.trans (kp_of (p := p) s4)
            have tp4 := tp3.same (off_kp (kp_of (p := p) s4))
            cases eb : (inV (.int (w0 : Int)) [.int 2, .int 3, .int 7, .int 8] && !zs.isEmpty) with
            | false =>
              exact iteF ⟨_, rfl, (show 2 ≤ sizeLine by decide), fun r nr => done G4 r (.ret t) [] _ p4 k04 nr lim f0 ⟨rfl, v, rfl, tp_nl tp4⟩⟩
            | true =>
              have zpos : 0 < zs.length := by
                cases zs with
                | nil => simp at eb
                | cons z r => exact Nat.succ_pos _
              have tgt : ∀ (σ : L2.St) (R : VK), σ[0]? = some (some (.ref p)) → σ[2]? = some (some (.ref N)) → (∀ (o : Option Str) (G5 : Hp), (∀ y, o = some y → nmS y = true) → PurseAt G5 p → Kp p G4 G5 → R (.str (o.getD "")) G5) →
                  tIf (tAnd (tTest (tOp (rNeE K) (tVar 2) (tLst tNil))) (tTest (tOp rEq (tCall spDraw [] E0 (tCons (tVar 0) (tCons (tC (.int 2)) tNil))) (tC (.int 0))))) (tOp (rIxL K) (tVar 2) (tCall spDraw [] E0 (tCons (tVar 0) (tCons (tCB (fun xs H Q => ∃ x n, xs = [x] ∧ LenV K x H n ∧ Q (.int n) H) (tCons (tVar 2) tNil)) tNil)))) (tC (.str "")) σ G4 R := fun σ R e0 e2 hR => by
                refine rd_ne e2 (dN.go p4 k04).list fun G5 s5 => ?_
                have p5 := p4.same s5
                have k5 := kp_of (p := p) s5
                cases ys with
                | nil => exact iteF (iteF (hR none G5 (fun y e => by cases e) p5 k5))
                | cons y0 yr =>
                  refine iteT (dr e0 p5 (by decide) (by decide) fun c G6 hc p6 k6 => ⟨rfl, _, rfl, ite2 (fun e => ?_) (fun e => ?_)⟩)
                  · exact rd_pick e0 e2 (dN.go p6 ((k04.trans k5).trans k6)) (Nat.succ_pos _) fun z G7 hz p7 k7 => hR (some z) G7 (fun y e => by cases e; exact dN.nm z hz) p7 ((k5.trans k6).trans k7)
                  · exact hR none G6 (fun y e => by cases e) p6 (k5.trans k6)
              refine iteT ?_
              refine tgt _ _ rfl rfl fun o G5 no p5 k5 => ?_
              have k05 := k04.trans k5
              have tp5 := tp4.same (off_kp k5)
              refine rd_pick rfl rfl (dO.go p5 k05) zpos fun z G6 hz p6 k6 => ?_
              exact ⟨_, rfl, _, rfl, (show 4 ≤ sizeLine by decide), fun r nr => done G6 r (.call z t o) [] _ p6 (k05.trans k6) nr ⟨dO.nm z hz, lim, no⟩ f0 ⟨rfl, v, rfl, tp_nl (tp5.same (off_kp k6))⟩⟩
end
end Jo

set_option Elab.async false
set_option linter.all false
set_option maxRecDepth 100000
set_option maxHeartbeats 4000000
namespace Jo
open PySem PySem.Spec PyProof.Rows L2 ClX
theorem turns6 {L : Int} (h0 : 0 ≤ L) : -(2 ^ 62) ≤ (if (if (6 : Int) < L then (6 : Int) else L) > 2 then (if (6 : Int) < L then (6 : Int) else L) else 2) ∧
    (if (if (6 : Int) < L then (6 : Int) else L) > 2 then (if (6 : Int) < L then (6 : Int) else L) else 2) < 2 ^ 62 ∧
    (if (if (6 : Int) < L then (6 : Int) else L) > 2 then (if (6 : Int) < L then (6 : Int) else L) else 2) ≤ 6 := by
  by_cases a : (6 : Int) < L
  · rw [if_pos a, if_pos (by decide)]
    decide
  · rw [if_neg a]
    by_cases b : L > 2
    · rw [if_pos b]
      omega
    · rw [if_neg b]
      decide
theorem TsN.le {H : Hp} {n m : Nat} {s : SR} {v : V} (h : TsN n H s v) (l : n ≤ m) : TsN m H s v := by
  induction l with
  | refl => exact h
  | step _ ih => exact ih.up
section
variable {P : Program} {w : World} {K : PySem.W.Frag} {mg : Str → Option Value} {base : Heap} {C : Kd → Addr} {CE CS : Addr} {CK : Sk → Addr}
def n_right : List Str := ["_law_purse_here", "_law_names_here", "_law_outs", "_law_some", "_law_mine", "_law_at", "_law_lots", "_law_inner_here", "_law_deep", "_law_each"]
theorem sc_right : FnScope n_right ["_law_purse_here"] (defScope s_right) := ⟨rfl, rfl, rfl, by decide +kernel, rfl, by decide +kernel, by decide +kernel⟩
def spRight : Sp := fun vs H Q _ => ∃ p : Addr, vs = [.ref p] ∧ PurseAt H p ∧ ∀ G, Kp p H G → Q (.bl true) G
theorem ok_right (T : Txt mg) (D : Dfn K mg "_law_right" s_right ["_law_purse_here"]) (c_draw : CalG P w K mg base 1 "_law_draw" ["_law_purse_here", "_law_many"] spDraw) (c_names : CalG P w K mg base 4 "_law_names" ["_law_purse_here", "_law_many", "_law_taken"] spNames)
    (c_step : CalG P w K mg base 13 "_law_step" ["_law_purse_here", "_law_deep", "_law_names_here", "_law_outs"] (spStep 3)) (c_st : CalG P w K mg base 21 "_law_statement" ["_law_each"] (spStm CK 3)) (c_named : CalG P w K mg base 21 "_law_named" ["_law_each"] (spStm CK 3)) (c_shown : CalG P w K mg base 14 "_law_shown" ["_law_each", "_law_mine"] (spShown CK 4))
    (c_around : CalG P w K mg base 15 "_law_around_right" ["_law_lots", "_law_inner_here"] (spAround K CK)) (c_eqr : CalG P w K mg base 22 "_law_equal_right" ["_law_some", "_law_mine"] (spEqR CK)) : CalG P w K mg base 23 "_law_right" ["_law_purse_here"] spRight := by
  refine D.ok sc_right (fun vs H Q E h => ?_) (fun f cdv A fr s H vs Q E hr hgd h => ?_)
  · obtain ⟨p, rfl, _⟩ := h
    rfl
  · obtain ⟨p, rfl, hp, fin⟩ := h
    refine ⟨_, pss_cons (ps_set (i := 1) sc_right.nd rfl (.inr rfl) (pe_cG c_names hr (by decide) hgd rfl (pa_cons (pv 0) (pa_cons (pe_cG c_draw hr (by decide) hgd rfl (pa_cons (pv 0) (pa_cons pe_int pa_nil))) (pa_cons (pe_lst pa_nil) pa_nil)))))
      (pss_cons (ps_set (i := 2) sc_right.nd rfl (.inr rfl) (pe_cG c_names hr (by decide) hgd rfl (pa_cons (pv 0) (pa_cons (pe_op op_add pe_int (pe_cG c_draw hr (by decide) hgd rfl (pa_cons (pv 0) (pa_cons pe_int pa_nil)))) (pa_cons (pe_lst pa_nil) pa_nil)))))
      (pss_cons (ps_setLc (i := 3) (own := [("_law_deep", 8)]) (g := gName 8) (tt := tYes) rfl sc_right.nd rfl rfl (sw_true rfl rfl rfl (by decide +kernel)) (pi_list (pe_lst (pa_cons pe_int (pa_cons pe_int (pa_cons pe_int pa_nil))))) (blkOk_by (N := n_right) (sc := defScope s_right) (by decide +kernel)) (fun _ _ _ _ _ => pg_name (i := 8) sc_right.nd rfl (Or.inl rfl)) (fun _ _ _ _ _ => pts_nil) (fun _ _ _ _ _ => (pe_cG c_step hr (by decide) hgd rfl (pa_cons (pv 0) (pa_cons (pv 8) (pa_cons (pv 1) (pa_cons (pv 2) pa_nil)))))))
      (pss_cons (ps_setLc (i := 4) (own := [("_law_each", 9)]) (g := gName 9) (tt := tYes) rfl sc_right.nd rfl rfl (sw_true rfl rfl rfl (by decide +kernel)) (pi_list (pv 3)) (blkOk_by (N := n_right) (sc := defScope s_right) (by decide +kernel)) (fun _ _ _ _ _ => pg_name (i := 9) sc_right.nd rfl (Or.inl rfl)) (fun _ _ _ _ _ => pts_nil) (fun _ _ _ _ _ => (pe_cG c_st hr (by decide) hgd rfl (pa_cons (pv 9) pa_nil))))
      (pss_cons (ps_for PassesOwn.never rfl (pi_list (pe_lst (pa_cons pe_int (pa_cons pe_int (pa_cons pe_int (pa_cons pe_int pa_nil)))))) (pg_name (i := 5) sc_right.nd rfl (.inl rfl))
        (pss_one (ps_if (PW.pt (pw_or (pt_not (pt_val (pe_cG c_shown hr (by decide) hgd rfl (pa_cons (pe_ix ix_list (pv 3) (pv 5) (fun _ _ => rfl)) (pa_cons (pe_ix ix_list (pv 4) (pv 5) (fun _ _ => rfl)) pa_nil))))) (pw_or1 (pt_not (pt_val (pe_cG c_shown hr (by decide) hgd rfl (pa_cons (pe_ix ix_list (pv 3) (pv 5) (fun _ _ => rfl)) (pa_cons (pe_cG c_named hr (by decide) hgd rfl (pa_cons (pe_ix ix_list (pv 3) (pv 5) (fun _ _ => rfl)) pa_nil)) pa_nil))))))))
            (pss_one (ps_ret pe_bl))
            (pss_nil))))
      (pss_cons (ps_set (i := 6) sc_right.nd rfl (.inl rfl) (pe_lst (pa_cons (pe_slice sl_list (pv 3) po_none (po_some pe_int)) (pa_cons (pe_op op_cat (pe_slice sl_list (pv 3) (po_some pe_int) po_none) (pe_slice sl_list (pv 3) po_none (po_some pe_int))) pa_nil))))
      (pss_cons (ps_set (i := 7) sc_right.nd rfl (.inl rfl) (pe_lst (pa_cons (pe_callTy call_tuple_of rfl T.b_tuple (by decide +kernel) (pa_cons (pe_slice sl_list (pv 4) po_none (po_some pe_int)) pa_nil)) (pa_cons (pe_callTy call_tuple_of rfl T.b_tuple (by decide +kernel) (pa_cons (pe_op op_cat (pe_slice sl_list (pv 4) (po_some pe_int) po_none) (pe_slice sl_list (pv 4) po_none (po_some pe_int))) pa_nil)) pa_nil))))
      (pss_cons (ps_if (pt_not (pt_val (pe_cG c_around hr (by decide) hgd rfl (pa_cons (pv 6) (pa_cons (pv 7) pa_nil)))))
        (pss_one (ps_ret pe_bl))
        (pss_nil))
      (pss_one (ps_ret (pe_and (pe_cG c_eqr hr (by decide) hgd rfl (pa_cons (pv 3) (pa_cons (pv 4) pa_nil))) (pe_one (pe_cG c_eqr hr (by decide) hgd rfl (pa_cons (pe_slice sl_list (pv 3) (po_some pe_int) po_none) (pa_cons (pe_slice sl_list (pv 4) (po_some pe_int) po_none) pa_nil)))))))))))))), ?_⟩
    refine ⟨_, rfl, dr rfl hp (by decide) (by decide) fun d H1 hd p1 k1 => ⟨(show 0 ≤ sizeLine by decide), fun l0 n0 => ?_⟩⟩
    refine ⟨p, l0, d, [], rfl, p1.new n0, purse_ne p1 n0, upd_same, by show 0 + d ≤ 20; omega, fun N ys H2 hy1 hy2 _ p2 k2 nN _ hN => ?_⟩
    have kH2 : Kp p H H2 := (k1.trans (kp_new n0)).trans k2
    have dN : Drw H2 p N ys := ⟨p2, nN, hN, by omega, fun z hz => (hy2 z hz).1⟩
    refine ⟨_, rfl, dr rfl p2 (by decide) (by decide) fun d2 H3 hd2 p3 k3 => ⟨_, _, rfl, rfl, (show 0 ≤ sizeLine by decide), fun l1 n1 => ?_⟩⟩
    refine ⟨p, l1, 1 + d2, [], ?_, p3.new n1, purse_ne p3 n1, upd_same, by show 0 + (1 + d2) ≤ 20; omega, fun O zs H4 hz1 hz2 _ p4 k4 nO _ hO => ?_⟩
    · show [V.ref p, V.int (1 + (d2 : Int)), V.ref l1] = _
      rw [show (1 + (d2 : Int)) = ((1 + d2 : Nat) : Int) by omega]
    have k24 : Kp p H2 H4 := (k3.trans (kp_new n1)).trans k4
    have kH4 := kH2.trans k24
    have dN4 := dN.go p4 k24
    have dO4 : Drw H4 p O zs := ⟨p4, nO, hO, by omega, fun z hz => (hz2 z hz).1⟩
    -- three steps
    refine ⟨(show 3 ≤ sizeLine by decide), fun L3 n3 => ⟨L3, rfl, ⟨_, SqL.of upd_same⟩, fun D1 nD => ?_⟩⟩
    have sL : Same H4 (upd H4 L3 (.lst [.int 3, .int 1, .int 2])) := same_new n3
    have hL : upd H4 L3 (.lst [.int 3, .int 1, .int 2]) L3 = some (.lst [.int 3, .int 1, .int 2]) := upd_same
    have dN5 := dN4.go (p4.same sL) (kp_of sL)
    have dO5 := dO4.go (p4.same sL) (kp_of sL)
    have kH5 : Kp p H (upd H4 L3 (.lst [.int 3, .int 1, .int 2])) := kH4.trans (kp_of sL)
    have p5 := p4.same sL
    have nLp := purse_ne p4 n3
    generalize upd H4 L3 (.lst [.int 3, .int 1, .int 2]) = H5 at hL dN5 dO5 kH5 p5 nD
    have nDp := purse_ne p5 nD
    refine lc_it (walk_list (K := K) (a := L3) (xs := [.int 3, .int 1, .int 2])) (fun i G => PurseAt G p ∧ Kp p H5 G ∧ ∃ (ss : List SR) (us : List V), G D1 = some (.lst us) ∧ ss.length = i ∧ Paired (TsN 3 (NL (upd H5 D1 (.lst [])) G)) ss us ∧ ∀ s ∈ ss, s.amount ≤ AM 3 ∧ s.height ≤ 3)
      ⟨p5.new nD, kp_new nD, [], [], upd_same, rfl, .nil, fun u h => by cases h⟩ (fun i G hi hG => SqL.of (hG.2.1 _ _ hL nLp)) (fun i x G G' hi hG hy => ?_) (fun G hG => ?_)
    · obtain ⟨pG, kG, ss, us, hD, hl, pr, al⟩ := hG
      obtain ⟨rfl, hx⟩ := hy
      obtain ⟨deep, hdp, d1, d3⟩ : ∃ deep : Nat, x = .int (deep : Int) ∧ 1 ≤ deep ∧ deep ≤ 3 := by
        have hi3 : i < 3 := hi
        have : i = 0 ∨ i = 1 ∨ i = 2 := by omega
        rcases this with e | e | e <;> subst e <;> cases hx
        · exact ⟨3, rfl, by decide, by decide⟩
        · exact ⟨1, rfl, by decide, by decide⟩
        · exact ⟨2, rfl, by decide, by decide⟩
      subst hdp
      refine ⟨rfl, _, rfl, _, rfl, _, rfl, _, rfl, p, N, O, ys, zs, deep, rfl, dN5.go pG kG, dO5.go pG kG, d1, d3, d3, fun s v H' sd pH kH => ?_⟩
      have hD2 := kH D1 _ hD nDp
      have pl := pair_len pr
      have hi3 : i < 3 := hi
      refine ⟨us, hD2, small1000 (by omega), ?_, ?_, ss ++ [s], us ++ [v], upd_same, by rw [List.length_append, hl]; rfl, ?_, fun u hu => ?_⟩
      · obtain ⟨x, y, z, hh⟩ := pH
        exact ⟨x, y, z, by rw [upd_ne (fun q => nDp q.symm)]; exact hh⟩
      · intro c o hc nc
        have ncD : c ≠ D1 := fun q => by rw [q, nD] at hc; cases hc
        rw [upd_ne ncD]
        exact kH c o (kG c o hc nc) nc
      · have ht : ∀ (G1 : Hp), (∀ a xs, G1 a = some (.tup xs) → H' a = some (.tup xs)) → ∀ a xs, G1 a = some (.tup xs) → upd H' D1 (.lst (us ++ [v])) a = some (.tup xs) := fun G1 h a xs e => by
          have h2 := h a xs e
          rw [upd_ne (fun q => by rw [q, hD2] at h2; cases h2)]
          exact h2
        have notp : ∀ a xs, G' a = some (.tup xs) → a ≠ p := fun a xs e q => by
          obtain ⟨x, y, z, hh⟩ := pG
          rw [q, hh] at e
          cases e
        refine pair_end (pair_mem pr fun x y h => h.nl (fun a ha => ha) (ht G' fun a xs e => kH _ _ e (notp a xs e)) fun a xs ha e => ?_) (TsN.le (sd.ts.nl (fun a ha => ?_) (ht H' fun _ _ e => e) fun a xs ha e => ?_) d3)
        · have naD : a ≠ D1 := fun q => by rw [q, upd_same] at ha; cases ha
          have nap : a ≠ p := fun q => by
            obtain ⟨x, y, z, hh⟩ := p5
            rw [q, upd_ne (fun e => nDp e.symm), hh] at ha
            cases ha
          rw [upd_ne naD]
          exact kH _ _ e nap
        · have naD : a ≠ D1 := fun q => by rw [q, hD] at ha; cases ha
          rw [upd_ne naD]
          cases e : H5 a with
          | none => rfl
          | some o =>
            have nap : a ≠ p := fun q => by
              obtain ⟨x, y, z, hh⟩ := pG
              rw [q, hh] at ha
              cases ha
            have := kG _ _ e nap
            rw [ha] at this
            cases this
        · have naD : a ≠ D1 := fun q => by rw [q, hD] at ha; cases ha
          rw [upd_ne naD]
          exact e
      · rcases List.mem_append.mp hu with h | h
        · exact al u h
        · rw [List.mem_singleton.mp h]
          have am : AM deep ≤ AM 3 := by
            have : deep = 1 ∨ deep = 2 ∨ deep = 3 := by omega
            rcases this with e | e | e <;> subst e <;> decide
          exact ⟨Nat.le_trans sd.amount am, Nat.le_trans sd.height d3⟩
    · obtain ⟨pG, kG, ss, us, hD, hl, pr, al⟩ := hG
      have kHG : Kp p H G := kH5.trans kG
      have hl3 : ss.length = 3 := hl
      clear hl
      match ss, us, pr, hl3, al, hD with
      | [s0, s1, s2], [y0, y1, y2], .cons t0 (.cons t1 (.cons t2 .nil)), _, al, hD =>
        have toG : ∀ {s : SR} {v : V}, TsN 3 (NL (upd H5 D1 (.lst [])) G) s v → TsN 3 G s v := fun h => h.imp (fun a xs e => NL_tup.mp e) fun a xs e => (NL_lst.mp e).1
        have t0 := toG t0
        have t1 := toG t1
        have t2 := toG t2
        have f0 := t0.fine
        have f1 := t1.fine
        have f2 := t2.fine
        have a0 := al s0 (by simp)
        have a1 := al s1 (by simp)
        have a2 := al s2 (by simp)
        have okS : ∀ s ∈ [s0, s1, s2], s.Fine ∧ s.amount ≤ AM 3 ∧ s.height ≤ 3 := fun s hs => ⟨by
          rcases List.mem_cons.mp hs with e | hs
          · rw [e]; exact f0
          · rcases List.mem_cons.mp hs with e | hs
            · rw [e]; exact f1
            · rw [List.mem_singleton.mp hs]; exact f2, al s hs⟩
        have okA : ∀ s ∈ [s0, s1], s.Fine ∧ s.amount ≤ AM 3 ∧ s.height ≤ 3 := fun s hs => okS s (by
          rcases List.mem_cons.mp hs with e | hs
          · rw [e]; simp
          · rw [List.mem_singleton.mp hs]; simp)
        have okB : ∀ s ∈ [s1, s2, s0], s.Fine ∧ s.amount ≤ AM 3 ∧ s.height ≤ 3 := fun s hs => okS s (by
          rcases List.mem_cons.mp hs with e | hs
          · rw [e]; simp
          · rcases List.mem_cons.mp hs with e | hs
            · rw [e]; simp
            · rw [List.mem_singleton.mp hs]; simp)
        have ft01 : Fits [[s0, s1], [s1, s2, s0]] := (fits_of (m := 3) (bs := [[s0, s1], [s1, s2, s0]]) (by decide) (show 2 ≤ 2 by decide) fun b hb => by
          rcases List.mem_cons.mp hb with e | hb
          · rw [e]; exact ⟨(show 2 ≤ 3 by decide), okA⟩
          · rw [List.mem_singleton.mp hb]; exact ⟨(show 3 ≤ 3 by decide), okB⟩).1
        have ft10 : Fits [[s1, s2, s0], [s0, s1]] := (fits_of (m := 3) (bs := [[s1, s2, s0], [s0, s1]]) (by decide) (show 2 ≤ 2 by decide) fun b hb => by
          rcases List.mem_cons.mp hb with e | hb
          · rw [e]; exact ⟨(show 3 ≤ 3 by decide), okB⟩
          · rw [List.mem_singleton.mp hb]; exact ⟨(show 2 ≤ 3 by decide), okA⟩).1
        have ft1 : Fits [[s1, s2, s0]] := (fits_of (m := 3) (bs := [[s1, s2, s0]]) (by decide) (show 1 ≤ 2 by decide) fun b hb => by
          rw [List.mem_singleton.mp hb]; exact ⟨(show 3 ≤ 3 by decide), okB⟩).1
        -- what is made of them
        refine ⟨_, rfl, D1, rfl, ⟨_, SqL.of hD⟩, fun D2 nD2 => ?_⟩
        refine lc_sis (CK := CK) (us := [y0, y1, y2]) nD2 [s0, s1, s2] rfl (show 3 ≤ 1000 by decide) hD (fun i x t G1 R hx ht sG hR => ?_) (fun G1 xs sG hD2 ps => ?_)
        · have both : TsN 3 G t x := by
            match i, hx, ht with
            | 0, hx, ht => cases hx; cases ht; exact t0
            | 1, hx, ht => cases hx; cases ht; exact t1
            | 2, hx, ht => cases hx; cases ht; exact t2
          exact ⟨rfl, _, rfl, t, x, rfl, both.same sG, hR⟩
        · match xs, ps, hD2 with
          | [x0, x1, x2], .cons i0 (.cons i1 (.cons i2 .nil)), hD2 =>
            have hD1 := sG _ _ hD
            have u0 := t0.same sG
            have u1 := t1.same sG
            have u2 := t2.same sG
            have at3 : ∀ j : Nat, j < 3 → ∃ (s : SR) (y x : V), ([y0, y1, y2] : List V)[j]? = some y ∧ ([x0, x1, x2] : List V)[j]? = some x ∧ TsN 3 G1 s y ∧ SIs CK G1 s x := fun j hj => by
              have : j = 0 ∨ j = 1 ∨ j = 2 := by omega
              rcases this with e | e | e <;> subst e
              · exact ⟨_, _, _, rfl, rfl, u0, i0⟩
              · exact ⟨_, _, _, rfl, rfl, u1, i1⟩
              · exact ⟨_, _, _, rfl, rfl, u2, i2⟩
            refine ⟨(show 4 ≤ sizeLine by decide), fun L4 n4 => ⟨L4, rfl, ⟨_, SqL.of upd_same⟩, ?_⟩⟩
            have s4 : Same G1 (upd G1 L4 (.lst [.int 0, .int 1, .int 2, .int 0])) := same_new n4
            have h4 : upd G1 L4 (.lst [.int 0, .int 1, .int 2, .int 0]) L4 = some (.lst [.int 0, .int 1, .int 2, .int 0]) := upd_same
            refine for_it (walk_list (K := K) (a := L4) (xs := [.int 0, .int 1, .int 2, .int 0])) (fun i σ G2 => Same (upd G1 L4 (.lst [.int 0, .int 1, .int 2, .int 0])) G2 ∧ ∃ y5 : Option V, σ = [some (.ref p), some (.ref N), some (.ref O), some (.ref D1), some (.ref D2), y5, none, none, none, none]) ⟨.refl _, none, rfl⟩ (fun i σ G2 hi hG => SqL.of (hG.1 _ _ h4)) (fun i x σ G2 G2' hi hG hy => ?_) (fun σ G2 hG => ?_)
            · obtain ⟨sG2, y5, rfl⟩ := hG
              obtain ⟨rfl, hx⟩ := hy
              obtain ⟨j, hj, j3⟩ : ∃ j : Nat, x = .int (j : Int) ∧ j < 3 := by
                have hi4 : i < 4 := hi
                have : i = 0 ∨ i = 1 ∨ i = 2 ∨ i = 3 := by omega
                rcases this with e | e | e | e <;> subst e <;> cases hx
                · exact ⟨0, rfl, by decide⟩
                · exact ⟨1, rfl, by decide⟩
                · exact ⟨2, rfl, by decide⟩
                · exact ⟨0, rfl, by decide⟩
              subst hj
              obtain ⟨s, y, x, hy, hx, ts, is⟩ := at3 j j3
              have q2 := s4.trans sG2
              refine ⟨_, rfl, _, rfl, D1, _, _, _, rfl, rfl, SqL.of (q2 _ _ hD1), atI_nat hy, _, rfl, _, rfl, D2, _, _, _, rfl, rfl, SqL.of (q2 _ _ hD2), atI_nat hx, s, y, x, rfl, (ts.same q2).up, is.same q2, fun G3 s3 => ⟨true, rfl, iteF ?_⟩⟩
              have q3 := q2.trans s3
              refine ⟨_, rfl, _, rfl, D1, _, _, _, rfl, rfl, SqL.of (q3 _ _ hD1), atI_nat hy, _, rfl, _, rfl, D1, _, _, _, rfl, rfl, SqL.of (q3 _ _ hD1), atI_nat hy, s, y, rfl, ts.same q3, fun z G5 s5 iz => ?_⟩
              have q5 := q3.trans s5
              exact ⟨s, y, _, rfl, (ts.same q5).up, iz, fun G6 s6 => ⟨true, rfl, iteF ⟨sG2.trans (s3.trans (s5.trans s6)), _, rfl⟩⟩⟩
            · obtain ⟨sG2, y5, rfl⟩ := hG
              have q2 := s4.trans sG2
              have g1 := q2 _ _ hD1
              have g2 := q2 _ _ hD2
              have u0 := u0.same q2
              have u1 := u1.same q2
              have u2 := u2.same q2
              have i0 := i0.same q2
              have i1 := i1.same q2
              have i2 := i2.same q2
              have k2 : Kp p H G2 := kHG.trans (kp_of (sG.trans q2))
              -- the lots
              refine ⟨_, rfl, _, rfl, D1, _, rfl, SqL.of g1, fun e1 ne1 => ?_⟩
              have r_Ga : Same G2 (upd G2 e1 (.lst (cutV [y0, y1, y2] none (some 2)))) := same_new ne1
              have b_Ga : upd G2 e1 (.lst (cutV [y0, y1, y2] none (some 2))) e1 = some (.lst [y0, y1]) := upd_same
              have g1 := r_Ga _ _ g1
              have g2 := r_Ga _ _ g2
              generalize upd G2 e1 (.lst (cutV [y0, y1, y2] none (some 2))) = Ga at r_Ga b_Ga g1 g2
              refine ⟨_, rfl, _, rfl, D1, _, rfl, SqL.of g1, fun e2 ne2 => ?_⟩
              have r_Gb : Same Ga (upd Ga e2 (.lst (cutV [y0, y1, y2] (some 1) none))) := same_new ne2
              have b_Gb : upd Ga e2 (.lst (cutV [y0, y1, y2] (some 1) none)) e2 = some (.lst [y1, y2]) := upd_same
              have g1 := r_Gb _ _ g1
              have g2 := r_Gb _ _ g2
              have b_Ga := r_Gb _ _ b_Ga
              generalize upd Ga e2 (.lst (cutV [y0, y1, y2] (some 1) none)) = Gb at r_Gb b_Gb g1 g2 b_Ga
              refine ⟨_, rfl, _, rfl, D1, _, rfl, SqL.of g1, fun e3 ne3 => ?_⟩
              have r_Gc : Same Gb (upd Gb e3 (.lst (cutV [y0, y1, y2] none (some 1)))) := same_new ne3
              have b_Gc : upd Gb e3 (.lst (cutV [y0, y1, y2] none (some 1))) e3 = some (.lst [y0]) := upd_same
              have g1 := r_Gc _ _ g1
              have g2 := r_Gc _ _ g2
              have b_Ga := r_Gc _ _ b_Ga
              have b_Gb := r_Gc _ _ b_Gb
              generalize upd Gb e3 (.lst (cutV [y0, y1, y2] none (some 1))) = Gc at r_Gc b_Gc g1 g2 b_Ga b_Gb
              refine ⟨e2, e3, [y1, y2], [y0], rfl, rfl, b_Gb, b_Gc, (show 3 ≤ sizeLine by decide), fun e4 ne4 => ?_⟩
              have r_Gd : Same Gc (upd Gc e4 (.lst ([y1, y2] ++ [y0]))) := same_new ne4
              have b_Gd : upd Gc e4 (.lst ([y1, y2] ++ [y0])) e4 = some (.lst [y1, y2, y0]) := upd_same
              have g1 := r_Gd _ _ g1
              have g2 := r_Gd _ _ g2
              have b_Ga := r_Gd _ _ b_Ga
              generalize upd Gc e4 (.lst ([y1, y2] ++ [y0])) = Gd at r_Gd b_Gd g1 g2 b_Ga
              refine ⟨(show 2 ≤ sizeLine by decide), fun e5 ne5 => ?_⟩
              have r_Ge : Same Gd (upd Gd e5 (.lst [.ref e1, .ref e4])) := same_new ne5
              have b_Ge : upd Gd e5 (.lst [.ref e1, .ref e4]) e5 = some (.lst [.ref e1, .ref e4]) := upd_same
              have g1 := r_Ge _ _ g1
              have g2 := r_Ge _ _ g2
              have b_Ga := r_Ge _ _ b_Ga
              have b_Gd := r_Ge _ _ b_Gd
              generalize upd Gd e5 (.lst [.ref e1, .ref e4]) = Ge at r_Ge b_Ge g1 g2 b_Ga b_Gd
              refine ⟨_, rfl, _, rfl, D2, _, rfl, SqL.of g2, fun c1 nc1 => ?_⟩
              have r_Gf : Same Ge (upd Ge c1 (.lst (cutV [x0, x1, x2] none (some 2)))) := same_new nc1
              have b_Gf : upd Ge c1 (.lst (cutV [x0, x1, x2] none (some 2))) c1 = some (.lst [x0, x1]) := upd_same
              have g1 := r_Gf _ _ g1
              have g2 := r_Gf _ _ g2
              have b_Ga := r_Gf _ _ b_Ga
              have b_Gd := r_Gf _ _ b_Gd
              have b_Ge := r_Gf _ _ b_Ge
              generalize upd Ge c1 (.lst (cutV [x0, x1, x2] none (some 2))) = Gf at r_Gf b_Gf g1 g2 b_Ga b_Gd b_Ge
              refine ⟨c1, [x0, x1], rfl, .inl ⟨SqL.of b_Gf, fun c2 nc2 => ?_⟩⟩
              have r_Gg : Same Gf (upd Gf c2 (.tup [x0, x1])) := same_new nc2
              have b_Gg : upd Gf c2 (.tup [x0, x1]) c2 = some (.tup [x0, x1]) := upd_same
              have g1 := r_Gg _ _ g1
              have g2 := r_Gg _ _ g2
              have b_Ga := r_Gg _ _ b_Ga
              have b_Gd := r_Gg _ _ b_Gd
              have b_Ge := r_Gg _ _ b_Ge
              generalize upd Gf c2 (.tup [x0, x1]) = Gg at r_Gg b_Gg g1 g2 b_Ga b_Gd b_Ge
              refine ⟨_, rfl, _, rfl, D2, _, rfl, SqL.of g2, fun c3 nc3 => ?_⟩
              have r_Gh : Same Gg (upd Gg c3 (.lst (cutV [x0, x1, x2] (some 1) none))) := same_new nc3
              have b_Gh : upd Gg c3 (.lst (cutV [x0, x1, x2] (some 1) none)) c3 = some (.lst [x1, x2]) := upd_same
              have g1 := r_Gh _ _ g1
              have g2 := r_Gh _ _ g2
              have b_Ga := r_Gh _ _ b_Ga
              have b_Gd := r_Gh _ _ b_Gd
              have b_Ge := r_Gh _ _ b_Ge
              have b_Gg := r_Gh _ _ b_Gg
              generalize upd Gg c3 (.lst (cutV [x0, x1, x2] (some 1) none)) = Gh at r_Gh b_Gh g1 g2 b_Ga b_Gd b_Ge b_Gg
              refine ⟨_, rfl, _, rfl, D2, _, rfl, SqL.of g2, fun c4 nc4 => ?_⟩
              have r_Gi : Same Gh (upd Gh c4 (.lst (cutV [x0, x1, x2] none (some 1)))) := same_new nc4
              have b_Gi : upd Gh c4 (.lst (cutV [x0, x1, x2] none (some 1))) c4 = some (.lst [x0]) := upd_same
              have g1 := r_Gi _ _ g1
              have g2 := r_Gi _ _ g2
              have b_Ga := r_Gi _ _ b_Ga
              have b_Gd := r_Gi _ _ b_Gd
              have b_Ge := r_Gi _ _ b_Ge
              have b_Gg := r_Gi _ _ b_Gg
              have b_Gh := r_Gi _ _ b_Gh
              generalize upd Gh c4 (.lst (cutV [x0, x1, x2] none (some 1))) = Gi at r_Gi b_Gi g1 g2 b_Ga b_Gd b_Ge b_Gg b_Gh
              refine ⟨c3, c4, [x1, x2], [x0], rfl, rfl, b_Gh, b_Gi, (show 3 ≤ sizeLine by decide), fun c5 nc5 => ?_⟩
              have r_Gj : Same Gi (upd Gi c5 (.lst ([x1, x2] ++ [x0]))) := same_new nc5
              have b_Gj : upd Gi c5 (.lst ([x1, x2] ++ [x0])) c5 = some (.lst [x1, x2, x0]) := upd_same
              have g1 := r_Gj _ _ g1
              have g2 := r_Gj _ _ g2
              have b_Ga := r_Gj _ _ b_Ga
              have b_Gd := r_Gj _ _ b_Gd
              have b_Ge := r_Gj _ _ b_Ge
              have b_Gg := r_Gj _ _ b_Gg
              generalize upd Gi c5 (.lst ([x1, x2] ++ [x0])) = Gj at r_Gj b_Gj g1 g2 b_Ga b_Gd b_Ge b_Gg
              refine ⟨c5, [x1, x2, x0], rfl, .inl ⟨SqL.of b_Gj, fun c6 nc6 => ?_⟩⟩
              have r_Gk : Same Gj (upd Gj c6 (.tup [x1, x2, x0])) := same_new nc6
              have b_Gk : upd Gj c6 (.tup [x1, x2, x0]) c6 = some (.tup [x1, x2, x0]) := upd_same
              have g1 := r_Gk _ _ g1
              have g2 := r_Gk _ _ g2
              have b_Ga := r_Gk _ _ b_Ga
              have b_Gd := r_Gk _ _ b_Gd
              have b_Ge := r_Gk _ _ b_Ge
              have b_Gg := r_Gk _ _ b_Gg
              generalize upd Gj c6 (.tup [x1, x2, x0]) = Gk at r_Gk b_Gk g1 g2 b_Ga b_Gd b_Ge b_Gg
              refine ⟨(show 2 ≤ sizeLine by decide), fun c7 nc7 => ?_⟩
              have r_Gl : Same Gk (upd Gk c7 (.lst [.ref c2, .ref c6])) := same_new nc7
              have b_Gl : upd Gk c7 (.lst [.ref c2, .ref c6]) c7 = some (.lst [.ref c2, .ref c6]) := upd_same
              have g1 := r_Gl _ _ g1
              have g2 := r_Gl _ _ g2
              have b_Ga := r_Gl _ _ b_Ga
              have b_Gd := r_Gl _ _ b_Gd
              have b_Ge := r_Gl _ _ b_Ge
              have b_Gg := r_Gl _ _ b_Gg
              have b_Gk := r_Gl _ _ b_Gk
              generalize upd Gk c7 (.lst [.ref c2, .ref c6]) = Gl at r_Gl b_Gl g1 g2 b_Ga b_Gd b_Ge b_Gg b_Gk
              have rA : Same G2 Gl := r_Ga.trans (r_Gb.trans (r_Gc.trans (r_Gd.trans (r_Ge.trans (r_Gf.trans (r_Gg.trans (r_Gh.trans (r_Gi.trans (r_Gj.trans (r_Gk.trans r_Gl))))))))))
              have u0 := u0.same rA
              have u1 := u1.same rA
              have u2 := u2.same rA
              have i0 := i0.same rA
              have i1 := i1.same rA
              have i2 := i2.same rA
              refine ⟨_, rfl, _, rfl, e5, c7, [s0, s1], [s1, s2, s0], .ref e1, .ref e4, .ref c2, .ref c6, rfl, b_Ge, b_Gl, ⟨e1, _, rfl, b_Ga, .cons u0 (.cons u1 .nil)⟩, ⟨e4, _, rfl, b_Gd, .cons u1 (.cons u2 (.cons u0 .nil))⟩, ⟨c2, _, rfl, .inl (.inl b_Gg), .cons i0 (.cons i1 .nil)⟩, ⟨c6, _, rfl, .inl (.inl b_Gk), .cons i1 (.cons i2 (.cons i0 .nil))⟩, ft01, ft1, ft10, fun G9 s9 => ⟨true, rfl, iteF ?_⟩⟩
              refine ⟨_, rfl, _, rfl, D1, D2, [s0, s1, s2], _, _, rfl, s9 _ _ g1, s9 _ _ g2, .cons (u0.same s9) (.cons (u1.same s9) (.cons (u2.same s9) .nil)), .cons (i0.same s9) (.cons (i1.same s9) (.cons (i2.same s9) .nil)), (show 2 ≤ 3 by decide), (show 3 ≤ 3 by decide), fun G10 s10 => ⟨true, rfl, iteT ?_⟩⟩
              have sX := s9.trans s10
              have g1 := sX _ _ g1
              have g2 := sX _ _ g2
              refine ⟨_, rfl, _, rfl, D1, _, rfl, SqL.of g1, fun h1 nh1 => ?_⟩
              have r_Gm : Same G10 (upd G10 h1 (.lst (cutV [y0, y1, y2] (some 1) none))) := same_new nh1
              have b_Gm : upd G10 h1 (.lst (cutV [y0, y1, y2] (some 1) none)) h1 = some (.lst [y1, y2]) := upd_same
              have g2 := r_Gm _ _ g2
              generalize upd G10 h1 (.lst (cutV [y0, y1, y2] (some 1) none)) = Gm at r_Gm b_Gm g2
              refine ⟨_, rfl, _, rfl, D2, _, rfl, SqL.of g2, fun h2 nh2 => ?_⟩
              have r_Gn : Same Gm (upd Gm h2 (.lst (cutV [x0, x1, x2] (some 1) none))) := same_new nh2
              have b_Gn : upd Gm h2 (.lst (cutV [x0, x1, x2] (some 1) none)) h2 = some (.lst [x1, x2]) := upd_same
              have b_Gm := r_Gn _ _ b_Gm
              generalize upd Gm h2 (.lst (cutV [x0, x1, x2] (some 1) none)) = Gn at r_Gn b_Gn b_Gm
              have sY := sX.trans (r_Gm.trans r_Gn)
              exact ⟨h1, h2, [s1, s2], [y1, y2], [x1, x2], rfl, b_Gm, b_Gn, .cons (u1.same sY) (.cons (u2.same sY) .nil), .cons (i1.same sY) (.cons (i2.same sY) .nil), (show 2 ≤ 2 by decide), (show 2 ≤ 3 by decide), fun G12 s12 => fin G12 (k2.trans (kp_of (rA.trans (sY.trans s12))))⟩
def n_law : List Str := ["_law_script", "_law_k"]
theorem sc_law : FnScope n_law ["_law_script"] (defScope s_law) := ⟨rfl, rfl, rfl, by decide +kernel, rfl, by decide +kernel, by decide +kernel⟩
def spLaw (K : PySem.W.Frag) : Sp := fun vs H Q _ => ∃ (a : Addr) (ns : List Int), vs = [.ref a] ∧ SqL K H a (ns.map V.int) ∧ ns.length ≤ 63 ∧ ∀ H', Q (.bl true) H'
theorem ok_law {fl : Addr} {fd : FuncData} (F : Fun K "law" "law" s_law fl fd) (T : Txt mg)
    (c_cell : CalG P w K mg base 1 "_law_cell" ["_law_script", "_law_k"] (spCell K)) (c_purse : CalG P w K mg base 1 "_law_purse" ["_law_cell_here"] spPurse)
    (c_right : CalG P w K mg base 23 "_law_right" ["_law_purse_here"] spRight) : FnG P w K mg base 24 fl fd ["_law_script"] (spLaw K) := by
  refine fun_okG F sc_law (fun vs H Q E h => ?_) (fun cdv A fr s H vs Q E hr hgd h => ?_)
  · obtain ⟨a, ns, rfl, _⟩ := h
    rfl
  · obtain ⟨a, ns, rfl, hS, hl, fin⟩ := h
    refine ⟨_, pss_one (ps_ret (pe_callB (cr_all rfl) rfl T.b_all (by decide +kernel) (pa_cons (pe_lc (own := [("_law_k", 1)]) (g := gName 1) (tt := tYes) rfl sc_law.nd (pi_range1 rfl T.b_range (pa_cons (pe_callB (call_max2 rfl) rfl T.b_max (by decide +kernel) (pa_cons pe_int (pa_cons (pe_callB (call_min2 rfl) rfl T.b_min (by decide +kernel) (pa_cons (pe_callB call_len rfl T.b_len (by decide +kernel) (pa_cons (pv 0) pa_nil)) (pa_cons pe_int pa_nil))) pa_nil))) pa_nil)) (blkOk_by (N := n_law) (sc := defScope s_law) (by decide +kernel)) (fun _ _ _ _ _ => pg_name (i := 1) sc_law.nd rfl (Or.inl rfl)) (fun _ _ _ _ _ => pts_nil) (fun _ _ _ _ _ => (pe_cG c_right hr (by decide) hgd rfl (pa_cons (pe_cG c_purse hr (by decide) hgd rfl (pa_cons (pe_cG c_cell hr (by decide) hgd rfl (pa_cons (pv 0) (pa_cons (pv 1) pa_nil))) pa_nil)) pa_nil)))) pa_nil))), ?_⟩
    obtain ⟨t1, t2, t3⟩ := turns6 (L := ((ns.map V.int).length : Int)) (by omega)
    refine ⟨_, rfl, _, _, rfl, .inl ⟨_, hS, rfl⟩, _, _, rfl, _, _, rfl, _, rfl, t1, t2, fun D3 hD5 => ?_⟩
    refine lc_call walk_range hD5 ((List.replicate _ true).map V.bl) (by rw [List.length_map, List.length_replicate]) (by omega) (fun _ _ => trivial) (fun i x v G G' R hv sG hy hR => ?_) (fun G sG hD => ?_)
    · obtain ⟨rfl, hx⟩ := hy
      have hx2 : x = V.int (i : Int) := by
        rw [hx]
        show V.int (0 + (i : Int)) = _
        rw [Int.zero_add]
      subst hx2
      rw [List.map_replicate] at hv
      have hv2 : v = .bl true := List.eq_of_mem_replicate (List.mem_of_getElem? hv)
      have hi : i < _ := (List.getElem?_eq_some_iff.mp hv).1
      rw [List.length_replicate] at hi
      subst hv2
      refine ⟨rfl, _, rfl, _, rfl, a, ns, i, rfl, sG.seq hS, hl, by omega, fun c H5 s5 => ?_⟩
      refine ⟨c, rfl, fun p H6 s6 hp p6 => ?_⟩
      refine ⟨p, rfl, p6, fun H7 k7 => hR H7 fun b o e => ?_⟩
      exact k7 _ _ (s6 _ _ (s5 _ _ e)) fun z => by rw [z] at e; rw [s5 _ _ e] at hp; cases hp
    · refine ⟨D3, _, rfl, SqL.of hD, ?_⟩
      rw [all_bl]
      exact fin _
end
end Jo

set_option Elab.async false
set_option linter.all false
set_option maxRecDepth 100000
/-! A law's end over a head that is run by the kernel. -/
namespace Jo
open PySem PySem.Spec PyProof.Rows L2
theorem walk_ofEG {l : PySem.W.OpenLaw} {n k : Nat} {q : Program} {loose : List Str} {XP : (Str → Option Value) → Heap → Prop} {YP : World → Heap → Prop} {d : DefRec} {x : Str}
    (hn : l.most = some n) (hn2 : n ≤ sizeLine) (hdf : d.params.defaults = []) (hr : Room k callerA)
    (F : ∀ (w : World) (mg : Str → Option Value) (fa : Addr) (h : Heap), YP w h → h.Ns mainGlobals mg → mg d.name = some (.ref fa) →
      ∃ (K : PySem.W.Frag) (fd : FuncData) (sp : Sp), K.In h ∧ (∀ (s : Shared) (u : Value), BindsTo s fd ⟨[u], []⟩ [(x, u)]) ∧
        (∀ (H : Hp) (a : Addr) (ns : List Int), ns.length ≤ n → (∀ z ∈ ns, Builtin.Int.intBits z ≤ 1048576) → Only H → SqL K H a (ns.map V.int) → sp [.ref a] H (fun v _ => v = .bl true) fun _ _ _ => False) ∧
        ∀ base : Heap, K.In base → base.Ns mainGlobals mg → FnG l.prog w K mg base k fa fd [x] sp) :
    PySem.W.WalkO q loose XP YP l.row.toRowW d [] (fun f vs => PySem.call f vs) := by
  refine Att.attach_callB hn hdf fun w s₀ s₁ mg mb fa o pm cd doc a vs ns G Y ho hd hcd hmg hobj hints hlen hbits hg => ?_
  obtain ⟨K, fd, sp, KX, hb, hsp, hF⟩ := F w mg fa _ Y G.T.g hmg
  exact law_callG KX G.T.g G.T.b G.T.builtins G.T.nolimit hg hobj hints (Nat.le_trans hlen hn2) hr hF hb fun H hO hS => hsp H a ns hlen hbits hO hS
end Jo

set_option Elab.async false
set_option linter.all false
set_option maxRecDepth 100000
set_option maxHeartbeats 2000000
namespace Jo
open PySem PySem.Spec PyProof.Rows L2
theorem intB_ok {K : PySem.W.Frag} {q : Str × Int} (h : intB K q = true) : ∃ u, PySem.W.nsIn K mainGlobals q.1 = some (some u) ∧ RelV (.int q.2) u := by
  unfold intB at h
  split at h
  · rename_i j t e
    exact ⟨_, e, t, by rw [of_decide_eq_true h]⟩
  · cases h
theorem strB_ok {K : PySem.W.Frag} {q : Str × Str} (h : strB K q = true) : ∃ u, PySem.W.nsIn K mainGlobals q.1 = some (some u) ∧ RelV (.str q.2) u := by
  unfold strB at h
  split at h
  · rename_i j t e
    exact ⟨_, e, t, by rw [of_decide_eq_true h]⟩
  · cases h
theorem mtB_ok {K : PySem.W.Frag} {C : Addr} {m : Str} (h : mtB K C m = true) : PySem.W.findIn K (.ref C) m = some (some (.ref (He.ma K C m))) ∧ PySem.W.isFn K (.ref (He.ma K C m)) = true := by
  obtain ⟨h1, h2⟩ := He.ba h
  exact ⟨He.eqO_ok h1, h2⟩
theorem ownB_ok {K : PySem.W.Frag} {C : Addr} (g1 : PySem.W.specialIn K (.builtin "object.__class__") "__get__" = some (some (.builtin "getset_descriptor.__get__"))) (g2 : PySem.W.takesIn K (.builtin "object.__class__") = some true) (h : ownB K C = true) : OwnC K C := by
  obtain ⟨a1, h⟩ := He.ba h
  obtain ⟨a2, h⟩ := He.ba h
  obtain ⟨a3, h⟩ := He.ba h
  obtain ⟨a4, h⟩ := He.ba h
  obtain ⟨a5, a6⟩ := He.ba h
  exact ⟨⟨a1, a2, a3, He.eqO_ok a4⟩, He.eqO_ok a5, g1, g2, of_decide_eq_true a6⟩
theorem noB_ok {K : PySem.W.Frag} {C : Addr} {fs : List Str} (h : noB K C fs = true) : ∀ f ∈ fs, NoAttr K C f := fun f hf => He.eqO_ok (List.all_eq_true.mp h f hf)
theorem mkB_ok {K : PySem.W.Frag} {C : Addr} (h : mkB K C = true) : Mk K C (He.ma K C "__init__") := by
  obtain ⟨a1, h⟩ := He.ba h
  obtain ⟨a2, a3⟩ := He.ba h
  obtain ⟨b1, b2⟩ := mtB_ok a2
  exact ⟨a1, b1, b2, a3⟩
theorem wdA_ok {K : PySem.W.Frag} {C : Addr} {z : Str} (h : wdA K C z = true) : ∃ u, Con K C "WORD" (.str z) u := by
  unfold wdA at h
  split at h
  · rename_i y t e
    obtain ⟨h1, h2⟩ := He.ba h
    exact ⟨_, e, ⟨t, by rw [of_decide_eq_true h1]⟩, of_decide_eq_true h2, by decide +kernel⟩
  · cases h
theorem wdC_ok {K : PySem.W.Frag} {C : Addr} {z : Str} (h : wdC K C z = true) : ∃ u, ClX.CVal K C (.type "type") "WORD" (.str z) u := by
  unfold wdC at h
  split at h
  · rename_i y t e
    exact ⟨_, e, ⟨t, by rw [of_decide_eq_true h]⟩⟩
  · cases h
theorem cfB_ok {K : PySem.W.Frag} {C : Addr} {m : Str} (r : rdB K C = true) (h : cfB K C m = true) : ClFn K C m (He.ma K C m) := by
  obtain ⟨r1, r2⟩ := He.ba r
  unfold cfB at h
  split at h
  · rename_i a e
    rw [of_decide_eq_true h] at e
    exact ⟨of_decide_eq_true r2, _, r1, e⟩
  · cases h
theorem allK (k : Kd) : k ∈ kindsL := by
  cases k with
  | bi b => cases b <;> decide +kernel
  | _ => decide +kernel
theorem nameK (k : Kd) : k.cname ∈ clT := by
  cases k with
  | bi b => cases b <;> decide +kernel
  | _ => decide +kernel
theorem clsB_ok {K : PySem.W.Frag} (h : clsB K = true) : stA K (He.ga K "Expression") = true ∧ ∀ k : Kd, kdA K (He.ga K "Expression") (He.ga K k.cname) k.word = true := by
  unfold clsB at h
  rw [HandSHeadRun.frNat_eq] at h
  obtain ⟨h1, h2⟩ := He.ba h
  refine ⟨h1, fun k => ?_⟩
  have e := List.all_eq_true.mp h2 k (allK k)
  rw [HandSHeadRun.frNat_eq] at e
  exact e
theorem prB_ok {K : PySem.W.Frag} (h : kindsL.all (fun k => kindsL.all (prB K k)) = true) (k l : Kd) : PySem.W.kitOne K (.ref (He.ga K k.cname)) (.ref (He.ga K l.cname)) = some (decide (k = l)) ∧ PySem.W.notFirst K (He.ga K k.cname) (.ref (He.ga K l.cname)) = true := by
  have e := List.all_eq_true.mp (List.all_eq_true.mp h k (allK k)) l (allK l)
  unfold prB at e
  rw [HandSHeadRun.frNat_eq, HandSHeadRun.frNat_eq] at e
  obtain ⟨e1, e2⟩ := He.ba e
  exact ⟨of_decide_eq_true e1, e2⟩
theorem arB_ok {K : PySem.W.Frag} (h : arB K = true) : ∀ k : Kd, 0 < k.many → ∃ u, PySem.W.nsIn K (He.ga K "ARITIES") k.word = some (some u) ∧ RelV (.int (k.many : Int)) u := fun k hk => by
  have e := List.all_eq_true.mp h k (allK k)
  rw [Bool.or_eq_true] at e
  rcases e with e | e
  · have := of_decide_eq_true e
    omega
  · unfold arK at e
    split at e
    · rename_i j t e2
      exact ⟨_, e2, t, by rw [of_decide_eq_true e]⟩
    · cases e
theorem emB_ok {K : PySem.W.Frag} {a : Addr} (h : emB K a = true) (H : Hp) : SqT K H a [] := by
  unfold emB at h
  split at h
  · rename_i t dd its n sl e
    obtain ⟨h1, h2⟩ := He.ba h
    have e2 : its.toList = [] := List.isEmpty_iff.mp h2
    have e3 : its.size = 0 := by rw [← Array.length_toList, e2] <;> rfl
    exact .inr ⟨_, its, n, e, by rw [of_decide_eq_true h1], rfl, by rw [e3]; exact Nat.zero_le _, by rw [e2]; exact .nil⟩
  · cases h
theorem twB_ok {K : PySem.W.Frag} {T : Addr} (h : twB K T = true) : ∃ (o : Obj) (n : Nat) (e1 e2 : Addr), K.lookup T = some o ∧ o.data = .seq [.ref e1, .ref e2].toArray n ∧ (∀ H, SqT K H e1 []) ∧ ∀ H, SqT K H e2 [] := by
  unfold twB at h
  split at h
  · rename_i oc od its n sl e
    split at h
    · rename_i e1 e2 el
      obtain ⟨h1, h2⟩ := He.ba h
      refine ⟨_, n, e1, e2, e, ?_, emB_ok h1, emB_ok h2⟩
      rw [← el]
    · cases h
  · cases h
theorem e1B_ok {K : PySem.W.Frag} {T : Addr} (h : e1B K T = true) : ∃ (o : Obj) (n : Nat) (e1 : Addr), K.lookup T = some o ∧ o.data = .seq [.ref e1].toArray n ∧ ∀ H, SqT K H e1 [] := by
  unfold e1B at h
  split at h
  · rename_i oc od its n sl e
    split at h
    · rename_i e1 el
      refine ⟨_, n, e1, e, ?_, emB_ok h⟩
      rw [← el]
    · cases h
  · cases h
theorem n1B_ok {K : PySem.W.Frag} {T : Addr} (h : n1B K T = true) : ∃ (o : Obj) (n : Nat), K.lookup T = some o ∧ o.data = .seq [.none].toArray n := by
  unfold n1B at h
  split at h
  · rename_i oc od its n sl e
    split at h
    · rename_i el
      refine ⟨_, n, e, ?_⟩
      rw [← el]
    · cases h
  · cases h
theorem bindsK1 {K : PySem.W.Frag} {x qual : Str} {params : Arguments} {body : List Stmt} {scope : Scope} {dvs : List V} {kws : List (Str × V)} {f : Addr} {fd : FuncData} {ps : List Str} (F : FunD K x qual params body scope dvs kws f fd) (hd : dvs ≠ [])
    (h : ∀ (T : Addr) (kV doc pm : Value) (an : Option Addr) (cdv ct : Value) (u : Value) (us its : List Value), (u :: us).length = ps.length → its.length = dvs.length →
      ∃ k, bindArgs (PySem.W.fnOf x qual params body scope (.ref T) kV doc pm an cdv ct) ⟨[u], (ps.drop 1).reverse.zip us.reverse⟩ = seqItems? (.ref T) >>= k ∧ k (some its.toArray) = pure (ps.zip (u :: us))) :
    ∀ (s : Shared) (u : Value) (us : List Value), K.In s.heap → (u :: us).length = ps.length → BindsTo s fd ⟨[u], (ps.drop 1).reverse.zip us.reverse⟩ (ps.zip (u :: us)) := by
  intro s u us X hlen
  obtain ⟨oc, od, dV, kV, doc, pm, an, cdv, ct, osl, rfl, lk, hcd, hD, hK⟩ := F.ex
  rcases hD with ⟨e, _⟩ | ⟨_, T, o, its, m, rfl, lT, oT, rT⟩
  · exact absurd e hd
  · obtain ⟨k, e1, e2⟩ := h T kV doc pm an cdv ct u us its hlen rT.length.symm
    refine BindsTo.of_looks fun M => ?_
    rw [e1]
    exact looks_items X lT oT (.of_pure e2)
theorem nameS (k : Sk) : k.cname ∈ skS := by cases k <;> decide +kernel
theorem nameS2 (k : Sk) : k.cname ∈ clT := by cases k <;> decide +kernel
theorem sameS (k l : Sk) : decide (k.cname = l.cname) = decide (k = l) := by cases k <;> cases l <;> decide +kernel
theorem skA_ok {K : PySem.W.Frag} {E S F : Addr} (h : skA K E S F = true) : ownB K F = true ∧ noB K F ["amount", "height", "names", "bodies", "lines", "expression", "name", "test", "body", "otherwise", "handler", "into"] = true ∧ mkB K F = true ∧ inhB K S F "__eq__" = true ∧ inhB K S F "__str__" = true ∧ inhB K S F "__repr__" = true ∧ PySem.W.kitOne K (.ref F) (.ref E) = some false ∧ PySem.W.kitOne K (.ref F) (.ref S) = some true ∧ PySem.W.notFirst K F (.type "str") = true ∧ PySem.W.notFirst K F (.type "tuple") = true := by
  unfold skA at h
  obtain ⟨h1, h⟩ := He.ba h
  obtain ⟨h2, h⟩ := He.ba h
  obtain ⟨h3, h⟩ := He.ba h
  obtain ⟨h4, h⟩ := He.ba h
  obtain ⟨h5, h⟩ := He.ba h
  obtain ⟨h6, h⟩ := He.ba h
  obtain ⟨h7, h⟩ := He.ba h
  obtain ⟨h8, h⟩ := He.ba h
  obtain ⟨h9, h⟩ := He.ba h
  exact ⟨h1, h2, h3, h4, h5, h6, of_decide_eq_true h7, of_decide_eq_true h8, h9, h⟩
theorem skB_ok {K : PySem.W.Frag} (h : skB K = true) (k : Sk) : skA K (He.ga K "Expression") (He.ga K "Statement") (He.ga K k.cname) = true := by
  unfold skB at h
  rw [HandSHeadRun.frNat_eq, HandSHeadRun.frNat_eq] at h
  have e := List.all_eq_true.mp h _ (nameS k)
  rw [HandSHeadRun.frNat_eq] at e
  exact e
theorem ssB_ok {K : PySem.W.Frag} (h : (skS.all fun x => skS.all (ssB K x)) = true) (k l : Sk) : PySem.W.kitOne K (.ref (He.ga K k.cname)) (.ref (He.ga K l.cname)) = some (decide (k = l)) ∧ PySem.W.notFirst K (He.ga K k.cname) (.ref (He.ga K l.cname)) = true := by
  have e := List.all_eq_true.mp (List.all_eq_true.mp h _ (nameS k)) _ (nameS l)
  unfold ssB at e
  rw [HandSHeadRun.frNat_eq, HandSHeadRun.frNat_eq] at e
  obtain ⟨e1, e2⟩ := He.ba e
  rw [sameS] at e1
  exact ⟨of_decide_eq_true e1, e2⟩
theorem scB_ok {K : PySem.W.Frag} (h : scB K = true) (k : Kd) : PySem.W.kitOne K (.ref (He.ga K k.cname)) (.ref (He.ga K "Statement")) = some false ∧ ∀ l : Sk, PySem.W.notFirst K (He.ga K l.cname) (.ref (He.ga K k.cname)) = true ∧ PySem.W.notFirst K (He.ga K k.cname) (.ref (He.ga K l.cname)) = true := by
  unfold scB at h
  rw [HandSHeadRun.frNat_eq] at h
  have e := List.all_eq_true.mp h k (allK k)
  rw [HandSHeadRun.frNat_eq] at e
  obtain ⟨e1, e2⟩ := He.ba e
  refine ⟨of_decide_eq_true e1, fun l => ?_⟩
  have e3 := List.all_eq_true.mp e2 _ (nameS l)
  rw [HandSHeadRun.frNat_eq] at e3
  exact He.ba e3
theorem facts {P : Program} {w : World} {K : PySem.W.Frag} {h : Heap} {mg : Str → Option Value} {fa : Addr} (X : K.In h) (G : h.Ns mainGlobals mg) (hfa : mg "law" = some (.ref fa)) (c : SaysK okT fnT fxT tbT w K) :
    ∃ fd : FuncData, (∀ (s : Shared) (v : Value), BindsTo s fd ⟨[v], []⟩ [("_law_script", v)]) ∧ ∀ base : Heap, K.In base → base.Ns mainGlobals mg → FnG P w K mg base 24 fa fd ["_law_script"] (spLaw K) := by
  obtain ⟨c1, w_⟩ := He.ba c.1.1.1
  obtain ⟨c2, w_⟩ := He.ba w_
  obtain ⟨c3, w_⟩ := He.ba w_
  obtain ⟨c4, w_⟩ := He.ba w_
  obtain ⟨c5, w_⟩ := He.ba w_
  obtain ⟨c6, w_⟩ := He.ba w_
  obtain ⟨c7, w_⟩ := He.ba w_
  obtain ⟨c8, w_⟩ := He.ba w_
  obtain ⟨c9, w_⟩ := He.ba w_
  obtain ⟨c10, w_⟩ := He.ba w_
  obtain ⟨c11, w_⟩ := He.ba w_
  obtain ⟨c12, w_⟩ := He.ba w_
  obtain ⟨c13, w_⟩ := He.ba w_
  obtain ⟨c14, w_⟩ := He.ba w_
  obtain ⟨c15, w_⟩ := He.ba w_
  obtain ⟨c16, w_⟩ := He.ba w_
  obtain ⟨c17, w_⟩ := He.ba w_
  obtain ⟨c18, c19⟩ := He.ba w_
  have qc : ∀ x ∈ clT, PySem.W.nsIn K mainGlobals x = some (some (.ref (He.ga K x))) := fun x e => He.eqO_ok (List.all_eq_true.mp c1 x e)
  have qi : ∀ (i : Nat) {d : Str × Int}, inT[i]? = some d → ∃ u, PySem.W.nsIn K mainGlobals d.1 = some (some u) ∧ RelV (.int d.2) u := fun i d e => intB_ok (List.all_eq_true.mp c4 d (List.mem_of_getElem? e))
  have qs : ∀ (i : Nat) {d : Str × Str}, stT[i]? = some d → ∃ u, PySem.W.nsIn K mainGlobals d.1 = some (some u) ∧ RelV (.str d.2) u := fun i d e => strB_ok (List.all_eq_true.mp c5 d (List.mem_of_getElem? e))
  have qf : ∀ (i : Nat) {d : Str}, frT[i]? = some d → PySem.W.nsIn K mainGlobals d = some none := fun i d e => He.eqO_ok (List.all_eq_true.mp c6 d (List.mem_of_getElem? e))
  have qd : ∀ (i : Nat) {d : He.FnD}, dfT[i]? = some d → PySem.W.nsIn K mainGlobals d.name = some (some (.ref (He.ga K d.name))) := fun i d e => He.eqO_ok (List.all_eq_true.mp c7 d (List.mem_of_getElem? e))
  have qn : ∀ (i : Nat) {d : He.FnD}, fnT[i]? = some d → (∃ oc od osl kV doc pm an cdv ct, K.lookup (He.fAd K d.at_) = some ⟨oc, od, .func (PySem.W.fnOf d.name d.qual d.params d.body d.scope .none kV doc pm an cdv ct), osl⟩ ∧ PySem.W.codeIn K cdv d.qual = true) ∧ PySem.W.keepIn K (.ref (He.fAd K d.at_)) = true := fun i d e => by
    obtain ⟨z1, z2⟩ := He.ba (List.all_eq_true.mp c8 d (List.mem_of_getElem? e))
    exact ⟨c.1.1.at_ i e z1, z2⟩
  have g1 := of_decide_eq_true c18
  have g2 := of_decide_eq_true c19
  have pr := prB_ok c3
  obtain ⟨sa, ka⟩ := clsB_ok c2
  obtain ⟨t_rE, w_⟩ := He.ba sa
  obtain ⟨t_cE, w_⟩ := He.ba w_
  obtain ⟨t_e0, w_⟩ := He.ba w_
  obtain ⟨t_e1, w_⟩ := He.ba w_
  obtain ⟨t_e2, w_⟩ := He.ba w_
  obtain ⟨t_e3, t_ks⟩ := He.ba w_
  have k_own : ∀ k : Kd, OwnC K (He.ga K (Kd.cname k)) := fun k => ownB_ok g1 g2 ((He.ba (ka k)).1)
  have k_no : ∀ k : Kd, ∀ f ∈ fieldsX, NoAttr K (He.ga K (Kd.cname k)) f := fun k => noB_ok ((He.ba ((He.ba (ka k)).2)).1)
  have k_wd : ∀ k : Kd, wdB K (He.ga K (Kd.cname k)) k.word = true := fun k => (He.ba ((He.ba ((He.ba (ka k)).2)).2)).1
  have k_rd : ∀ k : Kd, rdB K (He.ga K (Kd.cname k)) = true := fun k => (He.ba ((He.ba ((He.ba ((He.ba (ka k)).2)).2)).2)).1
  have k_kE : ∀ k : Kd, PySem.W.kitOne K (.ref (He.ga K (Kd.cname k))) (.ref (He.ga K "Expression")) = some true := fun k => of_decide_eq_true ((He.ba ((He.ba ((He.ba ((He.ba ((He.ba (ka k)).2)).2)).2)).2)).1)
  have k_nS : ∀ k : Kd, PySem.W.notFirst K (He.ga K (Kd.cname k)) (.type "str") = true := fun k => (He.ba ((He.ba ((He.ba ((He.ba ((He.ba ((He.ba (ka k)).2)).2)).2)).2)).2)).1
  have k_fm : ∀ k : Kd, PySem.W.findIn K (.ref (He.ga K (Kd.cname k))) "__format__" = some (some (.builtin "object.__format__")) := fun k => He.eqO_ok ((He.ba ((He.ba ((He.ba ((He.ba ((He.ba ((He.ba ((He.ba (ka k)).2)).2)).2)).2)).2)).2)).1)
  have k_mk : ∀ k : Kd, Mk K (He.ga K (Kd.cname k)) (He.ma K (He.ga K (Kd.cname k)) "__init__") := fun k => mkB_ok ((He.ba ((He.ba ((He.ba ((He.ba ((He.ba ((He.ba ((He.ba ((He.ba (ka k)).2)).2)).2)).2)).2)).2)).2)).1)
  have k_i0 : ∀ k : Kd, PySem.W.findIn K (.ref (He.ga K (Kd.cname k))) "__eq__" = some (some (.ref (He.ma K (He.ga K "Expression") "__eq__"))) := fun k => He.eqO_ok ((He.ba ((He.ba ((He.ba ((He.ba ((He.ba ((He.ba ((He.ba ((He.ba ((He.ba (ka k)).2)).2)).2)).2)).2)).2)).2)).2)).1)
  have k_i1 : ∀ k : Kd, PySem.W.findIn K (.ref (He.ga K (Kd.cname k))) "__str__" = some (some (.ref (He.ma K (He.ga K "Expression") "__str__"))) := fun k => He.eqO_ok ((He.ba ((He.ba ((He.ba ((He.ba ((He.ba ((He.ba ((He.ba ((He.ba ((He.ba ((He.ba (ka k)).2)).2)).2)).2)).2)).2)).2)).2)).2)).1)
  have k_i2 : ∀ k : Kd, PySem.W.findIn K (.ref (He.ga K (Kd.cname k))) "__repr__" = some (some (.ref (He.ma K (He.ga K "Expression") "__repr__"))) := fun k => He.eqO_ok ((He.ba ((He.ba ((He.ba ((He.ba ((He.ba ((He.ba ((He.ba ((He.ba ((He.ba ((He.ba (ka k)).2)).2)).2)).2)).2)).2)).2)).2)).2)).2)
  obtain ⟨u0, a0, r0⟩ := qi 0 rfl
  obtain ⟨u1, a1, r1⟩ := qi 1 rfl
  obtain ⟨u2, a2, r2⟩ := qi 2 rfl
  obtain ⟨u3, a3, r3⟩ := qi 3 rfl
  obtain ⟨u4, a4, r4⟩ := qi 4 rfl
  obtain ⟨u5, a5, r5⟩ := qi 5 rfl
  obtain ⟨v0, b0, s0⟩ := qs 0 rfl
  obtain ⟨v1, b1, s1⟩ := qs 1 rfl
  have T : Txt mg := ⟨⟨_, PySem.W.mg_of X G a0, r0⟩, ⟨_, PySem.W.mg_of X G a1, r1⟩, ⟨_, PySem.W.mg_of X G a2, r2⟩, ⟨_, PySem.W.mg_of X G a3, r3⟩, ⟨_, PySem.W.mg_of X G a4, r4⟩, ⟨_, PySem.W.mg_of X G b0, s0⟩, ⟨_, PySem.W.mg_of X G b1, s1⟩, ⟨_, PySem.W.mg_of X G a5, r5⟩, PySem.W.mg_none_of X G (qf 0 rfl), PySem.W.mg_none_of X G (qf 1 rfl), PySem.W.mg_none_of X G (qf 2 rfl), PySem.W.mg_none_of X G (qf 3 rfl), PySem.W.mg_none_of X G (qf 4 rfl), PySem.W.mg_none_of X G (qf 5 rfl), PySem.W.mg_none_of X G (qf 6 rfl), PySem.W.mg_none_of X G (qf 7 rfl), PySem.W.mg_none_of X G (qf 8 rfl), PySem.W.mg_none_of X G (qf 9 rfl), PySem.W.mg_none_of X G (qf 10 rfl), PySem.W.mg_none_of X G (qf 11 rfl), PySem.W.mg_none_of X G (qf 12 rfl), PySem.W.mg_none_of X G (qf 13 rfl), PySem.W.mg_none_of X G (qf 14 rfl), PySem.W.mg_none_of X G (qf 15 rfl), PySem.W.mg_none_of X G (qf 16 rfl), PySem.W.mg_none_of X G (qf 17 rfl)⟩
  let C : Kd → Addr := fun k => He.ga K k.cname
  have XX : XT K mg C (He.ga K "Expression") := ⟨k_own, k_no, fun k => PySem.W.mg_of X G (qc _ (nameK k)), PySem.W.mg_of X G (qc "Expression" (by decide)), fun k => wdA_ok (He.ba (k_wd k)).1, fun k => by
    obtain ⟨u, hu⟩ := wdC_ok (He.ba (k_wd k)).2
    obtain ⟨y1, y2⟩ := He.ba (k_rd k)
    exact ⟨_, u, ⟨y1, of_decide_eq_true y2⟩, hu⟩, fun k l => (pr k l).1, k_kE, of_decide_eq_true t_ks, fun k l => (pr k l).2, k_nS, k_fm⟩
  obtain ⟨e0, e0n⟩ := mtB_ok t_e0
  obtain ⟨e1, e1n⟩ := mtB_ok t_e1
  obtain ⟨e2, e2n⟩ := mtB_ok t_e2
  obtain ⟨e3, e3n⟩ := mtB_ok t_e3
  have mu : ∀ {B f : Addr} {m : Str}, PySem.W.findIn K (.ref B) m = some (some (.ref (He.ma K B m))) → Meth K B m f → f = He.ma K B m := fun {B f m} y z => by
    have e := y.symm.trans z.at_
    cases e
    rfl
  have XI_ : XI K (He.ga K "Expression") := ⟨fun f z => by rw [mu e0 z]; exact cfB_ok t_rE t_cE⟩
  have XH_ : XH K C (He.ga K "Expression") := ⟨fun m hm f z k => by
    rcases List.mem_cons.mp hm with rfl | hm
    · rw [mu e1 z]; exact k_i0 k
    · rcases List.mem_cons.mp hm with rfl | hm
      · rw [mu e2 z]; exact k_i1 k
      · rcases List.mem_cons.mp hm with rfl | hm
        · rw [mu e3 z]; exact k_i2 k
        · cases hm⟩
  obtain ⟨x1_Statement, x2_Statement⟩ := He.ba (List.all_eq_true.mp c10 _ (List.mem_of_getElem? (i := 0) rfl))
  have q2_Statement := c.1.at2 0 rfl x1_Statement
  obtain ⟨x1_If, x2_If⟩ := He.ba (List.all_eq_true.mp c10 _ (List.mem_of_getElem? (i := 1) rfl))
  have q2_If := c.1.at2 1 rfl x1_If
  obtain ⟨x1_Call, x2_Call⟩ := He.ba (List.all_eq_true.mp c10 _ (List.mem_of_getElem? (i := 2) rfl))
  have q2_Call := c.1.at2 2 rfl x1_Call
  obtain ⟨x1_Attempt, x2_Attempt⟩ := He.ba (List.all_eq_true.mp c10 _ (List.mem_of_getElem? (i := 3) rfl))
  have q2_Attempt := c.1.at2 3 rfl x1_Attempt
  have sq := c17
  unfold stQB at sq
  rw [HandSHeadRun.frNat_eq] at sq
  unfold stQ at sq
  obtain ⟨t_rS, sq⟩ := He.ba sq
  obtain ⟨t_cS, sq⟩ := He.ba sq
  obtain ⟨s0, sq⟩ := He.ba sq
  obtain ⟨s1, sq⟩ := He.ba sq
  obtain ⟨s2, sq⟩ := He.ba sq
  obtain ⟨k_str, k_tup⟩ := He.ba sq
  obtain ⟨s0, s0n⟩ := mtB_ok s0
  obtain ⟨s1, s1n⟩ := mtB_ok s1
  obtain ⟨s2, s2n⟩ := mtB_ok s2
  obtain ⟨d_If, d_Att⟩ := He.ba c12
  let CK : Sk → Addr := fun k => He.ga K k.cname
  have ska := fun k : Sk => skA_ok (skB_ok c14 k)
  have SS : ST2 K mg C (He.ga K "Expression") (He.ga K "Statement") CK := ⟨fun k => ownB_ok g1 g2 (ska k).1, fun k => noB_ok (ska k).2.1, PySem.W.mg_of X G (qc "Statement" (by decide)), fun k => PySem.W.mg_of X G (qc _ (nameS2 k)), fun k l => (ssB_ok c15 k l).1, fun k => (ska k).2.2.2.2.2.2.2.1, fun k => (ska k).2.2.2.2.2.2.1, fun k => (scB_ok c16 k).1, of_decide_eq_true k_str, of_decide_eq_true k_tup⟩
  have NF : NF2 K C CK := ⟨fun k l => (ssB_ok c15 k l).2, fun k => (ska k).2.2.2.2.2.2.2.2.1, fun k => (ska k).2.2.2.2.2.2.2.2.2, fun k l => ((scB_ok c16 l).2 k).1, fun k l => ((scB_ok c16 k).2 l).2⟩
  have XS : XH2 K CK (He.ga K "Statement") := ⟨fun m hm f z k => by
    rcases List.mem_cons.mp hm with rfl | hm
    · rw [mu s0 z]; exact He.eqO_ok (ska k).2.2.2.1
    · rcases List.mem_cons.mp hm with rfl | hm
      · rw [mu s1 z]; exact He.eqO_ok (ska k).2.2.2.2.1
      · rcases List.mem_cons.mp hm with rfl | hm
        · rw [mu s2 z]; exact He.eqO_ok (ska k).2.2.2.2.2.1
        · cases hm⟩
  have MKS := fun k : Sk => mkB_ok (ska k).2.2.1
  have SI : StI K (He.ga K "Statement") := by
    obtain ⟨oc, od, osl, dV, kV, doc, pm, an, cdv, ct, lk, lc⟩ := q2_Statement
    have y := c11
    unfold dfB at y
    have lk' : K.lookup (He.fAd K ("Statement", some "__init__")) = some ⟨oc, od, .func (PySem.W.fnOf "__init__" "Statement.__init__" (defArgs m_Statement_init) (defBody m_Statement_init) (defScope m_Statement_init) dV kV doc pm an cdv ct), osl⟩ := lk
    rw [lk'] at y
    cases dV with
    | ref T0 =>
      obtain ⟨o, n, a, b, lT, oT, ta, tb⟩ := twB_ok (show twB K T0 = true from y)
      have FD : FunD K "__init__" "Statement.__init__" (defArgs m_Statement_init) (defBody m_Statement_init) (defScope m_Statement_init) [.ref a, .ref b] [] (He.ma K (He.ga K "Statement") "__init__") _ := ⟨⟨oc, od, .ref T0, kV, doc, pm, an, cdv, ct, osl, rfl, lk', lc, .inr ⟨by simp, T0, o, _, n, rfl, lT, oT, .cons rfl (.cons rfl .nil)⟩, .inl rfl⟩, x2_Statement⟩
      refine ⟨_, _, a, b, FD, cfB_ok t_rS t_cS, x2_Statement, ta, tb, ?_, ?_, ?_⟩
      · obtain ⟨ds, r, bb⟩ := FD.binds1 (ps := ["self", "line", "names", "bodies"]) 4 2 (by simp) rfl fun T kV doc pm an cdv ct us its h1 h2 => match us, its, h1, h2 with
          | [_, _, _, _], [_, _], _, _ => ⟨_, rfl, rfl⟩
        cases r
        exact bb
      · exact FD.binds1 (ps := ["self", "line", "names", "bodies"]) 2 0 (by simp) rfl fun T kV doc pm an cdv ct us its h1 h2 => match us, its, h1, h2 with
          | [_, _], [_, _], _, _ => ⟨_, rfl, rfl⟩
      · exact FD.binds1 (ps := ["self", "line", "names", "bodies"]) 3 1 (by simp) rfl fun T kV doc pm an cdv ct us its h1 h2 => match us, its, h1, h2 with
          | [_, _, _], [_, _], _, _ => ⟨_, rfl, rfl⟩
    | _ => cases y
  have FI_If : ∃ (f : Addr) (fd : FuncData) (v : V), FunD K "__init__" "If.__init__" (defArgs m_If_init) (defBody m_If_init) (defScope m_If_init) [v] [] f fd ∧ Meth K (He.ga K "If") "__init__" f ∧ Binds K fd ["self", "test", "body", "otherwise"] [] ∧ (fun v => ∃ e, v = .ref e ∧ ∀ H, SqT K H e []) v ∧ (∃ ds, Vals [v] ds ∧ Binds K fd ["self", "test", "body", "otherwise"] ds) ∧
      ∀ (s : Shared) (u : Value) (us : List Value), K.In s.heap → (u :: us).length = (["self", "test", "body", "otherwise"] : List Str).length → BindsTo s fd ⟨[u], ((["self", "test", "body", "otherwise"] : List Str).drop 1).reverse.zip us.reverse⟩ ((["self", "test", "body", "otherwise"] : List Str).zip (u :: us)) := by
    obtain ⟨oc, od, osl, dV, kV, doc, pm, an, cdv, ct, lk, lc⟩ := q2_If
    have y := d_If
    unfold dflB at y
    have lk' : K.lookup (He.fAd K ("If", some "__init__")) = some ⟨oc, od, .func (PySem.W.fnOf "__init__" "If.__init__" (defArgs m_If_init) (defBody m_If_init) (defScope m_If_init) dV kV doc pm an cdv ct), osl⟩ := lk
    rw [lk'] at y
    cases dV with
    | ref T0 =>
      obtain ⟨o, n, e1, lT, oT, ta⟩ := e1B_ok (show e1B K T0 = true from y)
      have FD : FunD K "__init__" "If.__init__" (defArgs m_If_init) (defBody m_If_init) (defScope m_If_init) [V.ref e1] [] (He.ma K (He.ga K "If") "__init__") _ := ⟨⟨oc, od, .ref T0, kV, doc, pm, an, cdv, ct, osl, rfl, lk', lc, .inr ⟨by simp, T0, o, _, n, rfl, lT, oT, .cons rfl .nil⟩, .inl rfl⟩, x2_If⟩
      have mk := mkB_ok (skA_ok (skB_ok c14 .ifs)).2.2.1
      refine ⟨_, _, V.ref e1, FD, ⟨mk.init, mk.fn, x2_If⟩, ?_, ⟨e1, rfl, ta⟩, ?_, ?_⟩
      · obtain ⟨ds, r, bb⟩ := FD.binds1 (ps := ["self", "test", "body", "otherwise"]) 4 1 (by simp) rfl fun T kV doc pm an cdv ct us its h1 h2 => match us, its, h1, h2 with
          | [_, _, _, _], [_], _, _ => ⟨_, rfl, rfl⟩
        cases r
        exact bb
      · exact FD.binds1 (ps := ["self", "test", "body", "otherwise"]) 3 0 (by simp) rfl fun T kV doc pm an cdv ct us its h1 h2 => match us, its, h1, h2 with
          | [_, _, _], [_], _, _ => ⟨_, rfl, rfl⟩
      · exact bindsK1 (ps := ["self", "test", "body", "otherwise"]) FD (by simp) fun T kV doc pm an cdv ct u us its h1 h2 => match us, its, h1, h2 with
          | [_, _, _], [_], _, _ => ⟨_, rfl, rfl⟩
    | _ => cases y
  have FI_Attempt : ∃ (f : Addr) (fd : FuncData) (v : V), FunD K "__init__" "Attempt.__init__" (defArgs m_Attempt_init) (defBody m_Attempt_init) (defScope m_Attempt_init) [v] [] f fd ∧ Meth K (He.ga K "Attempt") "__init__" f ∧ Binds K fd ["self", "body", "handler"] [] ∧ (fun v => ∃ e, v = .ref e ∧ ∀ H, SqT K H e []) v ∧ (∃ ds, Vals [v] ds ∧ Binds K fd ["self", "body", "handler"] ds) ∧
      ∀ (s : Shared) (u : Value) (us : List Value), K.In s.heap → (u :: us).length = (["self", "body", "handler"] : List Str).length → BindsTo s fd ⟨[u], ((["self", "body", "handler"] : List Str).drop 1).reverse.zip us.reverse⟩ ((["self", "body", "handler"] : List Str).zip (u :: us)) := by
    obtain ⟨oc, od, osl, dV, kV, doc, pm, an, cdv, ct, lk, lc⟩ := q2_Attempt
    have y := d_Att
    unfold dflB at y
    have lk' : K.lookup (He.fAd K ("Attempt", some "__init__")) = some ⟨oc, od, .func (PySem.W.fnOf "__init__" "Attempt.__init__" (defArgs m_Attempt_init) (defBody m_Attempt_init) (defScope m_Attempt_init) dV kV doc pm an cdv ct), osl⟩ := lk
    rw [lk'] at y
    cases dV with
    | ref T0 =>
      obtain ⟨o, n, e1, lT, oT, ta⟩ := e1B_ok (show e1B K T0 = true from y)
      have FD : FunD K "__init__" "Attempt.__init__" (defArgs m_Attempt_init) (defBody m_Attempt_init) (defScope m_Attempt_init) [V.ref e1] [] (He.ma K (He.ga K "Attempt") "__init__") _ := ⟨⟨oc, od, .ref T0, kV, doc, pm, an, cdv, ct, osl, rfl, lk', lc, .inr ⟨by simp, T0, o, _, n, rfl, lT, oT, .cons rfl .nil⟩, .inl rfl⟩, x2_Attempt⟩
      have mk := mkB_ok (skA_ok (skB_ok c14 .att)).2.2.1
      refine ⟨_, _, V.ref e1, FD, ⟨mk.init, mk.fn, x2_Attempt⟩, ?_, ⟨e1, rfl, ta⟩, ?_, ?_⟩
      · obtain ⟨ds, r, bb⟩ := FD.binds1 (ps := ["self", "body", "handler"]) 3 1 (by simp) rfl fun T kV doc pm an cdv ct us its h1 h2 => match us, its, h1, h2 with
          | [_, _, _], [_], _, _ => ⟨_, rfl, rfl⟩
        cases r
        exact bb
      · exact FD.binds1 (ps := ["self", "body", "handler"]) 2 0 (by simp) rfl fun T kV doc pm an cdv ct us its h1 h2 => match us, its, h1, h2 with
          | [_, _], [_], _, _ => ⟨_, rfl, rfl⟩
      · exact bindsK1 (ps := ["self", "body", "handler"]) FD (by simp) fun T kV doc pm an cdv ct u us its h1 h2 => match us, its, h1, h2 with
          | [_, _], [_], _, _ => ⟨_, rfl, rfl⟩
    | _ => cases y
  have FI_Call : ∃ (f : Addr) (fd : FuncData) (v : V), FunD K "__init__" "Call.__init__" (defArgs m_Call_init) (defBody m_Call_init) (defScope m_Call_init) [v] [] f fd ∧ Meth K (He.ga K "Call") "__init__" f ∧ Binds K fd ["self", "name", "expression", "into"] [] ∧ (fun v => v = .non) v ∧ (∃ ds, Vals [v] ds ∧ Binds K fd ["self", "name", "expression", "into"] ds) ∧
      ∀ (s : Shared) (u : Value) (us : List Value), K.In s.heap → (u :: us).length = (["self", "name", "expression", "into"] : List Str).length → BindsTo s fd ⟨[u], ((["self", "name", "expression", "into"] : List Str).drop 1).reverse.zip us.reverse⟩ ((["self", "name", "expression", "into"] : List Str).zip (u :: us)) := by
    obtain ⟨oc, od, osl, dV, kV, doc, pm, an, cdv, ct, lk, lc⟩ := q2_Call
    have y := c13
    unfold dflB at y
    have lk' : K.lookup (He.fAd K ("Call", some "__init__")) = some ⟨oc, od, .func (PySem.W.fnOf "__init__" "Call.__init__" (defArgs m_Call_init) (defBody m_Call_init) (defScope m_Call_init) dV kV doc pm an cdv ct), osl⟩ := lk
    rw [lk'] at y
    cases dV with
    | ref T0 =>
      obtain ⟨o, n, lT, oT⟩ := n1B_ok (show n1B K T0 = true from y)
      have FD : FunD K "__init__" "Call.__init__" (defArgs m_Call_init) (defBody m_Call_init) (defScope m_Call_init) [V.non] [] (He.ma K (He.ga K "Call") "__init__") _ := ⟨⟨oc, od, .ref T0, kV, doc, pm, an, cdv, ct, osl, rfl, lk', lc, .inr ⟨by simp, T0, o, _, n, rfl, lT, oT, .cons rfl .nil⟩, .inl rfl⟩, x2_Call⟩
      have mk := mkB_ok (skA_ok (skB_ok c14 .call)).2.2.1
      refine ⟨_, _, V.non, FD, ⟨mk.init, mk.fn, x2_Call⟩, ?_, rfl, ?_, ?_⟩
      · obtain ⟨ds, r, bb⟩ := FD.binds1 (ps := ["self", "name", "expression", "into"]) 4 1 (by simp) rfl fun T kV doc pm an cdv ct us its h1 h2 => match us, its, h1, h2 with
          | [_, _, _, _], [_], _, _ => ⟨_, rfl, rfl⟩
        cases r
        exact bb
      · exact FD.binds1 (ps := ["self", "name", "expression", "into"]) 3 0 (by simp) rfl fun T kV doc pm an cdv ct us its h1 h2 => match us, its, h1, h2 with
          | [_, _, _], [_], _, _ => ⟨_, rfl, rfl⟩
      · exact bindsK1 (ps := ["self", "name", "expression", "into"]) FD (by simp) fun T kV doc pm an cdv ct u us its h1 h2 => match us, its, h1, h2 with
          | [_, _, _], [_], _, _ => ⟨_, rfl, rfl⟩
    | _ => cases y
  have D_is_name : Dfn K mg "is_name" s_is_name ["value"] := by
    obtain ⟨⟨oc, od, sl, kV, dc, pm, an, cd, ct, l, q⟩, k⟩ := qn 0 rfl
    exact dfn_mk X G (qd 0 rfl) l q k (fun us hl => match us, hl with | [_], _ => rfl) (fun us hl => match us, hl with | [_], _ => rfl)
  have D_is_integer : Dfn K mg "is_integer" s_is_integer ["value"] := by
    obtain ⟨⟨oc, od, sl, kV, dc, pm, an, cd, ct, l, q⟩, k⟩ := qn 1 rfl
    exact dfn_mk X G (qd 1 rfl) l q k (fun us hl => match us, hl with | [_], _ => rfl) (fun us hl => match us, hl with | [_], _ => rfl)
  have D_check_inside : Dfn K mg "check_inside" s_check_inside ["inside"] := by
    obtain ⟨⟨oc, od, sl, kV, dc, pm, an, cd, ct, l, q⟩, k⟩ := qn 2 rfl
    exact dfn_mk X G (qd 2 rfl) l q k (fun us hl => match us, hl with | [_], _ => rfl) (fun us hl => match us, hl with | [_], _ => rfl)
  have D_parts_with : Dfn K mg "parts_with" s_parts_with ["inside"] := by
    obtain ⟨⟨oc, od, sl, kV, dc, pm, an, cd, ct, l, q⟩, k⟩ := qn 3 rfl
    exact dfn_mk X G (qd 3 rfl) l q k (fun us hl => match us, hl with | [_], _ => rfl) (fun us hl => match us, hl with | [_], _ => rfl)
  have D_depth_with : Dfn K mg "depth_with" s_depth_with ["inside"] := by
    obtain ⟨⟨oc, od, sl, kV, dc, pm, an, cd, ct, l, q⟩, k⟩ := qn 4 rfl
    exact dfn_mk X G (qd 4 rfl) l q k (fun us hl => match us, hl with | [_], _ => rfl) (fun us hl => match us, hl with | [_], _ => rfl)
  have D_written : Dfn K mg "written" s_written ["head", "inside"] := by
    obtain ⟨⟨oc, od, sl, kV, dc, pm, an, cd, ct, l, q⟩, k⟩ := qn 5 rfl
    exact dfn_mk X G (qd 5 rfl) l q k (fun us hl => match us, hl with | [_, _], _ => rfl) (fun us hl => match us, hl with | [_, _], _ => rfl)
  have D_check_expression : Dfn K mg "check_expression" s_check_expression ["value"] := by
    obtain ⟨⟨oc, od, sl, kV, dc, pm, an, cd, ct, l, q⟩, k⟩ := qn 6 rfl
    exact dfn_mk X G (qd 6 rfl) l q k (fun us hl => match us, hl with | [_], _ => rfl) (fun us hl => match us, hl with | [_], _ => rfl)
  have D_check_name : Dfn K mg "check_name" s_check_name ["value"] := by
    obtain ⟨⟨oc, od, sl, kV, dc, pm, an, cd, ct, l, q⟩, k⟩ := qn 7 rfl
    exact dfn_mk X G (qd 7 rfl) l q k (fun us hl => match us, hl with | [_], _ => rfl) (fun us hl => match us, hl with | [_], _ => rfl)
  have D_check_body : Dfn K mg "check_body" s_check_body ["body"] := by
    obtain ⟨⟨oc, od, sl, kV, dc, pm, an, cd, ct, l, q⟩, k⟩ := qn 8 rfl
    exact dfn_mk X G (qd 8 rfl) l q k (fun us hl => match us, hl with | [_], _ => rfl) (fun us hl => match us, hl with | [_], _ => rfl)
  have D_amount_of : Dfn K mg "amount_of" s_amount_of ["bodies"] := by
    obtain ⟨⟨oc, od, sl, kV, dc, pm, an, cd, ct, l, q⟩, k⟩ := qn 9 rfl
    exact dfn_mk X G (qd 9 rfl) l q k (fun us hl => match us, hl with | [_], _ => rfl) (fun us hl => match us, hl with | [_], _ => rfl)
  have D_height_of : Dfn K mg "height_of" s_height_of ["bodies"] := by
    obtain ⟨⟨oc, od, sl, kV, dc, pm, an, cd, ct, l, q⟩, k⟩ := qn 10 rfl
    exact dfn_mk X G (qd 10 rfl) l q k (fun us hl => match us, hl with | [_], _ => rfl) (fun us hl => match us, hl with | [_], _ => rfl)
  have D_lines_inside : Dfn K mg "lines_inside" s_lines_inside ["bodies"] := by
    obtain ⟨⟨oc, od, sl, kV, dc, pm, an, cd, ct, l, q⟩, k⟩ := qn 11 rfl
    exact dfn_mk X G (qd 11 rfl) l q k (fun us hl => match us, hl with | [_], _ => rfl) (fun us hl => match us, hl with | [_], _ => rfl)
  have D_indented : Dfn K mg "indented" s_indented ["body"] := by
    obtain ⟨⟨oc, od, sl, kV, dc, pm, an, cd, ct, l, q⟩, k⟩ := qn 12 rfl
    exact dfn_mk X G (qd 12 rfl) l q k (fun us hl => match us, hl with | [_], _ => rfl) (fun us hl => match us, hl with | [_], _ => rfl)
  have D_cell : Dfn K mg "_law_cell" s_cell ["_law_script", "_law_k"] := by
    obtain ⟨⟨oc, od, sl, kV, dc, pm, an, cd, ct, l, q⟩, k⟩ := qn 13 rfl
    exact dfn_mk X G (qd 13 rfl) l q k (fun us hl => match us, hl with | [_, _], _ => rfl) (fun us hl => match us, hl with | [_, _], _ => rfl)
  have D_purse : Dfn K mg "_law_purse" s_purse ["_law_cell_here"] := by
    obtain ⟨⟨oc, od, sl, kV, dc, pm, an, cd, ct, l, q⟩, k⟩ := qn 14 rfl
    exact dfn_mk X G (qd 14 rfl) l q k (fun us hl => match us, hl with | [_], _ => rfl) (fun us hl => match us, hl with | [_], _ => rfl)
  have D_draw : Dfn K mg "_law_draw" s_draw ["_law_purse_here", "_law_many"] := by
    obtain ⟨⟨oc, od, sl, kV, dc, pm, an, cd, ct, l, q⟩, k⟩ := qn 15 rfl
    exact dfn_mk X G (qd 15 rfl) l q k (fun us hl => match us, hl with | [_, _], _ => rfl) (fun us hl => match us, hl with | [_, _], _ => rfl)
  have D_name : Dfn K mg "_law_name" s_name ["_law_purse_here"] := by
    obtain ⟨⟨oc, od, sl, kV, dc, pm, an, cd, ct, l, q⟩, k⟩ := qn 16 rfl
    exact dfn_mk X G (qd 16 rfl) l q k (fun us hl => match us, hl with | [_], _ => rfl) (fun us hl => match us, hl with | [_], _ => rfl)
  have D_fresh : Dfn K mg "_law_fresh" s_fresh ["_law_purse_here", "_law_taken"] := by
    obtain ⟨⟨oc, od, sl, kV, dc, pm, an, cd, ct, l, q⟩, k⟩ := qn 17 rfl
    exact dfn_mk X G (qd 17 rfl) l q k (fun us hl => match us, hl with | [_, _], _ => rfl) (fun us hl => match us, hl with | [_, _], _ => rfl)
  have D_names : Dfn K mg "_law_names" s_names ["_law_purse_here", "_law_many", "_law_taken"] := by
    obtain ⟨⟨oc, od, sl, kV, dc, pm, an, cd, ct, l, q⟩, k⟩ := qn 18 rfl
    exact dfn_mk X G (qd 18 rfl) l q k (fun us hl => match us, hl with | [_, _, _], _ => rfl) (fun us hl => match us, hl with | [_, _, _], _ => rfl)
  have D_text : Dfn K mg "_law_text" s_text ["_law_tree_here"] := by
    obtain ⟨⟨oc, od, sl, kV, dc, pm, an, cd, ct, l, q⟩, k⟩ := qn 19 rfl
    exact dfn_mk X G (qd 19 rfl) l q k (fun us hl => match us, hl with | [_], _ => rfl) (fun us hl => match us, hl with | [_], _ => rfl)
  have D_leaf : Dfn K mg "_law_leaf" s_leaf ["_law_purse_here", "_law_names_here"] := by
    obtain ⟨⟨oc, od, sl, kV, dc, pm, an, cd, ct, l, q⟩, k⟩ := qn 20 rfl
    exact dfn_mk X G (qd 20 rfl) l q k (fun us hl => match us, hl with | [_, _], _ => rfl) (fun us hl => match us, hl with | [_, _], _ => rfl)
  have D_tree : Dfn K mg "_law_tree" s_tree ["_law_purse_here", "_law_deep", "_law_room", "_law_names_here"] := by
    obtain ⟨⟨oc, od, sl, kV, dc, pm, an, cd, ct, l, q⟩, k⟩ := qn 21 rfl
    exact dfn_mk X G (qd 21 rfl) l q k (fun us hl => match us, hl with | [_, _, _, _], _ => rfl) (fun us hl => match us, hl with | [_, _, _, _], _ => rfl)
  have D_joined : Dfn K mg "_law_joined" s_joined ["_law_word", "_law_one", "_law_two"] := by
    obtain ⟨⟨oc, od, sl, kV, dc, pm, an, cd, ct, l, q⟩, k⟩ := qn 22 rfl
    exact dfn_mk X G (qd 22 rfl) l q k (fun us hl => match us, hl with | [_, _, _], _ => rfl) (fun us hl => match us, hl with | [_, _, _], _ => rfl)
  have D_made : Dfn K mg "_law_made" s_made ["_law_tree_here"] := by
    obtain ⟨⟨oc, od, sl, kV, dc, pm, an, cd, ct, l, q⟩, k⟩ := qn 23 rfl
    exact dfn_mk X G (qd 23 rfl) l q k (fun us hl => match us, hl with | [_], _ => rfl) (fun us hl => match us, hl with | [_], _ => rfl)
  have D_head : Dfn K mg "_law_head" s_head ["_law_each"] := by
    obtain ⟨⟨oc, od, sl, kV, dc, pm, an, cd, ct, l, q⟩, k⟩ := qn 24 rfl
    exact dfn_mk X G (qd 24 rfl) l q k (fun us hl => match us, hl with | [_], _ => rfl) (fun us hl => match us, hl with | [_], _ => rfl)
  have D_inner : Dfn K mg "_law_inner" s_inner ["_law_each"] := by
    obtain ⟨⟨oc, od, sl, kV, dc, pm, an, cd, ct, l, q⟩, k⟩ := qn 25 rfl
    exact dfn_mk X G (qd 25 rfl) l q k (fun us hl => match us, hl with | [_], _ => rfl) (fun us hl => match us, hl with | [_], _ => rfl)
  have D_rows : Dfn K mg "_law_rows" s_rows ["_law_steps_here", "_law_level"] := by
    obtain ⟨⟨oc, od, sl, kV, dc, pm, an, cd, ct, l, q⟩, k⟩ := qn 26 rfl
    exact dfn_mk X G (qd 26 rfl) l q k (fun us hl => match us, hl with | [_, _], _ => rfl) (fun us hl => match us, hl with | [_, _], _ => rfl)
  have D_amount : Dfn K mg "_law_amount" s_amount ["_law_steps_here"] := by
    obtain ⟨⟨oc, od, sl, kV, dc, pm, an, cd, ct, l, q⟩, k⟩ := qn 27 rfl
    exact dfn_mk X G (qd 27 rfl) l q k (fun us hl => match us, hl with | [_], _ => rfl) (fun us hl => match us, hl with | [_], _ => rfl)
  have D_height : Dfn K mg "_law_height" s_height ["_law_steps_here"] := by
    obtain ⟨⟨oc, od, sl, kV, dc, pm, an, cd, ct, l, q⟩, k⟩ := qn 28 rfl
    exact dfn_mk X G (qd 28 rfl) l q k (fun us hl => match us, hl with | [_], _ => rfl) (fun us hl => match us, hl with | [_], _ => rfl)
  have D_step : Dfn K mg "_law_step" s_step ["_law_purse_here", "_law_deep", "_law_names_here", "_law_outs"] := by
    obtain ⟨⟨oc, od, sl, kV, dc, pm, an, cd, ct, l, q⟩, k⟩ := qn 29 rfl
    exact dfn_mk X G (qd 29 rfl) l q k (fun us hl => match us, hl with | [_, _, _, _], _ => rfl) (fun us hl => match us, hl with | [_, _, _, _], _ => rfl)
  have D_steps : Dfn K mg "_law_steps" s_steps ["_law_purse_here", "_law_deep", "_law_names_here", "_law_outs"] := by
    obtain ⟨⟨oc, od, sl, kV, dc, pm, an, cd, ct, l, q⟩, k⟩ := qn 30 rfl
    exact dfn_mk X G (qd 30 rfl) l q k (fun us hl => match us, hl with | [_, _, _, _], _ => rfl) (fun us hl => match us, hl with | [_, _, _, _], _ => rfl)
  have D_lot : Dfn K mg "_law_lot" s_lot ["_law_steps_here"] := by
    obtain ⟨⟨oc, od, sl, kV, dc, pm, an, cd, ct, l, q⟩, k⟩ := qn 31 rfl
    exact dfn_mk X G (qd 31 rfl) l q k (fun us hl => match us, hl with | [_], _ => rfl) (fun us hl => match us, hl with | [_], _ => rfl)
  have D_statement : Dfn K mg "_law_statement" s_statement ["_law_each"] := by
    obtain ⟨⟨oc, od, sl, kV, dc, pm, an, cd, ct, l, q⟩, k⟩ := qn 32 rfl
    exact dfn_mk X G (qd 32 rfl) l q k (fun us hl => match us, hl with | [_], _ => rfl) (fun us hl => match us, hl with | [_], _ => rfl)
  have D_kinds : Dfn K mg "_law_kinds" s_kinds ["_law_mine"] := by
    obtain ⟨⟨oc, od, sl, kV, dc, pm, an, cd, ct, l, q⟩, k⟩ := qn 33 rfl
    exact dfn_mk X G (qd 33 rfl) l q k (fun us hl => match us, hl with | [_], _ => rfl) (fun us hl => match us, hl with | [_], _ => rfl)
  have D_shown : Dfn K mg "_law_shown" s_shown ["_law_each", "_law_mine"] := by
    obtain ⟨⟨oc, od, sl, kV, dc, pm, an, cd, ct, l, q⟩, k⟩ := qn 34 rfl
    exact dfn_mk X G (qd 34 rfl) l q k (fun us hl => match us, hl with | [_, _], _ => rfl) (fun us hl => match us, hl with | [_, _], _ => rfl)
  have D_named : Dfn K mg "_law_named" s_named ["_law_each"] := by
    obtain ⟨⟨oc, od, sl, kV, dc, pm, an, cd, ct, l, q⟩, k⟩ := qn 35 rfl
    exact dfn_mk X G (qd 35 rfl) l q k (fun us hl => match us, hl with | [_], _ => rfl) (fun us hl => match us, hl with | [_], _ => rfl)
  have D_around_right : Dfn K mg "_law_around_right" s_around_right ["_law_lots", "_law_inner_here"] := by
    obtain ⟨⟨oc, od, sl, kV, dc, pm, an, cd, ct, l, q⟩, k⟩ := qn 36 rfl
    exact dfn_mk X G (qd 36 rfl) l q k (fun us hl => match us, hl with | [_, _], _ => rfl) (fun us hl => match us, hl with | [_, _], _ => rfl)
  have D_equal_right : Dfn K mg "_law_equal_right" s_equal_right ["_law_some", "_law_mine"] := by
    obtain ⟨⟨oc, od, sl, kV, dc, pm, an, cd, ct, l, q⟩, k⟩ := qn 37 rfl
    exact dfn_mk X G (qd 37 rfl) l q k (fun us hl => match us, hl with | [_, _], _ => rfl) (fun us hl => match us, hl with | [_, _], _ => rfl)
  have D_right : Dfn K mg "_law_right" s_right ["_law_purse_here"] := by
    obtain ⟨⟨oc, od, sl, kV, dc, pm, an, cd, ct, l, q⟩, k⟩ := qn 38 rfl
    exact dfn_mk X G (qd 38 rfl) l q k (fun us hl => match us, hl with | [_], _ => rfl) (fun us hl => match us, hl with | [_], _ => rfl)
  have E_Expression_init : Mth K (He.ga K "Expression") "__init__" "Expression.__init__" m_Expression_init ["self", "head", "inside"] := by
    obtain ⟨⟨oc, od, sl, kV, dc, pm, an, cd, ct, l, q⟩, k⟩ := qn 40 rfl
    exact mth_mk (h := h) e0 e0n l q k (fun us hl => match us, hl with | [_, _, _], _ => rfl) (fun u us hl => match us, hl with | [_, _], _ => rfl)
  have E_Expression_eq : Mth K (He.ga K "Expression") "__eq__" "Expression.__eq__" m_Expression_eq ["self", "other"] := by
    obtain ⟨⟨oc, od, sl, kV, dc, pm, an, cd, ct, l, q⟩, k⟩ := qn 41 rfl
    exact mth_mk (h := h) e1 e1n l q k (fun us hl => match us, hl with | [_, _], _ => rfl) (fun u us hl => match us, hl with | [_], _ => rfl)
  have E_Expression_str : Mth K (He.ga K "Expression") "__str__" "Expression.__str__" m_Expression_str ["self"] := by
    obtain ⟨⟨oc, od, sl, kV, dc, pm, an, cd, ct, l, q⟩, k⟩ := qn 42 rfl
    exact mth_mk (h := h) e2 e2n l q k (fun us hl => match us, hl with | [_], _ => rfl) (fun u us hl => match us, hl with | [], _ => rfl)
  have E_Expression_repr : Mth K (He.ga K "Expression") "__repr__" "Expression.__repr__" m_Expression_repr ["self"] := by
    obtain ⟨⟨oc, od, sl, kV, dc, pm, an, cd, ct, l, q⟩, k⟩ := qn 43 rfl
    exact mth_mk (h := h) e3 e3n l q k (fun us hl => match us, hl with | [_], _ => rfl) (fun u us hl => match us, hl with | [], _ => rfl)
  have E_Number_init : Mth K (C .num) "__init__" "Number.__init__" m_Number_init ["self", "number"] := by
    obtain ⟨⟨oc, od, sl, kV, dc, pm, an, cd, ct, l, q⟩, k⟩ := qn 44 rfl
    exact mth_mk (h := h) (k_mk .num).init (k_mk .num).fn l q k (fun us hl => match us, hl with | [_, _], _ => rfl) (fun u us hl => match us, hl with | [_], _ => rfl)
  have E_Variable_init : Mth K (C .var) "__init__" "Variable.__init__" m_Variable_init ["self", "name"] := by
    obtain ⟨⟨oc, od, sl, kV, dc, pm, an, cd, ct, l, q⟩, k⟩ := qn 45 rfl
    exact mth_mk (h := h) (k_mk .var).init (k_mk .var).fn l q k (fun us hl => match us, hl with | [_, _], _ => rfl) (fun u us hl => match us, hl with | [_], _ => rfl)
  have E_Plus_init : Mth K (C (.bi .plus)) "__init__" "Plus.__init__" m_Plus_init ["self", "first", "second"] := by
    obtain ⟨⟨oc, od, sl, kV, dc, pm, an, cd, ct, l, q⟩, k⟩ := qn 46 rfl
    exact mth_mk (h := h) (k_mk (.bi .plus)).init (k_mk (.bi .plus)).fn l q k (fun us hl => match us, hl with | [_, _, _], _ => rfl) (fun u us hl => match us, hl with | [_, _], _ => rfl)
  have E_Minus_init : Mth K (C (.bi .minus)) "__init__" "Minus.__init__" m_Minus_init ["self", "first", "second"] := by
    obtain ⟨⟨oc, od, sl, kV, dc, pm, an, cd, ct, l, q⟩, k⟩ := qn 47 rfl
    exact mth_mk (h := h) (k_mk (.bi .minus)).init (k_mk (.bi .minus)).fn l q k (fun us hl => match us, hl with | [_, _, _], _ => rfl) (fun u us hl => match us, hl with | [_, _], _ => rfl)
  have E_Times_init : Mth K (C (.bi .times)) "__init__" "Times.__init__" m_Times_init ["self", "first", "second"] := by
    obtain ⟨⟨oc, od, sl, kV, dc, pm, an, cd, ct, l, q⟩, k⟩ := qn 48 rfl
    exact mth_mk (h := h) (k_mk (.bi .times)).init (k_mk (.bi .times)).fn l q k (fun us hl => match us, hl with | [_, _, _], _ => rfl) (fun u us hl => match us, hl with | [_, _], _ => rfl)
  have E_TimesI : MthI K (C (.bi .times)) "__init__" "Times.__init__" m_Times_init ["self", "first", "second"] := by
    obtain ⟨⟨oc, od, sl, kV, dc, pm, an, cd, ct, l, q⟩, k⟩ := qn 48 rfl
    exact ⟨_, _, fun_mk (st := m_Times_init) l q k, ⟨(k_mk (.bi .times)).init, (k_mk (.bi .times)).fn, k⟩, fun s u us hl => match us, hl with | [_, _], _ => .of_eq rfl⟩
  have E_Equal_init : Mth K (C (.bi .equal)) "__init__" "Equal.__init__" m_Equal_init ["self", "first", "second"] := by
    obtain ⟨⟨oc, od, sl, kV, dc, pm, an, cd, ct, l, q⟩, k⟩ := qn 49 rfl
    exact mth_mk (h := h) (k_mk (.bi .equal)).init (k_mk (.bi .equal)).fn l q k (fun us hl => match us, hl with | [_, _, _], _ => rfl) (fun u us hl => match us, hl with | [_, _], _ => rfl)
  have E_Below_init : Mth K (C (.bi .below)) "__init__" "Below.__init__" m_Below_init ["self", "first", "second"] := by
    obtain ⟨⟨oc, od, sl, kV, dc, pm, an, cd, ct, l, q⟩, k⟩ := qn 50 rfl
    exact mth_mk (h := h) (k_mk (.bi .below)).init (k_mk (.bi .below)).fn l q k (fun us hl => match us, hl with | [_, _, _], _ => rfl) (fun u us hl => match us, hl with | [_, _], _ => rfl)
  have E_Both_init : Mth K (C (.bi .both)) "__init__" "Both.__init__" m_Both_init ["self", "first", "second"] := by
    obtain ⟨⟨oc, od, sl, kV, dc, pm, an, cd, ct, l, q⟩, k⟩ := qn 51 rfl
    exact mth_mk (h := h) (k_mk (.bi .both)).init (k_mk (.bi .both)).fn l q k (fun us hl => match us, hl with | [_, _, _], _ => rfl) (fun u us hl => match us, hl with | [_, _], _ => rfl)
  have E_Either_init : Mth K (C (.bi .either)) "__init__" "Either.__init__" m_Either_init ["self", "first", "second"] := by
    obtain ⟨⟨oc, od, sl, kV, dc, pm, an, cd, ct, l, q⟩, k⟩ := qn 52 rfl
    exact mth_mk (h := h) (k_mk (.bi .either)).init (k_mk (.bi .either)).fn l q k (fun us hl => match us, hl with | [_, _, _], _ => rfl) (fun u us hl => match us, hl with | [_, _], _ => rfl)
  have E_Not_init : Mth K (C .un) "__init__" "Not.__init__" m_Not_init ["self", "first"] := by
    obtain ⟨⟨oc, od, sl, kV, dc, pm, an, cd, ct, l, q⟩, k⟩ := qn 53 rfl
    exact mth_mk (h := h) (k_mk .un).init (k_mk .un).fn l q k (fun us hl => match us, hl with | [_, _], _ => rfl) (fun u us hl => match us, hl with | [_], _ => rfl)
  have E_Choose_init : Mth K (C .ch) "__init__" "Choose.__init__" m_Choose_init ["self", "test", "first", "second"] := by
    obtain ⟨⟨oc, od, sl, kV, dc, pm, an, cd, ct, l, q⟩, k⟩ := qn 54 rfl
    exact mth_mk (h := h) (k_mk .ch).init (k_mk .ch).fn l q k (fun us hl => match us, hl with | [_, _, _, _], _ => rfl) (fun u us hl => match us, hl with | [_, _, _], _ => rfl)
  have E_Statement_eq : Mth K (He.ga K "Statement") "__eq__" "Statement.__eq__" m_Statement_eq ["self", "other"] := by
    obtain ⟨⟨oc, od, sl, kV, dc, pm, an, cd, ct, l, q⟩, k⟩ := qn 55 rfl
    exact mth_mk (h := h) s0 s0n l q k (fun us hl => match us, hl with | [_, _], _ => rfl) (fun u us hl => match us, hl with | [_], _ => rfl)
  have E_Statement_str : Mth K (He.ga K "Statement") "__str__" "Statement.__str__" m_Statement_str ["self"] := by
    obtain ⟨⟨oc, od, sl, kV, dc, pm, an, cd, ct, l, q⟩, k⟩ := qn 56 rfl
    exact mth_mk (h := h) s1 s1n l q k (fun us hl => match us, hl with | [_], _ => rfl) (fun u us hl => match us, hl with | [], _ => rfl)
  have E_Statement_repr : Mth K (He.ga K "Statement") "__repr__" "Statement.__repr__" m_Statement_repr ["self"] := by
    obtain ⟨⟨oc, od, sl, kV, dc, pm, an, cd, ct, l, q⟩, k⟩ := qn 57 rfl
    exact mth_mk (h := h) s2 s2n l q k (fun us hl => match us, hl with | [_], _ => rfl) (fun u us hl => match us, hl with | [], _ => rfl)
  have E_Assign_init : Mth K (He.ga K "Assign") "__init__" "Assign.__init__" m_Assign_init ["self", "name", "expression"] := by
    obtain ⟨⟨oc, od, sl, kV, dc, pm, an, cd, ct, l, q⟩, k⟩ := qn 58 rfl
    exact mth_mk (h := h) (MKS .assign).init (MKS .assign).fn l q k (fun us hl => match us, hl with | [_, _, _], _ => rfl) (fun u us hl => match us, hl with | [_, _], _ => rfl)
  have E_While_init : Mth K (He.ga K "While") "__init__" "While.__init__" m_While_init ["self", "test", "body"] := by
    obtain ⟨⟨oc, od, sl, kV, dc, pm, an, cd, ct, l, q⟩, k⟩ := qn 59 rfl
    exact mth_mk (h := h) (MKS .whl).init (MKS .whl).fn l q k (fun us hl => match us, hl with | [_, _, _], _ => rfl) (fun u us hl => match us, hl with | [_, _], _ => rfl)
  have E_Return_init : Mth K (He.ga K "Return") "__init__" "Return.__init__" m_Return_init ["self", "expression"] := by
    obtain ⟨⟨oc, od, sl, kV, dc, pm, an, cd, ct, l, q⟩, k⟩ := qn 60 rfl
    exact mth_mk (h := h) (MKS .ret).init (MKS .ret).fn l q k (fun us hl => match us, hl with | [_, _], _ => rfl) (fun u us hl => match us, hl with | [_], _ => rfl)
  have E_Fail_init : Mth K (He.ga K "Fail") "__init__" "Fail.__init__" m_Fail_init ["self"] := by
    obtain ⟨⟨oc, od, sl, kV, dc, pm, an, cd, ct, l, q⟩, k⟩ := qn 61 rfl
    exact mth_mk (h := h) (MKS .fail).init (MKS .fail).fn l q k (fun us hl => match us, hl with | [_], _ => rfl) (fun u us hl => match us, hl with | [], _ => rfl)
  obtain ⟨⟨oc, od, sl, kV, dc, pm, an, cd, ct, ll, lc⟩, lk⟩ := qn 39 rfl
  have eL : fa = He.ga K "law" := by
    have e := hfa.symm.trans (PySem.W.mg_of X G (qd 39 rfl))
    cases e
    rfl
  subst eL
  refine ⟨PySem.W.fnOf "law" "law" (defArgs s_law) (defBody s_law) (defScope s_law) .none kV dc pm an cd ct, fun s v => .of_eq rfl, fun base _ _ => ?_⟩
  have p1 := ok_is_integer (P := P) (w := w) (base := base) T D_is_integer
  have p2 := ok_is_name (P := P) (w := w) (base := base) T D_is_name
  have w1 := ok_parts_with (P := P) (w := w) (base := base) T XX D_parts_with
  have w2 := ok_depth_with (P := P) (w := w) (base := base) T XX D_depth_with
  have w3 := ok_check_inside T XX D_check_inside w1 w2
  have w4 := ok_written (P := P) (w := w) (base := base) T XX D_written
  have w5 := ok_exi T XX E_Expression_init w1 w2 w3 w4
  have b0 := ok_Plus XX XI_ E_Plus_init w5
  have b1 := ok_Minus XX XI_ E_Minus_init w5
  have b2 := ok_Times XX XI_ E_Times_init w5
  have b3 := ok_Equal XX XI_ E_Equal_init w5
  have b4 := ok_Below XX XI_ E_Below_init w5
  have b5 := ok_Both XX XI_ E_Both_init w5
  have b6 := ok_Either XX XI_ E_Either_init w5
  have MM : Makes P w K mg base C := ⟨fun k => ⟨_, k_mk k⟩, ok_Number T XX XI_ E_Number_init w5 p1, ok_Variable T XX XI_ E_Variable_init w5 p2, ok_Not XX XI_ E_Not_init w5, fun k => match k with
    | .plus => b0
    | .minus => b1
    | .times => b2
    | .equal => b3
    | .below => b4
    | .both => b5
    | .either => b6, ok_TimesI XX XI_ E_TimesI w5, ok_Choose XX XI_ E_Choose_init w5⟩
  have o1 := own_of (k := 1) XH_ (by decide) (ok_exeq (P := P) (w := w) (base := base) T XX E_Expression_eq)
  have o2 := own_of (k := 1) XH_ (by decide) (ok_exstr (P := P) (w := w) (base := base) T XX E_Expression_str)
  have o3 := own_of (k := 1) XH_ (by decide) (ok_exrepr (P := P) (w := w) (base := base) T XX E_Expression_repr)
  have j1 := ok_cell (P := P) (w := w) (base := base) T D_cell
  have j2 := ok_purse (P := P) (w := w) (base := base) T D_purse
  have j3 := ok_draw (P := P) (w := w) (base := base) T D_draw
  have j4 := ok_name T D_name j3
  have j5 := ok_fresh T D_fresh j4
  have j6 := ok_names T D_names j5
  have a1 := ok_amount_of (P := P) (w := w) (base := base) T SS D_amount_of
  have a2 := ok_height_of (P := P) (w := w) (base := base) T SS D_height_of
  have a3 := ok_indented (P := P) (w := w) (base := base) T SS D_indented
  have a4 := ok_lines_inside T SS D_lines_inside a3
  have SC := stC_of T SS SI a1 a2 a4
  have cx := ok_check_expression (P := P) (w := w) (base := base) T XX D_check_expression
  have cn := ok_check_name D_check_name p2
  have cb := ok_check_body (P := P) (w := w) (base := base) T SS D_check_body
  have XM : ∀ k, PySem.W.mroIn K (C k) (.type "object") = some true := fun k => (XX.own k).hm
  have MSS : MakesS P w K mg base C CK := by
    obtain ⟨fI, dI, vI, FDI, mI, bI, hI, eI, kI⟩ := FI_If
    obtain ⟨fT, dT, vT, FDT, mT, bT, hT, eT, kT⟩ := FI_Attempt
    obtain ⟨fC, dC, vC, FDC, mC, bC, hC, eC, kC⟩ := FI_Call
    exact ⟨fun k => ⟨_, MKS k⟩, ok_assign T XX XM o2 SS SC cx cn cb E_Assign_init, ⟨fI, dI, vI, ok_if T XX XM o2 SS SC cx cn cb FDI, mI, bI, hI, eI, kI⟩, ok_while T XX XM o2 SS SC cx cn cb E_While_init, ⟨fC, dC, vC, ok_call T XX XM o2 SS SC cx cn cb FDC, mC, bC, hC, eC, kC⟩, ok_return T XX XM o2 SS SC cx cn cb E_Return_init, ok_fail SS SC E_Fail_init, ⟨fT, dT, vT, ok_attempt SS SC cb FDT, mT, bT, hT, eT, kT⟩⟩
  have so0 := own2_of (k := 1) XS (by decide) (ok_steq (P := P) (w := w) (base := base) T SS E_Statement_eq)
  have so1 := own2_of (k := 1) XS (by decide) (ok_ststr (P := P) (w := w) (base := base) T SS E_Statement_str)
  have so2 := own2_of (k := 1) XS (by decide) (ok_strepr (P := P) (w := w) (base := base) T SS E_Statement_repr)
  have h0 := ok_text (P := P) (w := w) (base := base) T D_text 6
  have h2 := ok_leaf T D_leaf j3
  have h3 := ok_tree T D_tree j3 h2 3
  have h4 := ok_joined XX MM D_joined
  have h5 := ok_made T XX MM D_made h4 6
  have hh := fun n => ok_head T n D_head h0
  have hi := ok_inner (P := P) (w := w) (base := base) T D_inner
  have hr := ok_rows T D_rows hh hi
  have ha := ok_amount T D_amount hi
  have hg := ok_height T D_height hi
  have st := ok_statement T SS MSS D_statement D_lot h5
  have l2 := ok_lot T 2 19 D_lot (st 2)
  have nm := ok_named T SS MSS D_named h5 2 20 (by decide) l2
  have kd := ok_kinds (P := P) (w := w) (base := base) T SS D_kinds
  have sh := ok_shown T 4 (by decide) SS so1 so2 D_shown kd (ha 4) (hg 4) (hr 4)
  have eq := ok_eqr T XX SS NF MM MSS o1 so0 D_equal_right (hr 3) (st 3) nm
  have ar := ok_around T XX SS MM MSS o2 D_around_right sh
  have sp := ok_step T D_step D_steps j3 h3 3
  have rr := ok_right T D_right j3 j6 sp (st 3) nm sh ar eq
  exact ok_law (fun_mk (st := s_law) ll lc lk) T j1 j2 rr
end Jo

set_option Elab.async false
set_option linter.all false
set_option maxRecDepth 100000
set_option maxHeartbeats 2000000
open PySem PySem.W PySem.Calls PyProof.Rows
theorem PySem.Challenge.cw_reentry_k11_statements_made_holds : PySem.Challenge.rw_reentry_k11_statements_made.Holds := by
  w_on; o_law
  refine HandSHeadRun.head_any (r := OpenLaw.row PySem.Challenge.rw_reentry_k11_statements_made) (q := view (OpenLaw.row PySem.Challenge.rw_reentry_k11_statements_made).prog [80]) (H := Jo.hk) (ob := Jo.ob) (M := 13000) (loose := Jo.namesA) (d := HandSHeadRun.topDef (OpenLaw.row PySem.Challenge.rw_reentry_k11_statements_made).prog 80) (kwd := []) Jo.ob_eq
    (by kernel_rfl) (fun s => by kernel_rfl) Jo.run (by kernel_rfl) (by kernel_rfl) (by kernel_rfl) (by rfl) (by first | assumption | decide +kernel) (by decide +kernel) ⟨rfl, rfl, rfl, rfl, rfl, by decide +kernel⟩ ?hw ?hc
  case hw => w_witness2
  case hc =>
    refine Jo.walk_ofEG (l := PySem.Challenge.rw_reentry_k11_statements_made) (n := 63) (k := 24) (x := "_law_script") rfl (by decide) (by kernel_rfl) ⟨rfl, by decide, by decide⟩ ?F
    intro w mg fa h Y G hmg0
    obtain ⟨K, KX, c⟩ := Y
    have hmg : mg ("law" : PySem.Str) = some (.ref fa) := by
      have e : (HandSHeadRun.topDef (OpenLaw.row PySem.Challenge.rw_reentry_k11_statements_made).prog 80).name = ("law" : PySem.Str) := by kernel_rfl
      rw [← e]
      exact hmg0
    obtain ⟨fd, hb, hF⟩ := Jo.facts (P := (PySem.Challenge.rw_reentry_k11_statements_made).prog) (w := w) KX G hmg c
    exact ⟨K, fd, Jo.spLaw K, KX, hb, fun H a ns hl _ _ hS => ⟨a, ns, rfl, hS, hl, fun _ => rfl⟩, hF⟩

