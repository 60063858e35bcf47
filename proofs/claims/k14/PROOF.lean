import PyProof.Rows.All
import Wide.All
import OpenK.AllK
import Wide.FinOn
import KE.KStateDown
import HandS.Head0
import HandS.Head1
import HandS.Head2
import HandS.HeadHook1
import HandS.Defaults
import HandS.HeadHook3
import HandS.HeadHook4
import HandS.ForMost
import HandS.EndBits
import HandS.MakeKwOnly
import HandS.SetBool
import HandS.SetKeys
import HandS.More
import PyProof.Rows.StrMeet
import HandS.Text
import HandS.TupAny
import HandS.TupLe
import HandS.Wide
import HandS.Codes
import HandS.Words
import HandS.Strs
import HandS.OwnEq
import HandS.FStr
import HandS.IsInst
import HandS.SortKw
import KE.DataMinMax
import KE.KFmtOwn
import KE.KCallOwn
import HandS.ClsMeth
import HandS.Walk
import KE.GoesEnum
import HandS.ExcInit
import KE.KExcIs
import KE.KExcInit
import HandS.ExcValue
import HandS.SetFor
import HandS.ExcField
import HandS.Dict
import PyProof.StrLawsRepr
import PyProof.CallFns
import HandS.ExcCtx
import HandS.Hot
import HandS.HotCalls
import HandS.Exc
import HandS.TryMany
import HandS.ExcOwn
import HandS.WordsExc
import HandS.CallSlots
import HandS.SuiteRaise
import HandS.RaiseFrom
import HandS.Lambda
import HandS.ExcInitHot
import HandS.Deep
import HandS.Comp
import PyProof.NeKinds
import HandS.RaiseMore
import HandS.Style
import HandS.StrMore
import HandS.TryOnly
import PySem.Challenge.RW_reentry_k14_entries
set_option Elab.async false
set_option linter.all false
set_option maxRecDepth 100000
/-! What the end of a top is asked, in the kernel's run: one truth over the part of the heap that the names reach, and the defs. -/
namespace Jo
open PySem PySem.Spec PyProof.Rows
/-- the list's spine, .. and its numbers, ahead of what follows -/
def frL {α β : Type} : List α → (List α → β) → β
  | [], k => k []
  | x :: xs, k => frL xs fun ys => k (x :: ys)
theorem frL_eq {α β : Type} : ∀ (xs : List α) (k : List α → β), frL xs k = k xs
  | [], _ => rfl
  | x :: xs, k => by
    unfold frL
    exact frL_eq xs _
def frA {β : Type} : List Addr → (List Addr → β) → β
  | [], k => k []
  | x :: xs, k => HandSHeadRun.frNat x fun x => frA xs fun ys => k (x :: ys)
theorem frA_eq {β : Type} : ∀ (xs : List Addr) (k : List Addr → β), frA xs k = k xs
  | [], _ => rfl
  | x :: xs, k => by
    unfold frA
    rw [HandSHeadRun.frNat_eq]
    exact frA_eq xs _
/-- what an object names: what stands under its names, a def's code and defaults, a class's names, a row's elements -/
def refsJ (o : Obj) : List Addr := match o.data with
  | .seq its _ => its.toList.flatMap He.refV
  | .dict es _ => es.toList.flatMap fun e => He.refV e.val
  | .func fd => He.refV fd.code ++ He.refV fd.defaults ++ He.refV fd.kwdefaults
  | .cls cd => [cd.ns]
  | _ => []
def nextJ (g : Addr → Option Obj) (as : List Addr) : List Addr := as.flatMap fun a => match g a with
  | some o => refsJ o
  | none => []
def asJ (g : Addr → Option Obj) : Nat → List Addr → List Addr → List Addr
  | 0, _, all => all
  | n + 1, as, all => asJ g n (nextJ g as) (all ++ nextJ g as)
def asF {β : Type} (g : Addr → Option Obj) : Nat → List Addr → List Addr → (List Addr → β) → β
  | 0, _, all, k => frL all k
  | n + 1, as, all, k => frA (nextJ g as) fun bs => asF g n bs (all ++ bs) k
theorem asF_eq {β : Type} {g : Addr → Option Obj} : ∀ (n : Nat) (as all : List Addr) (k : List Addr → β), asF g n as all k = k (asJ g n as all)
  | 0, _, all, k => frL_eq all k
  | n + 1, as, all, k => by
    unfold asF asJ
    rw [frA_eq]
    exact asF_eq n _ _ k
abbrev AlJ : Type := Bool × List He.FnV
def SaysJ (ok : PySem.W.Frag → Bool) (fn : List He.FnD) (K : PySem.W.Frag) : Prop := ok K = true ∧ fn.map (fun d => He.fnObs K d.at_) = fn.map He.FnD.val
def obsJ (n : Nat) (ok : PySem.W.Frag → Bool) (fn : List He.FnD) (g : Addr → Option Obj) : AlJ :=
  asF g n [mainGlobals] [mainGlobals] fun as => frL (He.frG g as) fun K => (ok K, fn.map fun d => He.fnObs K d.at_)
theorem obsJ_is {n : Nat} {ok : PySem.W.Frag → Bool} {fn : List He.FnD} {g : Addr → Option Obj} :
    obsJ n ok fn g = (ok (He.frG g (asJ g n [mainGlobals] [mainGlobals])), fn.map fun d => He.fnObs (He.frG g (asJ g n [mainGlobals] [mainGlobals])) d.at_) := by
  unfold obsJ
  rw [asF_eq, frL_eq]
def hookJ (n : Nat) (ok : PySem.W.Frag → Bool) (fn : List He.FnD) : PySem.W.Hook where
  α := AlJ
  obs := fun s => obsJ n ok fn s.heap.get?
  val := fun _ => (true, fn.map He.FnD.val)
  says := fun _ h => ∃ K : PySem.W.Frag, K.In h ∧ SaysJ ok fn K
  of := fun _ _ e => by
    rw [obsJ_is] at e
    exact ⟨_, He.frG_in, congrArg (fun z : AlJ => z.1) e, congrArg (fun z : AlJ => z.2) e⟩
  keeps := fun _ _ _ ⟨K, hK, c⟩ k => ⟨K, PySem.W.Frag.In.keeps hK k, c⟩
theorem obsJ_eq {n : Nat} {ok : PySem.W.Frag → Bool} {fn : List He.FnD} {g : Addr → Option Obj} {s : Shared} (h : ∀ a, g a = s.heap.get? a) : obsJ n ok fn g = (hookJ n ok fn).obs s := by
  have e : g = s.heap.get? := funext h
  rw [e] <;> rfl
theorem SaysJ.at_ {ok : PySem.W.Frag → Bool} {fn : List He.FnD} {K : PySem.W.Frag} (c : SaysJ ok fn K) (i : Nat) {d : He.FnD} (h : fn[i]? = some d) (q : (He.Fa.code d.at_ d.qual).ok K = true) :
    ∃ oc od osl kV doc pm an cdv ct, K.lookup (He.fAd K d.at_) = some ⟨oc, od, .func (PySem.W.fnOf d.name d.qual d.params d.body d.scope .none kV doc pm an cdv ct), osl⟩ ∧ PySem.W.codeIn K cdv d.qual = true := by
  have e2 : (fn.map fun d => He.fnObs K d.at_)[i]? = (fn.map He.FnD.val)[i]? := by rw [c.2]
  rw [List.getElem?_map, List.getElem?_map, h] at e2
  exact He.fn_ok (Option.some.inj e2) q
end Jo

set_option Elab.async false
set_option linter.all false
set_option maxRecDepth 100000
/-! The end of a top with defs whose defaults stand: what JoHa asks, and the defs of a second list but for their defaults. -/
namespace Jo
open PySem PySem.Spec PyProof.Rows L2
def bareD (v : He.FnV) : He.FnV := v.map fun t => (t.1, t.2.1, t.2.2.1, t.2.2.2.1, t.2.2.2.2.1, t.2.2.2.2.2.1, t.2.2.2.2.2.2.1, .none, t.2.2.2.2.2.2.2.2)
abbrev AlD : Type := AlJ × List He.FnV
def SaysD (ok : PySem.W.Frag → Bool) (fn fx : List He.FnD) (K : PySem.W.Frag) : Prop := SaysJ ok fn K ∧ fx.map (fun d => bareD (He.fnObs K d.at_)) = fx.map He.FnD.val
def obsD (n : Nat) (ok : PySem.W.Frag → Bool) (fn fx : List He.FnD) (g : Addr → Option Obj) : AlD :=
  asF g n [mainGlobals] [mainGlobals, PySem.cStatics] fun as => frL (He.frG g as) fun K => ((ok K, fn.map fun d => He.fnObs K d.at_), fx.map fun d => bareD (He.fnObs K d.at_))
theorem obsD_is {n : Nat} {ok : PySem.W.Frag → Bool} {fn fx : List He.FnD} {g : Addr → Option Obj} : ∃ K, K = He.frG g (asJ g n [mainGlobals] [mainGlobals, PySem.cStatics]) ∧
    obsD n ok fn fx g = ((ok K, fn.map fun d => He.fnObs K d.at_), fx.map fun d => bareD (He.fnObs K d.at_)) := by
  refine ⟨_, rfl, ?_⟩
  unfold obsD
  rw [asF_eq, frL_eq]
def hookD (n : Nat) (ok : PySem.W.Frag → Bool) (fn fx : List He.FnD) : PySem.W.Hook where
  α := AlD
  obs := fun s => obsD n ok fn fx s.heap.get?
  val := fun _ => ((true, fn.map He.FnD.val), fx.map He.FnD.val)
  says := fun _ h => ∃ K : PySem.W.Frag, K.In h ∧ SaysD ok fn fx K
  of := fun _ s e => by
    obtain ⟨K, hK, e2⟩ := obsD_is (n := n) (ok := ok) (fn := fn) (fx := fx) (g := s.heap.get?)
    rw [e2] at e
    exact ⟨K, by rw [hK]; exact He.frG_in, ⟨congrArg (fun z : AlD => z.1.1) e, congrArg (fun z : AlD => z.1.2) e⟩, congrArg (fun z : AlD => z.2) e⟩
  keeps := fun _ _ _ ⟨K, hK, c⟩ k => ⟨K, PySem.W.Frag.In.keeps hK k, c⟩
theorem obsD_eq {n : Nat} {ok : PySem.W.Frag → Bool} {fn fx : List He.FnD} {g : Addr → Option Obj} {s : Shared} (h : ∀ a, g a = s.heap.get? a) : obsD n ok fn fx g = (hookD n ok fn fx).obs s := by
  have e : g = s.heap.get? := funext h
  rw [e] <;> rfl
/-- a def of the second list: its defaults are dV -/
theorem SaysD.at2 {ok : PySem.W.Frag → Bool} {fn fx : List He.FnD} {K : PySem.W.Frag} (c : SaysD ok fn fx K) (i : Nat) {d : He.FnD} (h : fx[i]? = some d) (q : (He.Fa.code d.at_ d.qual).ok K = true) :
    ∃ oc od osl dV kV doc pm an cdv ct, K.lookup (He.fAd K d.at_) = some ⟨oc, od, .func (PySem.W.fnOf d.name d.qual d.params d.body d.scope dV kV doc pm an cdv ct), osl⟩ ∧ PySem.W.codeIn K cdv d.qual = true := by
  have e0 : (fx.map fun d => bareD (He.fnObs K d.at_))[i]? = (fx.map He.FnD.val)[i]? := by rw [c.2]
  rw [List.getElem?_map, List.getElem?_map, h] at e0
  have e1 : bareD (He.fnObs K d.at_) = d.val := Option.some.inj e0
  have q1 : (match K.lookup (He.fAd K d.at_) with
    | some ⟨_, _, .func fd, _⟩ => PySem.W.codeIn K fd.code d.qual
    | _ => false) = true := q
  unfold He.fnObs at e1
  split at e1
  · rename_i oc od fd osl lk
    rw [lk] at q1
    obtain ⟨a1, a2, a3, a4, a5, a6, a7, a8, a9, b1, b2, b3, b4, b5, b6⟩ := fd
    have e2 : (some (a1, a2, a3, a4, a5, a6, a7, Value.none, b6) : He.FnV) = some (d.name, d.qual, d.params, .stmts d.body, d.scope, mainGlobals, [], .none, builtinsNs) := e1
    simp only [Option.some.injEq, Prod.mk.injEq] at e2
    obtain ⟨r1, r2, r3, r4, r5, r6, r7, _, r9⟩ := e2
    subst r1 r2 r3 r4 r5 r6 r7 r9
    exact ⟨oc, od, osl, a8, a9, b1, b2, b3, b4, b5, lk, q1⟩
  · cases e1
end Jo

set_option Elab.async false
set_option linter.all false
set_option maxRecDepth 100000
/-! The end of a top that has dicts of its own: what JoHd asks, and the keys of each table. -/
namespace Jo
open PySem PySem.Spec PyProof.Rows L2
abbrev AlK : Type := AlD × List (Option (List (Option (Str × Int))))
def SaysK (ok : PySem.W.Frag → Bool) (fn fx : List He.FnD) (ts : List He.Tab) (w : World) (K : PySem.W.Frag) : Prop := SaysD ok fn fx K ∧ ts.map (fun t => He.dicW K (t.1 K)) = ts.map fun t => some (He.keysIn w.params t.2)
def obsK (n : Nat) (ok : PySem.W.Frag → Bool) (fn fx : List He.FnD) (ts : List He.Tab) (g : Addr → Option Obj) : AlK :=
  asF g n [mainGlobals] [mainGlobals, PySem.cStatics] fun as => frL (He.frG g as) fun K => (((ok K, fn.map fun d => He.fnObs K d.at_), fx.map fun d => bareD (He.fnObs K d.at_)), ts.map fun t => HandSHeadRun.frNat (t.1 K) fun a => He.dicW K a)
theorem obsK_is {n : Nat} {ok : PySem.W.Frag → Bool} {fn fx : List He.FnD} {ts : List He.Tab} {g : Addr → Option Obj} : ∃ K, K = He.frG g (asJ g n [mainGlobals] [mainGlobals, PySem.cStatics]) ∧
    obsK n ok fn fx ts g = (((ok K, fn.map fun d => He.fnObs K d.at_), fx.map fun d => bareD (He.fnObs K d.at_)), ts.map fun t => He.dicW K (t.1 K)) := by
  refine ⟨_, rfl, ?_⟩
  unfold obsK
  rw [asF_eq, frL_eq]
  congr 2
  funext t
  rw [HandSHeadRun.frNat_eq]
def hookK (n : Nat) (ok : PySem.W.Frag → Bool) (fn fx : List He.FnD) (ts : List He.Tab) : PySem.W.Hook where
  α := AlK
  obs := fun s => obsK n ok fn fx ts s.heap.get?
  val := fun w => (((true, fn.map He.FnD.val), fx.map He.FnD.val), ts.map fun t => some (He.keysIn w.params t.2))
  says := fun w h => ∃ K : PySem.W.Frag, K.In h ∧ SaysK ok fn fx ts w K
  of := fun _ s e => by
    obtain ⟨K, hK, e2⟩ := obsK_is (n := n) (ok := ok) (fn := fn) (fx := fx) (ts := ts) (g := s.heap.get?)
    rw [e2] at e
    exact ⟨K, by rw [hK]; exact He.frG_in, ⟨⟨congrArg (fun z : AlK => z.1.1.1) e, congrArg (fun z : AlK => z.1.1.2) e⟩, congrArg (fun z : AlK => z.1.2) e⟩, congrArg (fun z : AlK => z.2) e⟩
  keeps := fun _ _ _ ⟨K, hK, c⟩ k => ⟨K, PySem.W.Frag.In.keeps hK k, c⟩
theorem obsK_eq {n : Nat} {ok : PySem.W.Frag → Bool} {fn fx : List He.FnD} {ts : List He.Tab} {g : Addr → Option Obj} {s : Shared} (h : ∀ a, g a = s.heap.get? a) : obsK n ok fn fx ts g = (hookK n ok fn fx ts).obs s := by
  have e : g = s.heap.get? := funext h
  rw [e] <;> rfl
theorem SaysK.tab {ok : PySem.W.Frag → Bool} {fn fx : List He.FnD} {ts : List He.Tab} {w : World} {K : PySem.W.Frag} (c : SaysK ok fn fx ts w K) (i : Nat) {t : He.Tab} (h : ts[i]? = some t := by rfl) : ∃ es n, L2.KDict K w (t.1 K) es n := by
  have e2 : (ts.map fun t => He.dicW K (t.1 K))[i]? = (ts.map fun t => some (He.keysIn w.params t.2))[i]? := by rw [c.2]
  rw [List.getElem?_map, List.getElem?_map, h] at e2
  exact He.dicW_ok (Option.some.inj e2)
end Jo

set_option Elab.async false
set_option linter.all false
set_option maxRecDepth 100000
/-! What JoHt asks, and one def whose code object's table is empty. -/
namespace Jo
open PySem PySem.Spec PyProof.Rows L2
abbrev AlL : Type := AlK × Bool
/-- the def's code object and its table -/
def tabK (g : Addr → Option Obj) (p : He.Defn) (K : PySem.W.Frag) : Bool := HandSHeadRun.frNat (He.codeOf K p) fun c => HandSHeadRun.frNat (He.tabOf K c) fun t => PySem.W.codeHdIn K c t && ((K.lookup t).isNone && (match g t with
  | some o => He.emptyTab o
  | none => false))
structure SaysL (ok : PySem.W.Frag → Bool) (fn fx : List He.FnD) (ts : List He.Tab) (p : He.Defn) (w : World) (h : Heap) (K : PySem.W.Frag) : Prop where
  k : SaysK ok fn fx ts w K
  hd : PySem.W.codeHdIn K (He.cT K p).1 (He.cT K p).2 = true
  out : K.lookup (He.cT K p).2 = none
  empty : h.get? (He.cT K p).2 = some { cls := .none, data := .fields #[] }
def obsL (n : Nat) (ok : PySem.W.Frag → Bool) (fn fx : List He.FnD) (ts : List He.Tab) (p : He.Defn) (g : Addr → Option Obj) : AlL :=
  asF g n [mainGlobals] [mainGlobals, PySem.cStatics] fun as => frL (He.frT g as) fun K => ((((ok K, fn.map fun d => He.fnObs K d.at_), fx.map fun d => bareD (He.fnObs K d.at_)), ts.map fun t => HandSHeadRun.frNat (t.1 K) fun a => He.dicW K a), tabK g p K)
theorem obsL_is {n : Nat} {ok : PySem.W.Frag → Bool} {fn fx : List He.FnD} {ts : List He.Tab} {p : He.Defn} {g : Addr → Option Obj} : ∃ K, K = He.frT g (asJ g n [mainGlobals] [mainGlobals, PySem.cStatics]) ∧
    obsL n ok fn fx ts p g = ((((ok K, fn.map fun d => He.fnObs K d.at_), fx.map fun d => bareD (He.fnObs K d.at_)), ts.map fun t => He.dicW K (t.1 K)), tabK g p K) := by
  refine ⟨_, rfl, ?_⟩
  unfold obsL
  rw [asF_eq, frL_eq]
  congr 3
  funext t
  rw [HandSHeadRun.frNat_eq]
theorem tabK_ok {g : Addr → Option Obj} {p : He.Defn} {K : PySem.W.Frag} (h : tabK g p K = true) : PySem.W.codeHdIn K (He.cT K p).1 (He.cT K p).2 = true ∧ K.lookup (He.cT K p).2 = none ∧ g (He.cT K p).2 = some { cls := .none, data := .fields #[] } := by
  unfold tabK at h
  rw [HandSHeadRun.frNat_eq, HandSHeadRun.frNat_eq] at h
  obtain ⟨h1, h⟩ := He.ba h
  obtain ⟨h2, h3⟩ := He.ba h
  refine ⟨h1, Option.isNone_iff_eq_none.mp h2, ?_⟩
  show g (He.tabOf K (He.codeOf K p)) = _
  cases q : g (He.tabOf K (He.codeOf K p)) with
  | none =>
    rw [q] at h3
    cases h3
  | some o =>
    rw [q] at h3
    rw [He.emptyTab_eq h3]
def hookL (n : Nat) (ok : PySem.W.Frag → Bool) (fn fx : List He.FnD) (ts : List He.Tab) (p : He.Defn) : PySem.W.Hook where
  α := AlL
  obs := fun s => obsL n ok fn fx ts p s.heap.get?
  val := fun w => ((((true, fn.map He.FnD.val), fx.map He.FnD.val), ts.map fun t => some (He.keysIn w.params t.2)), true)
  says := fun w h => ∃ K : PySem.W.Frag, K.In h ∧ SaysL ok fn fx ts p w h K
  of := fun _ s e => by
    obtain ⟨K, hK, e2⟩ := obsL_is (n := n) (ok := ok) (fn := fn) (fx := fx) (ts := ts) (p := p) (g := s.heap.get?)
    rw [e2] at e
    obtain ⟨t1, t2, t3⟩ := tabK_ok (congrArg (fun z : AlL => z.2) e)
    exact ⟨K, by rw [hK]; exact He.frT_in, ⟨⟨⟨congrArg (fun z : AlL => z.1.1.1.1) e, congrArg (fun z : AlL => z.1.1.1.2) e⟩, congrArg (fun z : AlL => z.1.1.2) e⟩, congrArg (fun z : AlL => z.1.2) e⟩, t1, t2, t3⟩
  keeps := fun _ _ _ ⟨K, hK, c⟩ k => ⟨K, PySem.W.Frag.In.keeps hK k, ⟨c.k, c.hd, c.out, k _ _ c.empty⟩⟩
theorem obsL_eq {n : Nat} {ok : PySem.W.Frag → Bool} {fn fx : List He.FnD} {ts : List He.Tab} {p : He.Defn} {g : Addr → Option Obj} {s : Shared} (h : ∀ a, g a = s.heap.get? a) : obsL n ok fn fx ts p g = (hookL n ok fn fx ts p).obs s := by
  have e : g = s.heap.get? := funext h
  rw [e] <;> rfl
end Jo

set_option Elab.async false
set_option linter.all false
set_option maxRecDepth 100000
/-! What JoHt asks, and some defs whose code objects' tables are empty. -/
namespace Jo
open PySem PySem.Spec PyProof.Rows L2
abbrev AlM : Type := AlK × List Bool
structure SaysM (ok : PySem.W.Frag → Bool) (fn fx : List He.FnD) (ts : List He.Tab) (ps : List He.Defn) (w : World) (h : Heap) (K : PySem.W.Frag) : Prop where
  k : SaysK ok fn fx ts w K
  tabs : ∀ p ∈ ps, PySem.W.codeHdIn K (He.cT K p).1 (He.cT K p).2 = true ∧ K.lookup (He.cT K p).2 = none ∧ h.get? (He.cT K p).2 = some { cls := .none, data := .fields #[] }
def obsM (n : Nat) (ok : PySem.W.Frag → Bool) (fn fx : List He.FnD) (ts : List He.Tab) (ps : List He.Defn) (g : Addr → Option Obj) : AlM :=
  asF g n [mainGlobals] [mainGlobals, PySem.cStatics] fun as => frL (He.frT g as) fun K => ((((ok K, fn.map fun d => He.fnObs K d.at_), fx.map fun d => bareD (He.fnObs K d.at_)), ts.map fun t => HandSHeadRun.frNat (t.1 K) fun a => He.dicW K a), ps.map fun p => tabK g p K)
theorem obsM_is {n : Nat} {ok : PySem.W.Frag → Bool} {fn fx : List He.FnD} {ts : List He.Tab} {ps : List He.Defn} {g : Addr → Option Obj} : ∃ K, K = He.frT g (asJ g n [mainGlobals] [mainGlobals, PySem.cStatics]) ∧
    obsM n ok fn fx ts ps g = ((((ok K, fn.map fun d => He.fnObs K d.at_), fx.map fun d => bareD (He.fnObs K d.at_)), ts.map fun t => He.dicW K (t.1 K)), ps.map fun p => tabK g p K) := by
  refine ⟨_, rfl, ?_⟩
  unfold obsM
  rw [asF_eq, frL_eq]
  congr 3
  funext t
  rw [HandSHeadRun.frNat_eq]
theorem map_true {α : Type} {f : α → Bool} : ∀ {l : List α}, l.map f = l.map (fun _ => true) → ∀ x ∈ l, f x = true
  | [], _ => fun x z => nomatch z
  | y :: r, h => fun x hx => by
    injection h with h1 h2
    rcases List.mem_cons.mp hx with rfl | hx
    · exact h1
    · exact map_true h2 x hx
def hookM (n : Nat) (ok : PySem.W.Frag → Bool) (fn fx : List He.FnD) (ts : List He.Tab) (ps : List He.Defn) : PySem.W.Hook where
  α := AlM
  obs := fun s => obsM n ok fn fx ts ps s.heap.get?
  val := fun w => ((((true, fn.map He.FnD.val), fx.map He.FnD.val), ts.map fun t => some (He.keysIn w.params t.2)), ps.map fun _ => true)
  says := fun w h => ∃ K : PySem.W.Frag, K.In h ∧ SaysM ok fn fx ts ps w h K
  of := fun _ s e => by
    obtain ⟨K, hK, e2⟩ := obsM_is (n := n) (ok := ok) (fn := fn) (fx := fx) (ts := ts) (ps := ps) (g := s.heap.get?)
    rw [e2] at e
    exact ⟨K, by rw [hK]; exact He.frT_in, ⟨⟨⟨congrArg (fun z : AlM => z.1.1.1.1) e, congrArg (fun z : AlM => z.1.1.1.2) e⟩, congrArg (fun z : AlM => z.1.1.2) e⟩, congrArg (fun z : AlM => z.1.2) e⟩, fun p hp => tabK_ok (map_true (congrArg (fun z : AlM => z.2) e) p hp)⟩
  keeps := fun _ _ _ ⟨K, hK, c⟩ k => ⟨K, PySem.W.Frag.In.keeps hK k, ⟨c.k, fun p hp => ⟨(c.tabs p hp).1, (c.tabs p hp).2.1, k _ _ (c.tabs p hp).2.2⟩⟩⟩
theorem obsM_eq {n : Nat} {ok : PySem.W.Frag → Bool} {fn fx : List He.FnD} {ts : List He.Tab} {ps : List He.Defn} {g : Addr → Option Obj} {s : Shared} (h : ∀ a, g a = s.heap.get? a) : obsM n ok fn fx ts ps g = (hookM n ok fn fx ts ps).obs s := by
  have e : g = s.heap.get? := funext h
  rw [e] <;> rfl
end Jo

set_option Elab.async false
set_option linter.all false
set_option maxRecDepth 100000
/-! Defs that are called where no repr is under way: their promise, their body, their call, the law's own call. -/
namespace Jo
open PySem PySem.Spec PyProof.Rows L2

/-- a def's promise, kept wherever no repr is under way -/
structure FnG (P : Program) (w : World) (K : PySem.W.Frag) (mg : Str → Option Value) (base : Heap)
    (k : Nat) (f : Addr) (fd : FuncData) (ps : List Str) (sp : Sp) : Prop where
  len : ∀ vs H Q E, sp vs H Q E → vs.length = ps.length
  go : ∀ (A : Around) (fr : List Env) (s : Shared) (H : Hp) (args : Args) (us : List Value) (vs : List V) (Q : VK) (E : XK),
    Room k A → A.guards = some [] → Env0 P w K mg base A fr s H → BindsTo s fd args (ps.zip us) → Vals vs us →
    sp vs H Q E → codeAny (model P w) A (.call (.ref f) args) (CR CX0 fr P w H s Q E) s

section
variable {P : Program} {w : World} {K : PySem.W.Frag} {mg : Str → Option Value} {base : Heap}

theorem FnG.of {k : Nat} {f : Addr} {fd : FuncData} {ps : List Str} {sp : Sp}
    (F : FnOk P w K mg base CX0 k f fd ps sp) : FnG P w K mg base k f fd ps sp :=
  ⟨F.len, fun A fr s H args us vs Q E hr _ e hb hv hs => F.run A fr s H args us vs Q E hr e hb hv hs⟩
theorem FnG.mono {j k : Nat} {f : Addr} {fd : FuncData} {ps : List Str} {sp : Sp}
    (F : FnG P w K mg base j f fd ps sp) (h : j ≤ k) : FnG P w K mg base k f fd ps sp :=
  ⟨F.len, fun A fr s H args us vs Q E hr => F.go A fr s H args us vs Q E (hr.mono h)⟩

/-- a def by its body; the body may lean on it that no repr is under way -/
theorem fun_okG {k : Nat} {x qual : Str} {st : Stmt} {f : Addr} {fd : FuncData} {N ps : List Str} {sp : Sp}
    (F : Fun K x qual st f fd) (S : FnScope N ps (defScope st))
    (len : ∀ vs H Q E, sp vs H Q E → vs.length = ps.length)
    (body : ∀ (cdv : Value) (A : Around) (fr : List Env) (s : Shared) (H : Hp) (vs : List V) (Q : VK) (E : XK),
      Room k (A.deeper (envOfC qual (defScope st) s.heap.objs.size f cdv)) → A.guards = some [] → sp vs H Q E →
      ∃ t, PSs (cxOf CX0 P w K mg base N qual (defScope st) f cdv A fr s H E).nox (defBody st) t ∧
        t { nx := fun _ H' => Q .non H', rt := Q } (start N vs) H) :
    FnG P w K mg base (k + 1) f fd ps sp := by
  obtain ⟨oc, od, kV, doc, pm, an, cdv, ct, osl, rfl, lk, hcd⟩ := F.ex
  refine ⟨len, fun A fr s H args us vs Q E hr hgd e0 hb r hsp => ?_⟩
  have keepB : ∀ b o, base.get? b = some o → s.heap.get? b = some o := fun b o e => (e0.bs b o e).1
  have KX := e0.mod.kin.keeps keepB
  have nolim := e0.mod.nolimit.keeps keepB
  refine codeAny_call_function hr.depth (KX _ _ lk) rfl S.co S.gen rfl (PySem.W.codeRec_of KX hcd) (hb _ _ _ _ ?_)
  refine wpAny_newFunctionEnv_cells S.kind (fun ⟨n, v⟩ hy => ?_) fun env he s1 x => ?_
  · cases S.par n (List.of_mem_zip hy).1 with
    | inl q => exact .inl q
    | inr q => exact .inr ⟨q, PySem.W.cellsFrom_some _ _ _ (.inl q)⟩
  · subst he
    refine ⟨nolim.keeps x.toInCall.keep, codeAny_func ?_⟩
    obtain ⟨t, ht, hq⟩ := body cdv A fr s H vs Q E (hr.deeper _) hgd hsp
    have I := inv_start (CX := CX0) (E := E) S hr.hd e0 (len _ _ _ _ hsp) r x
    refine wpAny_mono (ht.nox.run [] s1 (start N vs) H _ I hq) (fun fl s' hs => ?_) fun _ _ hs => hs
    cases fl with
    | brk => obtain ⟨_, _, _, q⟩ := hs; exact q.elim
    | cont => obtain ⟨_, _, _, q⟩ := hs; exact q.elim
    | ret u =>
      obtain ⟨v, _, H', J, rv, q⟩ := hs
      exact ⟨v, H', J.os, J.bare, J.base, J.hok, rv, q⟩
    | next =>
      obtain ⟨_, H', J, q⟩ := hs
      exact ⟨V.non, H', J.os, J.bare, J.base, J.hok, rfl, q⟩
end

section
variable {X : Cx} {k : Nat} {f : Addr} {fd : FuncData} {ps : List Str} {sp : Sp} {dvs : List V} {ds : List Value}
  {E : XK} {x : Str} {p pos : Pos} {e : Expr} {es : List Expr} {t : TA}

theorem runG {pins : List (Addr × Obj)} {σ : L2.St} {H : Hp} {s : Shared} {Q : VK} {us : List Value} {vs : List V}
    (F : FnG X.prog X.w X.K X.mg X.base k f fd ps sp) (hr : Room k X.A) (hgd : X.A.guards = some [])
    (hb : Binds X.K fd ps ds) (hd : Vals dvs ds) (hx : Passes CX0 X E) (I : Inv X pins σ H s) (r : Vals vs us)
    (h : sp (vs ++ dvs) H Q E) : wpAny (model X.prog X.w) X.A (call (.ref f) us) (EP X pins σ Q) X.xe s := by
  have r2 := r.append hd
  have hl : (us ++ ds).length = ps.length := r2.length.symm.trans (F.len _ _ _ _ h)
  have run := F.go X.A X.stack s H ⟨us, []⟩ _ _ Q E hr hgd I.env0 (hb s us I.kIn hl) r2 h
  refine wpAny_call (codeAny_mono run fun r s' hq => ?_)
  match r, hq with
  | .error e, hq => exact hx pins σ H s e s' I hq
  | .ok (.ret u), hq => exact I.after hq
  | .ok .next, hq => exact (show False from hq).elim
  | .ok .brk, hq => exact (show False from hq).elim
  | .ok .cont, hq => exact (show False from hq).elim

theorem pe_callG (F : FnG X.prog X.w X.K X.mg X.base k f fd ps sp) (hr : Room k X.A) (hgd : X.A.guards = some [])
    (hg : Gl X x) (hm : X.mg x = some (.ref f)) (hk : PySem.W.keepIn X.K (.ref f) = true) (hb : Binds X.K fd ps ds)
    (hd : Vals dvs ds) (hx : Passes CX0 X E) (ha : PA X (e :: es) t) (hdb : (x == ("__debug__" : Str)) = false := by decide)
    (he : starEach (e :: es) X.env = (false, eval e X.env) :: starEach es X.env := by rfl)
    (hpl : (backTo pos (starEach es X.env)).any (·.1) = false := by rfl) :
    PE X (.Call (.Name x p) (e :: es) [] pos) (tCall sp dvs E t) := by
  refine ⟨fun pins s σ H Q I h => wpAny_Call_Name_kw (ld_glob I hg hm ?_ hdb)⟩
  exact PySem.W.callWith_K (h₀ := X.base) I.ok.mod.kin hk
    (thn (ha.run pos pins s σ H _ I h) fun us s1 ⟨vs, H1, I1, r, q⟩ => ⟨I1.kIn, runG F hr hgd hb hd hx I1 r q⟩) he hpl
theorem pe_callG0 (F : FnG X.prog X.w X.K X.mg X.base k f fd ps sp) (hr : Room k X.A) (hgd : X.A.guards = some [])
    (hg : Gl X x) (hm : X.mg x = some (.ref f)) (hk : PySem.W.keepIn X.K (.ref f) = true) (hb : Binds X.K fd ps ds)
    (hd : Vals dvs ds) (hx : Passes CX0 X E) (hdb : (x == ("__debug__" : Str)) = false := by decide) :
    PE X (.Call (.Name x p) [] [] pos) (tCall sp dvs E tNil) :=
  ⟨fun pins s σ H Q I h => wpAny_Call_Name_kw (ld_glob I hg hm
    (PySem.W.callWith_K0 I.kIn hk (runG (us := []) F hr hgd hb hd hx I .nil h)) hdb)⟩
end

/-! ### the law's own call -/
section
variable {P : Program} {w : World} {K : PySem.W.Frag} {mg mb : Str → Option Value}
theorem law_callG {k : Nat} {fa a : Addr} {fd : FuncData} {x : Str} {sp : Sp} {s₁ : Shared} {vs : List Value} {ns : List Int}
    (KX : K.In s₁.heap) (hns : s₁.heap.Ns mainGlobals mg) (hb : s₁.heap.Ns builtinsNs mb)
    (hbb : ∀ x : Str, x ≠ "__name__" → mb x = bootBuiltins x) (hlim : s₁.heap.NoLimit) (hg : s₁.gens = #[])
    (ha : s₁.heap.get? a = some { cls := .type "list", data := .seq vs.toArray }) (hi : IntsAre vs ns)
    (hl : ns.length ≤ sizeLine) (hr : Room k callerA)
    (F : ∀ base : Heap, K.In base → base.Ns mainGlobals mg → FnG P w K mg base k fa fd [x] sp)
    (hbind : ∀ (s : Shared) (u : Value), BindsTo s fd ⟨[u], []⟩ [(x, u)])
    (hsp : ∀ H : Hp, Only H → SqL K H a (ns.map V.int) → sp [.ref a] H (fun v _ => v = .bl true) fun _ _ _ => False) :
    codeAny (model P w) callerA (.call (.ref fa) ⟨[.ref a], []⟩)
      (fun r s' => r = .ok (.ret (.bool true)) ∧ OldK s₁.heap s'.heap ∧ s'.os = s₁.os ∧ AllBare s'.gens) s₁ := by
  have rv := vals_ints hi
  -- the script's place: hidden if it is tracked (it is, unless the module itself has it)
  let T : Hp := fun b => match K.lookup a with
    | some _ => none
    | none => if b = a then some (.frz { cls := .type "list", data := .seq vs.toArray } (.lst (ns.map V.int))) else none
  have hT : ∀ b o, T b = some o → b = a ∧ K.lookup a = none ∧ o = .frz { cls := .type "list", data := .seq vs.toArray } (.lst (ns.map V.int)) := fun b o e => by
    revert e
    show (match K.lookup a with | some _ => none | none => if b = a then some _ else none) = some o → _
    cases hk : K.lookup a with
    | some z => intro e; cases e
    | none =>
      intro e
      by_cases hba : b = a
      · have e2 := (if_pos hba).symm.trans e
        cases e2
        exact ⟨hba, rfl, rfl⟩
      · have e2 := (if_neg hba).symm.trans e
        cases e2
  have hOnly : Only T := fun b => by
    cases q : T b with
    | none => exact .inl rfl
    | some o =>
      obtain ⟨_, _, e⟩ := hT b o q
      exact .inr ⟨_, _, by rw [e]⟩
  have hok : HOk P w T s₁.heap := fun b o e => by
    obtain ⟨rfl, _, rfl⟩ := hT b o e
    exact ⟨ha, by rw [List.length_map]; exact hl, vs, _, rv, ha⟩
  have hS : SqL K T a (ns.map V.int) := by
    cases hk : K.lookup a with
    | some o =>
      have e := KX a o hk
      rw [ha] at e
      cases e
      exact .inr ⟨_, vs.toArray, _, hk, rfl, rfl, rfl, by rw [List.size_toArray, hi.length]; exact hl, by simpa using rv⟩
    | none =>
      refine .inl (.inr ⟨{ cls := .type "list", data := .seq vs.toArray }, ?_⟩)
      show (match K.lookup a with | some _ => none | none => if a = a then some _ else none) = some _
      rw [hk]
      exact if_pos rfl
  -- what is no list is not hidden
  have free : ∀ {b : Addr} {o : Obj}, s₁.heap.get? b = some o → (∀ q n, o.data ≠ .seq q n) → T b = none := fun {b o} e hn => by
    cases q : T b with
    | none => rfl
    | some u =>
      obtain ⟨rfl, _, _⟩ := hT b u q
      rw [ha] at e
      cases e
      exact absurd rfl (hn _ _)
  have seen : ∀ {b : Addr} {o : Obj}, s₁.heap.get? b = some o → T b = none → (hidT s₁.heap T).get? b = some o := fun e n => hidT_get e n
  have nsB : ∀ {b : Addr} {m : Str → Option Value}, s₁.heap.Ns b m → (hidT s₁.heap T).Ns b m :=
    fun ⟨o, es, ep, e, d, r⟩ => ⟨o, es, ep, seen e (free e fun q n z => by rw [d] at z; cases z), d, r⟩
  have kB : K.In (hidT s₁.heap T) := fun b o e => seen (KX b o e) (by
    cases q : T b with
    | none => rfl
    | some u =>
      obtain ⟨rfl, hk, _⟩ := hT b u q
      rw [hk] at e
      cases e)
  obtain ⟨mc, l1, l2⟩ := hlim
  have hM : Mod K mg (hidT s₁.heap T) := ⟨kB, nsB hns, ⟨mb, nsB hb, hbb⟩, ⟨mc, nsB l1, l2⟩⟩
  have none0 : ∀ b : Addr, b ∉ ([] : List Addr) := fun b z => nomatch z
  have e0 : Env0 P w K mg (hidT s₁.heap T) callerA [] s₁ T :=
    ⟨rfl, hM, fun b o e => of_hidT e, Nat.le_of_eq (hidT_size _ _), trivial, fun b z => absurd z (none0 b), hok, .of_eq hg⟩
  have run := (F _ kB (nsB hns)).go callerA [] s₁ T ⟨[.ref a], []⟩ [.ref a] [.ref a] _ _ hr rfl e0 (hbind s₁ (.ref a)) (.cons rfl .nil) (hsp T hOnly hS)
  refine codeAny_mono run fun r s' h => ?_
  match r, h with
  | .error e, h => exact (show False from h).elim
  | .ok .next, h => exact (show False from h).elim
  | .ok .brk, h => exact (show False from h).elim
  | .ok .cont, h => exact (show False from h).elim
  | .ok (.ret u), h =>
    obtain ⟨v, H', os, bare, un, hok', r', q⟩ := h
    cases (show v = V.bl true from q)
    cases (show u = Value.bool true from r')
    refine ⟨rfl, OldK.of_keep fun b o e => ?_, os, bare⟩
    cases q : T b with
    | none => exact un.keep b o e q (none0 b) (none0 b)
    | some u =>
      obtain ⟨rfl, _, rfl⟩ := hT b u q
      obtain ⟨e1, _⟩ := hok' b _ (un.frzs b _ _ q)
      rw [ha] at e
      cases e
      exact e1
theorem walk_ofG {l : PySem.W.OpenLaw} {n k : Nat} {q : Program} {loose : List Str} {XP : (Str → Option Value) → Heap → Prop}
    {YP : World → Heap → Prop} {d : DefRec} {KK : Params → PySem.W.Frag} {sp : PySem.W.Frag → Sp} {x : Str}
    (hn : l.most = some n) (hn2 : n ≤ sizeLine) (hdf : d.params.defaults = []) (hr : Room k callerA)
    (hY : ∀ (w : World) (h : Heap), YP w h → (KK w.params).In h)
    (F : ∀ (w : World) (mg : Str → Option Value) (fa : Addr) (h : Heap), (KK w.params).In h → h.Ns mainGlobals mg → mg d.name = some (.ref fa) →
      ∃ fd : FuncData, (∀ (s : Shared) (u : Value), BindsTo s fd ⟨[u], []⟩ [(x, u)]) ∧
        ∀ base : Heap, (KK w.params).In base → base.Ns mainGlobals mg → FnG l.prog w (KK w.params) mg base k fa fd [x] (sp (KK w.params)))
    (hsp : ∀ (K : PySem.W.Frag) (H : Hp) (a : Addr) (ns : List Int), ns.length ≤ n → (∀ z ∈ ns, Builtin.Int.intBits z ≤ 1048576) → Only H →
      SqL K H a (ns.map V.int) → sp K [.ref a] H (fun v _ => v = .bl true) fun _ _ _ => False) :
    PySem.W.WalkO q loose XP YP l.row.toRowW d [] (fun f vs => PySem.call f vs) := by
  refine Att.attach_callB hn hdf fun w s₀ s₁ mg mb fa o pm cd doc a vs ns G Y ho hd hcd hmg hobj hints hlen hbits hg => ?_
  obtain ⟨fd, hb, hF⟩ := F w mg fa _ (hY w _ Y) G.T.g hmg
  exact law_callG (hY w _ Y) G.T.g G.T.b G.T.builtins G.T.nolimit hg hobj hints (Nat.le_trans hlen hn2) hr hF hb
    fun H hO hS => hsp _ H a ns hlen hbits hO hS
end
end Jo

set_option Elab.async false
set_option linter.all false
set_option maxRecDepth 100000
/-! repr of lists and tuples of any depth, no repr being under way. -/
namespace Jo
open PySem PySem.Spec PyProof.Rows L2

/-- x is the data d, nested less than n deep -/
def Shw (K : PySem.W.Frag) (H : Hp) : Nat → V → PyData → Prop
  | 0 => fun _ _ => False
  | n + 1 => fun x d =>
    (x = .non ∧ d = .none) ∨ (∃ b, x = .bl b ∧ d = .bool b) ∨ (∃ i, x = .int i ∧ d = .int i) ∨ (∃ z, x = .str z ∧ d = .str z) ∨
    (∃ a xs ds, x = .ref a ∧ d = .list ds ∧ SqL K H a xs ∧ Paired (Shw K H n) xs ds) ∨
    (∃ a xs ds, x = .ref a ∧ d = .tuple ds ∧ SqT K H a xs ∧ Paired (Shw K H n) xs ds)
theorem Shw.none {K : PySem.W.Frag} {H : Hp} {n : Nat} : Shw K H (n + 1) .non .none := .inl ⟨rfl, rfl⟩
theorem Shw.bl {K : PySem.W.Frag} {H : Hp} {n : Nat} (b : Bool) : Shw K H (n + 1) (.bl b) (.bool b) := .inr (.inl ⟨b, rfl, rfl⟩)
theorem Shw.int {K : PySem.W.Frag} {H : Hp} {n : Nat} (i : Int) : Shw K H (n + 1) (.int i) (.int i) := .inr (.inr (.inl ⟨i, rfl, rfl⟩))
theorem Shw.str {K : PySem.W.Frag} {H : Hp} {n : Nat} (z : Str) : Shw K H (n + 1) (.str z) (.str z) := .inr (.inr (.inr (.inl ⟨z, rfl, rfl⟩)))
theorem Shw.lst {K : PySem.W.Frag} {H : Hp} {n : Nat} {a : Addr} {xs : List V} {ds : List PyData} (h : SqL K H a xs)
    (p : Paired (Shw K H n) xs ds) : Shw K H (n + 1) (.ref a) (.list ds) := .inr (.inr (.inr (.inr (.inl ⟨a, xs, ds, rfl, rfl, h, p⟩))))
theorem Shw.tup {K : PySem.W.Frag} {H : Hp} {n : Nat} {a : Addr} {xs : List V} {ds : List PyData} (h : SqT K H a xs)
    (p : Paired (Shw K H n) xs ds) : Shw K H (n + 1) (.ref a) (.tuple ds) := .inr (.inr (.inr (.inr (.inr ⟨a, xs, ds, rfl, rfl, h, p⟩))))

section
variable {X : Cx} {pins : List (Addr × Obj)} {σ : L2.St} {H : Hp} {s : Shared}
theorem readsAll_of {F : V → PyData → Prop} {h : Heap} (f : ∀ x d v, F x d → RelV x v → ∃ as, Reads h v d as) {xs : List V} {ds : List PyData}
    (p : Paired F xs ds) : ∀ {us : List Value}, Vals xs us → ∃ as, ReadsAll h us ds as := by
  induction p with
  | nil =>
    intro us r
    cases r
    exact ⟨_, .nil⟩
  | cons q _ ih =>
    intro us r
    cases r with
    | cons r1 r2 =>
      obtain ⟨as, h1⟩ := f _ _ _ q r1
      obtain ⟨bs, h2⟩ := ih r2
      exact ⟨_, .cons h1 h2⟩
theorem reads_of (I : Inv X pins σ H s) : ∀ (n : Nat) (x : V) (d : PyData) (v : Value), Shw X.K H n x d → RelV x v → ∃ as, Reads s.heap v d as
  | 0, _, _, _, h, _ => (show False from h).elim
  | n + 1, x, d, v, h, r => by
    rcases h with ⟨rfl, rfl⟩ | ⟨b, rfl, rfl⟩ | ⟨i, rfl, rfl⟩ | ⟨z, rfl, rfl⟩ | ⟨a, xs, ds, rfl, rfl, hs, p⟩ | ⟨a, xs, ds, rfl, rfl, hs, p⟩
    · cases (show v = Value.none from r)
      exact ⟨_, .none⟩
    · cases (show v = Value.bool b from r)
      exact ⟨_, .bool b⟩
    · obtain ⟨t, rfl⟩ := (show ∃ t, v = Value.int i t from r)
      exact ⟨_, .int i t⟩
    · obtain ⟨t, rfl⟩ := (show ∃ t, v = Value.str z t from r)
      exact ⟨_, .str z t⟩
    · cases (show v = Value.ref a from r)
      obtain ⟨its, rv, ⟨o, c, e1, e2, _, e4⟩, _⟩ := I.list hs
      obtain ⟨as, ra⟩ := readsAll_of (reads_of I n) p rv
      exact ⟨_, .list e1 e2 e4 (by simpa using ra)⟩
    · cases (show v = Value.ref a from r)
      obtain ⟨its, rv, ⟨o, e1, e2, c, e4⟩, _⟩ := I.tuple hs
      obtain ⟨as, ra⟩ := readsAll_of (reads_of I n) p rv
      exact ⟨_, .tuple e1 e2 e4 (by simpa using ra)⟩
/-- repr(xs), repr((a, b)) -/
def rRepr (K : PySem.W.Frag) : List V → Hp → VK → Prop := fun xs H Q => ∃ (a : Addr) (d : PyData) (n : Nat),
  xs = [.ref a] ∧ Shw K H n (.ref a) d ∧ d.showable = true ∧ d.hasDict = false ∧ d.depth ≤ 60 ∧ d.shown.length ≤ sizeLine ∧ Q (.str d.shown) H
theorem call_repr (hgd : X.A.guards = some []) (hu : X.A.units + 64 < cLine) : CallR X (.builtin "repr") (rRepr X.K) := by
  intro pins s σ H xs us Q I r h
  obtain ⟨a, d, n, rfl, hw, h1, h2, h3, h4, q⟩ := h
  obtain ⟨u, rfl, ru⟩ := vals1 r
  cases (show u = Value.ref a from ru)
  obtain ⟨as, rd⟩ := reads_of I n _ d _ hw rfl
  exact repr_of_reads' rd h1 (PyData.noDict_hsm h2) hgd (by omega) (fun _ _ e => e)
    (fun h' u tk hk => ⟨.str d.shown, H, I.kept hk, ⟨_, rfl⟩, q⟩) h4
end
end Jo

set_option Elab.async false
set_option linter.all false
set_option maxRecDepth 100000
/-! Defs by name: made, called by position and by name. -/
namespace Jo
open PySem PySem.Spec PyProof.Rows L2

/-- the name x of the module holds the def st with the parameters ps; it binds what is passed by position, and by name in the parameters' order -/
structure Dfn (K : PySem.W.Frag) (mg : Str → Option Value) (x : Str) (st : Stmt) (ps : List Str) : Prop where
  ex : ∃ (f : Addr) (fd : FuncData), Fun K x x st f fd ∧ mg x = some (.ref f) ∧ Binds K fd ps [] ∧
    ∀ (s : Shared) (us : List Value), us.length = ps.length → BindsTo s fd ⟨[], ps.zip us⟩ (ps.zip us)
/-- the name x of the module holds a def that keeps the promise sp -/
structure CalG (P : Program) (w : World) (K : PySem.W.Frag) (mg : Str → Option Value) (base : Heap) (k : Nat) (x : Str) (ps : List Str) (sp : Sp) : Prop where
  ex : ∃ (f : Addr) (fd : FuncData), FnG P w K mg base k f fd ps sp ∧ mg x = some (.ref f) ∧ PySem.W.keepIn K (.ref f) = true ∧ Binds K fd ps [] ∧
    ∀ (s : Shared) (us : List Value), us.length = ps.length → BindsTo s fd ⟨[], ps.zip us⟩ (ps.zip us)
section
variable {P : Program} {w : World} {K : PySem.W.Frag} {mg : Str → Option Value} {base : Heap} {x : Str} {st : Stmt} {N ps : List Str} {sp : Sp} {k : Nat}
theorem Dfn.ok (D : Dfn K mg x st ps) (S : FnScope N ps (defScope st))
    (len : ∀ vs H Q E, sp vs H Q E → vs.length = ps.length)
    (body : ∀ (f : Addr) (cdv : Value) (A : Around) (fr : List Env) (s : Shared) (H : Hp) (vs : List V) (Q : VK) (E : XK),
      Room k (A.deeper (envOfC x (defScope st) s.heap.objs.size f cdv)) → A.guards = some [] → sp vs H Q E →
      ∃ t, PSs (cxOf CX0 P w K mg base N x (defScope st) f cdv A fr s H E).nox (defBody st) t ∧
        t { nx := fun _ H' => Q .non H', rt := Q } (start N vs) H) :
    CalG P w K mg base (k + 1) x ps sp := by
  obtain ⟨f, fd, F, hm, hb, hk⟩ := D.ex
  exact ⟨f, fd, fun_okG F S len (body f), hm, F.kp, hb, hk⟩
theorem CalG.imp {sp' : Sp} (c : CalG P w K mg base k x ps sp) (h : ∀ vs H Q E, sp' vs H Q E → sp vs H Q E) : CalG P w K mg base k x ps sp' := by
  obtain ⟨f, fd, F, hm, kp, hb, hk⟩ := c.ex
  exact ⟨f, fd, ⟨fun vs H Q E q => F.len vs H Q E (h _ _ _ _ q), fun A fr s H args us vs Q E hr hg e b r q => F.go A fr s H args us vs Q E hr hg e b r (h _ _ _ _ q)⟩, hm, kp, hb, hk⟩
/-- from what the top has left -/
theorem dfn_mk {l : Heap} {fa : Addr} {od an : Option Addr} {sl : Array (Option Value)} {oc kV dc pm cd ct : Value} (I : K.In l) (G : l.Ns mainGlobals mg)
    (a : PySem.W.nsIn K mainGlobals x = some (some (.ref fa)))
    (q : K.lookup fa = some ⟨oc, od, .func (PySem.W.fnOf x x (defArgs st) (defBody st) (defScope st) .none kV dc pm an cd ct), sl⟩)
    (c : PySem.W.codeIn K cd x = true) (kp : PySem.W.keepIn K (.ref fa) = true)
    (hb : ∀ us : List Value, us.length = ps.length → bindArgs (PySem.W.fnOf x x (defArgs st) (defBody st) (defScope st) .none kV dc pm an cd ct) ⟨us, []⟩ = pure (ps.zip us))
    (hk : ∀ us : List Value, us.length = ps.length → bindArgs (PySem.W.fnOf x x (defArgs st) (defBody st) (defScope st) .none kV dc pm an cd ct) ⟨[], ps.zip us⟩ = pure (ps.zip us)) :
    Dfn K mg x st ps :=
  ⟨fa, _, fun_mk q c kp, PySem.W.mg_of I G a, .all hb, fun s us hl => .of_eq (hk us hl)⟩
end
section
variable {X : Cx} {j k : Nat} {ps : List Str} {sp : Sp} {x : Str} {p pos : Pos} {e : Expr} {es : List Expr} {kws : List Keyword} {t : TA}
theorem pe_cG (c : CalG X.prog X.w X.K X.mg X.base k x ps sp) (hr : Room j X.A) (hk : k ≤ j) (hgd : X.A.guards = some []) (hg : Gl X x)
    (ha : PA X (e :: es) t) (hdb : (x == ("__debug__" : Str)) = false := by decide)
    (he : starEach (e :: es) X.env = (false, eval e X.env) :: starEach es X.env := by rfl)
    (hpl : (backTo pos (starEach es X.env)).any (·.1) = false := by rfl) :
    PE X (.Call (.Name x p) (e :: es) [] pos) (tCall sp [] E0 t) := by
  obtain ⟨f, fd, F, hm, kp, b, _⟩ := c.ex
  exact pe_callG F (hr.mono hk) hgd hg hm kp b .nil pass0 ha hdb he hpl
theorem pe_cG0 (c : CalG X.prog X.w X.K X.mg X.base k x ps sp) (hr : Room j X.A) (hk : k ≤ j) (hgd : X.A.guards = some []) (hg : Gl X x)
    (hdb : (x == ("__debug__" : Str)) = false := by decide) :
    PE X (.Call (.Name x p) [] [] pos) (tCall sp [] E0 tNil) := by
  obtain ⟨f, fd, F, hm, kp, b, _⟩ := c.ex
  exact pe_callG0 F (hr.mono hk) hgd hg hm kp b .nil pass0 hdb
theorem vals_len {vs : List V} {us : List Value} (r : Vals vs us) : vs.length = us.length := r.length
/-- f(a=.., b=..), the names in the parameters' order -/
theorem pe_kG (c : CalG X.prog X.w X.K X.mg X.base k x ps sp) (hr : Room j X.A) (hk : k ≤ j) (hgd : X.A.guards = some []) (hg : Gl X x)
    (hkw : PK X kws t) (hall : (backToKw pos (keywordEach kws X.env)).all (·.1.isSome) = true := by rfl)
    (hks : (backToKw pos (keywordEach kws X.env)).filterMap (·.1) = ps := by rfl)
    (hdb : (x == ("__debug__" : Str)) = false := by decide)
    (hpl : ((backTo pos (starEach [] X.env)).any (·.1) || (backToKw pos (keywordEach kws X.env)).any (·.1.isNone)) = false := by rfl) :
    PE X (.Call (.Name x p) [] kws pos) (tCall sp [] E0 t) := by
  obtain ⟨f, fd, F, hm, kp, _, b⟩ := c.ex
  refine ⟨fun pins s σ H Q I h => wpAny_Call_Name_kw (ld_glob I hg hm ?_ hdb)⟩
  refine PySem.W.callWith_KW0 (h₀ := X.base) I.ok.mod.kin kp hall (thn (hkw.run pos pins s σ H _ I h) fun ws s2 ⟨zs, H2, I2, rz, q2⟩ => ⟨I2.kIn, ?_⟩) hpl
  rw [hks]
  have q1 : sp (zs ++ []) H2 Q E0 := q2
  have q3 : sp zs H2 Q E0 := by rw [List.append_nil] at q1; exact q1
  have hl : ws.length = ps.length := rz.length.symm.trans (F.len _ _ _ _ q3)
  have run := F.go X.A X.stack s2 H2 ⟨[], ps.zip ws⟩ ws zs Q E0 (hr.mono hk) hgd I2.env0 (b s2 ws hl) rz q3
  refine wpAny_call (codeAny_mono run fun r s' hq => ?_)
  match r, hq with
  | .error e, hq => exact (pass0 : Passes CX0 X E0) pins σ H2 s2 e s' I2 hq
  | .ok (.ret u), hq => exact I2.after hq
  | .ok .next, hq => exact (show False from hq).elim
  | .ok .brk, hq => exact (show False from hq).elim
  | .ok .cont, hq => exact (show False from hq).elim
end
end Jo

set_option Elab.async false
set_option linter.all false
set_option maxRecDepth 100000
/-! Defs, methods and classes of the program, wherever they are called. -/
namespace Jo
open PySem PySem.Spec PyProof.Rows L2
/-- the name x of the module holds a def that keeps the promise sp, wherever it is called -/
structure CalF (P : Program) (w : World) (K : PySem.W.Frag) (mg : Str → Option Value) (base : Heap) (k : Nat) (x : Str) (ps : List Str) (sp : Sp) : Prop where
  ex : ∃ (f : Addr) (fd : FuncData), FnOk P w K mg base CX0 k f fd ps sp ∧ mg x = some (.ref f) ∧ PySem.W.keepIn K (.ref f) = true ∧ Binds K fd ps [] ∧
    ∀ (s : Shared) (us : List Value), us.length = ps.length → BindsTo s fd ⟨[], ps.zip us⟩ (ps.zip us)
/-- the def st is the method m of the class at C -/
structure Mth (K : PySem.W.Frag) (C : Addr) (m qual : Str) (st : Stmt) (ps : List Str) : Prop where
  ex : ∃ (f : Addr) (fd : FuncData), Fun K m qual st f fd ∧ Meth K C m f ∧ Binds K fd ps [] ∧
    ∀ (s : Shared) (u : Value) (us : List Value), (u :: us).length = ps.length → BindsTo s fd ⟨[u], (ps.drop 1).reverse.zip us.reverse⟩ (ps.zip (u :: us))
/-- .. and keeps the promise sp -/
structure MtF (P : Program) (w : World) (K : PySem.W.Frag) (mg : Str → Option Value) (base : Heap) (k : Nat) (C : Addr) (m : Str) (ps : List Str) (sp : Sp) : Prop where
  ex : ∃ (f : Addr) (fd : FuncData), FnOk P w K mg base CX0 k f fd ps sp ∧ Meth K C m f ∧ Binds K fd ps [] ∧
    ∀ (s : Shared) (u : Value) (us : List Value), (u :: us).length = ps.length → BindsTo s fd ⟨[u], (ps.drop 1).reverse.zip us.reverse⟩ (ps.zip (u :: us))
section
variable {P : Program} {w : World} {K : PySem.W.Frag} {mg : Str → Option Value} {base : Heap} {x m qual : Str} {st : Stmt} {N ps : List Str} {sp : Sp} {k : Nat} {C : Addr}
theorem CalF.g (c : CalF P w K mg base k x ps sp) : CalG P w K mg base k x ps sp := by
  obtain ⟨f, fd, F, r⟩ := c.ex
  exact ⟨f, fd, FnG.of F, r⟩
theorem Dfn.okF (D : Dfn K mg x st ps) (S : FnScope N ps (defScope st)) (len : ∀ vs H Q E, sp vs H Q E → vs.length = ps.length)
    (body : ∀ (f : Addr) (cdv : Value) (A : Around) (fr : List Env) (s : Shared) (H : Hp) (vs : List V) (Q : VK) (E : XK),
      Room k (A.deeper (envOfC x (defScope st) s.heap.objs.size f cdv)) → sp vs H Q E →
      ∃ t, PSs (cxOf CX0 P w K mg base N x (defScope st) f cdv A fr s H E).nox (defBody st) t ∧ t { nx := fun _ H' => Q .non H', rt := Q } (start N vs) H) :
    CalF P w K mg base (k + 1) x ps sp := by
  obtain ⟨f, fd, F, hm, hb, hk⟩ := D.ex
  exact ⟨f, fd, F.ok S len (body f), hm, F.kp, hb, hk⟩
theorem Mth.okF (D : Mth K C m qual st ps) (S : FnScope N ps (defScope st)) (len : ∀ vs H Q E, sp vs H Q E → vs.length = ps.length)
    (body : ∀ (f : Addr) (cdv : Value) (A : Around) (fr : List Env) (s : Shared) (H : Hp) (vs : List V) (Q : VK) (E : XK),
      Room k (A.deeper (envOfC qual (defScope st) s.heap.objs.size f cdv)) → sp vs H Q E →
      ∃ t, PSs (cxOf CX0 P w K mg base N qual (defScope st) f cdv A fr s H E).nox (defBody st) t ∧ t { nx := fun _ H' => Q .non H', rt := Q } (start N vs) H) :
    MtF P w K mg base (k + 1) C m ps sp := by
  obtain ⟨f, fd, F, hm, hb, hk⟩ := D.ex
  exact ⟨f, fd, F.ok S len (body f), hm, hb, hk⟩
theorem mth_mk {h : Heap} {fa : Addr} {od an : Option Addr} {sl : Array (Option Value)} {oc kV dc pm cd ct : Value}
    (a : PySem.W.findIn K (.ref C) m = some (some (.ref fa))) (i : PySem.W.isFn K (.ref fa) = true)
    (q : K.lookup fa = some ⟨oc, od, .func (PySem.W.fnOf m qual (defArgs st) (defBody st) (defScope st) .none kV dc pm an cd ct), sl⟩)
    (c : PySem.W.codeIn K cd qual = true) (kp : PySem.W.keepIn K (.ref fa) = true)
    (hb : ∀ us : List Value, us.length = ps.length → bindArgs (PySem.W.fnOf m qual (defArgs st) (defBody st) (defScope st) .none kV dc pm an cd ct) ⟨us, []⟩ = pure (ps.zip us))
    (hk : ∀ (u : Value) (us : List Value), (u :: us).length = ps.length → bindArgs (PySem.W.fnOf m qual (defArgs st) (defBody st) (defScope st) .none kV dc pm an cd ct) ⟨[u], (ps.drop 1).reverse.zip us.reverse⟩ = pure (ps.zip (u :: us))) :
    Mth K C m qual st ps := ⟨fa, _, fun_mk q c kp, ⟨a, i, kp⟩, .all hb, fun s u us hl => .of_eq (hk u us hl)⟩
end
section
variable {X : Cx} {j k : Nat} {ps : List Str} {sp : Sp} {x m : Str} {p pos apos : Pos} {e o : Expr} {es : List Expr} {kws : List Keyword} {t : TA} {ta : TE} {C : Addr}
theorem pe_cF (c : CalF X.prog X.w X.K X.mg X.base k x ps sp) (hr : Room j X.A) (hk : k ≤ j) (hg : Gl X x)
    (ha : PA X (e :: es) t) (hdb : (x == ("__debug__" : Str)) = false := by decide)
    (he : starEach (e :: es) X.env = (false, eval e X.env) :: starEach es X.env := by rfl)
    (hpl : (backTo pos (starEach es X.env)).any (·.1) = false := by rfl) :
    PE X (.Call (.Name x p) (e :: es) [] pos) (tCall sp [] E0 t) := by
  obtain ⟨f, fd, F, hm, kp, b, _⟩ := c.ex
  exact pe_call F (hr.mono hk) hg hm kp b .nil pass0 ha hdb he hpl
theorem pe_mF {pl : Sem Bool} (he : PE X o ta) (cl : Cls X.K C) (c : MtF X.prog X.w X.K X.mg X.base k C m ps sp) (hr : Room j X.A) (hk : k ≤ j) (ha : PA X (e :: es) t)
    (hst : starEach (e :: es) X.env = (false, eval e X.env) :: starEach es X.env := by rfl) (hpl : (backTo pos (starEach es X.env)).any (·.1) = false := by rfl)
    (ht : eval (.Call (.Attribute o m apos) (e :: es) [] pos) X.env = (do
      let ov ← eval o X.env
      standAt apos.atName
      let (f, first) ← holding [ov] (getMethod ov m pl)
      callWith pos f first (backTo pos (starEach (e :: es) X.env)) (backToKw pos (keywordEach [] X.env))) := by rfl) :
    PE X (.Call (.Attribute o m apos) (e :: es) [] pos) (tMeth C m sp [] E0 ta t) := by
  obtain ⟨f, fd, F, hm, b, _⟩ := c.ex
  exact pe_meth he cl hm F (hr.mono hk) b .nil pass0 ha hst hpl ht
/-- o.m(b=.., a=..): every parameter by name, the last ahead -/
def tMethK (C : Addr) (m : Str) (sp : Sp) (ta : TE) (t : TA) : TE := fun σ H Q => ta σ H fun x H1 => ∃ a dx fs, x = .ref a ∧ H1 a = some (.ins C dx fs) ∧ fs.lookup m = none ∧
  t σ H1 fun zs H2 => sp (x :: zs.reverse) H2 Q E0
theorem pe_mK {pl : Sem Bool} (he : PE X o ta) (cl : Cls X.K C) (c : MtF X.prog X.w X.K X.mg X.base k C m ps sp) (hr : Room j X.A) (hk : k ≤ j) (hkw : PK X kws t)
    (hall : (backToKw pos (keywordEach kws X.env)).all (·.1.isSome) = true := by rfl)
    (hks : (backToKw pos (keywordEach kws X.env)).filterMap (·.1) = (ps.drop 1).reverse := by rfl)
    (hpl : ((backTo pos (starEach [] X.env)).any (·.1) || (backToKw pos (keywordEach kws X.env)).any (·.1.isNone)) = false := by rfl)
    (ht : eval (.Call (.Attribute o m apos) [] kws pos) X.env = (do
      let ov ← eval o X.env
      standAt apos.atName
      let (f, first) ← holding [ov] (getMethod ov m pl)
      callWith pos f first (backTo pos (starEach [] X.env)) (backToKw pos (keywordEach kws X.env))) := by rfl) :
    PE X (.Call (.Attribute o m apos) [] kws pos) (tMethK C m sp ta t) := by
  obtain ⟨f, fd, F, hm, _, b⟩ := c.ex
  refine ⟨fun pins s σ H Q I h => ?_⟩
  refine PySem.W.methodCall_KW (pl := pl) (thn (he.run pins s σ H _ I h) fun u s1 ⟨x, H1, I1, rx, a, dx, fs, ex, ea, l, q⟩ => ?_) ht
  subst ex
  obtain rfl : u = Value.ref a := rx
  refine getmeth_ok I1 ea cl hm l ?_
  refine PySem.W.callWith_KW0 (first := [.ref a]) (h₀ := X.base) I.ok.mod.kin hm.kp hall (thn (hkw.run pos pins s1 σ H1 _ I1 q) fun ws s2 ⟨zs, H2, I2, rz, q2⟩ => ⟨I2.kIn, ?_⟩) hpl
  rw [hks]
  have r2 : Vals (V.ref a :: zs.reverse) (Value.ref a :: ws.reverse) := .cons rfl rz.reverse
  have hl : (Value.ref a :: ws.reverse).length = ps.length := r2.length.symm.trans (F.len _ _ _ _ q2)
  have bb := b s2 (.ref a) ws.reverse hl
  rw [List.reverse_reverse] at bb
  have run := F.run X.A X.stack s2 H2 ⟨[.ref a], (ps.drop 1).reverse.zip ws⟩ _ _ Q E0 (hr.mono hk) I2.env0 bb r2 q2
  refine wpAny_call (codeAny_mono run fun r s' hq => ?_)
  match r, hq with
  | .error e, hq => exact (pass0 : Passes CX0 X E0) pins σ H2 s2 e s' I2 hq
  | .ok (.ret u), hq => exact I2.after hq
  | .ok .next, hq => exact (show False from hq).elim
  | .ok .brk, hq => exact (show False from hq).elim
  | .ok .cont, hq => exact (show False from hq).elim
/-- C(a, b) -/
theorem pe_mkF {fi : Addr} (M : Mk X.K C fi) (c : MtF X.prog X.w X.K X.mg X.base k C "__init__" ps sp) (hr : Room j X.A) (hk : k + 1 ≤ j) (hg : Gl X x) (hm : X.mg x = some (.ref C))
    (ha : PA X (e :: es) t) (hdb : (x == ("__debug__" : Str)) = false := by decide)
    (he : starEach (e :: es) X.env = (false, eval e X.env) :: starEach es X.env := by rfl) (hpl : (backTo pos (starEach es X.env)).any (·.1) = false := by rfl) :
    PE X (.Call (.Name x p) (e :: es) [] pos) (tMake C sp [] E0 t) := by
  obtain ⟨f, fd, F, mt, b, _⟩ := c.ex
  have ef : fi = f := by
    have e1 := M.init.symm.trans mt.at_
    cases e1
    rfl
  subst ef
  exact pe_make M F (hr.mono hk) hg hm b .nil pass0 ha hdb he hpl
/-- C(b=.., a=..): the parameters by name, the last ahead -/
theorem pe_mkK {fi : Addr} (M : Mk X.K C fi) (c : MtF X.prog X.w X.K X.mg X.base k C "__init__" ps sp) (hr : Room j X.A) (hk : k + 1 ≤ j) (hg : Gl X x) (hm : X.mg x = some (.ref C)) {n : Nat} (hn : ps.length = n + 1)
    (hkw : PK X kws t) (hall : (backToKw pos (keywordEach kws X.env)).all (·.1.isSome) = true := by rfl)
    (hks : (backToKw pos (keywordEach kws X.env)).filterMap (·.1) = (ps.drop 1).reverse := by rfl)
    (hdb : (x == ("__debug__" : Str)) = false := by decide)
    (hpl : ((backTo pos (starEach [] X.env)).any (·.1) || (backToKw pos (keywordEach kws X.env)).any (·.1.isNone)) = false := by rfl) :
    PE X (.Call (.Name x p) [] kws pos) (tMakeK C 0 (ps.drop 1).reverse.length sp (fun vs zs => vs ++ zs.reverse) E0 tNil t) := by
  obtain ⟨f, fd, F, mt, _, b⟩ := c.ex
  have ef : fi = f := by
    have e1 := M.init.symm.trans mt.at_
    cases e1
    rfl
  subst ef
  refine pe_makeK0 (g := fun us ws => us ++ ws.reverse) M F (hr.mono hk) hg hm ⟨fun s us ws X l1 l2 => ?_, fun r1 r2 => r1.append r2.reverse⟩ pass0 hkw hall hks hdb hpl
  match us, l1 with
  | [u], _ =>
    have h3 : (u :: ws.reverse).length = ps.length := by
      rw [List.length_reverse, List.length_drop] at l2
      rw [List.length_cons, List.length_reverse]
      omega
    have bb := b s u ws.reverse h3
    rw [List.reverse_reverse] at bb
    exact bb
end
end Jo

set_option Elab.async false
set_option linter.all false
set_option maxRecDepth 100000
set_option maxHeartbeats 2000000
/-! Sets of texts that can be walked: made, filled, sorted; over any kind of keys as far as filling goes. -/
namespace Jo
open PySem PySem.Spec PyProof.Rows L2 PpSet
section
variable {κ : Type} [DecidableEq κ] {P : Program} {w : World} (kd : PySem.KeyKind P w κ)
/-- no key is held by both entries -/
def Apt (x y : Int × Value) : Prop := ∀ k, kd.is k x.2 = true → kd.is k y.2 = true → False
theorem Apt.sym {x y : Int × Value} (h : Apt kd x y) : Apt kd y x := fun k p q => h k q p
/-- at a stands a set of these keys, n of them, which the model can walk -/
def SetW (h : Heap) (a : Addr) (S : κ → Bool) (n : Nat) : Prop := ∃ (o : Obj) (es : Array (Int × Value)) (ep : Nat) (t : SetTable),
  (h.get? a = some o ∧ o.ExactSet ∧ o.data = .set es ep t) ∧ (PySem.ElemsOf kd es.toList ∧ es.toList.Pairwise (Apt kd)) ∧
  (∀ k, S k = true ↔ ∃ x ∈ es.toList, kd.is k x.2 = true) ∧ (es.size < scanBound ∧ t.fits es.size = true ∧ es.size = n) ∧
  (Ris t.place.toList ∧ (w.params.followText "set-order" = true ∨ t.led = true))
variable {kd}
theorem SetW.keep {h h' : Heap} {a : Addr} {S : κ → Bool} {n : Nat} (R : SetW kd h a S n) (k : ∀ o, h.get? a = some o → h'.get? a = some o) : SetW kd h' a S n := by
  obtain ⟨o, es, ep, t, ⟨e1, e2⟩, r⟩ := R
  exact ⟨o, es, ep, t, ⟨k o e1, e2⟩, r⟩
theorem SetW.of {h : Heap} {a : Addr} {S : κ → Bool} {n : Nat} (R : SetW kd h a S n) : h.SetOf kd a S n := by
  obtain ⟨o, es, ep, t, ⟨e1, e2, e3⟩, ⟨g, _⟩, m, ⟨b, f, z⟩, _⟩ := R
  exact ⟨o, es, ep, t, e1, e2, e3, g, m, b, f, z⟩
variable (kd)
theorem setW_new (h : Heap) : SetW kd (h.push { cls := .type "set", dict := none, data := .set #[] 0 (.fresh 0 0 (!w.params.followText "set-order")) }) h.objs.size (fun _ => false) 0 := by
  refine ⟨_, #[], 0, _, ⟨Heap.get?_push_size _ rfl, ⟨rfl, rfl, rfl⟩, rfl⟩, ⟨fun x hx => ?_, List.Pairwise.nil⟩, fun k => ?_, ⟨by decide, by rfl, rfl⟩, List.Pairwise.nil, ?_⟩
  · simp at hx
  · simp
  · show _ ∨ (!w.params.followText "set-order") = true
    cases w.params.followText "set-order" with
    | true => exact .inl rfl
    | false => exact .inr rfl
variable {kd}
section
variable {A : Around} {E : Value → Shared → Prop} {s : Shared} {a : Addr} {S : κ → Bool} {n : Nat}
theorem addW_end {gv : Bool → Sem Unit} (hgv : ∀ (b : Bool) (s1 : Shared) (T : Unit → Shared → Prop), T () s1 → wpAny (model P w) A (gv b) T E s1)
    {o : Obj} {es es1 : Array (Int × Value)} {ep : Nat} {t t2 : SetTable} {S' : κ → Bool} {wasDummy : Bool} {R : Option Bool → Shared → Prop}
    (ho : s.heap.get? a = some o) (hex : o.ExactSet) (hd : o.data = .set es ep t)
    (g1 : PySem.ElemsOf kd es1.toList) (p1 : es1.toList.Pairwise (Apt kd)) (m1 : ∀ k, S' k = true ↔ ∃ x ∈ es1.toList, kd.is k x.2 = true)
    (hb : es1.size < scanBound) (hf : t2.fits es1.size = true) (hr : Ris t2.place.toList) (hl : w.params.followText "set-order" = true ∨ t2.led = true)
    (hR : ∀ h', Heap.SameBut a s.heap h' → SetW kd h' a S' es1.size → R (some true) { s with heap := h' }) :
    wpAny (model P w) A (storeSet a es1 t2 >>= fun _ =>
        if (!wasDummy && t2.tooFull) = true then
          gv (relayAll t2 es1 (SetTable.grown es1.size)).2.2 >>= fun _ => storeSet a (relayAll t2 es1 (SetTable.grown es1.size)).1 (relayAll t2 es1 (SetTable.grown es1.size)).2.1 >>= fun _ => pure (some true)
        else pure (some true)) R E s := by
  have o1 := storeB_at (es' := es1) (t' := t2) ho hd
  have s1 := Heap.SameBut.update s.heap a (Obj.putSet es1 t2)
  refine wpAny_bind (wpAny_storeSet_of ho hd ?_ (fits_of_scanBound hb))
  by_cases c : (!wasDummy && t2.tooFull) = true
  · rw [if_pos c]
    have q1 := relayAll_perm t2 es1 (SetTable.grown es1.size)
    have q2 := relayAll_fits t2 es1 (SetTable.grown es1.size)
    have q3 := relayAll_ris t2 es1 (SetTable.grown es1.size)
    have q4 := relayAll_led t2 es1 (SetTable.grown es1.size)
    generalize relayAll t2 es1 (SetTable.grown es1.size) = Z at q1 q2 q3 q4 ⊢
    obtain ⟨es2, t3, gave⟩ := Z
    dsimp only at q1 q2 q3 q4 ⊢
    have z2 : es2.size = es1.size := by
      have z := q1.length_eq
      rwa [Array.length_toList, Array.length_toList] at z
    refine wpAny_bind (hgv _ _ _ (wpAny_bind (wpAny_storeSet_of o1 rfl ?_ (fits_of_scanBound (by rw [z2]; exact hb)))))
    have o2 := storeB_at (es' := es2) (t' := t3) o1 rfl
    refine wpAny_pure (hR _ (s1.trans (Heap.SameBut.update _ a _)) ⟨_, es2, _, t3, ⟨o2, hex, rfl⟩, ⟨fun x hx => g1 x (q1.mem_iff.mp hx), ?_⟩, fun k => ?_, ⟨by rw [z2]; exact hb, q2, z2⟩, q3, ?_⟩)
    · exact (q1.pairwise_iff fun h => Apt.sym kd h).mpr p1
    · rw [m1 k]
      exact ⟨fun ⟨x, hx, i⟩ => ⟨x, q1.mem_iff.mpr hx, i⟩, fun ⟨x, hx, i⟩ => ⟨x, q1.mem_iff.mp hx, i⟩⟩
    · exact hl.imp id fun z => by rw [q4]; exact z
  · rw [if_neg c]
    exact wpAny_pure (hR _ s1 ⟨_, es1, _, t2, ⟨o1, hex, rfl⟩, ⟨g1, p1⟩, m1, ⟨hb, hf, rfl⟩, hr, hl⟩)
theorem addW_hashed {k : κ} {u : Value} {Q : Bool → Shared → Prop} (hu : kd.is k u = true) (hsc : u.scannable = true) (R : SetW kd s.heap a S n) (room : n + 1 < scanBound)
    (hQ : ∀ h', Heap.SameBut a s.heap h' → SetW kd h' a (fun j => S j || decide (j = k)) (if S k = true then n else n + 1) → Q (!S k) { s with heap := h' }) :
    wpAny (model P w) A (setAddHashed a u (kd.hash k)) Q E s := by
  obtain ⟨o, es, ep, t, ⟨ho, hex, hd⟩, ⟨g, pw⟩, hm, ⟨hb, hf, hn⟩, hr, hl⟩ := R
  unfold setAddHashed setAddHashedIn
  refine wpAny_holding (wpAny_bind (wpAny_setState_of ho hd hf ?_))
  dsimp only
  rw [byScan_of hsc hb g]
  simp only [↓reduceIte]
  unfold setAddByScan
  refine wpAny_bind (wpAny_bind (wpAny_rule (wpAny_bind (wpAny_setScan_of hu ho hd hf g ?_))))
  cases hfi : List.findIdx? (fun x => kd.is k x.2) es.toList with
  | some j =>
    dsimp only
    obtain ⟨hj, pj, _⟩ := List.findIdx?_eq_some_iff_getElem.mp hfi
    have hS : S k = true := (hm k).2 ⟨es.toList[j], List.getElem_mem hj, pj⟩
    have q := hQ s.heap (Heap.SameBut.refl a s.heap) ⟨o, es, ep, t, ⟨ho, hex, hd⟩, ⟨g, pw⟩, fun i => by
      rw [Bool.or_eq_true, decide_eq_true_eq, ← hm i]
      exact ⟨fun z => z.elim id fun e => e ▸ hS, .inl⟩, ⟨hb, hf, by rw [if_pos hS]; exact hn⟩, hr, hl⟩
    rw [hS] at q
    exact wpAny_pure (wpAny_pure q)
  | none =>
    dsimp only
    have hno : ∀ x ∈ es.toList, kd.is k x.2 = false := fun x hx => by
      have c := List.findIdx?_eq_none_iff.mp hfi x hx
      simpa using c
    have hS : S k = false := by
      cases q : S k with
      | false => rfl
      | true =>
        obtain ⟨x, hx, i⟩ := (hm k).1 q
        rw [hno x hx] at i
        cases i
    have hgw : ∀ (b : Bool) {s1 : Shared} {T : Unit → Shared → Prop}, T () s1 → wpAny (model P w) A (match b with | true => rule "set.scan.the-table-gave-way" | false => pure ()) T E s1 :=
      fun b s1 T q => by
        cases b with
        | false => exact wpAny_pure q
        | true => exact wpAny_rule q
    have q1 := layNew_perm t es (kd.hash k) u
    have q2 := layNew_fits t es (kd.hash k) u
    have q3 := layNew_ris t es (kd.hash k) u hr
    have q4 := layNew_led t es (kd.hash k) u
    generalize layNew t es (kd.hash k) u = Z at q1 q2 q3 q4 ⊢
    obtain ⟨es1, t1, wasDummy, gave⟩ := Z
    dsimp only at q1 q2 q3 q4 ⊢
    rw [Array.toList_push] at q1
    have pc : es1.toList.Perm ((kd.hash k, u) :: es.toList) := q1.trans (List.perm_append_singleton _ _)
    have g1 : PySem.ElemsOf kd es1.toList := fun x hx => by
      rcases List.mem_cons.mp (pc.mem_iff.mp hx) with z | z
      · rw [z]
        exact ⟨⟨k, hu, rfl⟩, hsc⟩
      · exact g x z
    have p1 : es1.toList.Pairwise (Apt kd) := by
      refine (pc.pairwise_iff fun h => Apt.sym kd h).mpr (List.pairwise_cons.mpr ⟨fun y hy i h1 h2 => ?_, pw⟩)
      have e : i = k := kd.inj u i k h1 hu
      subst e
      rw [hno y hy] at h2
      cases h2
    have m1 : ∀ i, (S i || decide (i = k)) = true ↔ ∃ x ∈ es1.toList, kd.is i x.2 = true := fun i => by
      rw [Bool.or_eq_true, decide_eq_true_eq, hm i]
      constructor
      · rintro (⟨x, hx, z⟩ | rfl)
        · exact ⟨x, pc.mem_iff.mpr (List.mem_cons_of_mem _ hx), z⟩
        · exact ⟨_, pc.mem_iff.mpr List.mem_cons_self, hu⟩
      · rintro ⟨x, hx, z⟩
        rcases List.mem_cons.mp (pc.mem_iff.mp hx) with y | y
        · subst y
          exact .inr (kd.inj u i k z hu)
        · exact .inl ⟨x, y, z⟩
    have hsz : es1.size = n + 1 := by
      have z := pc.length_eq
      rw [Array.length_toList, List.length_cons, Array.length_toList, hn] at z
      exact z
    have hb1 : es1.size < scanBound := by
      rw [hsz]
      exact room
    have hled : w.params.followText "set-order" = true ∨ t1.led = true := hl.imp id fun z => by
      rw [q4]
      exact z
    have fin : ∀ h', Heap.SameBut a s.heap h' → SetW kd h' a (fun j => S j || decide (j = k)) es1.size → Q true { s with heap := h' } := fun h' sb r => by
      have q := hQ h' sb
      rw [hS] at q
      rw [hsz] at r
      exact q r
    refine wpAny_bind (hgw _ ?_)
    split
    · refine wpAny_bind ?_
      rw [hashByValue_scannable 8 hsc]
      refine wpAny_pure (addW_end (fun b s1 T q => ?_) ho hex hd g1 p1 m1 hb1 ?_ ?_ ?_ fun h' sb r => ?_)
      · cases b with
        | false => exact wpAny_pure q
        | true => exact wpAny_rule q
      · first | (split <;> first | exact q2 | exact SetTable.fits_plain_off q2) | exact q2
      · first | (split <;> exact q3) | exact q3
      · first | (split <;> exact hled) | exact hled
      · exact wpAny_pure (fin h' sb r)
    · refine wpAny_bind (wpAny_pure ?_)
      simp only [↓reduceIte]
      refine addW_end (fun b s1 T q => ?_) ho hex hd g1 p1 m1 hb1 q2 q3 hled fun h' sb r => ?_
      · cases b with
        | false => exact wpAny_pure q
        | true => exact wpAny_rule q
      · exact wpAny_pure (fin h' sb r)
/-- found.add(u) -/
theorem addW {k : κ} {u : Value} {Q : Value → Shared → Prop} (hu : kd.is k u = true) (hsc : u.scannable = true) (R : SetW kd s.heap a S n) (room : n + 1 < scanBound)
    (hQ : ∀ h', Heap.SameBut a s.heap h' → SetW kd h' a (fun j => S j || decide (j = k)) (if S k = true then n else n + 1) → Q .none { s with heap := h', toks := s.toks + 1 }) :
    wpAny (model P w) A (call (.builtin "set.add") [.ref a, u]) Q E s := by
  refine wpAny_call_entry F.slot_set_add R.of.typeIs F.entry_set_add ?_ (F.args_set_add_2 _ _)
  unfold Builtin.«set.add» Builtin.Frozenset.oneOther
  simp only [List.isEmpty_nil, bind_assoc]
  unfold Builtin.Frozenset.addrOf setAdd
  refine wpAny_bind (wpAny_pure ?_)
  refine wpAny_bind (wpAny_pure ?_)
  refine wpAny_bind (wpAny_holding (wpAny_bind (kd.pyHash hu (addW_hashed (s := { s with toks := s.toks + 1 }) hu hsc R room fun h' sb r => ?_))))
  exact wpAny_pure ⟨_, rfl, hQ h' sb r⟩
end
end
end Jo

set_option Elab.async false
set_option linter.all false
set_option maxRecDepth 100000
set_option maxHeartbeats 2000000
/-! sorted of a set of texts; the set as a tracked thing. -/
namespace Jo
open PySem PySem.Spec PyProof.Rows L2 PpSet
/-- the text that a value is -/
def txV : Value → Str
  | .str x _ => x
  | _ => Str.empty
theorem strs_tx : ∀ {vs : List Value}, (∀ v ∈ vs, ∃ x t, v = Value.str x t) → StrsAre vs (vs.map txV)
  | [], _ => .nil
  | v :: vs, h => by
    obtain ⟨x, t, e⟩ := h v List.mem_cons_self
    subst e
    exact .cons x t (strs_tx fun u hu => h u (List.mem_cons_of_mem _ hu))
section
variable {P : Program} {w : World} {A : Around} {E : Value → Shared → Prop} {s : Shared} {a : Addr} {S : Str → Bool} {n : Nat}
theorem sortW {Q : Value → Shared → Prop} (R : SetW (PySem.strKind P w) s.heap a S n) (hh : A.handled = none) (h64 : n < 64)
    (hQ : ∀ (s' : Shared) (p c : Nat) (out : List Value) (ys : List Str), (∀ b o, s.heap.get? b = some o → s'.heap.get? b = some o) → s'.gens = s.gens → s'.os = s.os →
      s.heap.objs.size ≤ p → s'.heap.get? p = some (seqObj "list" out.toArray c) → StrsAre out ys → sortedS ys = true → ys.Nodup → (∀ k, k ∈ ys ↔ S k = true) → ys.length = n → Q (.ref p) s') :
    wpAny (model P w) A (call (.builtin "sorted") [.ref a]) Q E s := by
  obtain ⟨o, es, ep, t, ⟨ho, hex, hd⟩, ⟨g, pw⟩, hm, ⟨hb, hf, hn⟩, hr, hl⟩ := R
  have gs : ∀ x ∈ es.toList, ∃ k t, x.2 = Value.str k t := fun x hx => by
    obtain ⟨⟨k, i, _⟩, _⟩ := g x hx
    obtain ⟨t, e⟩ := Value.isStrOf_shape i
    exact ⟨k, t, e⟩
  have isx : ∀ x ∈ es.toList, ∀ k, (PySem.strKind P w).is k x.2 = true ↔ txV x.2 = k := fun x hx k => by
    obtain ⟨k0, t, e⟩ := gs x hx
    rw [e]
    constructor
    · intro i
      obtain ⟨t', e'⟩ := Value.isStrOf_shape (x := k) (v := Value.str k0 t) i
      injection e' with e1 e2
    · intro i
      subst i
      exact PySem.strKind_is _ _ _ _
  refine Calls.call_function_entry kind_sorted plain_sorted entry_sorted (args_sorted1 _) ?_
  unfold Builtin.«sorted»
  refine wpAny_bind (m := checkCount "sorted" 1 1 _) (wpAny_pure (wpAny_bind (collect_set (A := A.in1) hh ⟨o, ho, hex.1, hd⟩ hf hb hr hl fun s1 vs k1 hz g1 o1 pm => ?_)))
  have hvl : vs.length = n := by
    rw [pm.length_eq, List.length_map, Array.length_toList]
    exact hn
  have hS : StrsAre vs (vs.map txV) := strs_tx fun v hv => by
    obtain ⟨x, hx, q⟩ := List.mem_map.mp (pm.mem_iff.mp hv)
    rw [← q]
    exact gs x hx
  have pk : (vs.map txV).Perm (es.toList.map fun x => txV x.2) := by
    have q := pm.map txV
    rwa [List.map_map] at q
  have nd : (es.toList.map fun x => txV x.2).Nodup := by
    refine List.pairwise_map.mpr (List.Pairwise.imp_of_mem (fun {x y} hx hy h e => ?_) pw)
    exact h (txV x.2) ((isx x hx _).mpr rfl) ((isx y hy _).mpr e.symm)
  refine wpAny_bind (wpAny_newList ?_ (by rw [hvl, sizeLine_eq]; omega))
  have hoL : (s1.heap.push (seqObj "list" vs.toArray 0)).get? s1.heap.objs.size = some (seqObj "list" vs.toArray 0) := Heap.get?_push_size _ rfl
  refine wpAny_bind (wpAny_holding (wpAny_call_entry slot_list_sort ⟨_, hoL, rfl⟩ entry_list_sort
    (list_sort_treeK strKind_oneLt hoL hS.keysOf (fun v₁ v₂ rest e => keyKind_strs (by rw [← e]; exact hS)) (by rw [hvl]; exact h64) fun st' hp hs => ⟨_, rfl, ?_⟩) (args_list_sort _)))
  obtain ⟨ys, y1, y2, y3⟩ := sorted_out_str hS hp hs
  obtain ⟨c, hc⟩ := sortedHeap_at (vs := vs) (out := (arrOf st').map (·.2)) hoL
  have pn := y2.trans pk
  refine wpAny_pure ⟨_, rfl, hQ _ s1.heap.objs.size c ((arrOf st').map (·.2)).toList ys (fun b u e => ?_) g1 o1 hz (by rw [Array.toArray_toList]; exact hc) y1 y3 (pn.nodup_iff.mpr nd) (fun k => ?_) ?_⟩
  · have q := k1 b u e
    have hlt := Heap.lt_size q
    refine (sortedHeap_old (Nat.ne_of_lt hlt) ?_).trans (Heap.get?_push_of_some _ q)
    rw [size_push']
    exact Nat.lt_succ_of_lt hlt
  · rw [pn.mem_iff, hm k, List.mem_map]
    exact ⟨fun ⟨x, hx, q⟩ => ⟨x, hx, (isx x hx k).mpr q⟩, fun ⟨x, hx, q⟩ => ⟨x, hx, (isx x hx k).mp q⟩⟩
  · rw [pn.length_eq, List.length_map, Array.length_toList]
    exact hn
end
/-- the set of texts at a -/
def SetT (P : Program) (w : World) (a : Addr) (S : Str → Bool) (n : Nat) : HO := .ext fun h => SetW (PySem.strKind P w) h a S n
theorem setT_ok {P : Program} {w : World} {H : Hp} {h : Heap} {a : Addr} {S : Str → Bool} {n : Nat} (R : SetW (PySem.strKind P w) h a S n) : ObjOk P w H h a (SetT P w a S n) := by
  have ⟨o, _, _, _, ⟨ho, _⟩, _⟩ := R
  exact ⟨R, ⟨o, ho⟩, fun h1 h2 p k => SetW.keep p k⟩
section
variable {X : Cx}
theorem setT_get {pins : List (Addr × Obj)} {σ : L2.St} {H : Hp} {s : Shared} {a : Addr} {S : Str → Bool} {n : Nat} (I : Inv X pins σ H s) (ha : H a = some (SetT X.prog X.w a S n)) : SetW (PySem.strKind X.prog X.w) s.heap a S n := (I.hok a _ ha).1
theorem addT {pins : List (Addr × Obj)} {σ : L2.St} {H : Hp} {s : Shared} {A : Around} {E : Value → Shared → Prop} {D : Addr} {S : Str → Bool} {n : Nat} {y : Str} {u : Value} {Q : Value → Shared → Prop} (I : Inv X pins σ H s) (hD : H D = some (SetT X.prog X.w D S n)) (ru : RelV (.str y) u) (room : n + 1 < scanBound)
    (h : ∀ s', Inv X pins σ (upd H D (SetT X.prog X.w D (fun j => S j || decide (j = y)) (if S y = true then n else n + 1))) s' → Q .none s') : wpAny (model X.prog X.w) A (call (.builtin "set.add") [.ref D, u]) Q E s := by
  obtain ⟨t, e⟩ := (show ∃ t, u = Value.str y t from ru)
  subst e
  refine addW (PySem.strKind_is _ _ _ _) rfl (setT_get I hD) room fun h' sb new => h _ ?_
  have he : ∃ u, h'.get? D = some u := by
    have ⟨o, _, _, _, ⟨ho, _⟩, _⟩ := new
    exact ⟨o, ho⟩
  exact I.write (e := D) (t' := s.toks + 1) (by rw [hD]; trivial) (.inl rfl) (fun b u hb hu => (sb.2 b hb).trans hu) he (setT_ok new)
/-- sorted(a set of texts), fewer than 64 -/
def rSortT2 (P : Program) (w : World) : List V → Hp → VK → Prop := fun vs H Q => ∃ (a : Addr) (S : Str → Bool) (n : Nat), vs = [.ref a] ∧ H a = some (SetT P w a S n) ∧ n < 64 ∧
  ∀ (ys : List Str) (p : Addr), sortedS ys = true → ys.Nodup → (∀ k, k ∈ ys ↔ S k = true) → ys.length = n → H p = none → Q (.ref p) (upd H p (.lst (ys.map V.str)))
theorem cr_sortT2 (hc : X.calm = true) : CallR X (.builtin "sorted") (rSortT2 X.prog X.w) := by
  intro pins s σ H vs us Q I r h
  obtain ⟨a, S, n, rfl, ha, h64, q⟩ := h
  rw [Vals.ref1 r]
  refine sortW (setT_get I ha) (I.ok.hd hc) h64 fun s' p c out ys k g o hp hg y1 y2 y3 y4 y5 => ?_
  have hn : H p = none := I.hok.fresh hp
  have hlen : (ys.map V.str).length ≤ sizeLine := by
    rw [List.length_map, y5, sizeLine_eq]
    omega
  have J : Inv X pins σ (upd H p (.lst (ys.map V.str))) { s with heap := s'.heap, gens := s'.gens, drawn := s'.drawn, toks := s'.toks } :=
    I.call (ch := []) (Un.laid k hp hn) (I.hok.laid k hp ⟨hlen, out, c, vals_of_strs y1, hg⟩) (by rw [g]; exact I.bare) (fun _ z => nomatch z)
  have e : s' = { s with heap := s'.heap, gens := s'.gens, drawn := s'.drawn, toks := s'.toks } := by
    cases s'
    cases s
    cases o
    rfl
  rw [e]
  exact ⟨.ref p, _, J, rfl, q ys p y2 y3 y4 y5 hn⟩
end
end Jo

set_option Elab.async false
set_option linter.all false
set_option maxRecDepth 100000
/-! texts in order without doubles: the one list. -/
namespace Jo
open PySem PySem.Spec PyProof.Rows L2
/-- x stands ahead of y -/
def Ahd (x y : Str) : Prop := x.cps.toList < y.cps.toList
instance (x y : Str) : Decidable (Ahd x y) := inferInstanceAs (Decidable (x.cps.toList < y.cps.toList))
theorem str_cps {x y : Str} (h : x.cps.toList = y.cps.toList) : x = y := by
  cases x
  cases y
  exact congrArg _ (Array.toList_inj.mp h)
theorem Ahd.irr {x : Str} (h : Ahd x x) : False := List.lt_irrefl _ h
theorem Ahd.trans {x y z : Str} (a : Ahd x y) (b : Ahd y z) : Ahd x z := List.lt_trans a b
theorem Ahd.tri {x y : Str} (n : x ≠ y) (h : ¬ Ahd x y) : Ahd y x := by
  have h1 : y.cps.toList ≤ x.cps.toList := List.not_lt.mp h
  by_cases c : Ahd y x
  · exact c
  · exact absurd (str_cps (List.le_antisymm (List.not_lt.mp c) h1)) n
/-- x put in its place -/
def insS (x : Str) : List Str → List Str
  | [] => [x]
  | y :: r => if x = y then y :: r else if Ahd x y then x :: y :: r else y :: insS x r
def srt (xs : List Str) : List Str := xs.foldr insS []
theorem mem_insS {x k : Str} : ∀ {r : List Str}, k ∈ insS x r ↔ k = x ∨ k ∈ r
  | [] => by simp [insS]
  | y :: r => by
    unfold insS
    split
    · rename_i e
      subst e
      simp
    · split
      · simp
      · rw [List.mem_cons, mem_insS, List.mem_cons]
        exact ⟨fun h => h.elim (fun e => .inr (.inl e)) fun h => h.elim .inl fun h => .inr (.inr h), fun h => h.elim (fun e => .inr (.inl e)) fun h => h.elim .inl fun h => .inr (.inr h)⟩
theorem len_insS {x : Str} : ∀ {r : List Str}, (insS x r).length ≤ r.length + 1
  | [] => Nat.le_refl _
  | y :: r => by
    have := @len_insS x r
    unfold insS
    split
    · simp
    · split
      · simp
      · simp; omega
theorem up_insS {x : Str} : ∀ {r : List Str}, r.Pairwise Ahd → (insS x r).Pairwise Ahd
  | [], _ => List.pairwise_singleton _ _
  | y :: r, h => by
    obtain ⟨h1, h2⟩ := List.pairwise_cons.mp h
    unfold insS
    split
    · exact h
    · rename_i ne
      split
      · rename_i lt
        refine List.pairwise_cons.mpr ⟨fun z hz => ?_, h⟩
        rcases List.mem_cons.mp hz with e | m
        · rw [e]; exact lt
        · exact lt.trans (h1 z m)
      · rename_i nl
        refine List.pairwise_cons.mpr ⟨fun z hz => ?_, up_insS h2⟩
        rcases mem_insS.mp hz with e | m
        · rw [e]; exact Ahd.tri ne nl
        · exact h1 z m
theorem mem_srt {k : Str} : ∀ {xs : List Str}, k ∈ srt xs ↔ k ∈ xs
  | [] => by simp [srt]
  | x :: xs => by
    show k ∈ insS x (srt xs) ↔ _
    rw [mem_insS, mem_srt, List.mem_cons]
theorem len_srt : ∀ xs : List Str, (srt xs).length ≤ xs.length
  | [] => Nat.le_refl _
  | x :: xs => by
    have h := len_srt xs
    have h2 : (insS x (srt xs)).length ≤ (srt xs).length + 1 := len_insS
    show (insS x (srt xs)).length ≤ _
    rw [List.length_cons]
    omega
theorem up_srt : ∀ xs : List Str, (srt xs).Pairwise Ahd
  | [] => List.Pairwise.nil
  | x :: xs => up_insS (up_srt xs)
theorem up_same : ∀ {xs ys : List Str}, xs.Pairwise Ahd → ys.Pairwise Ahd → (∀ k, k ∈ xs ↔ k ∈ ys) → xs = ys
  | [], [], _, _, _ => rfl
  | [], y :: ys, _, _, h => absurd ((h y).mpr List.mem_cons_self) (by simp)
  | x :: xs, [], _, _, h => absurd ((h x).mp List.mem_cons_self) (by simp)
  | x :: xs, y :: ys, a, b, h => by
    obtain ⟨a1, a2⟩ := List.pairwise_cons.mp a
    obtain ⟨b1, b2⟩ := List.pairwise_cons.mp b
    have e : x = y := by
      rcases List.mem_cons.mp ((h x).mp List.mem_cons_self) with e | m
      · exact e
      · rcases List.mem_cons.mp ((h y).mpr List.mem_cons_self) with e | m2
        · exact e.symm
        · exact ((b1 x m).trans (a1 y m2)).irr.elim
    subst e
    have t : xs = ys := up_same a2 b2 fun k => by
      constructor
      · intro m
        rcases List.mem_cons.mp ((h k).mp (List.mem_cons_of_mem _ m)) with e | m2
        · subst e; exact ((a1 _ m).irr).elim
        · exact m2
      · intro m
        rcases List.mem_cons.mp ((h k).mpr (List.mem_cons_of_mem _ m)) with e | m2
        · subst e; exact ((b1 _ m).irr).elim
        · exact m2
    rw [t]
theorem up_of_rising : ∀ {xs : List Str} {p : Str}, risingS p xs = true → (p :: xs).Nodup → (p :: xs).Pairwise Ahd
  | [], p, _, _ => List.pairwise_singleton _ _
  | x :: r, p, h, nd => by
    have h' : (!ltCps x.cps.toList p.cps.toList && risingS x r) = true := h
    rw [Bool.and_eq_true, Bool.not_eq_true'] at h'
    obtain ⟨n1, n2⟩ := List.nodup_cons.mp nd
    have ih := up_of_rising h'.2 n2
    have nl : ¬ Ahd x p := fun z => by
      have e := h'.1
      rw [ltCps_eq] at e
      exact of_decide_eq_false e z
    have lt : Ahd p x := Ahd.tri (fun e => n1 (by rw [← e]; exact List.mem_cons_self)) nl
    refine List.pairwise_cons.mpr ⟨fun z hz => ?_, ih⟩
    rcases List.mem_cons.mp hz with e | m
    · rw [e]; exact lt
    · exact lt.trans ((List.pairwise_cons.mp ih).1 z m)
theorem srt_of {xs ys : List Str} (h : sortedS ys = true) (nd : ys.Nodup) (hm : ∀ k, k ∈ ys ↔ k ∈ xs) : ys = srt xs := by
  refine up_same ?_ (up_srt xs) fun k => (hm k).trans mem_srt.symm
  cases ys with
  | nil => exact List.Pairwise.nil
  | cons y r => exact up_of_rising h nd
theorem srt_one (x : Str) : srt [x] = [x] := rfl
/-- sorted twice: the parts may be sorted first -/
theorem srt_flat {α : Type} (f : α → List Str) (xs : List α) : srt (xs.flatMap fun a => srt (f a)) = srt (xs.flatMap f) := by
  refine up_same (up_srt _) (up_srt _) fun k => ?_
  rw [mem_srt, mem_srt, List.mem_flatMap, List.mem_flatMap]
  exact ⟨fun ⟨a, h, m⟩ => ⟨a, h, mem_srt.mp m⟩, fun ⟨a, h, m⟩ => ⟨a, h, mem_srt.mpr m⟩⟩
end Jo

set_option Elab.async false
set_option linter.all false
set_option maxRecDepth 100000
/-! trees: expressions as mathematics, as the law's tuples, as the program's instances. -/
namespace Jo
open PySem PySem.Spec PyProof.Rows L2
/-- the kinds with two sides -/
inductive Bk | plus | minus | times | equal | below | both | either
  deriving DecidableEq
/-- the eleven kinds -/
inductive Kd | num | var | bi (k : Bk) | un | ch
  deriving DecidableEq
inductive Tr
  | num (n : Int)
  | var (x : Str)
  | un (a : Tr)
  | bi (k : Bk) (a b : Tr)
  | ch (a b c : Tr)
def Bk.word : Bk → Str
  | .plus => "plus"
  | .minus => "minus"
  | .times => "times"
  | .equal => "equal"
  | .below => "below"
  | .both => "both"
  | .either => "either"
def Kd.word : Kd → Str
  | .num => "number"
  | .var => "variable"
  | .bi k => k.word
  | .un => "not"
  | .ch => "choose"
namespace Tr
def kd : Tr → Kd
  | num _ => .num
  | var _ => .var
  | un _ => .un
  | bi k _ _ => .bi k
  | ch _ _ _ => .ch
def kids : Tr → List Tr
  | num _ => []
  | var _ => []
  | un a => [a]
  | bi _ a b => [a, b]
  | ch a b c => [a, b, c]
def text : Tr → Str
  | num n => (toString n : String)
  | var x => x
  | un a => ((("not" : Str) ++ ("(" : Str)) ++ Txt.join ", " [a.text]) ++ ")"
  | bi k a b => ((k.word ++ ("(" : Str)) ++ Txt.join ", " [a.text, b.text]) ++ ")"
  | ch a b c => ((("choose" : Str) ++ ("(" : Str)) ++ Txt.join ", " [a.text, b.text, c.text]) ++ ")"
def parts : Tr → Nat
  | num _ => 1
  | var _ => 1
  | un a => 1 + a.parts
  | bi _ a b => 1 + (a.parts + b.parts)
  | ch a b c => 1 + (a.parts + (b.parts + c.parts))
def depth : Tr → Nat
  | num _ => 1
  | var _ => 1
  | un a => 1 + a.depth
  | bi _ a b => 1 + max a.depth b.depth
  | ch a b c => 1 + max (max a.depth b.depth) c.depth
def vars : Tr → List Str
  | num _ => []
  | var x => [x]
  | un a => a.vars
  | bi _ a b => a.vars ++ b.vars
  | ch a b c => a.vars ++ (b.vars ++ c.vars)
/-- the leaf is not a leaf -/
def comp (t : Tr) : Bool := !t.kids.isEmpty
def head (t : Tr) : Str := t.kd.word
theorem one_parts : ∀ t : Tr, 1 ≤ t.parts
  | num _ => Nat.le_refl _
  | var _ => Nat.le_refl _
  | un a => Nat.le_add_right _ _
  | bi _ a b => Nat.le_add_right _ _
  | ch a b c => Nat.le_add_right _ _
theorem one_depth : ∀ t : Tr, 1 ≤ t.depth
  | num _ => Nat.le_refl _
  | var _ => Nat.le_refl _
  | un a => Nat.le_add_right _ _
  | bi _ a b => Nat.le_add_right _ _
  | ch a b c => Nat.le_add_right _ _
theorem vars_parts : ∀ t : Tr, t.vars.length ≤ t.parts
  | num _ => Nat.zero_le _
  | var _ => Nat.le_refl _
  | un a => Nat.le_trans (vars_parts a) (Nat.le_add_left _ _)
  | bi _ a b => by
    have h1 := vars_parts a
    have h2 := vars_parts b
    show (a.vars ++ b.vars).length ≤ 1 + (a.parts + b.parts)
    rw [List.length_append]
    omega
  | ch a b c => by
    have h1 := vars_parts a
    have h2 := vars_parts b
    have h3 := vars_parts c
    show (a.vars ++ (b.vars ++ c.vars)).length ≤ 1 + (a.parts + (b.parts + c.parts))
    rw [List.length_append, List.length_append]
    omega
/-- the names, in order -/
def nms (t : Tr) : List Str := srt t.vars
theorem nms_len (t : Tr) : t.nms.length ≤ t.parts := Nat.le_trans (len_srt _) (vars_parts t)
theorem text_comp : ∀ {t : Tr}, t.comp = true → t.text = ((t.head ++ ("(" : Str)) ++ Txt.join ", " (t.kids.map text)) ++ ")"
  | un _, _ => rfl
  | bi _ _ _, _ => rfl
  | ch _ _ _, _ => rfl
theorem parts_comp : ∀ {t : Tr}, t.comp = true → t.parts = 1 + (t.kids.map parts).sum
  | un a, _ => by simp [parts, kids]
  | bi _ a b, _ => by simp [parts, kids]
  | ch a b c, _ => by simp [parts, kids]
theorem vars_comp : ∀ {t : Tr}, t.comp = true → t.vars = t.kids.flatMap vars
  | un a, _ => by simp [vars, kids]
  | bi _ a b, _ => by simp [vars, kids]
  | ch a b c, _ => by simp [vars, kids]
/-- the greatest of numbers from 1 on -/
def top1 (l : List Nat) : Nat := l.foldl max 0
theorem depth_comp : ∀ {t : Tr}, t.comp = true → t.depth = 1 + top1 (t.kids.map depth)
  | un a, _ => by simp [depth, kids, top1]
  | bi _ a b, _ => by simp [depth, kids, top1]
  | ch a b c, _ => by simp [depth, kids, top1]
/-- numbers to 999, names of at most eight signs -/
def Ok (nm : Str → Prop) : Tr → Prop
  | num n => 0 ≤ n ∧ n ≤ 999
  | var x => nm x
  | un a => Ok nm a
  | bi _ a b => Ok nm a ∧ Ok nm b
  | ch a b c => Ok nm a ∧ Ok nm b ∧ Ok nm c
theorem Ok.kid {nm : Str → Prop} : ∀ {t : Tr}, Ok nm t → ∀ u ∈ t.kids, Ok nm u
  | num _, _, u, h => by cases h
  | var _, _, u, h => by cases h
  | un a, o, u, h => by
    cases List.mem_singleton.mp h
    exact o
  | bi _ a b, o, u, h => by
    rcases List.mem_cons.mp h with e | h
    · rw [e]; exact o.1
    · cases List.mem_singleton.mp h
      exact o.2
  | ch a b c, o, u, h => by
    rcases List.mem_cons.mp h with e | h
    · rw [e]; exact o.1
    · rcases List.mem_cons.mp h with e | h
      · rw [e]; exact o.2.1
      · cases List.mem_singleton.mp h
        exact o.2.2
theorem kid_depth : ∀ {t : Tr}, ∀ u ∈ t.kids, u.depth + 1 ≤ t.depth
  | num _, u, h => by cases h
  | var _, u, h => by cases h
  | un a, u, h => by
    cases List.mem_singleton.mp h
    show a.depth + 1 ≤ 1 + a.depth
    omega
  | bi _ a b, u, h => by
    show u.depth + 1 ≤ 1 + max a.depth b.depth
    rcases List.mem_cons.mp h with e | h
    · rw [e]; omega
    · cases List.mem_singleton.mp h
      omega
  | ch a b c, u, h => by
    show u.depth + 1 ≤ 1 + max (max a.depth b.depth) c.depth
    rcases List.mem_cons.mp h with e | h
    · rw [e]; omega
    · rcases List.mem_cons.mp h with e | h
      · rw [e]; omega
      · cases List.mem_singleton.mp h
        omega
theorem kid_parts : ∀ {t : Tr}, ∀ u ∈ t.kids, u.parts + 1 ≤ t.parts
  | num _, u, h => by cases h
  | var _, u, h => by cases h
  | un a, u, h => by
    cases List.mem_singleton.mp h
    show a.parts + 1 ≤ 1 + a.parts
    omega
  | bi _ a b, u, h => by
    show u.parts + 1 ≤ 1 + (a.parts + b.parts)
    rcases List.mem_cons.mp h with e | h
    · rw [e]; omega
    · cases List.mem_singleton.mp h
      omega
  | ch a b c, u, h => by
    show u.parts + 1 ≤ 1 + (a.parts + (b.parts + c.parts))
    rcases List.mem_cons.mp h with e | h
    · rw [e]; omega
    · rcases List.mem_cons.mp h with e | h
      · rw [e]; omega
      · cases List.mem_singleton.mp h
        omega
end Tr
theorem len_cat (a b : Str) : (a ++ b).length = a.length + b.length := by
  show (a.cps ++ b.cps).size = _
  rw [Array.size_append]
  rfl
theorem join_len (s : Str) (xs : List Str) : (Txt.join s xs).length ≤ (xs.map (·.length)).sum + xs.length * s.length := by
  rw [TL.join_eq]
  exact StrLaws.join_length_le s xs
theorem num_len {n : Int} (h0 : 0 ≤ n) (h1 : n ≤ 999) : ((toString n : String) : Str).length ≤ 3 := PyProof.Rows.toString_length_le h0 (by decide) (by show n < (10 : Int) ^ 3; omega)
namespace Tr
theorem text_len {nm : Str → Prop} (hn : ∀ x, nm x → x.length ≤ 8) : ∀ {t : Tr}, Ok nm t → t.text.length ≤ 16 * t.parts
  | num n, o => Nat.le_trans (num_len o.1 o.2) (by show 3 ≤ 16 * 1; decide)
  | var x, o => Nat.le_trans (hn x o) (by show 8 ≤ 16 * 1; decide)
  | un a, o => by
    have h := text_len hn (t := a) o
    have j := join_len ", " [a.text]
    have w : (("not" : Str) ++ ("(" : Str)).length = 4 := by decide +kernel
    have c : (")" : Str).length = 1 := by decide +kernel
    have q : (", " : Str).length = 2 := by decide +kernel
    show (((("not" : Str) ++ ("(" : Str)) ++ Txt.join ", " [a.text]) ++ ")").length ≤ 16 * (1 + a.parts)
    rw [len_cat, len_cat, w, c]
    simp at j
    omega
  | bi k a b, o => by
    have h := text_len hn (t := a) o.1
    have h2 := text_len hn (t := b) o.2
    have j := join_len ", " [a.text, b.text]
    have w : (k.word ++ ("(" : Str)).length ≤ 7 := by cases k <;> decide +kernel
    have c : (")" : Str).length = 1 := by decide +kernel
    have q : (", " : Str).length = 2 := by decide +kernel
    show (((k.word ++ ("(" : Str)) ++ Txt.join ", " [a.text, b.text]) ++ ")").length ≤ 16 * (1 + (a.parts + b.parts))
    rw [len_cat, len_cat, c]
    simp at j
    omega
  | ch a b d, o => by
    have h := text_len hn (t := a) o.1
    have h2 := text_len hn (t := b) o.2.1
    have h3 := text_len hn (t := d) o.2.2
    have j := join_len ", " [a.text, b.text, d.text]
    have w : (("choose" : Str) ++ ("(" : Str)).length = 7 := by decide +kernel
    have c : (")" : Str).length = 1 := by decide +kernel
    have q : (", " : Str).length = 2 := by decide +kernel
    show (((("choose" : Str) ++ ("(" : Str)) ++ Txt.join ", " [a.text, b.text, d.text]) ++ ")").length ≤ 16 * (1 + (a.parts + (b.parts + d.parts)))
    rw [len_cat, len_cat, w, c]
    simp at j
    omega
end Tr
/-! ### the law's tuples -/
/-- v is the tuple of the tree -/
def Tp (H : Hp) : Tr → V → Prop
  | .num n, v => ∃ p, v = .ref p ∧ H p = some (.tup [.str "number", .int n])
  | .var x, v => ∃ p, v = .ref p ∧ H p = some (.tup [.str "variable", .str x])
  | .un a, v => ∃ p u, v = .ref p ∧ H p = some (.tup [.str "not", u]) ∧ Tp H a u
  | .bi k a b, v => ∃ p u1 u2, v = .ref p ∧ H p = some (.tup [.str k.word, u1, u2]) ∧ Tp H a u1 ∧ Tp H b u2
  | .ch a b c, v => ∃ p u1 u2 u3, v = .ref p ∧ H p = some (.tup [.str "choose", u1, u2, u3]) ∧ Tp H a u1 ∧ Tp H b u2 ∧ Tp H c u3
theorem Tp.same {H H' : Hp} (s : Same H H') : ∀ {t : Tr} {v : V}, Tp H t v → Tp H' t v
  | .num n, v, ⟨p, e, h⟩ => ⟨p, e, s _ _ h⟩
  | .var x, v, ⟨p, e, h⟩ => ⟨p, e, s _ _ h⟩
  | .un a, v, ⟨p, u, e, h, r⟩ => ⟨p, u, e, s _ _ h, r.same s⟩
  | .bi k a b, v, ⟨p, u1, u2, e, h, r1, r2⟩ => ⟨p, u1, u2, e, s _ _ h, r1.same s, r2.same s⟩
  | .ch a b c, v, ⟨p, u1, u2, u3, e, h, r1, r2, r3⟩ => ⟨p, u1, u2, u3, e, s _ _ h, r1.same s, r2.same s, r3.same s⟩
/-- what is not a leaf: its word, its sides -/
theorem Tp.comp {H : Hp} : ∀ {t : Tr} {v : V}, t.comp = true → Tp H t v → ∃ p us, v = .ref p ∧ H p = some (.tup (.str t.head :: us)) ∧ Paired (Tp H) t.kids us
  | .un a, v, _, ⟨p, u, e, h, r⟩ => ⟨p, [u], e, h, .cons r .nil⟩
  | .bi k a b, v, _, ⟨p, u1, u2, e, h, r1, r2⟩ => ⟨p, [u1, u2], e, h, .cons r1 (.cons r2 .nil)⟩
  | .ch a b c, v, _, ⟨p, u1, u2, u3, e, h, r1, r2, r3⟩ => ⟨p, [u1, u2, u3], e, h, .cons r1 (.cons r2 (.cons r3 .nil))⟩
/-- the head of any -/
theorem Tp.head {H : Hp} : ∀ {t : Tr} {v : V}, Tp H t v → ∃ p us, v = .ref p ∧ H p = some (.tup (.str t.head :: us)) ∧ us.length ≤ 3 ∧ 0 < us.length
  | .num n, v, ⟨p, e, h⟩ => ⟨p, _, e, h, Nat.le_of_ble_eq_true rfl, Nat.le_of_ble_eq_true rfl⟩
  | .var x, v, ⟨p, e, h⟩ => ⟨p, _, e, h, Nat.le_of_ble_eq_true rfl, Nat.le_of_ble_eq_true rfl⟩
  | .un a, v, ⟨p, u, e, h, r⟩ => ⟨p, [u], e, h, Nat.le_of_ble_eq_true rfl, Nat.le_of_ble_eq_true rfl⟩
  | .bi k a b, v, ⟨p, u1, u2, e, h, r1, r2⟩ => ⟨p, [u1, u2], e, h, Nat.le_of_ble_eq_true rfl, Nat.le_of_ble_eq_true rfl⟩
  | .ch a b c, v, ⟨p, u1, u2, u3, e, h, r1, r2, r3⟩ => ⟨p, [u1, u2, u3], e, h, Nat.le_of_ble_eq_true rfl, Nat.le_of_ble_eq_true rfl⟩
/-! ### the program's instances; C: where the class of each kind stands -/
/-- what every instance has -/
structure Has (C : Kd → Addr) (H : Hp) (t : Tr) (a : Addr) (fs : List (Str × V)) : Prop where
  at_ : ∃ dx, H a = some (.ins (C t.kd) dx fs)
  text : fs.lookup ("text" : Str) = some (.str t.text)
  names : ∃ q, fs.lookup ("names" : Str) = some (.ref q) ∧ H q = some (.tup (t.nms.map V.str))
  parts : fs.lookup ("parts" : Str) = some (.int (t.parts : Int))
  depth : fs.lookup ("depth" : Str) = some (.int (t.depth : Int))
  no : ∀ m : Str, m ∉ (["text", "names", "parts", "depth", "number", "name", "test", "first", "second"] : List Str) → fs.lookup m = none
theorem Has.same {C : Kd → Addr} {H H' : Hp} {t : Tr} {a : Addr} {fs : List (Str × V)} (h : Has C H t a fs) (s : Same H H') : Has C H' t a fs :=
  ⟨let ⟨dx, e⟩ := h.at_; ⟨dx, s _ _ e⟩, h.text, let ⟨q, e, e2⟩ := h.names; ⟨q, e, s _ _ e2⟩, h.parts, h.depth, h.no⟩
/-- v is the instance of the tree -/
def Is (C : Kd → Addr) (H : Hp) : Tr → V → Prop
  | .num n, v => ∃ a fs, v = .ref a ∧ Has C H (.num n) a fs ∧ fs.lookup ("number" : Str) = some (.int n)
  | .var x, v => ∃ a fs, v = .ref a ∧ Has C H (.var x) a fs ∧ fs.lookup ("name" : Str) = some (.str x)
  | .un t, v => ∃ a fs u, v = .ref a ∧ Has C H (.un t) a fs ∧ fs.lookup ("first" : Str) = some u ∧ Is C H t u
  | .bi k t1 t2, v => ∃ a fs u1 u2, v = .ref a ∧ Has C H (.bi k t1 t2) a fs ∧ fs.lookup ("first" : Str) = some u1 ∧ fs.lookup ("second" : Str) = some u2 ∧ Is C H t1 u1 ∧ Is C H t2 u2
  | .ch t1 t2 t3, v => ∃ a fs u1 u2 u3, v = .ref a ∧ Has C H (.ch t1 t2 t3) a fs ∧ fs.lookup ("test" : Str) = some u1 ∧ fs.lookup ("first" : Str) = some u2 ∧ fs.lookup ("second" : Str) = some u3 ∧ Is C H t1 u1 ∧ Is C H t2 u2 ∧ Is C H t3 u3
theorem Is.same {C : Kd → Addr} {H H' : Hp} (s : Same H H') : ∀ {t : Tr} {v : V}, Is C H t v → Is C H' t v
  | .num n, v, ⟨a, fs, e, h, r⟩ => ⟨a, fs, e, h.same s, r⟩
  | .var x, v, ⟨a, fs, e, h, r⟩ => ⟨a, fs, e, h.same s, r⟩
  | .un t, v, ⟨a, fs, u, e, h, r, i⟩ => ⟨a, fs, u, e, h.same s, r, i.same s⟩
  | .bi k t1 t2, v, ⟨a, fs, u1, u2, e, h, r1, r2, i1, i2⟩ => ⟨a, fs, u1, u2, e, h.same s, r1, r2, i1.same s, i2.same s⟩
  | .ch t1 t2 t3, v, ⟨a, fs, u1, u2, u3, e, h, r1, r2, r3, i1, i2, i3⟩ => ⟨a, fs, u1, u2, u3, e, h.same s, r1, r2, r3, i1.same s, i2.same s, i3.same s⟩
theorem Is.has {C : Kd → Addr} {H : Hp} : ∀ {t : Tr} {v : V}, Is C H t v → ∃ a fs, v = .ref a ∧ Has C H t a fs
  | .num n, v, ⟨a, fs, e, h, r⟩ => ⟨a, fs, e, h⟩
  | .var x, v, ⟨a, fs, e, h, r⟩ => ⟨a, fs, e, h⟩
  | .un t, v, ⟨a, fs, u, e, h, r, i⟩ => ⟨a, fs, e, h⟩
  | .bi k t1 t2, v, ⟨a, fs, u1, u2, e, h, r1, r2, i1, i2⟩ => ⟨a, fs, e, h⟩
  | .ch t1 t2 t3, v, ⟨a, fs, u1, u2, u3, e, h, r1, r2, r3, i1, i2, i3⟩ => ⟨a, fs, e, h⟩
end Jo

set_option Elab.async false
set_option linter.all false
set_option maxRecDepth 100000
namespace Jo
open PySem PySem.Spec PyProof.Rows L2
def top (i : Nat) : Stmt := PySem.Challenge.pw_reentry_k14_entries.main.body.getD i (.Pass ⟨0, 0, 0, 0⟩)
def inClass : Stmt → Nat → Stmt
  | .ClassDef (body := b) .., i => b.getD i (.Pass ⟨0, 0, 0, 0⟩)
  | s, _ => s
abbrev m_InvalidName_init : Stmt := inClass (top 4) 0
abbrev m_InvalidSize_init : Stmt := inClass (top 5) 0
abbrev m_InvalidNumber_init : Stmt := inClass (top 6) 0
abbrev m_NotAnExpression_init : Stmt := inClass (top 7) 0
abbrev m_InvalidBody_init : Stmt := inClass (top 8) 0
abbrev m_InvalidSlots_init : Stmt := inClass (top 9) 0
abbrev m_TooMany_init : Stmt := inClass (top 10) 0
abbrev s_is_name : Stmt := top 22
abbrev s_is_size : Stmt := top 23
abbrev s_is_integer : Stmt := top 24
abbrev m_Expression_init : Stmt := inClass (top 26) 0
abbrev m_Expression_evaluate : Stmt := inClass (top 26) 1
abbrev m_Expression_add : Stmt := inClass (top 26) 2
abbrev m_Expression_sub : Stmt := inClass (top 26) 3
abbrev m_Expression_mul : Stmt := inClass (top 26) 4
abbrev m_Expression_and : Stmt := inClass (top 26) 5
abbrev m_Expression_or : Stmt := inClass (top 26) 6
abbrev m_Expression_invert : Stmt := inClass (top 26) 7
abbrev m_Expression_eq : Stmt := inClass (top 26) 8
abbrev m_Expression_str : Stmt := inClass (top 26) 9
abbrev m_Expression_repr : Stmt := inClass (top 26) 10
abbrev m_Number_init : Stmt := inClass (top 27) 1
abbrev m_Number_worth : Stmt := inClass (top 27) 2
abbrev m_Variable_init : Stmt := inClass (top 28) 1
abbrev m_Variable_worth : Stmt := inClass (top 28) 2
abbrev m_Plus_init : Stmt := inClass (top 29) 1
abbrev m_Plus_worth : Stmt := inClass (top 29) 2
abbrev m_Minus_init : Stmt := inClass (top 30) 1
abbrev m_Minus_worth : Stmt := inClass (top 30) 2
abbrev m_Times_init : Stmt := inClass (top 31) 1
abbrev m_Times_worth : Stmt := inClass (top 31) 2
abbrev m_Both_init : Stmt := inClass (top 32) 1
abbrev m_Both_worth : Stmt := inClass (top 32) 2
abbrev m_Either_init : Stmt := inClass (top 33) 1
abbrev m_Either_worth : Stmt := inClass (top 33) 2
abbrev m_Not_init : Stmt := inClass (top 34) 1
abbrev m_Not_worth : Stmt := inClass (top 34) 2
abbrev s_check_inside : Stmt := top 35
abbrev s_parts_with : Stmt := top 36
abbrev s_depth_with : Stmt := top 37
abbrev s_written : Stmt := top 38
abbrev s_check_expression : Stmt := top 39
abbrev m_Statement_init : Stmt := inClass (top 41) 0
abbrev m_Statement_eq : Stmt := inClass (top 41) 1
abbrev m_Statement_str : Stmt := inClass (top 41) 2
abbrev m_Statement_repr : Stmt := inClass (top 41) 3
abbrev m_Assign_init : Stmt := inClass (top 42) 0
abbrev m_If_init : Stmt := inClass (top 43) 0
abbrev m_Call_init : Stmt := inClass (top 44) 0
abbrev m_Return_init : Stmt := inClass (top 45) 0
abbrev m_Fail_init : Stmt := inClass (top 46) 0
abbrev s_check_name : Stmt := top 47
abbrev s_check_body : Stmt := top 48
abbrev s_amount_of : Stmt := top 49
abbrev s_height_of : Stmt := top 50
abbrev s_lines_inside : Stmt := top 51
abbrev s_indented : Stmt := top 52
abbrev m_Entry_init : Stmt := inClass (top 54) 0
abbrev m_Entry_eq : Stmt := inClass (top 54) 1
abbrev s_check_size : Stmt := top 55
abbrev s_check_slots : Stmt := top 56
abbrev s_cell : Stmt := top 58
abbrev s_purse : Stmt := top 59
abbrev s_draw : Stmt := top 60
abbrev s_name : Stmt := top 61
abbrev s_fresh : Stmt := top 62
abbrev s_names : Stmt := top 63
abbrev s_lis_name : Stmt := top 64
abbrev s_lis_size : Stmt := top 65
abbrev s_fault : Stmt := top 66
abbrev s_told : Stmt := top 67
abbrev s_title : Stmt := top 68
abbrev s_size : Stmt := top 69
abbrev s_extra : Stmt := top 70
abbrev s_lot : Stmt := top 71
abbrev s_extra_due : Stmt := top 72
abbrev s_lot_due : Stmt := top 73
abbrev s_due : Stmt := top 74
abbrev s_built : Stmt := top 75
abbrev s_named : Stmt := top 76
abbrev s_shown : Stmt := top 77
abbrev s_equal_right : Stmt := top 78
abbrev s_row_right : Stmt := top 79
abbrev s_right : Stmt := top 80
abbrev s_law : Stmt := top 81
def letters : Str := Str.ofString "abcdefghijklmnopqrstuvwxyz"
def signs : Str := Str.ofString "abcdefghijklmnopqrstuvwxyz0123456789"
/-- the module's own and the built-in names -/
structure Txt (mg : Str → Option Value) : Prop where
  g_MAX_SIZE : ∃ u, mg "MAX_SIZE" = some u ∧ RelV (.int 40) u
  g_MAX_NUMBER : ∃ u, mg "MAX_NUMBER" = some u ∧ RelV (.int 999) u
  g_MAX_PARTS : ∃ u, mg "MAX_PARTS" = some u ∧ RelV (.int 40) u
  g_MAX_DEPTH : ∃ u, mg "MAX_DEPTH" = some u ∧ RelV (.int 6) u
  g_MAX_LEVEL : ∃ u, mg "MAX_LEVEL" = some u ∧ RelV (.int 8) u
  g_MAX_SLOTS : ∃ u, mg "MAX_SLOTS" = some u ∧ RelV (.int 3) u
  g_MAX_STATEMENTS : ∃ u, mg "MAX_STATEMENTS" = some u ∧ RelV (.int 400) u
  g_LETTERS : ∃ u, mg "LETTERS" = some u ∧ RelV (.str letters) u
  g_SIGNS : ∃ u, mg "SIGNS" = some u ∧ RelV (.str signs) u
  g_LONGEST_NAME : ∃ u, mg "LONGEST_NAME" = some u ∧ RelV (.int 8) u
  b_ArithmeticError : mg "ArithmeticError" = none
  b_ValueError : mg "ValueError" = none
  b_abs : mg "abs" = none
  b_all : mg "all" = none
  b_bool : mg "bool" = none
  b_enumerate : mg "enumerate" = none
  b_int : mg "int" = none
  b_isinstance : mg "isinstance" = none
  b_len : mg "len" = none
  b_list : mg "list" = none
  b_max : mg "max" = none
  b_min : mg "min" = none
  b_range : mg "range" = none
  b_repr : mg "repr" = none
  b_sorted : mg "sorted" = none
  b_str : mg "str" = none
  b_sum : mg "sum" = none
  b_tuple : mg "tuple" = none
/-- the name of a kind's class -/
def Kd.cname : Kd → Str
  | .num => "Number"
  | .var => "Variable"
  | .bi .plus => "Plus"
  | .bi .minus => "Minus"
  | .bi .times => "Times"
  | .bi .equal => "Equal"
  | .bi .below => "Below"
  | .bi .both => "Both"
  | .bi .either => "Either"
  | .un => "Not"
  | .ch => "Choose"
def fieldsX : List Str := ["text", "names", "parts", "depth", "number", "name", "test", "first", "second"]
def kindsL : List Kd := [.num, .var, .bi .plus, .bi .minus, .bi .times, .bi .equal, .bi .below, .un, .bi .both, .bi .either, .ch]
def Kd.many : Kd → Nat
  | .num => 0
  | .var => 0
  | .bi _ => 2
  | .un => 1
  | .ch => 3
/-- the kinds that the program has -/
def Kd.has : Kd → Bool
  | .bi .equal => false
  | .bi .below => false
  | .ch => false
  | _ => true
end Jo

set_option Elab.async false
set_option linter.all false
set_option maxRecDepth 100000
set_option maxHeartbeats 2000000
namespace Jo
open PySem PySem.Spec PyProof.Rows L2
def kindsH : List Kd := kindsL.filter Kd.has
def nsB (K : PySem.W.Frag) (x : Str) : Bool := He.eqO (PySem.W.nsIn K mainGlobals x) (some (some (.ref (He.ga K x))))
def eqB (K : PySem.W.Frag) (C : Addr) (m : Str) (b : String) : Bool := He.eqO (PySem.W.findIn K (.ref C) m) (some (some (.builtin b)))
def ownB (K : PySem.W.Frag) (C : Addr) : Bool := PySem.W.plainGet K C Str.empty && (PySem.W.hasDictIn K C && (PySem.W.plainOver K C && (eqB K C "__setattr__" "object.__setattr__" && (eqB K C "__class__" "object.__class__" && decide (PySem.W.mroIn K C (.type "object") = some true)))))
def noB (K : PySem.W.Frag) (C : Addr) (fs : List Str) : Bool := fs.all fun f => He.eqO (PySem.W.findIn K (.ref C) f) (some none)
def mtB (K : PySem.W.Frag) (C : Addr) (m : Str) : Bool := He.eqO (PySem.W.findIn K (.ref C) m) (some (some (.ref (He.ma K C m)))) && PySem.W.isFn K (.ref (He.ma K C m))
def mkB (K : PySem.W.Frag) (C : Addr) : Bool := PySem.W.makesIn K C && (mtB K C "__init__" && PySem.W.keepIn K (.ref C))
def rdB (K : PySem.W.Frag) (C : Addr) : Bool := PySem.W.readsIn K C (.type "type") && decide (PySem.W.specialIn K (.ref C) "__getattribute__" = some (some (.builtin "type.__getattribute__")))
def wdA (K : PySem.W.Frag) (C : Addr) (z : Str) : Bool := match PySem.W.findIn K (.ref C) "WORD" with
  | some (some (.str y t)) => decide (y = z) && decide (PySem.W.specialIn K (.str y t) "__get__" = some none)
  | _ => false
def wdC (K : PySem.W.Frag) (C : Addr) (z : Str) : Bool := match PySem.W.findCls K (.ref C) (.type "type") "WORD" with
  | some (.val (.str y t)) => decide (y = z)
  | _ => false
def wdB (K : PySem.W.Frag) (C : Addr) (z : Str) : Bool := wdA K C z && wdC K C z
def cfB (K : PySem.W.Frag) (C : Addr) (m : Str) : Bool := match PySem.W.findCls K (.ref C) (.type "type") m with
  | some (.val (.ref a)) => decide (a = He.ma K C m)
  | _ => false
def inhB (K : PySem.W.Frag) (B C : Addr) (m : Str) : Bool := He.eqO (PySem.W.findIn K (.ref C) m) (some (some (.ref (He.ma K B m))))
def lookB (K : PySem.W.Frag) (C B : Addr) (newId : String) (bmB : List Value) : Bool := match K.lookup C with
  | some ⟨.type t, _, .cls cd, sl⟩ => decide (t = "type") && (decide (cd.mro = .ref C :: .ref B :: bmB) && (cd.hasDict && (!cd.hasDel && (match sl.toList with
    | [_, _, _, _, some (.builtin n), _] => decide (n = newId)
    | _ => false))))
  | _ => false
def ecB (K : PySem.W.Frag) (C B : Addr) (newId : String) (bmB : List Value) : Bool := lookB K C B newId bmB && (He.eqO (PySem.W.findIn K (.ref C) "__setattr__") (some (some (.builtin "object.__setattr__"))) &&
  (He.eqO (PySem.W.findIn K (.ref C) "__getattribute__") (some (some (.builtin "BaseException.__getattribute__"))) && (He.eqO (PySem.W.findIn K (.ref C) "__getattr__") (some none) &&
  (He.eqO (PySem.W.findIn K (.ref C) "__class__") (some (some (.builtin "object.__class__"))) && PySem.W.keepIn K (.ref C)))))
def emB (K : PySem.W.Frag) (a : Addr) : Bool := match K.lookup a with
  | some ⟨.type t, _, .seq its _, _⟩ => decide (t = "tuple") && its.toList.isEmpty
  | _ => false
def twB (K : PySem.W.Frag) (T : Addr) : Bool := match K.lookup T with
  | some ⟨_, _, .seq its _, _⟩ => (match its.toList with
    | [.ref e1, .ref e2] => emB K e1 && emB K e2
    | _ => false)
  | _ => false
def dfB (K : PySem.W.Frag) : Bool := match K.lookup (He.fAd K ("Statement", some "__init__")) with
  | some ⟨_, _, .func fd, _⟩ => (match fd.defaults with
    | .ref T => twB K T
    | _ => false)
  | _ => false
def e1B (K : PySem.W.Frag) (T : Addr) : Bool := match K.lookup T with
  | some ⟨_, _, .seq its _, _⟩ => (match its.toList with
    | [.ref e] => emB K e
    | _ => false)
  | _ => false
def n1B (K : PySem.W.Frag) (T : Addr) : Bool := match K.lookup T with
  | some ⟨_, _, .seq its _, _⟩ => (match its.toList with
    | [.none] => true
    | _ => false)
  | _ => false
def dflB (K : PySem.W.Frag) (x : Str) (t : Addr → Bool) : Bool := match K.lookup (He.fAd K (x, some "__init__")) with
  | some ⟨_, _, .func fd, _⟩ => (match fd.defaults with
    | .ref T => t T
    | _ => false)
  | _ => false
def skS : List Str := ["Assign", "If", "Call", "Return", "Fail"]
def skA (K : PySem.W.Frag) (E S F : Addr) : Bool := ownB K F && (noB K F ["amount", "height", "names", "bodies", "lines", "expression", "name", "test", "body", "otherwise", "handler", "into"] && (mkB K F && (inhB K S F "__eq__" && (inhB K S F "__str__" && (inhB K S F "__repr__" && (decide (PySem.W.kitOne K (.ref F) (.ref E) = some false) && (decide (PySem.W.kitOne K (.ref F) (.ref S) = some true) && (PySem.W.notFirst K F (.type "str") && PySem.W.notFirst K F (.type "tuple")))))))))
def skB (K : PySem.W.Frag) : Bool := HandSHeadRun.frNat (He.ga K "Expression") fun E => HandSHeadRun.frNat (He.ga K "Statement") fun S => skS.all fun x => HandSHeadRun.frNat (He.ga K x) fun F => skA K E S F
def ssB (K : PySem.W.Frag) (x y : Str) : Bool := HandSHeadRun.frNat (He.ga K x) fun F => HandSHeadRun.frNat (He.ga K y) fun G => decide (PySem.W.kitOne K (.ref F) (.ref G) = some (decide (x = y))) && PySem.W.notFirst K F (.ref G)
def scB (K : PySem.W.Frag) : Bool := HandSHeadRun.frNat (He.ga K "Statement") fun S => kindsH.all fun k => HandSHeadRun.frNat (He.ga K k.cname) fun C => decide (PySem.W.kitOne K (.ref C) (.ref S) = some false) && skS.all fun x => HandSHeadRun.frNat (He.ga K x) fun F => PySem.W.notFirst K F (.ref C) && PySem.W.notFirst K C (.ref F)
def stQ (K : PySem.W.Frag) (S : Addr) : Bool := rdB K S && (cfB K S "__init__" && (mtB K S "__eq__" && (mtB K S "__str__" && (mtB K S "__repr__" && (decide (PySem.W.kitOne K (.type "str") (.ref S) = some false) && decide (PySem.W.kitOne K (.type "tuple") (.ref S) = some false))))))
def stQB (K : PySem.W.Frag) : Bool := HandSHeadRun.frNat (He.ga K "Statement") fun S => stQ K S
def er1B (K : PySem.W.Frag) (C B R1 R2 : Addr) (new : String) (bm : List Value) (f : Str) : Bool := ecB K C B new bm && (He.eqO (PySem.W.findIn K (.ref C) f) (some none) && decide (PySem.W.exmAny K (.ref C) [.ref R1, .ref R2] = some true))
def bmA : List Value := [.type "ArithmeticError", .type "Exception", .type "BaseException", .type "object"]
def bmV : List Value := [.type "ValueError", .type "Exception", .type "BaseException", .type "object"]
def erP (K : PySem.W.Frag) (l : List (Nat × Addr)) : Bool := l.all fun x => l.all fun y => decide (PySem.W.kitOne K (.ref x.2) (.ref y.2) = some (decide (x.1 = y.1)))
def erA (K : PySem.W.Frag) (A S L B R1 R2 : Addr) : Bool := er1B K A R1 R1 R2 "ValueError.__new__" bmV "value" && (er1B K S R1 R1 R2 "ValueError.__new__" bmV "value" && (er1B K L R1 R1 R2 "ValueError.__new__" bmV "index" && (er1B K B R1 R1 R2 "ValueError.__new__" bmV "index" && erP K [(0, A), (1, S), (2, L), (3, B)])))
def erB (K : PySem.W.Frag) : Bool := HandSHeadRun.frNat (He.ga K "InvalidName") fun A => HandSHeadRun.frNat (He.ga K "InvalidSize") fun S => HandSHeadRun.frNat (He.ga K "InvalidSlots") fun L => HandSHeadRun.frNat (He.ga K "InvalidBody") fun B => HandSHeadRun.frNat (He.ga K "ReentryError") fun R1 => HandSHeadRun.frNat (He.ga K "LimitError") fun R2 => erA K A S L B R1 R2
def typesO : List String := ["NoneType", "str", "list"]
def odB (K : PySem.W.Frag) : Bool := (HandSHeadRun.frNat (He.ga K "Statement") fun S => typesO.all fun t => decide (PySem.W.kitOne K (.type t) (.ref S) = some false) && skS.all fun x => HandSHeadRun.frNat (He.ga K x) fun F => decide (PySem.W.kitOne K (.type t) (.ref F) = some false)) && (HandSHeadRun.frNat (He.ga K "Number") fun N => skS.all fun x => HandSHeadRun.frNat (He.ga K x) fun F => decide (PySem.W.kitOne K (.ref F) (.type "tuple") = some false) && decide (PySem.W.kitOne K (.ref N) (.ref F) = some false))
def enV (K : PySem.W.Frag) (dV kV : Value) : Bool := match dV with
  | .none => (match kV with
    | .ref D => (match PySem.W.nsIn K D "slots" with
      | some (some (.ref e)) => emB K e
      | _ => false) && (match PySem.W.nsIn K D "body" with
      | some (some (.ref e)) => emB K e
      | _ => false)
    | _ => false)
  | _ => false
def enB (K : PySem.W.Frag) : Bool := match K.lookup (He.fAd K ("Entry", some "__init__")) with
  | some ⟨_, _, .func fd, _⟩ => enV K fd.defaults fd.kwdefaults
  | _ => false
def eyA (K : PySem.W.Frag) (C : Addr) : Bool := ownB K C && (noB K C ["name", "arguments", "results", "parameter", "slots", "body"] && (mkB K C && (decide (PySem.W.kitOne K (.ref C) (.ref C) = some true) && (PySem.W.notFirst K C (.ref C) && (PySem.W.notFirst K C (.type "str") && (decide (PySem.W.kitOne K (.type "str") (.ref C) = some false) && mtB K C "__eq__"))))))
def eyB (K : PySem.W.Frag) : Bool := HandSHeadRun.frNat (He.ga K "Entry") fun C => eyA K C
def kdA (K : PySem.W.Frag) (E C : Addr) (z : Str) : Bool := ownB K C && (noB K C fieldsX && (wdB K C z && (rdB K C && (decide (PySem.W.kitOne K (.ref C) (.ref E) = some true) && (PySem.W.notFirst K C (.type "str") && (eqB K C "__format__" "object.__format__" && (mkB K C && (inhB K E C "__eq__" && (inhB K E C "__str__" && (inhB K E C "__repr__"))))))))))
def stA (K : PySem.W.Frag) (E : Addr) : Bool := rdB K E && (cfB K E "__init__" && (mtB K E "__init__" && (mtB K E "__eq__" && (mtB K E "__str__" && (mtB K E "__repr__" && (decide (PySem.W.kitOne K (.type "str") (.ref E) = some false)))))))
def prA (K : PySem.W.Frag) (C D : Addr) (b : Bool) : Bool := decide (PySem.W.kitOne K (.ref C) (.ref D) = some b) && PySem.W.notFirst K C (.ref D)
def prB (K : PySem.W.Frag) (k l : Kd) : Bool := HandSHeadRun.frNat (He.ga K k.cname) fun C => HandSHeadRun.frNat (He.ga K l.cname) fun D => prA K C D (decide (k = l))
def clsB (K : PySem.W.Frag) : Bool := HandSHeadRun.frNat (He.ga K "Expression") fun E =>
  stA K E && kindsH.all fun k => HandSHeadRun.frNat (He.ga K k.cname) fun C => kdA K E C k.word
def intB (K : PySem.W.Frag) (q : Str × Int) : Bool := match PySem.W.nsIn K mainGlobals q.1 with
  | some (some (.int j _)) => decide (j = q.2)
  | _ => false
def strB (K : PySem.W.Frag) (q : Str × Str) : Bool := match PySem.W.nsIn K mainGlobals q.1 with
  | some (some (.str z _)) => decide (z = q.2)
  | _ => false
def arK (K : PySem.W.Frag) (k : Kd) : Bool := match PySem.W.nsIn K (He.ga K "ARITIES") k.word with
  | some (some (.int j _)) => decide (j = (k.many : Int))
  | _ => false
def arB (K : PySem.W.Frag) : Bool := kindsL.all fun k => decide (k.many = 0) || arK K k
def defB (K : PySem.W.Frag) (d : He.FnD) : Bool := (He.Fa.code d.at_ d.qual).ok K && PySem.W.keepIn K (.ref (He.fAd K d.at_))
def clT : List Str := ["Expression", "Number", "Variable", "Plus", "Minus", "Times", "Both", "Either", "Not", "Statement", "Assign", "If", "Call", "Return", "Fail", "InvalidName", "InvalidSize", "InvalidSlots", "InvalidBody", "LimitError", "ReentryError", "Entry"]
def inT : List (Str × Int) := [("MAX_SIZE", 40), ("MAX_NUMBER", 999), ("MAX_PARTS", 40), ("MAX_DEPTH", 6), ("MAX_LEVEL", 8), ("MAX_SLOTS", 3), ("MAX_STATEMENTS", 400), ("LONGEST_NAME", 8)]
def stT : List (Str × Str) := [("LETTERS", "abcdefghijklmnopqrstuvwxyz"), ("SIGNS", "abcdefghijklmnopqrstuvwxyz0123456789")]
def frT : List Str := ["ArithmeticError", "ValueError", "abs", "all", "bool", "enumerate", "int", "isinstance", "len", "list", "max", "min", "range", "repr", "sorted", "str", "sum", "tuple"]
def dfT : List He.FnD := [⟨("is_name", none), "is_name", "is_name", defArgs s_is_name, defBody s_is_name, defScope s_is_name⟩, ⟨("is_size", none), "is_size", "is_size", defArgs s_is_size, defBody s_is_size, defScope s_is_size⟩, ⟨("is_integer", none), "is_integer", "is_integer", defArgs s_is_integer, defBody s_is_integer, defScope s_is_integer⟩, ⟨("check_inside", none), "check_inside", "check_inside", defArgs s_check_inside, defBody s_check_inside, defScope s_check_inside⟩, ⟨("parts_with", none), "parts_with", "parts_with", defArgs s_parts_with, defBody s_parts_with, defScope s_parts_with⟩, ⟨("depth_with", none), "depth_with", "depth_with", defArgs s_depth_with, defBody s_depth_with, defScope s_depth_with⟩, ⟨("written", none), "written", "written", defArgs s_written, defBody s_written, defScope s_written⟩, ⟨("check_expression", none), "check_expression", "check_expression", defArgs s_check_expression, defBody s_check_expression, defScope s_check_expression⟩, ⟨("check_name", none), "check_name", "check_name", defArgs s_check_name, defBody s_check_name, defScope s_check_name⟩, ⟨("check_body", none), "check_body", "check_body", defArgs s_check_body, defBody s_check_body, defScope s_check_body⟩, ⟨("amount_of", none), "amount_of", "amount_of", defArgs s_amount_of, defBody s_amount_of, defScope s_amount_of⟩, ⟨("height_of", none), "height_of", "height_of", defArgs s_height_of, defBody s_height_of, defScope s_height_of⟩, ⟨("lines_inside", none), "lines_inside", "lines_inside", defArgs s_lines_inside, defBody s_lines_inside, defScope s_lines_inside⟩, ⟨("indented", none), "indented", "indented", defArgs s_indented, defBody s_indented, defScope s_indented⟩, ⟨("check_size", none), "check_size", "check_size", defArgs s_check_size, defBody s_check_size, defScope s_check_size⟩, ⟨("check_slots", none), "check_slots", "check_slots", defArgs s_check_slots, defBody s_check_slots, defScope s_check_slots⟩, ⟨("_law_cell", none), "_law_cell", "_law_cell", defArgs s_cell, defBody s_cell, defScope s_cell⟩, ⟨("_law_purse", none), "_law_purse", "_law_purse", defArgs s_purse, defBody s_purse, defScope s_purse⟩, ⟨("_law_draw", none), "_law_draw", "_law_draw", defArgs s_draw, defBody s_draw, defScope s_draw⟩, ⟨("_law_name", none), "_law_name", "_law_name", defArgs s_name, defBody s_name, defScope s_name⟩, ⟨("_law_fresh", none), "_law_fresh", "_law_fresh", defArgs s_fresh, defBody s_fresh, defScope s_fresh⟩, ⟨("_law_names", none), "_law_names", "_law_names", defArgs s_names, defBody s_names, defScope s_names⟩, ⟨("_law_is_name", none), "_law_is_name", "_law_is_name", defArgs s_lis_name, defBody s_lis_name, defScope s_lis_name⟩, ⟨("_law_is_size", none), "_law_is_size", "_law_is_size", defArgs s_lis_size, defBody s_lis_size, defScope s_lis_size⟩, ⟨("_law_fault", none), "_law_fault", "_law_fault", defArgs s_fault, defBody s_fault, defScope s_fault⟩, ⟨("_law_told", none), "_law_told", "_law_told", defArgs s_told, defBody s_told, defScope s_told⟩, ⟨("_law_title", none), "_law_title", "_law_title", defArgs s_title, defBody s_title, defScope s_title⟩, ⟨("_law_size", none), "_law_size", "_law_size", defArgs s_size, defBody s_size, defScope s_size⟩, ⟨("_law_extra", none), "_law_extra", "_law_extra", defArgs s_extra, defBody s_extra, defScope s_extra⟩, ⟨("_law_lot", none), "_law_lot", "_law_lot", defArgs s_lot, defBody s_lot, defScope s_lot⟩, ⟨("_law_extra_due", none), "_law_extra_due", "_law_extra_due", defArgs s_extra_due, defBody s_extra_due, defScope s_extra_due⟩, ⟨("_law_lot_due", none), "_law_lot_due", "_law_lot_due", defArgs s_lot_due, defBody s_lot_due, defScope s_lot_due⟩, ⟨("_law_due", none), "_law_due", "_law_due", defArgs s_due, defBody s_due, defScope s_due⟩, ⟨("_law_built", none), "_law_built", "_law_built", defArgs s_built, defBody s_built, defScope s_built⟩, ⟨("_law_named", none), "_law_named", "_law_named", defArgs s_named, defBody s_named, defScope s_named⟩, ⟨("_law_shown", none), "_law_shown", "_law_shown", defArgs s_shown, defBody s_shown, defScope s_shown⟩, ⟨("_law_equal_right", none), "_law_equal_right", "_law_equal_right", defArgs s_equal_right, defBody s_equal_right, defScope s_equal_right⟩, ⟨("_law_row_right", none), "_law_row_right", "_law_row_right", defArgs s_row_right, defBody s_row_right, defScope s_row_right⟩, ⟨("_law_right", none), "_law_right", "_law_right", defArgs s_right, defBody s_right, defScope s_right⟩, ⟨("law", none), "law", "law", defArgs s_law, defBody s_law, defScope s_law⟩]
def iiT : List He.FnD := [⟨("Expression", some "__init__"), "__init__", "Expression.__init__", defArgs m_Expression_init, defBody m_Expression_init, defScope m_Expression_init⟩, ⟨("Expression", some "__eq__"), "__eq__", "Expression.__eq__", defArgs m_Expression_eq, defBody m_Expression_eq, defScope m_Expression_eq⟩, ⟨("Expression", some "__str__"), "__str__", "Expression.__str__", defArgs m_Expression_str, defBody m_Expression_str, defScope m_Expression_str⟩, ⟨("Expression", some "__repr__"), "__repr__", "Expression.__repr__", defArgs m_Expression_repr, defBody m_Expression_repr, defScope m_Expression_repr⟩, ⟨("Number", some "__init__"), "__init__", "Number.__init__", defArgs m_Number_init, defBody m_Number_init, defScope m_Number_init⟩, ⟨("Variable", some "__init__"), "__init__", "Variable.__init__", defArgs m_Variable_init, defBody m_Variable_init, defScope m_Variable_init⟩, ⟨("Plus", some "__init__"), "__init__", "Plus.__init__", defArgs m_Plus_init, defBody m_Plus_init, defScope m_Plus_init⟩, ⟨("Minus", some "__init__"), "__init__", "Minus.__init__", defArgs m_Minus_init, defBody m_Minus_init, defScope m_Minus_init⟩, ⟨("Times", some "__init__"), "__init__", "Times.__init__", defArgs m_Times_init, defBody m_Times_init, defScope m_Times_init⟩, ⟨("Both", some "__init__"), "__init__", "Both.__init__", defArgs m_Both_init, defBody m_Both_init, defScope m_Both_init⟩, ⟨("Either", some "__init__"), "__init__", "Either.__init__", defArgs m_Either_init, defBody m_Either_init, defScope m_Either_init⟩, ⟨("Not", some "__init__"), "__init__", "Not.__init__", defArgs m_Not_init, defBody m_Not_init, defScope m_Not_init⟩, ⟨("Statement", some "__eq__"), "__eq__", "Statement.__eq__", defArgs m_Statement_eq, defBody m_Statement_eq, defScope m_Statement_eq⟩, ⟨("Statement", some "__str__"), "__str__", "Statement.__str__", defArgs m_Statement_str, defBody m_Statement_str, defScope m_Statement_str⟩, ⟨("Statement", some "__repr__"), "__repr__", "Statement.__repr__", defArgs m_Statement_repr, defBody m_Statement_repr, defScope m_Statement_repr⟩, ⟨("Assign", some "__init__"), "__init__", "Assign.__init__", defArgs m_Assign_init, defBody m_Assign_init, defScope m_Assign_init⟩, ⟨("Return", some "__init__"), "__init__", "Return.__init__", defArgs m_Return_init, defBody m_Return_init, defScope m_Return_init⟩, ⟨("Fail", some "__init__"), "__init__", "Fail.__init__", defArgs m_Fail_init, defBody m_Fail_init, defScope m_Fail_init⟩, ⟨("InvalidName", some "__init__"), "__init__", "InvalidName.__init__", defArgs m_InvalidName_init, defBody m_InvalidName_init, defScope m_InvalidName_init⟩, ⟨("InvalidSize", some "__init__"), "__init__", "InvalidSize.__init__", defArgs m_InvalidSize_init, defBody m_InvalidSize_init, defScope m_InvalidSize_init⟩, ⟨("InvalidSlots", some "__init__"), "__init__", "InvalidSlots.__init__", defArgs m_InvalidSlots_init, defBody m_InvalidSlots_init, defScope m_InvalidSlots_init⟩, ⟨("InvalidBody", some "__init__"), "__init__", "InvalidBody.__init__", defArgs m_InvalidBody_init, defBody m_InvalidBody_init, defScope m_InvalidBody_init⟩, ⟨("Entry", some "__eq__"), "__eq__", "Entry.__eq__", defArgs m_Entry_eq, defBody m_Entry_eq, defScope m_Entry_eq⟩]
def tbT : List He.Tab := []
def fxT : List He.FnD := [⟨("Statement", some "__init__"), "__init__", "Statement.__init__", defArgs m_Statement_init, defBody m_Statement_init, defScope m_Statement_init⟩, ⟨("If", some "__init__"), "__init__", "If.__init__", defArgs m_If_init, defBody m_If_init, defScope m_If_init⟩, ⟨("Call", some "__init__"), "__init__", "Call.__init__", defArgs m_Call_init, defBody m_Call_init, defScope m_Call_init⟩, ⟨("Entry", some "__init__"), "__init__", "Entry.__init__", defArgs m_Entry_init, defBody m_Entry_init, defScope m_Entry_init⟩]
def psT : List He.Defn := [("_law_row_right", none)]
def fnT : List He.FnD := dfT ++ iiT
def okT (K : PySem.W.Frag) : Bool := clT.all (nsB K) && (clsB K && (kindsH.all (fun k => kindsH.all (prB K k)) && (inT.all (intB K) && (stT.all (strB K) && (frT.all (fun x => He.eqO (PySem.W.nsIn K mainGlobals x) (some none)) && (dfT.all (fun d => nsB K d.name) && (fnT.all (defB K) && (true && (fxT.all (defB K) && (dfB K && (dflB K "If" (e1B K) && (dflB K "Call" (n1B K) && (skB K && (skS.all (fun x => skS.all (ssB K x)) && (scB K && (stQB K && (erB K && ((HandSHeadRun.frNat (He.ga K "InvalidName") fun C => mtB K C "__init__") && ((HandSHeadRun.frNat (He.ga K "InvalidSize") fun C => mtB K C "__init__") && ((HandSHeadRun.frNat (He.ga K "InvalidSlots") fun C => mtB K C "__init__") && ((HandSHeadRun.frNat (He.ga K "InvalidBody") fun C => mtB K C "__init__") && (odB K && (enB K && (eyB K && (decide (PySem.W.specialIn K (.builtin "object.__class__") "__get__" = some (some (.builtin "getset_descriptor.__get__"))) && (decide (PySem.W.takesIn K (.builtin "object.__class__") = some true)))))))))))))))))))))))))))
abbrev R0 : PySem.W.OpenRow := PySem.W.OpenLaw.row PySem.Challenge.rw_reentry_k14_entries
abbrev hk : PySem.W.Hook := hookM 5 okT fnT fxT tbT psT
def ob (s : PySem.W.SharedT) : AlM := obsM 5 okT fnT fxT tbT psT (HandSHeadRun.getT s)
theorem ob_eq (s : PySem.W.SharedT) : ob s = hk.obs s.abs := obsM_eq (HandSHeadRun.getT_eq s)
def names0 : List Str := ["ReentryError", "LimitError", "InvalidName", "InvalidSize", "InvalidNumber", "NotAnExpression", "InvalidBody", "InvalidSlots", "TooMany", "Expression", "Number", "Variable", "Plus", "Minus", "Times", "Both", "Either", "Not", "Statement", "Assign", "If", "Call", "Return", "Fail", "Entry", "MAX_SIZE", "MAX_NUMBER", "MAX_PARTS", "MAX_DEPTH", "MAX_LEVEL"]
def names1 : List Str := ["MAX_SLOTS", "MAX_STATEMENTS", "LETTERS", "SIGNS", "LONGEST_NAME", "_wall", "is_name", "is_size", "is_integer", "check_inside", "parts_with", "depth_with", "written", "check_expression", "check_name", "check_body", "amount_of", "height_of", "lines_inside", "indented", "check_size", "check_slots", "_law_cell", "_law_purse", "_law_draw", "_law_name", "_law_fresh", "_law_names", "_law_is_name", "_law_is_size"]
def names2 : List Str := ["_law_fault", "_law_told", "_law_title", "_law_size", "_law_extra", "_law_lot", "_law_extra_due", "_law_lot_due", "_law_due", "_law_built", "_law_named", "_law_shown", "_law_equal_right", "_law_row_right", "_law_right"]
def namesA : List Str := names0 ++ names1 ++ names2
theorem run (w : World) : HandSHeadRun.RunEq R0 (PySem.W.view R0.prog [81]) hk ob 13000 namesA w := by
  intro os
  kernel_rfl
end Jo

set_option Elab.async false
set_option linter.all false
set_option maxRecDepth 100000
set_option maxHeartbeats 4000000
/-! set(a list of texts): a set that can be walked. -/
namespace Jo
open PySem PySem.Spec PyProof.Rows L2 PpSet
/-- the members of a set are those of a list, and no more than it has items -/
def Of {κ : Type} (S : κ → Bool) (n : Nat) (xs : List κ) : Prop := (∀ k, S k = true ↔ k ∈ xs) ∧ n ≤ xs.length
theorem Of.nil {κ : Type} : Of (fun _ : κ => false) 0 [] := ⟨fun k => by simp, Nat.le_refl _⟩
theorem Of.put {κ : Type} [DecidableEq κ] {S : κ → Bool} {n : Nat} {xs : List κ} (h : Of S n xs) (k : κ) : Of (fun j => S j || decide (j = k)) (if S k = true then n else n + 1) (xs ++ [k]) := by
  refine ⟨fun j => ?_, ?_⟩
  · rw [Bool.or_eq_true, h.1 j, decide_eq_true_eq, List.mem_append, List.mem_singleton]
  · have := h.2
    rw [List.length_append, List.length_singleton]
    split <;> omega
theorem strs_at : ∀ {vs : List Value} {xs : List Str}, StrsAre vs xs → ∀ {i : Nat} {v : Value}, vs[i]? = some v → ∃ x t, xs[i]? = some x ∧ v = Value.str x t
  | _, _, .nil, i, v, h => by simp at h
  | _, _, .cons x t hr, 0, v, h => ⟨x, t, rfl, (Option.some.inj h).symm⟩
  | _, _, .cons x t hr, i + 1, v, h => strs_at hr (i := i) h
section
variable {κ : Type} [DecidableEq κ] {P : Program} {w : World} {kd : PySem.KeyKind P w κ} {A : Around} {R : Result → Shared → Prop} {s : Shared}
theorem fillW {I : Addr} {fp wr : List Addr} {G : Array GenState → Array GenState → Prop} {n : Nat} {Pv : Nat → Value → Prop} {St : Nat → Shared → Prop} (W : PySem.WalksS P w A.in1 I fp wr G n Pv St) (D : Addr) (hD : D ∉ fp) (xs : List κ) (hn : xs.length = n)
    (hv : ∀ i v, Pv i v → ∃ k, xs[i]? = some k ∧ kd.is k v = true ∧ v.scannable = true) (hb : n + 1 < scanBound) :
    ∀ (d i : Nat) (s : Shared), n - i = d → i ≤ n → St i s → (∃ S m, SetW kd s.heap D S m ∧ Of S m (xs.take i)) →
      (∀ s', Moved (D :: wr) G s s' → (∃ S m, SetW kd s'.heap D S m ∧ Of S m xs) → R (.ok (.ret .none)) s') → codeAny (model P w) A (.builtin "set.update.loop" ⟨[.ref D, .ref I], []⟩) R s := by
  have nw : D ∉ wr := fun z => hD (W.sub _ z)
  have sub : ∀ b ∈ wr, b ∈ D :: wr := fun b hb => List.mem_cons_of_mem _ hb
  intro d
  induction d with
  | zero =>
    intro i s hd hi st hS fin
    obtain rfl : i = n := by omega
    refine codeAny_builtin PyProof.Rows.F.entry_set_update_loop ?_
    rw [Around.under_plainId PyProof.Rows.F.plain_set_update_loop _]
    show wpAny _ A.in1 (pyNext (.ref I) >>= _) _ _ s
    refine wpAny_bind (W.done s _ _ st fun s' mv => ?_)
    show wpAny _ A.in1 (ret Value.none) _ _ s'
    obtain ⟨S, m, r, o⟩ := hS
    rw [List.take_of_length_le (Nat.le_of_eq hn)] at o
    exact wpAny_pure (fin s' (mv.mono sub) ⟨S, m, r.keep fun u e => mv.heap D u nw e, o⟩)
  | succ d ih =>
    intro i s hd hi st hS fin
    have lt : i < n := by omega
    refine codeAny_builtin PyProof.Rows.F.entry_set_update_loop ?_
    rw [Around.under_plainId PyProof.Rows.F.plain_set_update_loop _]
    show wpAny _ A.in1 (pyNext (.ref I) >>= _) _ _ s
    refine wpAny_bind (W.item i s _ _ lt st fun v s' pv st' mv => ?_)
    obtain ⟨k, hk, ki, ks⟩ := hv i v pv
    obtain ⟨S, m, r, o⟩ := hS
    have r' : SetW kd s'.heap D S m := r.keep fun u e => mv.heap D u nw e
    show wpAny _ A.in1 (holding [v] (setAdd D v) >>= _) _ _ s'
    refine wpAny_bind (wpAny_holding ?_)
    unfold setAdd
    refine wpAny_holding (wpAny_bind (kd.pyHash ki ?_))
    have room : m + 1 < scanBound := by
      have := o.2
      rw [List.length_take] at this
      omega
    refine addW_hashed (s := { s' with toks := s'.toks + 1 }) ki ks r' room fun h' sb r2 => ?_
    have o2 := o.put k
    have e2 : xs.take i ++ [k] = xs.take (i + 1) := by
      rw [List.take_succ, hk]
      rfl
    rw [e2] at o2
    have far : ∀ b ∈ fp, b ≠ D := fun b hb z => hD (by rw [← z]; exact hb)
    refine wpAny_pure ⟨plainId_quiet PyProof.Rows.F.plain_set_update_loop _, ih (i + 1) _ (by omega) lt (W.frame _ s' _ _ st' (Nat.le_succ _) fun b hb u e => (sb.2 b (far b hb)).trans e) ⟨_, _, r2, o2⟩ fun s'' mv2 z => ?_⟩
    refine fin s'' (Moved.trans W.gtrans ((mv.mono sub).then_heap (Nat.le_succ _) fun b u hb e => ?_) mv2) z
    exact (sb.2 b fun q => hb (by rw [q]; exact List.mem_cons_self)).trans e
end
section
variable {P : Program} {w : World} {A : Around} {E : Value → Shared → Prop} {s : Shared}
/-- a fresh set's object -/
abbrev freshO (w : World) : Obj := { cls := .type "set", dict := none, data := .set #[] 0 (.fresh 0 0 (!w.params.followText "set-order")) }
theorem madeW (a : Value) {Q1 : Value → Shared → Prop} (h : Q1 (.ref s.heap.objs.size) { s with heap := s.heap.push (freshO w) }) :
    codeAny (model P w) A (.call (.builtin "set.__new__") ⟨[.type "set", a], []⟩) (wants Q1 E) s := by
  refine codeAny_of_tree ?_
  show wpAny _ A.in1 (do checkBuiltinCall "set.__new__" ⟨[.type "set", a], []⟩; again (.builtin "set.__new__" ⟨[.type "set", a], []⟩)) _ _ s
  refine wpAny_bind (wpAny_of_eq (PySem.F.newCall_set_1 a) (wpAny_pure ⟨plainId_quiet PySem.F.plain_set_new _, codeAny_builtin PySem.F.entry_set_new ?_⟩))
  rw [Around.under_plainId PySem.F.plain_set_new _]
  unfold Builtin.«set.__new__» Builtin.Frozenset.newClass
  have own := PySem.sub_set_self
  cases s with
  | mk hp g d tk os =>
    dsimp only
    wp_walk
    refine wpAny_askSetting (wpAny_pure ?_)
    dsimp only
    rw [newObj]
    exact wpAny_bind (wpAny_alloc (wpAny_pure (wpAny_pure h)))
/-- set(xs) of texts -/
theorem setW_list {l : Addr} {items : Array Value} {xs : List Str} {Q : Value → Shared → Prop} (hh : A.handled = none) (hl : s.heap.IsList l items) (hi : StrsAre items.toList xs) (hb : items.size + 1 < scanBound)
    (h : ∀ (h' : Heap) (tk : Nat), (∃ S m, SetW (PySem.strKind P w) h' s.heap.objs.size S m ∧ Of S m xs) → (∀ b o, b < s.heap.objs.size → s.heap.get? b = some o → h'.get? b = some o) → Q (.ref s.heap.objs.size) { s with heap := h', toks := tk }) :
    wpAny (model P w) A (call (.type "set") [.ref l]) Q E s := by
  obtain ⟨c, tl, m1⟩ := PySem.F.called_set.mro
  have m2 := PySem.F.called_set.made
  have m3 := PySem.F.called_set.sub
  refine wpAny_call (codeAny_of_tree ?_)
  show wpAny _ _ (callAny (.type "set") _) _ _ _
  refine wpAny_pure ⟨Code.quiet_builtin _ (by decide +kernel), codeAny_builtin PySem.F.entry_type_call ?_⟩
  rw [Around.under_plain (weight_type_call_type "set" [.ref l] []) rfl]
  have m4 := PySem.F.called_set.notType
  have m5 := PySem.F.called_set.canCreate
  have m6 := PySem.F.typeCall_set_1 (.ref l)
  repeat (any_goals (first | assumption | wp_step))
  refine codeAny_mono (madeW (.ref l) (E := E) (Q1 := fun u s1 => u = .ref s.heap.objs.size ∧ s1 = { s with heap := s.heap.push (freshO w) }) ⟨rfl, rfl⟩) fun r s1 hr => ?_
  match r, hr with
  | .error e, hr => exact hr
  | .ok .next, hr => exact hr.elim
  | .ok .brk, hr => exact hr.elim
  | .ok .cont, hr => exact hr.elim
  | .ok (.ret u), hr =>
    obtain ⟨e1, e2⟩ := hr
    subst e1 e2
    have at0 : (s.heap.push (freshO w)).get? s.heap.objs.size = some (freshO w) := Heap.get?_push_size _ rfl
    have ty : Shared.TypeIs { s with heap := s.heap.push (freshO w) } (.ref s.heap.objs.size) "set" := ⟨_, at0, rfl⟩
    have m7 := PySem.F.called_set.init.lookup
    have m8 := PySem.F.called_set.init.bind (.ref s.heap.objs.size)
    repeat (any_goals (first | assumption | wp_step))
    refine codeAny_mono (codeAny_call_builtin (R := wants (fun r s2 => r = .none ∧ ∃ h' tk, s2 = { s with heap := h', toks := tk } ∧ (∃ S m, SetW (PySem.strKind P w) h' s.heap.objs.size S m ∧ Of S m xs) ∧
        (∀ b o, b < s.heap.objs.size → s.heap.get? b = some o → h'.get? b = some o)) E) PySem.F.called_set.init.plain PySem.F.entry_set_init (PySem.check_set_init_1 ty ?_)) fun r2 s2 hr2 => ?_
    · obtain ⟨⟨oc, od, odt, osl⟩, hol, hc, nl, hd⟩ := hl
      simp only at hc hd
      subst hc hd
      have n1 := PySem.F.sub_list_set
      have n2 := PySem.F.sub_list_frozenset
      have n3 : (Value.type "list" == Value.type "dict") = false := by decide
      have hol2 : (s.heap.push (freshO w)).get? l = some { cls := .type "list", dict := od, data := .seq items nl, slots := osl } := Heap.get?_push_of_some _ hol
      have lst : (s.heap.push (freshO w)).IsList l items := ⟨_, hol2, rfl, nl, rfl⟩
      unfold Builtin.«set.__init__» noKeywords Builtin.Frozenset.updateFrom
      generalize hPI : pyIter = PI
      wp_walk
      subst hPI
      refine wpAny_pyIter_list lst (wpAny_bind (wpAny_runValue ?_))
      have ll : l < s.heap.objs.size := Heap.lt_size hol
      have h3 : A.in1.in1.in1.handled = none := by simp [hh]
      have ne : l ≠ (s.heap.push (freshO w)).objs.size := by
        rw [Heap.size_push]
        exact Nat.ne_of_lt (Nat.lt_succ_of_lt ll)
      have out : s.heap.objs.size ∉ [(s.heap.push (freshO w)).objs.size, l] := by
        rw [Heap.size_push]
        intro z
        rcases List.mem_cons.mp z with z | z
        · exact Nat.ne_of_lt (Nat.lt_succ_self _) z
        · exact Nat.ne_of_gt ll (List.mem_singleton.mp z)
      have len : xs.length = items.size := by
        have z := hi.length
        rw [Array.length_toList] at z
        omega
      refine fillW (kd := PySem.strKind P w) ((Walks.list h3 _ l ne items).toS) s.heap.objs.size out xs len (fun i v hv => ?_) hb (items.size - 0) 0 _ rfl (Nat.zero_le _) ⟨⟨_, Heap.get?_push_size _ rfl, rfl, rfl⟩, (lst.push _)⟩ ⟨_, 0, (setW_new (PySem.strKind P w) s.heap).keep fun o e => Heap.get?_push_of_some _ e, by rw [List.take_zero]; exact Of.nil⟩ fun s' mv z => ?_
      · have hv2 : items.toList[i]? = some v := by rw [Array.getElem?_toList]; exact hv
        obtain ⟨x, t, e1, e2⟩ := strs_at hi hv2
        exact ⟨x, e1, by rw [e2]; exact PySem.strKind_is _ _ _ _, by rw [e2]; rfl⟩
      · obtain ⟨h', g', d', tk', os'⟩ := s'
        have eg : g' = s.gens := mv.gens
        have ed : d' = s.drawn := mv.drawn
        have eo : os' = s.os := mv.os
        subst eg ed eo
        refine wpAny_pure (wpAny_pure ⟨rfl, h', tk', rfl, z, fun b o hb e => ?_⟩)
        refine mv.heap b o (fun q => ?_) (Heap.get?_push_of_some _ (Heap.get?_push_of_some _ e))
        rcases List.mem_cons.mp q with q | q
        · exact Nat.ne_of_lt hb q
        · have q2 := List.mem_singleton.mp q
          rw [Heap.size_push] at q2
          exact Nat.ne_of_lt (Nat.lt_succ_of_lt hb) q2
    · match r2, hr2 with
      | .error e, hr2 => exact hr2
      | .ok .next, hr2 => exact hr2.elim
      | .ok .brk, hr2 => exact hr2.elim
      | .ok .cont, hr2 => exact hr2.elim
      | .ok (.ret u), hr2 =>
        obtain ⟨e1, h', tk, e2, hS, hk⟩ := hr2
        subst e1 e2
        repeat (any_goals (first | assumption | wp_step))
        exact h _ _ hS hk
end
end Jo

set_option Elab.async false
set_option linter.all false
set_option maxRecDepth 100000
set_option maxHeartbeats 4000000
/-! {e for a in xs for b in ys} of texts: a new set that can be walked. -/
namespace Jo
open PySem PySem.Spec PyProof.Rows L2 PpSet
/-- a set comprehension of two clauses -/
abbrev SC2 (el ta ia tb ib : Expr) (qa qb : List Expr) (sc : Scope) (ps : Pos) : Expr := .SetComp el [⟨ta, ia, qa, 0⟩, ⟨tb, ib, qb, 0⟩] sc ps
section
variable {prog : Program} {w : World} {A : Around} {R : Result → Shared → Prop} {s : Shared} {el ta ia tb ib : Expr} {qa qb : List Expr} {sc : Scope} {ps : Pos} {it acc : Value} {env : Env}
theorem sc2_first : compTurn (SC2 el ta ia tb ib qa qb sc ps) 0 it acc env = (do
    standAt ia.pos
    match ← pyNext it with
    | none => pure (.done .next)
    | some u =>
      letOwnedTupleGo ta it u
      assign ta env u
      let mut good := true
      for q in qa do
        if good then good ← isTrue q env (eval q env)
      if good then
        let z ← eval ib env
        standAt ib.pos
        let z ← foldedSetIterable ib env z
        let _ ← runOwn (.compStart (SC2 el ta ia tb ib qa qb sc ps) 1 (← holding [z] (pyIter z)) acc env) env
      again (.compLoop (SC2 el ta ia tb ib qa qb sc ps) 0 it acc env)) := by rfl
theorem sc2_second : compTurn (SC2 el ta ia tb ib qa qb sc ps) 1 it acc env = (do
    standAt ib.pos
    match ← pyNext it with
    | none => pure (.done .next)
    | some u =>
      letOwnedTupleGo tb it u
      assign tb env u
      let mut good := true
      for q in qb do
        if good then good ← isTrue q env (eval q env)
      if good then
        (do let z ← eval el env; standAt el.pos; let _ ← call (.builtin "set.add") [acc, z])
      again (.compLoop (SC2 el ta ia tb ib qa qb sc ps) 1 it acc env)) := by rfl
/-- nothing is raised -/
abbrev Nev : Value → Shared → Prop := fun _ _ => False
theorem nev {α : Type} {M : Model} {t : Sem α} {Q : α → Shared → Prop} {E : Value → Shared → Prop} (h : wpAny M A t Q Nev s) : wpAny M A t Q E s := wpAny_mono h (fun _ _ z => z) fun _ _ z => False.elim z
/-- the tests of a clause -/
abbrev tstS (qs : List Expr) (env : Env) : Sem Bool := forIn qs true fun c r => if r = true then do let ok ← isTrue c env (eval c env); pure (ForInStep.yield ok) else pure (ForInStep.yield r)
/-- the first clause's loop -/
theorem sc2_loopA (hs : ∀ x, foldedSetIterable ib env x = pure x) (J : Nat → Shared → Prop)
    (turn : ∀ n s, J n s → wpAny (model prog w) A (pyNext it) (fun r s1 => match r with
      | none => R (.ok .next) s1
      | some u => wpAny (model prog w) A (letOwnedTupleGo ta it u) (fun _ s2 => wpAny (model prog w) A (assign ta env u) (fun _ s3 =>
          wpAny (model prog w) A (tstS qa env) (fun good s4 =>
            if good = true then wpAny (model prog w) A (eval ib env) (fun z s5 => wpAny (model prog w) A (pyIter z) (fun i2 s6 =>
              codeAny (model prog w) A (.compStart (SC2 el ta ia tb ib qa qb sc ps) 1 i2 acc env) (fun r s' => match r with
                | .ok _ => ∃ m, m < n ∧ J m s'
                | .error _ => False) s6) Nev s5) Nev s4
            else ∃ m, m < n ∧ J m s4) Nev s3) Nev s2) Nev s1) Nev s)
    (n : Nat) (h : J n s) : codeAny (model prog w) A (.compLoop (SC2 el ta ia tb ib qa qb sc ps) 0 it acc env) R s := by
  refine codeAny_loop rfl J (fun n s hJ => ?_) n h
  show wpAny _ A ((compTurn (SC2 el ta ia tb ib qa qb sc ps) 0 it acc env).onRaise (fun x => do noteFrame x env; theTreesLotGoes x)) _ _ s
  refine wpAny_noted ?_
  rw [sc2_first]
  refine wpAny_bind (wpAny_standAt (wpAny_bind (nev (wpAny_mono (turn n s hJ) (fun r s1 h1 => ?_) fun _ _ z => z))))
  match r, h1 with
  | none, h1 => exact wpAny_pure h1
  | some u, h1 =>
    refine wpAny_bind (nev (wpAny_mono h1 (fun _ s2 h2 => ?_) fun _ _ z => z))
    refine wpAny_bind (nev (wpAny_mono h2 (fun _ s3 h3 => ?_) fun _ _ z => z))
    refine wpAny_bind (nev (wpAny_mono h3 (fun good s4 h4 => ?_) fun _ _ z => z))
    match good, h4 with
    | false, h4 => exact wpAny_pure ⟨rfl, h4⟩
    | true, h4 =>
      refine wpAny_bind (nev (wpAny_mono h4 (fun z s5 h5 => ?_) fun _ _ y => y))
      refine wpAny_bind (wpAny_standAt (wpAny_bind (wpAny_of_eq (hs z) (wpAny_bind (wpAny_holding (nev (wpAny_mono h5 (fun i2 s6 h6 => ?_) fun _ _ y => y)))))))
      refine wpAny_bind (wpAny_runOwn ?_)
      rw [Around.mark_none]
      refine codeAny_mono h6 fun r s' hr => ?_
      match r, hr with
      | .ok f, hr =>
        first
          | exact wpAny_pure ⟨rfl, hr⟩
          | exact wpAny_bind (wpAny_pure (wpAny_pure ⟨rfl, hr⟩))
      | .error e, hr => exact hr.elim
/-- the second clause's loop -/
theorem sc2_loopB (J : Nat → Shared → Prop)
    (turn : ∀ n s, J n s → wpAny (model prog w) A (pyNext it) (fun r s1 => match r with
      | none => R (.ok .next) s1
      | some u => wpAny (model prog w) A (letOwnedTupleGo tb it u) (fun _ s2 => wpAny (model prog w) A (assign tb env u) (fun _ s3 =>
          wpAny (model prog w) A (tstS qb env) (fun good s4 =>
            if good = true then wpAny (model prog w) A (eval el env) (fun z s5 =>
              wpAny (model prog w) A (call (.builtin "set.add") [acc, z]) (fun _ s6 => ∃ m, m < n ∧ J m s6) Nev s5) Nev s4
            else ∃ m, m < n ∧ J m s4) Nev s3) Nev s2) Nev s1) Nev s)
    (n : Nat) (h : J n s) : codeAny (model prog w) A (.compLoop (SC2 el ta ia tb ib qa qb sc ps) 1 it acc env) R s := by
  refine codeAny_loop rfl J (fun n s hJ => ?_) n h
  show wpAny _ A ((compTurn (SC2 el ta ia tb ib qa qb sc ps) 1 it acc env).onRaise (fun x => do noteFrame x env; theTreesLotGoes x)) _ _ s
  refine wpAny_noted ?_
  rw [sc2_second]
  refine wpAny_bind (wpAny_standAt (wpAny_bind (nev (wpAny_mono (turn n s hJ) (fun r s1 h1 => ?_) fun _ _ z => z))))
  match r, h1 with
  | none, h1 => exact wpAny_pure h1
  | some u, h1 =>
    refine wpAny_bind (nev (wpAny_mono h1 (fun _ s2 h2 => ?_) fun _ _ z => z))
    refine wpAny_bind (nev (wpAny_mono h2 (fun _ s3 h3 => ?_) fun _ _ z => z))
    refine wpAny_bind (nev (wpAny_mono h3 (fun good s4 h4 => ?_) fun _ _ z => z))
    match good, h4 with
    | false, h4 => exact wpAny_pure ⟨rfl, h4⟩
    | true, h4 =>
      refine wpAny_bind (wpAny_bind (nev (wpAny_mono h4 (fun z s5 h5 => ?_) fun _ _ y => y)))
      refine wpAny_bind (wpAny_standAt (wpAny_bind (nev (wpAny_mono h5 (fun _ s6 h6 => ?_) fun _ _ y => y))))
      exact wpAny_pure (wpAny_pure ⟨rfl, h6⟩)
/-- a clause's start -/
theorem sc2_start {k : Nat} (hk : k = 0 ∨ k = 1) (h0 : codeAny (model prog w) A (.compLoop (SC2 el ta ia tb ib qa qb sc ps) k it acc env) R s)
    (h : wpAny (model prog w) A (pyIter it) (fun i2 s2 => codeAny (model prog w) A (.compLoop (SC2 el ta ia tb ib qa qb sc ps) k i2 acc env) R s2) (notedBy (model prog w) A env fun x s' => R (.error x) s') s) :
    codeAny (model prog w) A (.compStart (SC2 el ta ia tb ib qa qb sc ps) k it acc env) R s := by
  refine codeAny_of_tree ?_
  rcases hk with e | e <;> subst e
  · show wpAny _ _ ((compStart (SC2 el ta ia tb ib qa qb sc ps) 0 it acc env).onRaise (fun x => do noteFrame x env; standAt theWindowsPlace)) _ _ s
    refine wpAny_notedAt ?_
    unfold compStart
    show wpAny _ _ (ask >>= _) _ _ s
    refine wpAny_bind (wpAny_askSetting (wpAny_ite ?_))
    split
    · first
        | exact wpAny_bind (wpAny_pure (wpAny_pure ⟨rfl, h0⟩))
        | exact wpAny_pure ⟨rfl, h0⟩
    · refine wpAny_bind (wpAny_rule ?_)
      first
        | exact wpAny_bind (wpAny_standAt (wpAny_bind (wpAny_mono h (fun i2 s2 z => wpAny_pure ⟨rfl, z⟩) fun _ _ x => x)))
        | (show wpAny _ _ (standAt ia.pos >>= _) _ _ s; exact wpAny_bind (wpAny_standAt (wpAny_bind (wpAny_mono h (fun i2 s2 z => wpAny_pure ⟨rfl, z⟩) fun _ _ x => x))))
  · show wpAny _ _ ((compStart (SC2 el ta ia tb ib qa qb sc ps) 1 it acc env).onRaise (fun x => do noteFrame x env; standAt theWindowsPlace)) _ _ s
    refine wpAny_notedAt ?_
    unfold compStart
    show wpAny _ _ (ask >>= _) _ _ s
    refine wpAny_bind (wpAny_askSetting (wpAny_ite ?_))
    split
    · first
        | exact wpAny_bind (wpAny_pure (wpAny_pure ⟨rfl, h0⟩))
        | exact wpAny_pure ⟨rfl, h0⟩
    · refine wpAny_bind (wpAny_rule ?_)
      first
        | exact wpAny_bind (wpAny_standAt (wpAny_bind (wpAny_mono h (fun i2 s2 z => wpAny_pure ⟨rfl, z⟩) fun _ _ x => x)))
        | (show wpAny _ _ (standAt ib.pos >>= _) _ _ s; exact wpAny_bind (wpAny_standAt (wpAny_bind (wpAny_mono h (fun i2 s2 z => wpAny_pure ⟨rfl, z⟩) fun _ _ x => x))))
end
end Jo

set_option Elab.async false
set_option linter.all false
set_option maxRecDepth 100000
set_option maxHeartbeats 4000000
namespace Jo
open PySem PySem.Spec PyProof.Rows L2 PpSet
/-- the empty set of texts at a new place -/
abbrev set0 (P : Program) (w : World) (D : Addr) : HO := SetT P w D (fun _ => false) 0
/-- c put into the set at D -/
def Putted (P : Program) (w : World) (D : Addr) (y : V) (G : Hp) (Nx : Hp → Prop) : Prop := ∃ (c : Str) (S : Str → Bool) (n : Nat), y = .str c ∧ G D = some (SetT P w D S n) ∧ n + 1 < scanBound ∧
  Nx (upd G D (SetT P w D (fun j => S j || decide (j = c)) (if S c = true then n else n + 1)))
/-- the second clause, from where its source is asked to where the first clause's turn ends -/
def tScIn (P : Program) (w : World) (D : Addr) (wi1 : TI) (g1 : TG) (tt1 : TT) (te : TE) (vs1 : List Nat) (Nx : Hp → Prop) (σ2 : L2.St) (G : Hp) : Prop := wi1 σ2 G fun J1 G1 => ∃ W1 : Nat → Nat → Hp → Prop, (∃ m, W1 0 m G1) ∧
  ∀ j k G2, W1 j k G2 → (J1.stop j G2 ∧ Nx G2) ∨ (J1.go j G2 ∧ ∃ Nx1 : Hp → Prop, (∀ G3, Nx1 G3 → ∃ k', k' < k ∧ W1 (j + 1) k' G3) ∧
    ∀ x G3, J1.yld j G2 x G3 → g1 x (wipe σ2 vs1) G3 fun σ3 G4 => wipe σ3 vs1 = wipe σ2 vs1 ∧ tt1 σ3 G4 fun b G5 => if b = true then te σ3 G5 fun y G6 => Putted P w D y G6 Nx1 else Nx1 G5)
def tSc2 (P : Program) (w : World) (wi : TI) (g : TG) (tt : TT) (wi1 : TI) (g1 : TG) (tt1 : TT) (te : TE) (vs vs1 : List Nat) : TE := fun σ G0 Q => wi σ G0 fun J G1 => ∀ D, G1 D = none →
  ∃ W : Nat → Nat → Hp → Prop, (∃ m, W 0 m (upd G1 D (set0 P w D))) ∧ ∀ i m G2, W i m G2 → (J.stop i G2 ∧ Q (.ref D) G2) ∨
    (J.go i G2 ∧ ∃ Nx : Hp → Prop, (∀ G3, Nx G3 → ∃ m', m' < m ∧ W (i + 1) m' G3) ∧
      ∀ x G3, J.yld i G2 x G3 → g x (wipe σ vs) G3 fun σ2 G4 => wipe σ2 vs = wipe σ vs ∧ tt σ2 G4 fun b G5 => if b = true then tScIn P w D wi1 g1 tt1 te vs1 Nx σ2 G5 else Nx G5)
section
variable {X : Cx}
theorem newW {A : Around} {E : Value → Shared → Prop} {s : Shared} {P : Program} {w : World} {Q : Value → Shared → Prop}
    (h : Q (.ref s.heap.objs.size) { s with heap := s.heap.push { cls := .type "set", dict := none, data := .set #[] 0 (.fresh 0 0 (!w.params.followText "set-order")) } }) : wpAny (model P w) A (newSet (.type "set")) Q E s := newSet_ok h
/-- what a part of the block says, wherever the block runs -/
abbrev InBlk (X : Cx) (scope : Scope) (F : Cx → Prop) : Prop := ∀ (s : Shared) (G : Hp) (C : Addr) (cl : List (Str × Addr)) (fp : List Addr), F (X.blk s G scope (compEnvC scope cl C X.env) fp)
theorem sc2_core {pins : List (Addr × Obj)} {s : Shared} {σ : L2.St} {G0 : Hp} {Q : VK} {el tg iter tg1 iter1 : Expr} {qa qb : List Expr} {scope : Scope} {own : List (Str × Nat)} {vs1 : List Nat} {ps ps' : Pos} {wi wi1 : TI} {g g1 : TG} {tt tt1 : TT} {te : TE} {Qf : Value → Shared → Prop}
    (hc : X.calm = true) (hN : X.N.Nodup) (J0 : Inv X pins σ G0 s) (hi : PI X tg iter wi) (ok : BlkOk X.N X.env.scope scope own) (hv : ∀ i ∈ vs1, i ∈ own.map (·.2))
    (hg : InBlk X scope fun B => PG B tg g) (ht : InBlk X scope fun B => PTs B qa tt) (hi1 : InBlk X scope fun B => PI B tg1 iter1 wi1) (hg1 : InBlk X scope fun B => PG B tg1 g1) (ht1 : InBlk X scope fun B => PTs B qb tt1) (he : InBlk X scope fun B => PE B el te)
    (hs : ∀ x, foldedSetIterable iter X.env x = pure x) (hs1 : ∀ env x, foldedSetIterable iter1 env x = pure x)
    (h : tSc2 X.prog X.w wi g tt wi1 g1 tt1 te (own.map (·.2)) vs1 σ G0 Q)
    (hRR : ∀ D C s' m G', Inv X pins σ G' s' → Q (.ref D) G' → s'.heap.Ns C m → FpOk X pins G' C → compPost (model X.prog X.w) X.A X.xe none Qf (.ref D) C (.ok .next) s') :
    wpAny (model X.prog X.w) X.A (comprehension (SC2 el tg iter tg1 iter1 qa qb scope ps) scope X.env ps' (newSet (.type "set")) false (eval iter X.env) none) Qf X.xe s := by
  have cls : ∀ y ∈ scope.names, y.2 = .free → ∃ c, X.env.cells.lookup y.1 = some c := fun y hy e => by
    cases ok.free y hy e with
    | inl k => exact J0.ok.has _ (.inl k)
    | inr k => exact J0.ok.has _ (.inr k)
  refine wpAny_comprehension_free (use := none) rfl hs (closure_ok cls) ok.kind (fun y hy e => by rw [ok.uniq y hy, e]) (thn (hi.run pins s σ G0 _ J0 h) fun xv s1 hx => thn hx fun itv s2 h2 => ?_)
  obtain ⟨it, fp, tn, J, G2, e, J2, T, st2, f2, q⟩ := h2
  subst e
  refine newW (newEnv_comp ?_)
  generalize hD : s2.heap.objs.size = D
  have nD : G2 D = none := J2.hok.fresh (Nat.le_of_eq hD)
  obtain ⟨W, ⟨m0, w0⟩, turn⟩ := q D nD
  generalize es3 : ({ s2 with heap := s2.heap.push { cls := .type "set", dict := none, data := .set #[] 0 (.fresh 0 0 (!X.w.params.followText "set-order")) } } : Shared) = s3
  have hp3 : s3.heap = s2.heap.push { cls := .type "set", dict := none, data := .set #[] 0 (.fresh 0 0 (!X.w.params.followText "set-order")) } := by rw [← es3]
  have up : ∀ b o, s2.heap.get? b = some o → s3.heap.get? b = some o := fun b o e => by
    rw [hp3]
    exact Heap.get?_push_of_some _ e
  have J3 : Inv X pins σ (upd G2 D (set0 X.prog X.w D)) s3 := by
    rw [← es3]
    refine J2.laid (t' := s2.toks) (fun b o e => Heap.get?_push_of_some _ e) (Nat.le_of_eq hD) ?_
    rw [← hD]
    exact setT_ok (setW_new _ _)
  have small : ∀ b ∈ fp, b < s2.heap.objs.size := fun b hb => by
    obtain ⟨o, e, _⟩ := T.obj _ _ st2 b hb
    exact Heap.lt_size e
  have f3 : ∀ b ∈ fp, FpOk X pins (upd G2 D (set0 X.prog X.w D)) b ∧ b < s3.heap.objs.size := fun b hb => by
    have lt := small b hb
    refine ⟨⟨?_, (f2 b hb).2⟩, ?_⟩
    · rw [upd_ne (by rw [← hD]; exact Nat.ne_of_lt lt)]
      exact (f2 b hb).1
    · rw [hp3, Heap.size_push]
      exact Nat.lt_succ_of_lt lt
  have st3 : tn 0 s3.heap := T.keep _ _ _ st2 fun b _ o e => up b o e
  have J4 := block_start J3 ok hN f3
  generalize hG3 : upd G2 D (set0 X.prog X.w D) = G3 at J3 J4 w0 f3
  generalize hcl : cellsFrom (s3.heap.objs.size + 1) scope.names (cloFrom X.env.cells scope.names []) = cl at J4
  have pg := hg s3 G3 s3.heap.objs.size cl fp
  have pt := ht s3 G3 s3.heap.objs.size cl fp
  have pe := he s3 G3 s3.heap.objs.size cl fp
  have pi1 := hi1 s3 G3 s3.heap.objs.size cl fp
  have pg1 := hg1 s3 G3 s3.heap.objs.size cl fp
  have pt1 := ht1 s3 G3 s3.heap.objs.size cl fp
  show codeAny _ _ (.compStart (SC2 el tg iter tg1 iter1 qa qb scope ps) 0 (.ref it) (.ref D) (compEnvC scope cl s3.heap.objs.size X.env)) (compPost (model X.prog X.w) X.A X.xe none Qf (.ref D) s3.heap.objs.size) { s3 with heap := pushCells (s3.heap.push { cls := .type "dict", data := .dict #[] }) scope.names }
  have nfp : ∀ b ∈ fp, G3 b = none := fun b hb => (f3 b hb).1.1
  generalize hce : compEnvC scope cl s3.heap.objs.size X.env = ce at J4 pg pt pe pi1 pg1 pt1 ⊢
  have cL : ce.locals = s3.heap.objs.size := by
    subst hce
    rfl
  generalize es4 : ({ s3 with heap := pushCells (s3.heap.push { cls := .type "dict", data := .dict #[] }) scope.names } : Shared) = s4 at J4 ⊢
  have st4 : tn 0 s4.heap := T.keep _ _ _ st3 fun b _ o e => by
    rw [← es4]
    exact pushCells_keeps _ _ _ _ (Heap.get?_push_of_some _ e)
  generalize hB : X.blk s3 G3 scope ce fp = B at J4 pg pt pe pi1 pg1 pt1
  have Bp : B.prog = X.prog := by rw [← hB]
  have still : ∀ {σ' : L2.St} {G' : Hp} {s' : Shared}, Inv (X.blk s3 G3 scope ce fp) [] σ' G' s' → (∀ b ∈ fp, G' b = none) → ∀ b ∈ fp, FpOk (X.blk s3 G3 scope ce fp) [] G' b := fun {σ' G' s'} J' hn b hb =>
    ⟨hn b hb, (J'.ok.exf b hb).1, J'.ok.exfs b hb, .inl hb, fun x c e => (J'.ok.exf b hb).2 x c e, fun p hp => absurd (show p ∈ ([] : List (Addr × Obj)) ++ [] from hp) (by simp)⟩
  subst hB
  have loop : codeAny (model X.prog X.w) X.A (.compLoop (SC2 el tg iter tg1 iter1 qa qb scope ps) 0 (.ref it) (.ref D) ce) (compPost (model X.prog X.w) X.A X.xe none Qf (.ref D) s3.heap.objs.size) s4 := by
    refine sc2_loopA (hs1 ce) (fun n s' => ∃ i G', Inv (X.blk s3 G3 scope ce fp) [] (wipe σ (own.map (·.2))) G' s' ∧ tn i s'.heap ∧ (∀ b ∈ fp, G' b = none) ∧ W i n G') ?_ m0 ⟨0, G3, J4, st4, nfp, w0⟩
    rintro n s5 ⟨i, G5, J5, st5, n5, w5⟩
    rcases turn i n G5 w5 with ⟨stop, qq⟩ | ⟨go, Nx, hNx, step⟩
    · refine thnF (T.done (X.blk s3 G3 scope ce fp) rfl rfl rfl hc i [] s5 _ G5 (fun _ _ => False) J5 (still J5 n5) st5 stop) fun r s6 ⟨hr, J6⟩ => ?_
      subst hr
      have J7 : Inv X pins σ G5 s6 := J3.call' (ch := fp) J6.os J6.base J6.hok J6.bare fun b hb => ⟨(f3 b hb).1.2.2.2.1, (f3 b hb).1.2.1, (f3 b hb).1.2.2.2.2.1, (f3 b hb).1.2.2.2.2.2⟩
      have nC : G5 s3.heap.objs.size = none := by
        have z : G5 ce.locals = none := J6.free
        rwa [cL] at z
      obtain ⟨m, hn, _⟩ := J6.loc
      have hn2 : s6.heap.Ns ce.locals m := hn
      rw [cL] at hn2
      exact hRR D s3.heap.objs.size s6 m G5 J7 qq hn2 (J3.fpOk (Nat.le_refl _) nC)
    · refine thnF (T.item (X.blk s3 G3 scope ce fp) rfl rfl rfl hc i [] s5 _ G5 (fun _ _ => False) J5 (still J5 n5) st5 go) fun r s6 ⟨u, hr, h6⟩ => ?_
      subst hr
      refine thnF h6 fun _ s7 ⟨x, G7, J7, r7, y7, st7, n7⟩ => ?_
      have J7' := J7.pinned (still J7 n7) (T.obj _ _ st7)
      refine thnF (pg.run _ s7 _ G7 x u _ J7' r7 (step x G7 y7)) fun _ s8 ⟨σ8, G8, J8, hw8, q8⟩ => ?_
      refine thnF (pt.run _ s8 σ8 G8 _ J8 q8) fun b s9 ⟨G9, J9, q9⟩ => ?_
      have fin : ∀ {σ9 : L2.St} {s' : Shared} {G' : Hp}, Inv (X.blk s3 G3 scope ce fp) ([] ++ pinsAt fp s7.heap) σ9 G' s' → (wipe σ (own.map (·.2))).length = σ9.length →
          (∀ (j : Nat) v, (wipe σ (own.map (·.2)))[j]? = some (some v) → σ9[j]? = some (some v)) → Nx G' →
          ∃ m, m < n ∧ ∃ i G', Inv (X.blk s3 G3 scope ce fp) [] (wipe σ (own.map (·.2))) G' s' ∧ tn i s'.heap ∧ (∀ b ∈ fp, G' b = none) ∧ W i m G' := fun {σ9 s' G'} J' hl hk nx => by
        obtain ⟨m', hm, w'⟩ := hNx G' nx
        have pin' : ∀ b ∈ fp, ∀ o, s7.heap.get? b = some o → s'.heap.get? b = some o ∧ G' b = none := fun b hb o e => by
          have z := J'.pin (b, o) (List.mem_append_right _ (List.mem_append_right _ (mem_pinsAt hb e)))
          exact ⟨z.1, z.2.1⟩
        refine ⟨m', hm, i + 1, G', (J'.unpinned (pins := [])).weak hl hk, T.keep _ _ _ st7 fun b hb o e => (pin' b hb o e).1, fun b hb => ?_, w'⟩
        obtain ⟨o, e, _⟩ := T.obj _ _ st7 b hb
        exact (pin' b hb o e).2
      have l8 : (wipe σ (own.map (·.2))).length = σ8.length := by rw [← hw8, wipe_length]
      have k8 : ∀ (j : Nat) v, (wipe σ (own.map (·.2)))[j]? = some (some v) → σ8[j]? = some (some v) := fun j v e => by
        rw [← hw8] at e
        exact (wipe_some e).1
      have k9 : ∀ (j : Nat) v, (wipe σ (own.map (·.2)))[j]? = some (some v) → (wipe σ8 vs1)[j]? = some (some v) := fun j v e => by
        rw [← hw8] at e
        obtain ⟨e1, e2⟩ := wipe_some e
        rw [wipe_out fun z => e2 (hv j z)]
        exact e1
      match b, q9 with
      | false, q9 => exact fin J9 l8 k8 q9
      | true, q9 =>
        have q9 : tScIn X.prog X.w D wi1 g1 tt1 te vs1 Nx σ8 G9 := q9
        refine thnF (pi1.run _ s9 σ8 G9 _ J9 q9) fun xv s10 hx => thnF hx fun itv s11 h11 => ?_
        obtain ⟨it1, fp1, tn1, J1, G11, e1, J11, T1, st11, f11, W1, ⟨m1, w1⟩, turn1⟩ := h11
        subst e1
        have still1 : ∀ {G' : Hp}, (∀ b ∈ fp1, G' b = none) → ∀ b ∈ fp1, FpOk (X.blk s3 G3 scope ce fp) ([] ++ pinsAt fp s7.heap) G' b := fun hn b hb => ⟨hn b hb, (f11 b hb).2⟩
        have inner : codeAny (model X.prog X.w) X.A (.compLoop (SC2 el tg iter tg1 iter1 qa qb scope ps) 1 (.ref it1) (.ref D) ce) (fun r s' => match r with
              | .ok _ => ∃ m, m < n ∧ ∃ i G', Inv (X.blk s3 G3 scope ce fp) [] (wipe σ (own.map (·.2))) G' s' ∧ tn i s'.heap ∧ (∀ b ∈ fp, G' b = none) ∧ W i m G'
              | .error _ => False) s11 := by
          refine sc2_loopB (fun k s' => ∃ j G', Inv (X.blk s3 G3 scope ce fp) ([] ++ pinsAt fp s7.heap) (wipe σ8 vs1) G' s' ∧ tn1 j s'.heap ∧ (∀ b ∈ fp1, G' b = none) ∧ W1 j k G') ?_ m1
            ⟨0, G11, J11.weak (wipe_length _ _) (fun j v e => (wipe_some e).1), st11, fun b hb => (f11 b hb).1, w1⟩
          rintro k s12 ⟨j, G12, J12, st12, n12, w12⟩
          rcases turn1 j k G12 w12 with ⟨stop1, nx1⟩ | ⟨go1, Nx1, hNx1, step1⟩
          · refine thnF (T1.done (X.blk s3 G3 scope ce fp) rfl rfl rfl hc j _ s12 (wipe σ8 vs1) G12 (fun _ _ => False) J12 (still1 n12) st12 stop1) fun r s13 ⟨hr, J13⟩ => ?_
            subst hr
            exact fin J13 (l8.trans (wipe_length σ8 vs1).symm) k9 nx1
          · refine thnF (T1.item (X.blk s3 G3 scope ce fp) rfl rfl rfl hc j _ s12 (wipe σ8 vs1) G12 (fun _ _ => False) J12 (still1 n12) st12 go1) fun r s13 ⟨u1, hr, h13⟩ => ?_
            subst hr
            refine thnF h13 fun _ s14 ⟨x1, G14, J14, r14, y14, st14, n14⟩ => ?_
            have J14' := J14.pinned (still1 n14) (T1.obj _ _ st14)
            refine thnF (pg1.run _ s14 (wipe σ8 vs1) G14 x1 u1 _ J14' r14 (step1 x1 G14 y14)) fun _ s15 ⟨σ15, G15, J15, hw15, q15⟩ => ?_
            refine thnF (pt1.run _ s15 σ15 G15 _ J15 q15) fun b1 s16 ⟨G16, J16, q16⟩ => ?_
            have fin1 : ∀ {s' : Shared} {G' : Hp}, Inv (X.blk s3 G3 scope ce fp) (([] ++ pinsAt fp s7.heap) ++ pinsAt fp1 s14.heap) σ15 G' s' → Nx1 G' →
                ∃ m, m < k ∧ ∃ j G', Inv (X.blk s3 G3 scope ce fp) ([] ++ pinsAt fp s7.heap) (wipe σ8 vs1) G' s' ∧ tn1 j s'.heap ∧ (∀ b ∈ fp1, G' b = none) ∧ W1 j m G' := fun {s' G'} J' nx => by
              obtain ⟨m', hm, w'⟩ := hNx1 G' nx
              have pin' : ∀ b ∈ fp1, ∀ o, s14.heap.get? b = some o → s'.heap.get? b = some o ∧ G' b = none := fun b hb o e => by
                have z := J'.pin (b, o) (List.mem_append_right _ (List.mem_append_right _ (mem_pinsAt hb e)))
                exact ⟨z.1, z.2.1⟩
              refine ⟨m', hm, j + 1, G', J'.unpinned.weak (by rw [← hw15, wipe_length]) (fun j v e => by rw [← hw15] at e; exact (wipe_some e).1), T1.keep _ _ _ st14 fun b hb o e => (pin' b hb o e).1, fun b hb => ?_, w'⟩
              obtain ⟨o, e, _⟩ := T1.obj _ _ st14 b hb
              exact (pin' b hb o e).2
            match b1, q16 with
            | false, q16 => exact fin1 J16 q16
            | true, q16 =>
              refine thnF (pe.run _ s16 σ15 G16 _ J16 q16) fun z s17 ⟨yv, G17, J17, r17, cb, S0, n0, ey, hD17, hz17, nx⟩ => ?_
              subst ey
              exact addT (X := X.blk s3 G3 scope ce fp) J17 hD17 r17 hz17 fun s18 J18 => fin1 J18 nx
        exact sc2_start (.inr rfl) inner (T1.self X.A 0 _ _ _ st11 inner)
  exact sc2_start (.inl rfl) loop (T.self X.A 0 _ _ _ st4 loop)
/-- {e for a in xs for b in ys} -/
theorem pe_sc2 {el tg iter tg1 iter1 : Expr} {qa qb : List Expr} {scope : Scope} {own : List (Str × Nat)} {vs1 : List Nat} {ps : Pos} {wi wi1 : TI} {g g1 : TG} {tt tt1 : TT} {te : TE} (hc : X.calm = true) (hN : X.N.Nodup) (hi : PI X tg iter wi) (ok : BlkOk X.N X.env.scope scope own) (hv : ∀ i ∈ vs1, i ∈ own.map (·.2))
    (hg : InBlk X scope fun B => PG B tg g) (ht : InBlk X scope fun B => PTs B qa tt) (hi1 : InBlk X scope fun B => PI B tg1 iter1 wi1) (hg1 : InBlk X scope fun B => PG B tg1 g1) (ht1 : InBlk X scope fun B => PTs B qb tt1) (he : InBlk X scope fun B => PE B el te)
    (hs : ∀ x, foldedSetIterable iter X.env x = pure x := by intro _; rfl) (hs1 : ∀ env x, foldedSetIterable iter1 env x = pure x := by intro _ _; rfl) :
    PE X (.SetComp el [⟨tg, iter, qa, 0⟩, ⟨tg1, iter1, qb, 0⟩] scope ps) (tSc2 X.prog X.w wi g tt wi1 g1 tt1 te (own.map (·.2)) vs1) := by
  refine ⟨fun pins s σ G0 Q J0 h => ?_⟩
  rw [eval_SetComp]
  refine sc2_core hc hN J0 hi ok hv hg ht hi1 hg1 ht1 he hs hs1 h fun D C s' m G' J' q hn f => ⟨m, hn, fun h'' sb => ?_⟩
  obtain ⟨f0, f1, f2, f3, f4, f5⟩ := f
  exact ⟨.ref D, G', J'.turned (t' := s'.toks) (fun b o hb e => (sb.2 b hb).trans e) f0 f1 f3 f4 f5, rfl, q⟩
end
end Jo

set_option Elab.async false
set_option linter.all false
set_option maxRecDepth 100000
set_option maxHeartbeats 4000000
namespace Jo
open PySem PySem.Spec PyProof.Rows L2 PpSet
section
variable {X : Cx}
/-- set(a list of texts) -/
def rSetT (K : PySem.W.Frag) (P : Program) (w : World) : List V → Hp → VK → Prop := fun vs H Q => ∃ (a : Addr) (xs : List Str), vs = [.ref a] ∧ SqL K H a (xs.map V.str) ∧ xs.length < 64 ∧
  ∀ (p : Addr) S n, H p = none → Of S n xs → Q (.ref p) (upd H p (SetT P w p S n))
theorem cr_setT (hc : X.calm = true) : CallR X (.type "set") (rSetT X.K X.prog X.w) := by
  intro pins s σ H vs us Q I r h
  obtain ⟨a, xs, rfl, hl, h64, q⟩ := h
  rw [Vals.ref1 r]
  obtain ⟨its, rv, pl, hz⟩ := I.list hl
  have len : its.toArray.size = xs.length := by rw [List.size_toArray, ← rv.length, List.length_map]
  refine setW_list (xs := xs) (I.ok.hd hc) pl.isList (by simpa using strsAre_of rv) (by rw [len]; unfold scanBound; omega) fun h' tk ⟨S, m, r1, o⟩ hk => ?_
  have hn : H s.heap.objs.size = none := I.hok.fresh (Nat.le_refl _)
  exact ⟨.ref _, upd H s.heap.objs.size (SetT X.prog X.w s.heap.objs.size S m), I.laid (t' := tk) (fun b u e => hk b u (Heap.lt_size e) e) (Nat.le_refl _) (setT_ok r1), rfl, q _ S m hn o⟩
end
end Jo

set_option Elab.async false
set_option linter.all false
set_option maxRecDepth 100000
set_option maxHeartbeats 2000000
/-! str(x), repr(x), f"{x}", x == y by the class's own method, also one of a class above it; max(.., default=d). -/
namespace Jo
open PySem PySem.Spec PyProof.Rows L2
open PySem.W (AlikeAll maxD_ints max_list_default)
/-- the classes Cs have the same def as their m, and it keeps sp -/
structure Own (P : Program) (w : World) (K : PySem.W.Frag) (mg : Str → Option Value) (base : Heap) (k : Nat) (m : Str) (ps : List Str) (Cs : Addr → Prop) (sp : Sp) : Prop where
  ex : ∃ (f : Addr) (fd : FuncData), FnOk P w K mg base CX0 k f fd ps sp ∧ Binds K fd ps [] ∧ PySem.W.isFn K (.ref f) = true ∧ ∀ C, Cs C → PySem.W.findIn K (.ref C) m = some (some (.ref f))
section
variable {X : Cx} {n j k : Nat} {f : Addr} {fd : FuncData} {ps : List Str} {sp : Sp} {A : Around} {pins : List (Addr × Obj)} {σ : L2.St} {H : Hp} {s : Shared} {Q : VK} {vs : List V} {us : List Value} {E : Value → Shared → Prop}
theorem run_at (F : FnOk X.prog X.w X.K X.mg X.base CX0 n f fd ps sp) (sb : L2.Sub X n A) (hb : Binds X.K fd ps []) (I : Inv X pins σ H s) (r : Vals vs us) (h : sp vs H Q E0) : wpAny (model X.prog X.w) A (call (.ref f) us) (EP X pins σ Q) E s := by
  have e := I.env0
  have e0 : Env0 X.prog X.w X.K X.mg X.base A X.stack s H := ⟨by rw [sb.fr]; exact e.frames, e.mod, e.bs, e.bsz, e.funs, e.frf, e.hok, e.bare⟩
  have hl : us.length = ps.length := r.length.symm.trans (F.len _ _ _ _ h)
  have b := hb s us I.kIn (by simpa using hl)
  rw [List.append_nil] at b
  refine wpAny_call (codeAny_mono (F.run A X.stack s H ⟨us, []⟩ us vs Q E0 sb.room e0 b r h) fun r s' hq => ?_)
  match r, hq with
  | .error e, hq => exact (show False from hq).elim
  | .ok (.ret u), hq => exact I.after hq
  | .ok .next, hq => exact (show False from hq).elim
  | .ok .brk, hq => exact (show False from hq).elim
  | .ok .cont, hq => exact (show False from hq).elim
/-- the instance at a, seen by the machine -/
theorem inst_at (I : Inv X pins σ H s) {a C dx : Addr} {fs : List (Str × V)} (ha : H a = some (.ins C dx fs)) : ∃ od, PySem.W.InstAt s.heap a (PySem.W.instObj C dx) C (some od) := by
  obtain ⟨m, J, _⟩ := ins_get I.hok ha
  obtain ⟨od, J, _⟩ := J.look
  exact ⟨od, J⟩
end
theorem vs1 (a : Addr) : Vals [V.ref a] [Value.ref a] := .cons (show RelV (.ref a) (.ref a) from rfl) .nil
/-- the method gives a text -/
def rOwnS (Cs : Addr → Prop) (sp : Sp) : List V → Hp → VK → Prop := fun vs H Q => ∃ a C dx fs, vs = [.ref a] ∧ Cs C ∧ H a = some (.ins C dx fs) ∧ sp [.ref a] H (fun v H' => (∃ z, v = .str z) ∧ Q v H') E0
section
variable {X : Cx} {n : Nat} {m : Str} {ps : List Str} {Cs : Addr → Prop} {sp : Sp}
theorem back_str {pins : List (Addr × Obj)} {σ : L2.St} {Q : VK} {v : Value} {s' : Shared} (h : EP X pins σ (fun v H' => (∃ z, v = .str z) ∧ Q v H') v s') : PySem.W.StrBack (EP X pins σ Q) v s' := by
  obtain ⟨x, H', I, r, ⟨z, e⟩, q⟩ := h
  subst e
  obtain ⟨t, e⟩ := (show ∃ t, v = Value.str z t from r)
  subst e
  exact ⟨.str z, H', I, ⟨t, rfl⟩, q⟩
theorem cr_strO (O : Own X.prog X.w X.K X.mg X.base n "__str__" ps Cs sp) (hr : Room (n + 2) X.A) : CallR X (.type "str") (rOwnS Cs sp) := by
  intro pins s σ H vs us Q I r h
  obtain ⟨a, C, dx, fs, e, hC, ha, q⟩ := h
  subst e
  rw [Vals.ref1 r]
  obtain ⟨f, fd, F, b, hf, hm⟩ := O.ex
  obtain ⟨od, J⟩ := inst_at I ha
  have sb : L2.Sub X n X.A.in1.in1 := (L2.Sub.in1 (n := n + 1) ⟨hr, rfl⟩).in1
  exact PySem.W.kso_call sb.room.units0 I.kIn J (hm C hC) hf (wpAny_mono (run_at F sb b I (vs1 a) q) (fun _ _ z => back_str z) fun _ _ z => z)
theorem cr_reprO (O : Own X.prog X.w X.K X.mg X.base n "__repr__" ps Cs sp) (hr : Room (n + 1) X.A) : CallR X (.builtin "repr") (rOwnS Cs sp) := by
  intro pins s σ H vs us Q I r h
  obtain ⟨a, C, dx, fs, e, hC, ha, q⟩ := h
  subst e
  rw [Vals.ref1 r]
  obtain ⟨f, fd, F, b, hf, hm⟩ := O.ex
  obtain ⟨od, J⟩ := inst_at I ha
  have sb : L2.Sub X n X.A.in1 := L2.Sub.in1 (n := n) ⟨hr, rfl⟩
  obtain ⟨m2, hF⟩ := I.fr
  exact PySem.W.repr_K sb.room.units0 hF I.ok.mod.kin J (hm C hC) hf (wpAny_mono (run_at F sb b I (vs1 a) q) (fun _ _ z => back_str z) fun _ _ z => z)
/-- {x} of an f-string, x an instance -/
def tFmtO (Cs : Addr → Prop) (sp : Sp) (te : TE) : TE := fun σ H Q => te σ H fun x H1 => rOwnS Cs sp [x] H1 Q
theorem pe_fmtO {e : Expr} {te : TE} {pos : Pos} (he : PE X e te) (O : Own X.prog X.w X.K X.mg X.base n "__str__" ps Cs sp) (hfm : ∀ C, Cs C → PySem.W.findIn X.K (.ref C) "__format__" = some (some (.builtin "object.__format__")) ∧ PySem.W.mroIn X.K C (.type "object") = some true) (hr : Room (n + 1) X.A) :
    PE X (.FormattedValue e (-1) none pos) (tFmtO Cs sp te) := by
  refine ⟨fun pins s σ H Q I h => wpAny_FormattedValue_plain (thn (he.run pins s σ H _ I h) fun v s1 hv => ?_)⟩
  obtain ⟨x, H1, I1, r1, a, C, dx, fs, e, hC, ha, q⟩ := hv
  cases e
  cases r1
  obtain ⟨f, fd, F, b, hf, hm⟩ := O.ex
  obtain ⟨od, J⟩ := inst_at I1 ha
  have sb : L2.Sub X n X.A.in1 := L2.Sub.in1 (n := n) ⟨hr, rfl⟩
  exact PySem.W.kfo_fieldS sb.room.units0 I1.kIn J (hfm C hC).1 (hfm C hC).2 (hm C hC) hf (wpAny_mono (run_at F sb b (I1.tok _) (vs1 a) q) (fun _ _ z => back_str z) fun _ _ z => z)
/-- the type of what stands on the right of == -/
inductive RTy (H : Hp) : V → Value → Prop where
  | ins {b D dy : Addr} {gs : List (Str × V)} (h : H b = some (.ins D dy gs)) : RTy H (.ref b) (.ref D)
  | str (z : Str) : RTy H (.str z) (.type "str")
theorem rty_looks {pins : List (Addr × Obj)} {σ : L2.St} {H : Hp} {s : Shared} {y : V} {u t : Value} (I : Inv X pins σ H s) (r : RelV y u) (h : RTy H y t) : PySem.W.Looks (model X.prog X.w) s.heap (typeOf u) t := by
  cases h with
  | @ins b D dy gs h =>
    obtain rfl : u = Value.ref b := r
    obtain ⟨od, J⟩ := inst_at I h
    exact J.type
  | str z =>
    obtain ⟨k, e⟩ := (show ∃ k, u = Value.str z k from r)
    subst e
    exact PySem.W.Looks.of_pure rfl
/-- x == y by x's own __eq__ -/
def rEqO (K : PySem.W.Frag) (Cs : Addr → Prop) (sp : Sp) : R2 := fun x y H Q => ∃ a C dx fs t, x = .ref a ∧ Cs C ∧ H a = some (.ins C dx fs) ∧ RTy H y t ∧ PySem.W.notFirst K C t = true ∧ sp [x, y] H (fun v H' => (∃ b, v = .bl b) ∧ Q v H') E0
theorem op_eqO (O : Own X.prog X.w X.K X.mg X.base n "__eq__" ps Cs sp) (hr : Room n X.A) : OpR X (compareOp .Eq) (rEqO X.K Cs sp) := by
  intro pins s σ H x y v u Q I rx ry h
  obtain ⟨a, C, dx, fs, t, e, hC, ha, ty, nf, q⟩ := h
  subst e
  obtain rfl : v = Value.ref a := rx
  obtain ⟨f, fd, F, b, hf, hm⟩ := O.ex
  obtain ⟨od, J⟩ := inst_at I ha
  obtain ⟨m2, hF⟩ := I.fr
  refine PySem.W.cmp_K (op := .Eq) hr.units0 hF I.ok.mod.kin J (rty_looks I ry ty) nf (hm C hC) hf (wpAny_mono (run_at F ⟨hr, rfl⟩ b I (.cons (show RelV (.ref a) (.ref a) from rfl) (.cons ry .nil)) q) (fun w s' z => ?_) fun _ _ z => z)
  obtain ⟨x, H', I', r, ⟨bb, e⟩, q'⟩ := z
  subst e
  cases (show w = Value.bool bb from r)
  exact ⟨.bl bb, H', I', rfl, q'⟩
/-- max(xs, default=d) -/
def rMaxD (K : PySem.W.Frag) : List V → List V → Hp → VK → Prop := fun vs zs H Q => ∃ a ns d, vs = [.ref a] ∧ zs = [.int d] ∧ SqL K H a (ns.map V.int) ∧ (ns = [] → Q (.int d) H) ∧ ∀ n r, ns = n :: r → Q (.int (r.foldl max n)) H
theorem reads_ints {h : Heap} : ∀ {us : List Value} {ns : List Int}, IntsAre us ns → ∃ as, ReadsAll h us (ns.map PyData.int) as
  | _, _, .nil => ⟨_, .nil⟩
  | _, _, .cons n t r => by
    obtain ⟨as, q⟩ := reads_ints (h := h) r
    exact ⟨_, .cons (.int n t) q⟩
theorem alike_ints (ns : List Int) : AlikeAll (ns.map PyData.int) := by
  refine ⟨fun x hx y hy => ?_, fun x hx => ?_⟩
  · obtain ⟨i, _, e⟩ := List.mem_map.mp hx
    obtain ⟨j, _, e2⟩ := List.mem_map.mp hy
    subst e e2
    rfl
  · obtain ⟨i, _, e⟩ := List.mem_map.mp hx
    subst e
    exact fun z => nomatch z
theorem depth_ints : ∀ ns : List Int, PyData.depthAll (ns.map PyData.int) = 0
  | [] => rfl
  | n :: r => by
    show max 0 (PyData.depthAll (r.map PyData.int)) = 0
    rw [depth_ints r]
    rfl
theorem cr_maxD (hc : X.calm = true) (hr : Room 1 X.A) : CallRK X (.builtin "max") [Str.ofString "default"] (rMaxD X.K) := by
  intro pins s σ H vs zs us ws Q I r rz h
  obtain ⟨a, ns, d, e, e2, hl, h0, h1⟩ := h
  subst e e2
  rw [Vals.ref1 r]
  obtain ⟨its, rv, pl, hz⟩ := I.list hl
  cases rz with
  | cons r1 r2 =>
    cases r2
    obtain ⟨as, ra⟩ := reads_ints (h := s.heap) rv.ints
    refine max_list_default (I.ok.hd hc) pl.isList (by simpa using ra) (alike_ints ns) (by rw [depth_ints]; have := hr.units; omega) (fun e h' tk k => ?_) fun y ys i v h' tk bs e hv rd k => ?_
    · exact ⟨.int d, H, I.kept k, r1, h0 (List.map_eq_nil_iff.mp e)⟩
    · match ns, e, h1 with
      | m :: l, e, h1 =>
        rw [List.map_cons] at e
        injection e with e1 e2
        subst e1 e2
        rw [maxD_ints] at rd
        have ev : ∃ t, v = .int (l.foldl max m) t := by
          cases rd
          exact ⟨_, rfl⟩
        exact ⟨.int (l.foldl max m), H, I.kept k, ev, h1 m l rfl⟩
end
end Jo

set_option Elab.async false
set_option linter.all false
set_option maxRecDepth 100000
/-! C.m(..): a def of a class called through the class itself; constants of classes. -/
namespace Jo
open PySem PySem.Spec PyProof.Rows L2 ClX
/-- the class at C is read as classes are, and its m is the def at f -/
structure ClFn (K : PySem.W.Frag) (C : Addr) (m : Str) (f : Addr) : Prop where
  ga : PySem.W.specialIn K (.ref C) "__getattribute__" = some (some (.builtin "type.__getattribute__"))
  rd : ∃ mc, PySem.W.readsIn K C mc = true ∧ PySem.W.findCls K (.ref C) mc m = some (.val (.ref f))
/-- C.m(e, ..) -/
def tCFn (C : Addr) (sp : Sp) (dvs : List V) (ta : TE) (t : TA) : TE := fun σ H Q => ta σ H fun x H1 => x = .ref C ∧ t σ H1 fun vs H2 => sp (vs ++ dvs) H2 Q E0
section
variable {X : Cx} {j k : Nat} {C f : Addr} {fd : FuncData} {ps : List Str} {sp : Sp} {dvs : List V} {ds : List Value} {o e : Expr} {es : List Expr} {m : Str} {pos apos : Pos} {ta : TE} {t : TA} {pl : Sem Bool}
theorem pe_cfn (he : PE X o ta) (r : ClFn X.K C m f) (F : FnOk X.prog X.w X.K X.mg X.base CX0 k f fd ps sp) (hr : Room j X.A) (hj : k ≤ j) (hk : PySem.W.keepIn X.K (.ref f) = true)
    (hb : Binds X.K fd ps ds) (hd : Vals dvs ds) (ha : PA X (e :: es) t)
    (hst : starEach (e :: es) X.env = (false, eval e X.env) :: starEach es X.env := by rfl) (hpl : (backTo pos (starEach es X.env)).any (·.1) = false := by rfl)
    (ht : eval (.Call (.Attribute o m apos) (e :: es) [] pos) X.env = (do
      let ov ← eval o X.env
      standAt apos.atName
      let (f, first) ← holding [ov] (getMethod ov m pl)
      callWith pos f first (backTo pos (starEach (e :: es) X.env)) (backToKw pos (keywordEach [] X.env))) := by rfl) :
    PE X (.Call (.Attribute o m apos) (e :: es) [] pos) (tCFn C sp dvs ta t) := by
  refine ⟨fun pins s σ H Q I h => ?_⟩
  refine PySem.W.methodCall_KW (pl := pl) (thn (he.run pins s σ H _ I h) fun u s1 ⟨x, H1, I1, rx, ex, q⟩ => ?_) ht
  subst ex
  obtain rfl : u = Value.ref C := rx
  obtain ⟨mc, r1, r2⟩ := r.rd
  refine PySem.W.method_cls I1.kIn r.ga (PySem.W.cls_value I1.kIn r1 r2 rfl ?_)
  have I2 : Inv X pins σ H1 { s1 with toks := s1.toks + 1 } := I1.tok _
  refine PySem.W.callWith_K (h₀ := X.base) I2.ok.mod.kin hk (thn (ha.run pos pins _ σ H1 _ I2 q) fun us s3 ⟨vs, H2, I3, rv, q2⟩ => ⟨I3.kIn, ?_⟩) hst hpl
  exact run_fn F (hr.mono hj) hb hd pass0 I3 rv q2
end
end Jo

set_option Elab.async false
set_option linter.all false
set_option maxRecDepth 100000
/-! for i, x in enumerate(a tuple) -/
namespace Jo
open PySem PySem.Spec PyProof.Rows L2
set_option maxHeartbeats 1000000 in
theorem meets_enum1 {v : Value} {o : Obj} {G : Heap → Prop} (B : Begins v o G) :
    Meets (Builtin.«enumerate.__new__» ⟨[.type "enumerate", v], []⟩) (fun _ R s => G s.heap ∧
      R (.ok (.ret (.ref (s.heap.push o).objs.size))) { s with heap := (s.heap.push o).push { cls := .type "enumerate", data := .fields #[.none, .bool false, .ref s.heap.objs.size, rawInt 0, .none, .none] } }) :=
  .of_wp fun prog w A R s h => by
    obtain ⟨hp, g, d, tk, os⟩ := s
    obtain ⟨h1, h⟩ := h
    have hsub := sub_enumerate
    have it1 : ∀ {A' : Around} {E : Value → Shared → Prop} {Q : Value → Shared → Prop}, Q (.ref hp.objs.size) ⟨hp.push o, g, d, tk, os⟩ → wpAny (model prog w) A' (pyIter v) Q E ⟨hp, g, d, tk, os⟩ :=
      fun q => B.iter prog w _ _ ⟨hp, g, d, tk, os⟩ _ h1 q
    wp_walk using it1
    refine wpAny_stack_any fun st => wpAny_pure ?_
    split
    · rename_i c _ _ _ _ _
      cases (c == Value.type "enumerate") <;> (wp_walk using it1; exact ⟨_, rfl, h⟩)
    · wp_walk using it1
      exact ⟨_, rfl, h⟩
theorem enum1 {prog : Program} {w : World} {A : Around} {E : Value → Shared → Prop} {s : Shared} {v : Value} {o : Obj} {G : Heap → Prop} {Q : Value → Shared → Prop} (B : Begins v o G) (h1 : G s.heap)
    (h : ∀ h', IsEnum h' (s.heap.objs.size + 1) s.heap.objs.size 0 .none → h'.get? s.heap.objs.size = some o →
      (∀ b o, s.heap.get? b = some o → h'.get? b = some o) → Q (.ref (s.heap.objs.size + 1)) { s with heap := h' }) :
    wpAny (model prog w) A (call (.type "enumerate") [v]) Q E s := by
  refine callType_new F.called_enumerate (by decide) (F.typeCall_enumerate_1 _) (F.newCall_enumerate_1 _) (fun obj => F.args_object_init_2 obj _) F.entry_enumerate_new (meets_enum1 B) ⟨h1, ?_⟩
  have hz : (s.heap.push o).objs.size = s.heap.objs.size + 1 := Heap.size_push ..
  show _ ∧ _
  rw [hz]
  have he := Heap.get?_push_size (s.heap.push o) (o := { cls := .type "enumerate", data := .fields #[.none, .bool false, .ref s.heap.objs.size, rawInt 0, .none, .none] }) rfl
  rw [hz] at he
  exact ⟨⟨_, he, rfl⟩, h _ he (Heap.get?_push_of_some _ (Heap.get?_push_size _ B.free)) fun b o x => Heap.get?_push_of_some _ (Heap.get?_push_of_some _ x)⟩
/-- the tuple at a, each item in a new pair -/
def IteT (K : PySem.W.Frag) (a : Addr) : It :=
  ⟨fun i H => ∃ (xs : List V) (x : V), SqT K H a xs ∧ xs[i]? = some x,
   fun i H v H' => ∃ T x, v = .ref T ∧ H T = none ∧ H' = upd H T (.tup [.int (i : Nat), x]) ∧ ∀ xs, SqT K H a xs → xs[i]? = some x,
   fun i H => ∃ xs : List V, SqT K H a xs ∧ xs.length = i⟩
theorem turn_enumT {P : Program} {w : World} {K : PySem.W.Frag} {elts : List Expr} {kk : Nat} {tpos : Pos} (a e it : Addr) :
    Turn P w K (.Tuple elts kk tpos) (IteT K a) [e, it] e (fun i h => (∃ old, IsEnum h e it ((i : Nat) : Int) old) ∧ h.IsTupleIter it a i ∧ e ≠ it ∧ e ≠ a ∧ a ≠ it) where
  mem := by simp
  obj := fun i h st b hb => by
    obtain ⟨⟨old, he⟩, ⟨o, ho, hc, hd⟩, _⟩ := st
    rcases List.mem_cons.mp hb with z | z
    · rw [z]
      exact ⟨_, he, fun v q => nomatch q⟩
    · rw [List.mem_singleton.mp z]
      exact ⟨o, ho, fun v q => by rw [hd] at q; cases q⟩
  keep := fun i h h' st k => let ⟨⟨old, he⟩, hi, hne⟩ := st; ⟨⟨old, k e (by simp) _ he⟩, hi.at fun o q => k it (by simp) o q, hne⟩
  item := by
    intro X hP hw hK hc i pins s σ H E I hf st hg
    subst hP hw hK
    obtain ⟨⟨old, he⟩, hit, hne, hea, hai⟩ := st
    obtain ⟨xs, x, hq, hx⟩ := hg
    obtain ⟨its, rv, p, hz⟩ := I.tuple hq
    obtain ⟨u, hu, ru⟩ := rv.get hx
    have hel : e < s.heap.objs.size := Heap.lt_size he
    have hil : it < s.heap.objs.size := by obtain ⟨_, q, _⟩ := hit; exact Heap.lt_size q
    have hT0 : s.heap.IsTuple a its.toArray := p
    have hlt : i < its.toArray.size := by
      have := (List.getElem?_eq_some_iff.mp hu).1
      simpa using this
    have D := Draws.tuple (prog := X.prog) (w := X.w) (A := X.A.in1) (I.ok.hd hc) it a hai its.toArray
    refine wpAny_pyNext_enum_itemD D he ⟨hit, hT0⟩ hlt hne (by simp [hne, hea]) fun x' h' tk hP' ho hst' hT hsz hk => ?_
    have ex : x' = u := by
      have h2 : its.toArray[i]? = some u := by simpa using hu
      exact Option.some.inj (hP'.symm.trans h2)
    subst ex
    refine ⟨_, rfl, wpAny_letOwnedTupleGo_enum (s := { s with heap := h', toks := tk + 1 }) ho fun h'' he' sb => ?_⟩
    have hT2 : h''.get? s.heap.objs.size = some { cls := .type "tuple", data := .seq #[.int i tk, x'] } := (sb.2 _ (Nat.ne_of_gt hel)).trans hT
    have new : ObjOk X.prog X.w (upd H s.heap.objs.size (.tup [.int (i : Nat), x])) h'' s.heap.objs.size (.tup [.int (i : Nat), x]) :=
      ⟨by show 2 ≤ sizeLine; decide, [.int i tk, x'], .cons ⟨_, rfl⟩ (.cons ru .nil), ⟨_, hT2, rfl, _, rfl⟩⟩
    have I1 : Inv X pins σ (upd H s.heap.objs.size (.tup [.int (i : Nat), x])) { s with heap := h'', toks := tk + 1 } :=
      I.turnedNew (ch := [e, it]) (fun b ob hb q => (sb.2 b (fun z => hb (by simp [z]))).trans (hk b ob (fun z => hb (by simp [z])) (fun z => hb (by simp [z])) q)) hf (Nat.le_refl _) new
    refine ⟨.ref s.heap.objs.size, _, I1, rfl, ⟨_, x, rfl, I.hok.fresh (Nat.le_refl _), rfl, fun ys hy => by rw [I.tuple_inj hy hq]; exact hx⟩, ⟨⟨x', ?_⟩, hst'.1.at fun o q => (sb.2 it (Ne.symm hne)).trans q, hne, hea, hai⟩, fun b hb => ?_⟩
    · have e1 : ((i + 1 : Nat) : Int) = (i : Int) + 1 := by omega
      rw [e1]
      exact he'
    · have hb' : b < s.heap.objs.size := by
        rcases List.mem_cons.mp hb with z | z
        · rw [z]; exact hel
        · rw [List.mem_singleton.mp z]; exact hil
      rw [upd_ne (Nat.ne_of_lt hb')]
      exact (hf b hb).1
  done := by
    intro X hP hw hK hc i pins s σ H E I hf st hg
    subst hP hw hK
    obtain ⟨⟨old, he⟩, hit, hne, hea, hai⟩ := st
    obtain ⟨xs, hq, hx⟩ := hg
    obtain ⟨its, rv, p, hz⟩ := I.tuple hq
    obtain ⟨f0, f1, f2, f3, f4, f5⟩ := hf it (by simp)
    have hl := rv.length
    have D := Draws.tuple (prog := X.prog) (w := X.w) (A := X.A.in1) (I.ok.hd hc) it a hai its.toArray
    have en : i = its.toArray.size := by simp; omega
    subst en
    exact wpAny_pyNext_enum_endD D he ⟨hit, p⟩ fun h' eb => ⟨rfl, I.turned (t' := s.toks) (fun b o hb q => eb b o hb q) f0 f1 f3 f4 f5⟩
  self := fun A i s Q E st h => let ⟨⟨_, he⟩, _⟩ := st; wpAny_pyIter_enum he h
def iEnumT (K : PySem.W.Frag) (ta : TA) : TI := fun σ H R => ta σ H fun vs H1 => ∃ a xs, vs = [.ref a] ∧ SqT K H1 a xs ∧ R (IteT K a) H1
theorem pi_enumT {X : Cx} {e : Expr} {ta : TA} {p pos tpos : Pos} {elts : List Expr} {kk : Nat} (hg : Gl X "enumerate") (hm : X.mg "enumerate" = none) (ha : PA X [e] ta) (hs : starEach [e] X.env = [(false, eval e X.env)] := by rfl) :
    PI X (.Tuple elts kk tpos) (.Call (.Name "enumerate" p) [e] [] pos) (iEnumT X.K ta) := by
  refine ⟨fun pins s σ H R I h => ?_⟩
  refine Call_ (ld_blt I hg hm boot_enumerate (PyProof.Rows.callWith_type1 (thn (ha.run pos pins s σ H _ I h) fun us s1 ⟨vs, H1, I1, r1, q1⟩ => ?_) hs rfl))
  obtain ⟨a, xs, ex, hq, q⟩ := q1
  subst ex
  cases r1 with
  | cons r rr =>
    cases rr
    cases r
    obtain ⟨its, rv, p', hz⟩ := I1.tuple hq
    have hT0 : s1.heap.IsTuple a its.toArray := p'
    have hal : a < s1.heap.objs.size := by obtain ⟨_, q, _⟩ := hT0; exact Heap.lt_size q
    refine enum1 (begins_tuple a its.toArray) hT0 fun h' he hit hk => wpAny_pyIter_enum he ?_
    have I2 : Inv X pins σ H1 { s1 with heap := h' } := I1.kept (t' := s1.toks) hk
    refine ⟨s1.heap.objs.size + 1, [s1.heap.objs.size + 1, s1.heap.objs.size], _, _, H1, rfl, I2, turn_enumT a (s1.heap.objs.size + 1) s1.heap.objs.size, ⟨⟨.none, he⟩, ⟨_, hit, rfl, rfl⟩, Nat.succ_ne_self _, Nat.ne_of_gt (Nat.lt_succ_of_lt hal), Nat.ne_of_lt hal⟩, fun b hb => ?_, q⟩
    have hle : s1.heap.objs.size ≤ b := by
      rcases List.mem_cons.mp hb with z | z
      · rw [z]; exact Nat.le_add_right _ _
      · rw [List.mem_singleton.mp z]; exact Nat.le_refl _
    exact I1.fpOk hle (I1.hok.fresh hle)
theorem walk_enumT {K : PySem.W.Frag} {a : Addr} {xs : List V} : Walk (IteT K a) xs.length (fun H => SqT K H a xs) (YPair (fun i => some (.int (i : Nat))) (fun i => xs[i]?)) :=
  ⟨fun i H hi q => ⟨xs, xs[i], q, by simp [hi]⟩, fun H q => ⟨xs, q, rfl⟩, fun i H v H' hi q ⟨T, x, e1, e2, e3, e4⟩ => ⟨T, .int (i : Nat), x, e1, e2, e3, rfl, e4 xs q⟩⟩
end Jo

set_option Elab.async false
set_option linter.all false
set_option maxRecDepth 100000
/-! C(a=.., b=..), the parameters by name in their own order. -/
namespace Jo
open PySem PySem.Spec PyProof.Rows L2
structure MthI (K : PySem.W.Frag) (C : Addr) (m qual : Str) (st : Stmt) (ps : List Str) : Prop where
  ex : ∃ (f : Addr) (fd : FuncData), Fun K m qual st f fd ∧ Meth K C m f ∧ ∀ (s : Shared) (u : Value) (us : List Value), (u :: us).length = ps.length → BindsTo s fd ⟨[u], (ps.drop 1).zip us⟩ (ps.zip (u :: us))
structure MtI (P : Program) (w : World) (K : PySem.W.Frag) (mg : Str → Option Value) (base : Heap) (k : Nat) (C : Addr) (m : Str) (ps : List Str) (sp : Sp) : Prop where
  ex : ∃ (f : Addr) (fd : FuncData), FnOk P w K mg base CX0 k f fd ps sp ∧ Meth K C m f ∧ ∀ (s : Shared) (u : Value) (us : List Value), (u :: us).length = ps.length → BindsTo s fd ⟨[u], (ps.drop 1).zip us⟩ (ps.zip (u :: us))
section
variable {P : Program} {w : World} {K : PySem.W.Frag} {mg : Str → Option Value} {base : Heap} {m qual : Str} {st : Stmt} {N ps : List Str} {sp : Sp} {k : Nat} {C : Addr}
theorem MthI.okF (D : MthI K C m qual st ps) (S : FnScope N ps (defScope st)) (len : ∀ vs H Q E, sp vs H Q E → vs.length = ps.length)
    (body : ∀ (f : Addr) (cdv : Value) (A : Around) (fr : List Env) (s : Shared) (H : Hp) (vs : List V) (Q : VK) (E : XK),
      Room k (A.deeper (envOfC qual (defScope st) s.heap.objs.size f cdv)) → sp vs H Q E →
      ∃ t, PSs (cxOf CX0 P w K mg base N qual (defScope st) f cdv A fr s H E).nox (defBody st) t ∧ t { nx := fun _ H' => Q .non H', rt := Q } (start N vs) H) :
    MtI P w K mg base (k + 1) C m ps sp := by
  obtain ⟨f, fd, F, hm, hk⟩ := D.ex
  exact ⟨f, fd, F.ok S len (body f), hm, hk⟩
end
section
variable {X : Cx} {j k : Nat} {ps : List Str} {sp : Sp} {x : Str} {p pos : Pos} {kws : List Keyword} {t : TA} {C : Addr}
theorem pe_mkI {fi : Addr} (M : Mk X.K C fi) (c : MtI X.prog X.w X.K X.mg X.base k C "__init__" ps sp) (hr : Room j X.A) (hk : k + 1 ≤ j) (hg : Gl X x) (hm : X.mg x = some (.ref C)) {n : Nat} (hn : ps.length = n + 1)
    (hkw : PK X kws t) (hall : (backToKw pos (keywordEach kws X.env)).all (·.1.isSome) = true := by rfl)
    (hks : (backToKw pos (keywordEach kws X.env)).filterMap (·.1) = ps.drop 1 := by rfl)
    (hdb : (x == ("__debug__" : Str)) = false := by decide)
    (hpl : ((backTo pos (starEach [] X.env)).any (·.1) || (backToKw pos (keywordEach kws X.env)).any (·.1.isNone)) = false := by rfl) :
    PE X (.Call (.Name x p) [] kws pos) (tMakeK C 0 (ps.drop 1).length sp (fun vs zs => vs ++ zs) E0 tNil t) := by
  obtain ⟨f, fd, F, mt, b⟩ := c.ex
  have ef : fi = f := by
    have e1 := M.init.symm.trans mt.at_
    cases e1
    rfl
  subst ef
  refine pe_makeK0 (g := fun us ws => us ++ ws) M F (hr.mono hk) hg hm ⟨fun s us ws X l1 l2 => ?_, fun r1 r2 => r1.append r2⟩ pass0 hkw hall hks hdb hpl
  match us, l1 with
  | [u], _ =>
    refine b s u ws ?_
    rw [List.length_drop] at l2
    rw [List.length_cons]
    omega
end
end Jo

set_option Elab.async false
set_option linter.all false
set_option maxRecDepth 100000
set_option maxHeartbeats 2000000
/-! Errors of the program as values: over any of the built-in bases, with or without an __init__ of their own. -/
namespace Jo
open PySem PySem.Spec PyProof.Rows L2
section
open Builtin Builtin.ObjectAttr PySem.Calls
variable {prog : Program} {w : World} {A : Around} {E : Value → Shared → Prop} {R : Result → Shared → Prop} {hp : Heap} {g : Array GenState} {d : Drawn} {t : Nat} {os : OsState}
/-- object.__setattr__ at an instance whose classes let stores through: the store in its own dict -/
theorem osa_any {K : PySem.W.Frag} {name : Str} {tk : Tok} {v : Value} {x C : Addr} {ox : Obj} {od : Option Obj} {cd : ClassData}
    (X : K.In hp) (I : PySem.W.InstAt hp x ox C od) (hcd : PySem.W.clsIn K C = some cd) (hpl : refuseLoop (.ref x) "__setattr__" cd.mro = pure ())
    (hob : cd.mro.contains (.type "object") = true) (hne : cd.mro.isEmpty = false) (ha : PySem.W.findIn K (.ref C) name = some none)
    (hq : ∀ (Q : Fin → Shared → Prop) (E : Value → Shared → Prop), (∀ s', R (.ok (.ret .none)) s' → Q (.done (.ret .none)) s') →
      wpAny (model prog w) A.in1 (storeInOwnDict (.ref x) (.ref C) (.str name tk) name v false) Q E ⟨hp, g, d, t, os⟩) :
    codeAny (model prog w) A (.call (.builtin "object.__setattr__") ⟨[.ref x, .str name tk, v], []⟩) R ⟨hp, g, d, t, os⟩ := by
  have SF := PySem.F.store_object
  have sub : PySem.W.Looks (model prog w) hp (isInstance (.ref x) (.type "object")) true := by
    refine I.type.andThen (PySem.W.looks_mroIn X ?_)
    unfold PySem.W.mroIn
    rw [hcd, Option.bind_some, if_neg (by rw [hne]; decide), hob]
  refine codeAny_call_builtin SF.slot.plain SF.entry ?_
  refine @PySem.W.check_slot (model prog w) _ _ ⟨hp, g, d, t, os⟩ "object.__setattr__" "object" "__setattr__" (.ref x) [.str name tk, v] [] _ SF.kind SF.split sub ?_ ?_
  · exact SF.args (.ref x) (.str name tk) v
  have hmr : PySem.W.Looks (model prog w) hp (mroOf (.ref C)) cd.mro := (PySem.W.looks_clsIn X hcd).andThen .now
  have L3 : PySem.W.Looks (model prog w) hp (storeTaker? none) none := .now
  rw [PySem.W.osa_eq, refuse_eq]
  refine wpAny_bind (wpAny_bind (I.type.at (wpAny_bind (hmr.at ?_))))
  rw [hpl]
  refine wpAny_pure (wpAny_bind (I.type.at ?_))
  refine wpAny_bind ((PySem.W.looks_findIn X ha).at (wpAny_bind (L3.at ?_)))
  exact hq _ _ fun s' z => z
/-- the first store: a dict is made -/
theorem osa_first {K : PySem.W.Frag} {name : Str} {tk : Tok} {v : Value} {x C : Addr} {fv : Array Value} {cd : ClassData}
    (X : K.In hp) (hx : hp.get? x = some { cls := .ref C, data := .fields fv }) (hcd : PySem.W.clsIn K C = some cd) (hpl : refuseLoop (.ref x) "__setattr__" cd.mro = pure ())
    (hob : cd.mro.contains (.type "object") = true) (hne : cd.mro.isEmpty = false) (hh : cd.hasDict = true) (ha : PySem.W.findIn K (.ref C) name = some none)
    (hq : ∀ h' tk' dx, (∀ b o, b ≠ x → hp.get? b = some o → h'.get? b = some o) → hp.objs.size ≤ dx → dx ≠ x → h'.get? x = some { cls := .ref C, dict := some dx, data := .fields fv } →
      h'.Ns1 dx (fun y => if y = name then some v else none) → R (.ok (.ret .none)) ⟨h', g, d, tk', os⟩) :
    codeAny (model prog w) A (.call (.builtin "object.__setattr__") ⟨[.ref x, .str name tk, v], []⟩) R ⟨hp, g, d, t, os⟩ := by
  have hxs : x ≠ hp.objs.size := Nat.ne_of_lt (Heap.lt_size hx)
  have hcls : PySem.W.Looks (model prog w) hp (classData C) cd := PySem.W.looks_clsIn X hcd
  refine osa_any X (I := ⟨hx, rfl, rfl, trivial⟩) (od := none) hcd hpl hob hne ha fun Q E hR => ?_
  obtain ⟨cn, cb, cm, cns, cq, ch, csn, csb, cab, ccl, cdl⟩ := cd
  dsimp only at hh
  subst hh
  unfold storeInOwnDict ownDictForStores
  repeat (first
    | with_reducible refine PySem.HandSPX.store_in_new ?_ ?_
    | with_reducible refine wpAny_loadPart_at hx ?_
    | with_reducible refine hcls.at ?_
    | wp_step)
  · refine ⟨_, #[], _, (Heap.get?_update_ne _ _ _ _ hxs.symm).trans (Heap.get?_push_at rfl rfl), rfl, ?_, fun _ => rfl⟩
    exact fun e he => absurd he (by simp)
  · intro h' tk' hn' hs
    have hx1 : (hp.push { cls := .type "dict", data := .dict #[] }).get? x = some { cls := .ref C, data := .fields fv } := Heap.get?_push_of_some _ hx
    refine hR _ (hq h' tk' hp.objs.size (fun b o hb ho => ?_) (Nat.le_refl _) hxs.symm ?_ hn')
    · refine (hs.2 b (Nat.ne_of_lt (Heap.lt_size ho))).trans ?_
      exact (Heap.get?_update_ne _ _ _ _ hb).trans (Heap.get?_push_of_some _ ho)
    · exact (hs.2 x hxs).trans (Heap.get?_update_self _ hx1 rfl)
/-- a further one -/
theorem osa_next {K : PySem.W.Frag} {name : Str} {tk : Tok} {v : Value} {x C dx : Addr} {fv : Array Value} {cd : ClassData} {m0 : Str → Option Value} {nl : List Str}
    (X : K.In hp) (hx : hp.get? x = some { cls := .ref C, dict := some dx, data := .fields fv }) (hns : hp.Ns1 dx m0) (hw : Within m0 nl) (hz : nl.length ≤ 1000)
    (hcd : PySem.W.clsIn K C = some cd) (hpl : refuseLoop (.ref x) "__setattr__" cd.mro = pure ()) (hob : cd.mro.contains (.type "object") = true) (hne : cd.mro.isEmpty = false)
    (hh : cd.hasDict = true) (ha : PySem.W.findIn K (.ref C) name = some none)
    (hq : ∀ h' tk', (∀ b o, b ≠ dx → hp.get? b = some o → h'.get? b = some o) → h'.Ns1 dx (fun y => if y = name then some v else m0 y) → R (.ok (.ret .none)) ⟨h', g, d, tk', os⟩) :
    codeAny (model prog w) A (.call (.builtin "object.__setattr__") ⟨[.ref x, .str name tk, v], []⟩) R ⟨hp, g, d, t, os⟩ := by
  have hcls : PySem.W.Looks (model prog w) hp (classData C) cd := PySem.W.looks_clsIn X hcd
  obtain ⟨oD, _, _, hoD, _, _⟩ := hns.count hw
  refine osa_any X (I := ⟨hx, rfl, rfl, hoD⟩) (od := some oD) hcd hpl hob hne ha fun Q E hR => ?_
  obtain ⟨cn, cb, cm, cns, cq, ch, csn, csb, cab, ccl, cdl⟩ := cd
  dsimp only at hh
  subst hh
  unfold storeInOwnDict ownDictForStores
  repeat (first
    | with_reducible refine PySem.OEX.store_in_old hns hw hz ?_
    | with_reducible refine wpAny_loadPart_at hx ?_
    | with_reducible refine hcls.at ?_
    | wp_step)
  intro h' tk' hn' hs
  exact hR _ (hq h' tk' (fun b o hb ho => (hs.2 b hb).trans ho) hn')
end
end Jo

set_option Elab.async false
set_option linter.all false
set_option maxRecDepth 100000
set_option maxHeartbeats 2000000
/-! Errors of the program as values: made, their fields, their classes. -/
namespace Jo
open PySem PySem.Spec PyProof.Rows L2
/-- a built-in class below which errors stand -/
structure EBase (B newId initId : String) (bmB : List Value) : Prop where
  f : ExcBaseFacts B newId initId bmB
  pass : ∀ self : Value, refuseLoop self "__setattr__" bmB = pure ()
  obj : bmB.contains (.type "object") = true
  exc : bmB.contains (.type "BaseException") = true
theorem ebV : EBase "ValueError" "ValueError.__new__" "ValueError.__init__" [.type "ValueError", .type "Exception", .type "BaseException", .type "object"] :=
  ⟨PySem.F.excBase_ValueError, fun s => PySem.F.store_ValueError.passes s, by decide +kernel, by decide +kernel⟩
theorem ebL : EBase "LookupError" "LookupError.__new__" "LookupError.__init__" [.type "LookupError", .type "Exception", .type "BaseException", .type "object"] :=
  ⟨PySem.F.excBase_LookupError, fun s => PySem.F.store_LookupError.passes s, by decide +kernel, by decide +kernel⟩
theorem ebA : EBase "ArithmeticError" "ArithmeticError.__new__" "ArithmeticError.__init__" [.type "ArithmeticError", .type "Exception", .type "BaseException", .type "object"] :=
  ⟨PySem.F.excBase_ArithmeticError, fun s => PySem.F.store_ArithmeticError.passes s, by decide +kernel, by decide +kernel⟩
/-- what the written part says of the error class at C, right below the class at B -/
structure EC (K : PySem.W.Frag) (C B : Addr) (newId : String) (bmB : List Value) : Prop where
  look : ∃ nm q N bs sn sub ab col dd k0 k1 k2 k3 k5, K.lookup C = some (excClassObj nm q C N bs (.ref B :: bmB) true sn sub ab col dd k0 k1 k2 k3 k5 newId)
  sa : PySem.W.findIn K (.ref C) "__setattr__" = some (some (.builtin "object.__setattr__"))
  ga : PySem.W.findIn K (.ref C) "__getattribute__" = some (some (.builtin "BaseException.__getattribute__"))
  gg : PySem.W.findIn K (.ref C) "__getattr__" = some none
  cl : PySem.W.findIn K (.ref C) "__class__" = some (some (.builtin "object.__class__"))
  kp : PySem.W.keepIn K (.ref C) = true
/-- of the word __class__ -/
structure CW (K : PySem.W.Frag) : Prop where
  get : PySem.W.specialIn K (.builtin "object.__class__") "__get__" = some (some (.builtin "getset_descriptor.__get__"))
  take : PySem.W.takesIn K (.builtin "object.__class__") = some true
section
variable {K : PySem.W.Frag} {C B D : Addr} {newId initId b : String} {bmB : List Value}
theorem EC.cls (T : EC K C B newId bmB) : ∃ cd, PySem.W.clsIn K C = some cd ∧ cd.mro = .ref C :: .ref B :: bmB ∧ cd.hasDict = true := by
  obtain ⟨nm, q, N, bs, sn, sub, ab, col, dd, k0, k1, k2, k3, k5, hC⟩ := T.look
  refine ⟨{ name := nm, bases := bs, mro := .ref C :: .ref B :: bmB, ns := N, qualname := q, hasDict := true, slotNames := sn, subclasses := sub, abstract := ab, collection := col, hasDel := false }, ?_, rfl, rfl⟩
  unfold PySem.W.clsIn
  rw [hC] <;> rfl
theorem EC.ty (T : EC K C B newId bmB) : PySem.W.typeIn K (.ref C) = some (.type "type") := by
  obtain ⟨nm, q, N, bs, sn, sub, ab, col, dd, k0, k1, k2, k3, k5, hC⟩ := T.look
  show (K.lookup C).map (·.cls) = _
  rw [hC] <;> rfl
theorem EC.is (T : EC K C B newId bmB) : PySem.W.isClsIn K C = true := by
  obtain ⟨cd, e, _, _⟩ := T.cls
  show (PySem.W.clsIn K C).isSome = true
  rw [e] <;> rfl
theorem EC.mro (T : EC K C B newId bmB) (x : Value) : PySem.W.mroIn K C x = some ((Value.ref C :: .ref B :: bmB).contains x) := by
  obtain ⟨cd, e, m, _⟩ := T.cls
  unfold PySem.W.mroIn
  rw [e, Option.bind_some, m]
  rfl
theorem EC.sub (T : EC K C B newId bmB) (x : Value) : PySem.W.subIn K (.ref C) x = some ((Value.ref C :: .ref B :: bmB).contains x) := T.mro x
theorem has_ty {C B : Addr} {bmB : List Value} (X : String) : (Value.ref C :: .ref B :: bmB).contains (.type X) = bmB.contains (.type X) := by
  rw [List.contains_cons, List.contains_cons] <;> rfl
theorem EC.exc (T : EC K C B newId bmB) (b0 : EBase b newId initId bmB) : PySem.W.subIn K (.ref C) (.type "BaseException") = some true := by
  rw [T.sub, has_ty, b0.exc]
theorem EC.obj (T : EC K C B newId bmB) (b0 : EBase b newId initId bmB) : PySem.W.mroIn K C (.type "object") = some true := by
  rw [T.mro, has_ty, b0.obj]
theorem EC.hd (T : EC K C B newId bmB) : PySem.W.hasDictIn K C = true := by
  obtain ⟨cd, e, _, h⟩ := T.cls
  show (PySem.W.clsIn K C).any (fun cd => cd.hasDict) = true
  rw [e]
  exact h
/-- an error of the class at C against the class at D -/
theorem EC.kit (T : EC K C B newId bmB) (hc : PySem.W.isClsIn K D = true) (ht : PySem.W.typeIn K (.ref D) = some (.type "type")) (hn : ∀ x : Addr, bmB.contains (.ref x) = false) :
    PySem.W.kitOne K (.ref C) (.ref D) = some (D == C || D == B) := by
  unfold PySem.W.kitOne
  by_cases h : C = D
  · rw [if_pos (by rw [h]; simp), h]
    simp
  · rw [if_neg (by simpa using h)]
    show (if ((PySem.W.clsIn K D).isSome && PySem.W.typeIn K (.ref D) == some (.type "type")) = true then PySem.W.subIn K (.ref C) (.ref D) else none) = _
    have hc' : (PySem.W.clsIn K D).isSome = true := hc
    rw [if_pos (by rw [hc', ht]; rfl), T.sub, List.contains_cons, List.contains_cons, hn]
    have e1 : (Value.ref D == Value.ref C) = (D == C) := by
      by_cases q : D = C
      · simp [q]
      · rw [beq_eq_false_iff_ne.mpr q]
        exact beq_eq_false_iff_ne.mpr (fun z => q (Value.ref.inj z))
    have e2 : (Value.ref D == Value.ref B) = (D == B) := by
      by_cases q : D = B
      · simp [q]
      · rw [beq_eq_false_iff_ne.mpr q]
        exact beq_eq_false_iff_ne.mpr (fun z => q (Value.ref.inj z))
    rw [e1, e2, Bool.or_false]
/-- .. against a class that stands above errors itself -/
theorem EC.kitT (T : EC K C B newId bmB) (X : String) (hm : PySem.W.kitMeta X = true) : PySem.W.kitOne K (.ref C) (.type X) = some (bmB.contains (.type X)) := by
  unfold PySem.W.kitOne
  rw [if_neg (by intro z; cases eq_of_beq z)]
  show (if PySem.W.kitMeta X = true then PySem.W.subIn K (.ref C) (.type X) else none) = _
  rw [if_pos hm, T.sub, has_ty]
end

/-! ### stores -/
section
variable {X : Cx} {pins : List (Addr × Obj)} {σ : L2.St} {H : Hp} {s : Shared} {a C B dx : Addr} {f : Str} {y : V} {u : Value} {fs : List (Str × V)} {newId initId b : String} {bmB : List Value}
  {Q : Unit → Shared → Prop} {E : Value → Shared → Prop} {A : Around}
theorem EC.lets (T : EC X.K C B newId bmB) (b0 : EBase b newId initId bmB) : ∃ cd, PySem.W.clsIn X.K C = some cd ∧ cd.hasDict = true ∧ (∀ self, refuseLoop self "__setattr__" cd.mro = pure ()) ∧
    cd.mro.contains (.type "object") = true ∧ cd.mro.isEmpty = false := by
  obtain ⟨cd, e, m, h⟩ := T.cls
  refine ⟨cd, e, h, fun self => ?_, ?_, ?_⟩
  · rw [m, refuseLoop_ref, refuseLoop_ref]
    exact b0.pass self
  · rw [m, has_ty, b0.obj]
  · rw [m] <;> rfl
theorem set_first (T : EC X.K C B newId bmB) (b0 : EBase b newId initId bmB) (I : Inv X pins σ H s) (e : H a = some (exo a C none)) (hno : PySem.W.findIn X.K (.ref C) f = some none) (ry : RelV y u)
    (h : ∀ dx s', H dx = none → dx ≠ a → Inv X pins σ (upd (upd H dx (exd dx [(f, y)])) a (exo a C (some dx))) s' → Q () s') :
    wpAny (model X.prog X.w) A (setAttr (.ref a) f u) Q E s := by
  obtain ⟨cd, hcl, hhd, hps, hob, hem⟩ := T.lets b0
  obtain ⟨t1, ho⟩ := exo_at I.hok e
  obtain ⟨hp, gs, dr, tk, os⟩ := s
  refine PySem.W.set_plain I.kIn (od := none) ⟨ho, rfl, rfl, trivial⟩ T.sa ?_
  refine osa_first I.kIn ho hcl (hps _) hob hem hhd hno (fun h' tk' dx k dn dne hx hn => ?_)
  have hnd : H dx = none := I.hok.fresh dn
  have nd : ∀ {c : Addr} {o : Obj}, hp.get? c = some o → c ≠ dx := fun {c o} q =>
    Nat.ne_of_lt (Nat.lt_of_lt_of_le (Heap.lt_size q) dn)
  have na : ∀ {c : Addr}, H c = none → c ≠ a := fun {c} n z => by
    subst z
    rw [e] at n
    cases n
  have U : Un X.fs [] H (upd (upd H dx (exd dx [(f, y)])) a (exo a C (some dx))) hp h' := {
    keep := fun c o q n _ _ => k c o (na n) q
    slot := fun c o q n _ _ => ⟨o.slots, k c o (na n) q⟩
    free := fun c o q n _ => by
      rw [upd_ne (na n), upd_ne (nd q)]
      exact n
    there := fun c o q _ => by
      by_cases hc : c = a
      · subst hc
        exact ⟨_, hx⟩
      · exact ⟨o, k c o hc q⟩
    tups := fun c xs q => by
      rw [upd_ne (at_ne e q exo_tup), upd_ne (ne_of_none q hnd)]
      exact q
    frzs := fun c o v q => by
      rw [upd_ne (at_ne e q exo_frz), upd_ne (ne_of_none q hnd)]
      exact q
    tbls := fun c ps q => by
      refine ⟨#[], ?_⟩
      rw [upd_ne (at_ne e q exo_tbl), upd_ne (ne_of_none q hnd), q]
      simp }
  refine h dx _ hnd dne (I.un (t' := tk') U fun c o q => ?_)
  by_cases hc : c = a
  · subst hc
    rw [upd_same] at q
    cases q
    exact exo_ok hx
  · rw [upd_ne hc] at q
    by_cases hd : c = dx
    · subst hd
      rw [upd_same] at q
      cases q
      exact exd_ok hn (relO_put (fs := []) ry fun g => True.intro)
    · rw [upd_ne hd] at q
      refine (I.hok c o q).stay (fun e1 v he z => k e1 v ?_ z) (fun e1 he => ?_) fun e1 xs he => ?_
      · rcases he with he | he
        · subst he
          exact hc
        · exact at_ne e he exo_own
      · rw [upd_ne (at_ne e he exo_own), upd_ne (ne_of_none he hnd)]
        exact he
      · rw [upd_ne (at_ne e he exo_tup), upd_ne (ne_of_none he hnd)]
        exact he
theorem set_next (T : EC X.K C B newId bmB) (b0 : EBase b newId initId bmB) (I : Inv X pins σ H s) (e : H a = some (exo a C (some dx))) (ed : H dx = some (exd dx fs)) (hl : fs.length ≤ 900)
    (hno : PySem.W.findIn X.K (.ref C) f = some none) (ry : RelV y u) (h : ∀ s', Inv X pins σ (upd H dx (exd dx ((f, y) :: fs))) s' → Q () s') :
    wpAny (model X.prog X.w) A (setAttr (.ref a) f u) Q E s := by
  obtain ⟨cd, hcl, hhd, hps, hob, hem⟩ := T.lets b0
  obtain ⟨t1, ho⟩ := exo_at I.hok e
  obtain ⟨mA, hns, rel⟩ := exd_at I.hok ed
  have hw := within_of rel
  obtain ⟨hp, gs, dr, tk, os⟩ := s
  obtain ⟨oD, _, _, hoD, _, _⟩ := hns.count hw
  refine PySem.W.set_plain I.kIn (od := some oD) ⟨ho, rfl, rfl, hoD⟩ T.sa ?_
  refine osa_next I.kIn ho hns hw (by rw [List.length_map]; omega) hcl (hps _) hob hem hhd hno (fun h' tk' k hn => ?_)
  have hd : ∃ o, h'.get? dx = some o := by
    obtain ⟨o, _, _, e', _⟩ := hn
    exact ⟨o, e'⟩
  refine h _ (I.write (t' := tk') (x := dx) (e := dx) (o := exd dx ((f, y) :: fs)) ?_ (.inl rfl) k hd (exd_ok hn (relO_put ry rel)))
  rw [ed]
  exact True.intro
/-- self.f = e in an error's __init__: the first store, a further one -/
def tEst (K : PySem.W.Frag) (f : Str) (to te : TE) : TS := fun D σ H => te σ H fun y H1 => to σ H1 fun x H2 => ∃ (a C B : Addr) (b newId initId : String) (bmB : List Value), x = .ref a ∧ EC K C B newId bmB ∧ EBase b newId initId bmB ∧
  PySem.W.findIn K (.ref C) f = some none ∧
  ((H2 a = some (exo a C none) ∧ ∀ dx, H2 dx = none → dx ≠ a → D.nx σ (upd (upd H2 dx (exd dx [(f, y)])) a (exo a C (some dx)))) ∨
    ∃ (dx : Addr) (fs : List (Str × V)), H2 a = some (exo a C (some dx)) ∧ H2 dx = some (exd dx fs) ∧ fs.length ≤ 900 ∧ D.nx σ (upd H2 dx (exd dx ((f, y) :: fs))))
theorem ps_est {o e : Expr} {to te : TE} {p' pos : Pos} (ho : PE X o to) (he : PE X e te) (hs : swapsWith e (some (.Attribute o f p')) pos.line X.env = pure false := by rfl) :
    PS X (.Assign [.Attribute o f p'] e pos) (tEst X.K f to te) := by
  refine ⟨fun pins s σ H D I h => ?_⟩
  refine plainObj_wpAny_Assign_Attribute (thn (he.run pins s σ H _ I h) fun v s1 ⟨y, H1, I1, r1, q1⟩ => ?_) hs
  refine thn (ho.run pins s1 σ H1 _ I1 q1) fun u s2 ⟨x, H2, I2, r2, q2⟩ => ?_
  obtain ⟨a, C, B, b, newId, initId, bmB, rfl, T, b0, hno, q⟩ := q2
  obtain rfl : u = Value.ref a := r2
  rcases q with ⟨ea, q⟩ | ⟨dx, fs, ea, ed, hl, q⟩
  · exact set_first T b0 I2 ea hno r1 fun dx s' n ne J => ⟨σ, _, J, q dx n ne⟩
  · exact set_next T b0 I2 ea ed hl hno r1 fun s' J => ⟨σ, _, J, q⟩
end
end Jo

set_option Elab.async false
set_option linter.all false
set_option maxRecDepth 100000
set_option maxHeartbeats 4000000
/-! A call of an error class with keywords. -/
namespace Jo
open PySem PySem.Spec L2
section
open Builtin PySem.Calls PySem.HandSPX
variable {M : Model} {prog : Program} {w : World} {A : Around} {E : Value → Shared → Prop} {R : Result → Shared → Prop} {h : Heap} {g : Array GenState} {d : Drawn} {t : Nat} {os : OsState}
variable {nm q : Str} {C N : Addr} {bs bm bmB : List Value} {hdct : Bool} {sn : List Str} {sub : List Value} {ab : Bool} {col : Option Bool} {dd : Option Addr}
  {k0 k1 k2 k3 k5 : Option Value} {B newId initId : String} {rest : List Value} {kw : List (Str × Value)}
theorem check_newK (F : ExcBaseFacts B newId initId bmB) (hT : ∀ X : String, bm.contains (.type X) = bmB.contains (.type X)) {Q : Unit → Shared → Prop}
    (hC : h.get? C = some (excClassObj nm q C N bs bm hdct sn sub ab col dd k0 k1 k2 k3 k5 newId)) (hq : Q () ⟨h, g, d, t, os⟩) :
    wpAny M A (checkBuiltinCall newId ⟨.ref C :: rest, kw⟩) Q E ⟨h, g, d, t, os⟩ := by
  have hB : (Value.ref C :: bm).contains (.type B) = true := by rw [List.contains_cons, hT, F.hasB, Bool.or_true]
  have hst := F.noStar
  simp only [checkBuiltinCall, F.newKind, F.newSplit, F.newRow]
  repeat (first
    | refine wpAny_loadPart_at hC ?_
    | (refine wpAny_isSubtype_exc hC ?_; rw [hB])
    | refine wpAny_staticBase_exc hC ?_
    | refine wpAny_madeBy_exc hC ?_
    | simp only [bne_self_eq_false, Bool.false_eq_true, if_false]
    | wp_step)
  exact hq
theorem newK (F : ExcBaseFacts B newId initId bmB) (hT : ∀ X : String, bm.contains (.type X) = bmB.contains (.type X))
    (hC : h.get? C = some (excClassObj nm q C N bs bm hdct sn sub ab col dd k0 k1 k2 k3 k5 newId))
    (hq : R (.ok (.ret (.ref (h.objs.size + 1)))) ⟨(h.push (PySem.W.kdv_tup rest)).push (excO C h.objs.size), g, d, t, os⟩) (hrest : rest.length ≤ sizeLine) :
    codeAny (model prog w) A (.builtin newId ⟨.ref C :: rest, kw⟩) R ⟨h, g, d, t, os⟩ := by
  have hen := F.ends
  have hB : (Value.ref C :: bm).contains (.type B) = true := by rw [List.contains_cons, hT, F.hasB, Bool.or_true]
  have hA : (Value.ref C :: bm).contains (.type "AttributeError") = false := by
    rw [List.contains_cons, hT, F.noAttr]
    rfl
  have hN : (Value.ref C :: bm).contains (.type "NameError") = false := by
    rw [List.contains_cons, hT, F.noName]
    rfl
  refine codeAny_builtinAt F.entry ?_
  unfold Builtin.«BaseException.__new__»
  refine PySem.wpAt_bind ?_
  show PySem.wpAt _ _ _ (stack >>= _) _ _ _
  refine PySem.wpAt_bind (wpAt_stack fun p below => wpAt_of_wpAny ?_)
  wp_walk
  refine wpAt_of_wpAny ?_
  rw [F.owner]
  repeat (first
    | with_reducible refine wpAny_madeHere_exc F.canon hC ?_
    | with_reducible refine wpAny_loadPart_at hC ?_
    | (with_reducible refine wpAny_isSubtype_exc hC ?_; first | rw [hB] | rw [hA] | rw [hN])
    | wp_step)
  show R _ _
  rw [Heap.size_push]
  exact hq
theorem type_callK (F : ExcBaseFacts B newId initId bmB) (hT : ∀ X : String, bm.contains (.type X) = bmB.contains (.type X)) {fI : Addr} {Q : Fin → Shared → Prop}
    (hC : h.get? C = some (excClassObj nm q C N bs bm hdct sn sub ab col dd k0 k1 k2 k3 k5 newId))
    (hi : PySem.W.Looks (model prog w) h (typeLookup (.ref C) "__init__") (some (.ref fI))) (hb : ∀ self, PySem.W.Looks (model prog w) h (bindSpecial (.ref fI) self) (.ref fI, [self]))
    (hrest : rest.length ≤ sizeLine)
    (hq : codeAny (model prog w) A (.call (.ref fI) ⟨.ref (h.objs.size + 1) :: rest, kw⟩)
      (fun r s' => match r with | .ok (.ret v) => v = .none ∧ Q (.done (.ret (.ref (h.objs.size + 1)))) s' | .ok _ => False | .error e => E e s')
      ⟨(h.push (PySem.W.kdv_tup rest)).push (excO C h.objs.size), g, d, t, os⟩) :
    wpAny (model prog w) A (Builtin.«type.__call__» ⟨.ref C :: rest, kw⟩) Q E ⟨h, g, d, t, os⟩ := by
  repeat (first
    | with_reducible refine wpAny_loadPart_at hC ?_
    | with_reducible refine wpAny_madeBy_exc hC ?_
    | wp_step)
  refine codeAny_call_builtin_code (Code.quiet_builtin _ F.quiet) (check_newK F hT hC ?_)
  refine newK F hT hC ?_ hrest
  show wpAny _ _ _ _ _ _
  have kp : ∀ b o, h.get? b = some o → ((h.push (PySem.W.kdv_tup rest)).push (excO C h.objs.size)).get? b = some o := fun b o e =>
    Heap.get?_push_of_some _ (Heap.get?_push_of_some _ e)
  have hC1 := kp _ _ hC
  have hnew : ((h.push (PySem.W.kdv_tup rest)).push (excO C h.objs.size)).get? (h.objs.size + 1) = some (excO C h.objs.size) := by heap_get
  have hcc : (Value.ref C :: bm).contains (.ref C) = true := by simp
  have i1 := hi.keeps kp
  have b1 := (hb (.ref (h.objs.size + 1))).keeps kp
  unfold isInstance
  repeat (first
    | with_reducible refine wpAny_loadPart_at hnew ?_
    | (with_reducible refine wpAny_isSubtype_exc hC1 ?_; rw [hcc])
    | wp_step)
  show wpAny _ _ (typeLookup (.ref C) _) _ _ _
  refine i1.at (wpAny_holding (wpAny_bind (b1.at ?_)))
  refine wpAny_bind (wpAny_call (codeAny_mono hq fun r s' z => ?_))
  match r, z with
  | .error e, z => exact z
  | .ok .next, z => exact (show False from z).elim
  | .ok .brk, z => exact (show False from z).elim
  | .ok .cont, z => exact (show False from z).elim
  | .ok (.ret v), z =>
    obtain ⟨rfl, z⟩ := z
    first
      | exact wpAny_pure (wpAny_pure z)
      | (wp_walk; exact z)
theorem check_callK {Q : Unit → Shared → Prop} (hC : h.get? C = some (excClassObj nm q C N bs bm hdct sn sub ab col dd k0 k1 k2 k3 k5 newId)) (hq : Q () ⟨h, g, d, t, os⟩) :
    wpAny M A (checkBuiltinCall "type.__call__" ⟨.ref C :: rest, kw⟩) Q E ⟨h, g, d, t, os⟩ := by
  have f3 := tc_sub
  have hTy : (⟨h, g, d, t, os⟩ : Shared).TypeIs (.ref C) "type" := ⟨_, hC, rfl⟩
  simp only [checkBuiltinCall, tc_kind, tc_split]
  repeat (any_goals (first
    | assumption
    | with_reducible refine wpAny_loadPart_at hC ?_
    | with_reducible refine wpAny_onRaise ?_
    | with_reducible refine wpAny_map ?_
    | wp_step))
theorem callK (F : ExcBaseFacts B newId initId bmB) (hT : ∀ X : String, bm.contains (.type X) = bmB.contains (.type X)) {fI : Addr}
    (hC : h.get? C = some (excClassObj nm q C N bs bm hdct sn sub ab col dd k0 k1 k2 k3 k5 newId))
    (hi : PySem.W.Looks (model prog w) h (typeLookup (.ref C) "__init__") (some (.ref fI))) (hb : ∀ self, PySem.W.Looks (model prog w) h (bindSpecial (.ref fI) self) (.ref fI, [self]))
    (hrest : rest.length ≤ sizeLine)
    (hq : codeAny (model prog w) (A.under (.builtin "type.__call__" ⟨.ref C :: rest, kw⟩)) (.call (.ref fI) ⟨.ref (h.objs.size + 1) :: rest, kw⟩) (PySem.W.InitBack (h.objs.size + 1) R)
      ⟨(h.push (PySem.W.kdv_tup rest)).push (excO C h.objs.size), g, d, t, os⟩) :
    codeAny (model prog w) A (.call (.ref C) ⟨rest, kw⟩) R ⟨h, g, d, t, os⟩ := by
  have f1 := tc_lookup
  have f2 := tc_bind (.ref C)
  have hTy : (⟨h, g, d, t, os⟩ : Shared).TypeIs (.ref C) "type" := ⟨_, hC, rfl⟩
  refine codeAny_of_tree ?_
  show wpAny _ _ (callAny (.ref C) _) _ _ _
  repeat (any_goals (first
    | assumption
    | with_reducible refine wpAny_loadPart_at hC ?_
    | wp_step))
  refine ⟨rfl, ?_⟩
  refine codeAny_call_builtin_at (Code.quiet_builtin _ (by decide +kernel)) entry_typeCall ?_
  refine check_callK hC (type_callK F hT hC hi hb hrest (codeAny_mono hq fun r s' z => ?_))
  match r, z with
  | .error e, z => exact z
  | .ok .next, z => exact z
  | .ok .brk, z => exact z
  | .ok .cont, z => exact z
  | .ok (.ret v), z => exact z
end
end Jo

set_option Elab.async false
set_option linter.all false
set_option maxRecDepth 100000
set_option maxHeartbeats 2000000
/-! Errors as values: C(e, ..), C(k = e, ..), C(), e.f, isinstance(e, C). -/
namespace Jo
open PySem PySem.Spec PyProof.Rows L2
theorem same_new {H : Hp} {p : Addr} {o : HO} (h : H p = none) : Same H (upd H p o) := fun b x e => by
  rw [upd_ne (ne_of_none e h)]
  exact e
/-- at a stands an error of the class at C with these fields, and perhaps more -/
def ErrAt (H : Hp) (a C : Addr) (fs : List (Str × V)) : Prop := (H a = some (exo a C none) ∧ fs = []) ∨
  ∃ (dx : Addr) (gs : List (Str × V)), H a = some (exo a C (some dx)) ∧ H dx = some (exd dx gs) ∧ ∀ f v, (f, v) ∈ fs → gs.lookup f = some v
theorem ErrAt.same {H H' : Hp} {a C : Addr} {fs : List (Str × V)} (h : ErrAt H a C fs) (s : Same H H') : ErrAt H' a C fs := by
  rcases h with ⟨e, q⟩ | ⟨dx, gs, e, ed, l⟩
  · exact .inl ⟨s _ _ e, q⟩
  · exact .inr ⟨dx, gs, s _ _ e, s _ _ ed, l⟩
/-- the __init__ of an error class at C that keeps its arguments as the fields ps -/
def spErr (C : Addr) (ps : List Str) : Sp := fun vs H Q _ => ∃ (a : Addr) (ys : List V), vs = .ref a :: ys ∧ ys.length = ps.length ∧ H a = some (exo a C none) ∧
  ∀ H', ErrAt H' a C (ps.zip ys) → (∀ b o, H b = some o → b ≠ a → H' b = some o) → Q .non H'
/-- the class x at C, below B, whose __init__ keeps its arguments as the fields ps -/
structure Err (P : Program) (w : World) (K : PySem.W.Frag) (mg : Str → Option Value) (base : Heap) (x : Str) (C B : Addr) (b newId initId : String) (bmB : List Value) (ps : List Str) : Prop where
  gm : mg x = some (.ref C)
  ec : EC K C B newId bmB
  eb : EBase b newId initId bmB
  mt : MtF P w K mg base 1 C "__init__" ("self" :: ps) (spErr C ps)
/-- C(e, ..) or C(k = e, ..) -/
def tEr (C : Addr) (ps : List Str) (g : List V → List V) (t : TA) : TE := fun σ H Q => t σ H fun vs H1 => vs.length = ps.length ∧ vs.length ≤ 1000 ∧
  ∀ a H2, Same H1 H2 → ErrAt H2 a C (ps.zip (g vs)) → Q (.ref a) H2
section
variable {X : Cx} {j : Nat} {x : Str} {C B : Addr} {b newId initId : String} {bmB : List Value} {ps : List Str} {p pos : Pos} {e : Expr} {es : List Expr} {kws : List Keyword} {t : TA}
  {pins : List (Addr × Obj)} {σ : L2.St} {H : Hp} {s : Shared} {Q : VK} {us : List Value} {vs : List V} {kw : List (Str × Value)}
theorem run_err (c : Err X.prog X.w X.K X.mg X.base x C B b newId initId bmB ps) (hr : Room j X.A) (hk : 2 ≤ j) (I : Inv X pins σ H s) (hus : us.length ≤ sizeLine) {ws : List Value} (r : Vals vs ws) (hl : vs.length = ps.length)
    (bt : ∀ (fI : Addr) (fd : FuncData) (u : Value), Binds X.K fd ("self" :: ps) [] →
      (∀ (s : Shared) (u : Value) (us : List Value), (u :: us).length = (("self" : Str) :: ps).length → BindsTo s fd ⟨[u], ((("self" : Str) :: ps).drop 1).reverse.zip us.reverse⟩ ((("self" : Str) :: ps).zip (u :: us))) →
      ∀ s' : Shared, X.K.In s'.heap → BindsTo s' fd ⟨u :: us, kw⟩ ((("self" : Str) :: ps).zip (u :: ws)))
    (h : ∀ a H2, Same H H2 → ErrAt H2 a C (ps.zip vs) → Q (.ref a) H2) :
    wpAny (model X.prog X.w) X.A (call (.ref C) us kw) (EP X pins σ Q) X.xe s := by
  obtain ⟨nm, q, N, bs, sn, sub, ab, col, dd, k0, k1, k2, k3, k5, hC⟩ := c.ec.look
  obtain ⟨fI, fd, F1, mt, b1, b2⟩ := c.mt.ex
  obtain ⟨hp, gs, dr, tk, os⟩ := s
  have hsz : hp.objs.size ≤ hp.objs.size + 1 := Nat.le_succ _
  have hn : H (hp.objs.size + 1) = none := I.hok.fresh hsz
  have kk : ∀ c o, hp.get? c = some o → ((hp.push (PySem.W.kdv_tup us)).push (PySem.HandSPX.excO C hp.objs.size)).get? c = some o := fun c o e =>
    Heap.get?_push_of_some _ (Heap.get?_push_of_some _ e)
  have hget : ((hp.push (PySem.W.kdv_tup us)).push (PySem.HandSPX.excO C hp.objs.size)).get? (hp.objs.size + 1) = some (PySem.HandSPX.excO C hp.objs.size) := by heap_get
  have I2 : Inv X pins σ (upd H (hp.objs.size + 1) (exo (hp.objs.size + 1) C none)) ⟨(hp.push (PySem.W.kdv_tup us)).push (PySem.HandSPX.excO C hp.objs.size), gs, dr, tk, os⟩ :=
    I.laid (t' := tk) kk hsz (exo_ok hget)
  have r2 : Vals (V.ref (hp.objs.size + 1) :: vs) (Value.ref (hp.objs.size + 1) :: ws) := .cons rfl r
  have hC2 := I.kIn _ _ hC
  have tI : PySem.W.typeIn X.K (.ref fI) = some (.type "function") := beq_iff_eq.mp mt.fn
  refine wpAny_call (callK c.eb.f (fun Y => ?_) hC2 (PySem.W.looks_findIn I.kIn mt.at_) (fun self => PySem.W.bind_fn I.kIn self tI) hus ?_)
  · rw [List.contains_cons] <;> rfl
  have hr2 : Room (1 + 1) X.A := hr.mono hk
  refine codeAny_mono (F1.run _ X.stack _ _ ⟨Value.ref (hp.objs.size + 1) :: us, kw⟩ (Value.ref (hp.objs.size + 1) :: ws) (V.ref (hp.objs.size + 1) :: vs) (fun v H2 => v = .non ∧ Q (.ref (hp.objs.size + 1)) H2) E0
    (hr2.make C us kw) (I2.env0.make C us kw) (bt fI fd _ b1 b2 _ I2.kIn) r2 ⟨_, vs, rfl, hl, upd_same, fun H' he hs => ⟨rfl, h _ H' (fun c o e => ?_) he⟩⟩) fun r' s' hq => ?_
  · have nc : c ≠ hp.objs.size + 1 := ne_of_none e hn
    exact hs c o (by rw [upd_ne nc]; exact e) nc
  · match r', hq with
    | .error er, hq => exact (pass0 : Passes CX0 X E0) pins σ _ _ er s' I2 hq
    | .ok .next, hq => exact (show False from hq).elim
    | .ok .brk, hq => exact (show False from hq).elim
    | .ok .cont, hq => exact (show False from hq).elim
    | .ok (.ret u), hq =>
      obtain ⟨v, H', I3, rv, ev, q3⟩ := I2.after hq
      subst ev
      exact ⟨rv, ⟨V.ref (hp.objs.size + 1), H', I3, rfl, q3⟩⟩
/-- C(e, ..) -/
theorem pe_er (c : Err X.prog X.w X.K X.mg X.base x C B b newId initId bmB ps) (hr : Room j X.A) (hk : 2 ≤ j) (hg : Gl X x) (ha : PA X (e :: es) t) (hdb : (x == ("__debug__" : Str)) = false := by decide)
    (he : starEach (e :: es) X.env = (false, eval e X.env) :: starEach es X.env := by rfl) (hpl : (backTo pos (starEach es X.env)).any (·.1) = false := by rfl) :
    PE X (.Call (.Name x p) (e :: es) [] pos) (tEr C ps id t) := by
  refine ⟨fun pins s σ H Q I h => wpAny_Call_Name_kw (ld_glob I hg c.gm ?_ hdb)⟩
  refine PySem.W.callWith_K (h₀ := X.base) I.ok.mod.kin c.ec.kp (thn (ha.run pos pins s σ H _ I h) fun us s1 ⟨vs, H1, I1, r, l1, l2, q⟩ => ⟨I1.kIn, ?_⟩) he hpl
  refine run_err c hr hk I1 ?_ r l1 (fun fI fd u b1 _ s' hin => ?_) q
  · show us.length ≤ sizeLine
    rw [← r.length, sizeLine_eq]
    omega
  · have hl : (u :: us ++ []).length = (("self" : Str) :: ps).length := by
      rw [List.append_nil, List.length_cons, List.length_cons, ← r.length, l1]
    have z := b1 s' (u :: us) hin hl
    rw [List.append_nil] at z
    exact z
/-- C(b = .., a = ..): the last ahead -/
theorem pe_erK (c : Err X.prog X.w X.K X.mg X.base x C B b newId initId bmB ps) (hr : Room j X.A) (hk : 2 ≤ j) (hg : Gl X x) (hkw : PK X kws t)
    (hall : (backToKw pos (keywordEach kws X.env)).all (·.1.isSome) = true := by rfl)
    (hks : (backToKw pos (keywordEach kws X.env)).filterMap (·.1) = ps.reverse := by rfl)
    (hdb : (x == ("__debug__" : Str)) = false := by decide)
    (hpl : ((backTo pos (starEach [] X.env)).any (·.1) || (backToKw pos (keywordEach kws X.env)).any (·.1.isNone)) = false := by rfl) :
    PE X (.Call (.Name x p) [] kws pos) (tEr C ps List.reverse t) := by
  refine ⟨fun pins s σ H Q I h => wpAny_Call_Name_kw (ld_glob I hg c.gm ?_ hdb)⟩
  refine PySem.W.callWith_KW0 (h₀ := X.base) I.ok.mod.kin c.ec.kp hall (thn (hkw.run pos pins s σ H _ I h) fun ws s2 ⟨zs, H2, I2, rz, l1, l2, q⟩ => ⟨I2.kIn, ?_⟩) hpl
  rw [hks]
  refine run_err (us := []) (ws := ws.reverse) c hr hk I2 (by rw [sizeLine_eq]; show 0 ≤ _; omega) rz.reverse (by rw [List.length_reverse]; exact l1) (fun fI fd u _ b2 s' hin => ?_) q
  have z := b2 s' u ws.reverse (by rw [List.length_cons, List.length_cons, List.length_reverse, ← rz.length, l1])
  rw [List.reverse_reverse] at z
  exact z
/-- C(), no __init__ below the built-in base's -/
theorem pe_er0 (gm : X.mg x = some (.ref C)) (eb : EBase b newId initId bmB) (q : PySem.W.excIn X.K C bmB newId = true) (kp : PySem.W.keepIn X.K (.ref C) = true) (hg : Gl X x) (hdb : (x == ("__debug__" : Str)) = false := by decide) :
    PE X (.Call (.Name x p) [] [] pos) (fun _ H Q => ∀ a H2, Same H H2 → ErrAt H2 a C [] → Q (.ref a) H2) := by
  refine ⟨fun pins s σ H Q I h => wpAny_Call_Name_kw (ld_glob I hg gm (PySem.W.callWith_K0 I.kIn kp ?_) hdb)⟩
  obtain ⟨bm, N, nm, qn, bs, hdct, sn, sub, ab, col, dd, k0, k1, k2, k3, k5, mN, hC, hN, hni, T⟩ := exc_obj I.kIn q
  refine wpAny_call_exc_subT eb.f T hC hN hni (fun h' a hm => ?_) (by rw [sizeLine_eq]; show 0 ≤ _; omega)
  have hn : H a = none := I.hok.gone hm.new
  obtain ⟨t, ht, _, _⟩ := hm.there
  refine ⟨.ref a, upd H a (exo a C none), I.laidN hm.keeps hm.new hn (exo_ok ht), rfl, h _ _ (same_new hn) (.inl ⟨upd_same, rfl⟩)⟩
/-! ### its class, its fields -/
theorem ErrAt.inst {a : Addr} {fs : List (Str × V)} (h : ErrAt H a C fs) (I : Inv X pins σ H s) : ∃ oe od, PySem.W.InstAt s.heap a oe C od := by
  rcases h with ⟨e, _⟩ | ⟨dx, gs, e, ed, l⟩
  · obtain ⟨t1, ho⟩ := exo_at I.hok e
    exact ⟨_, none, ho, rfl, rfl, trivial⟩
  · obtain ⟨t1, ho⟩ := exo_at I.hok e
    obtain ⟨mA, hns, rel⟩ := exd_at I.hok ed
    obtain ⟨oD, _, _, hoD, _, _⟩ := hns.count (within_of rel)
    exact ⟨_, some oD, ho, rfl, rfl, hoD⟩
/-- isinstance(e, c) of an error -/
def rIsE (K : PySem.W.Frag) : List V → Hp → VK → Prop := fun xs H Q => ∃ (a C B : Addr) (b newId initId : String) (bmB : List Value) (fs : List (Str × V)) (c : V) (u : Value) (r : Bool), xs = [.ref a, c] ∧ ErrAt H a C fs ∧
  EC K C B newId bmB ∧ EBase b newId initId bmB ∧ CW K ∧ ClsV c u ∧ PySem.W.kitOne K (.ref C) u = some r ∧ Q (.bl r) H
theorem call_isE : CallR X (.builtin "isinstance") (rIsE X.K) := by
  intro pins s σ H xs us Q I r h
  obtain ⟨a, C, B, b, newId, initId, bmB, fs, c, u, v, rfl, he, T, eb, cw, k, ek, q⟩ := h
  obtain ⟨u1, u2, rfl, r1, r2⟩ := vals2 r
  have e2 := k.eq r2
  subst e2
  cases (show u1 = Value.ref a from r1)
  obtain ⟨oe, od, J⟩ := he.inst I
  obtain ⟨cd, hcd, _, _⟩ := T.cls
  refine PySem.W.kia_one (PySem.W.kitx_exc (ox := oe) (od := od) ?_ T.ga T.gg (T.exc eb) T.cl cw.get cw.take (T.obj eb)) I.kIn J ek (fun z => nomatch z) fun tk => ⟨.bl v, H, I.tok tk, rfl, q⟩
  rw [hcd] <;> rfl
/-- e.f -/
def tEf (K : PySem.W.Frag) (f : Str) (te : TE) : TE := fun σ H Q => te σ H fun x H1 => ∃ (a C B : Addr) (b newId initId : String) (bmB : List Value) (fs : List (Str × V)) (v : V), x = .ref a ∧ ErrAt H1 a C fs ∧ (f, v) ∈ fs ∧
  EC K C B newId bmB ∧ EBase b newId initId bmB ∧ PySem.W.findIn K (.ref C) f = some none ∧ Q v H1
theorem pe_ef {f : Str} {te : TE} (he : PE X e te) (hb : attributeBase e f X.env (eval e X.env) = eval e X.env := by rfl) : PE X (.Attribute e f pos) (tEf X.K f te) := by
  refine ⟨fun pins s σ H Q I h => attr_of hb (thn (he.run pins s σ H _ I h) fun u s1 hh => ?_)⟩
  obtain ⟨x, H1, I1, rx, a, C, B, b, newId, initId, bmB, fs, v, ex, ha, hv, T, eb, hno, q⟩ := hh
  subst ex
  obtain rfl : u = Value.ref a := rx
  rcases ha with ⟨e, rfl⟩ | ⟨dx, gs, e, ed, l⟩
  · cases hv
  · obtain ⟨t1, ho⟩ := exo_at I1.hok e
    obtain ⟨mA, hns, rel⟩ := exd_at I1.hok ed
    obtain ⟨od, hod, hl⟩ := lookIn_ns hns
    obtain ⟨u, hu, ru⟩ := RelO.some_of (v := v) (o := mA f) (by rw [← l f v hv]; exact rel f)
    have J : PySem.W.InstAt s1.heap a _ C (some od) := ⟨ho, rfl, rfl, hod⟩
    exact HandSPX.exc_get I1.kIn J T.ga T.gg (T.exc eb) (PySem.W.findObj_own T.hd hno rfl (by rw [hl, hu])) (handed_of ru) ⟨v, H1, I1.tok _, ru, q⟩
end
end Jo

set_option Elab.async false
set_option linter.all false
set_option maxRecDepth 100000
set_option maxHeartbeats 2000000
/-! repr of lists that hold dicts; list.count of flat values. -/
namespace Jo
open PySem PySem.Spec PyProof.Rows L2
def kD : Key → PyData
  | .inl i => .int i
  | .inr x => .str x
/-- x is the data d, nested less than n deep; dicts with keys ints and texts among it -/
def ShD (K : PySem.W.Frag) (H : Hp) : Nat → V → PyData → Prop
  | 0 => fun _ _ => False
  | n + 1 => fun x d =>
    (x = .non ∧ d = .none) ∨ (∃ b, x = .bl b ∧ d = .bool b) ∨ (∃ i, x = .int i ∧ d = .int i) ∨ (∃ z, x = .str z ∧ d = .str z) ∨
    (∃ a xs ds, x = .ref a ∧ d = .list ds ∧ (a == sysModules) = false ∧ SqL K H a xs ∧ Paired (ShD K H n) xs ds) ∨
    (∃ a xs ds, x = .ref a ∧ d = .tuple ds ∧ SqT K H a xs ∧ Paired (ShD K H n) xs ds) ∨
    (∃ a kvs ds, x = .ref a ∧ d = .dict ds ∧ H a = some (.dK kvs) ∧ Paired (fun (p : Key × V) (q : PyData × PyData) => q.1 = kD p.1 ∧ ShD K H n p.2 q.2) kvs ds)
section
variable {X : Cx} {pins : List (Addr × Obj)} {σ : L2.St} {H : Hp} {s : Shared}
theorem rdAll {F : V → PyData → Prop} {h : Heap} (f : ∀ x d v, F x d → RelV x v → ∃ as, Reads h v d as ∧ sysModules ∉ as) {xs : List V} {ds : List PyData} (p : Paired F xs ds) :
    ∀ {us : List Value}, Vals xs us → ∃ as, ReadsAll h us ds as ∧ sysModules ∉ as := by
  induction p with
  | nil =>
    intro us r
    cases r
    exact ⟨_, .nil, by simp⟩
  | cons q _ ih =>
    intro us r
    cases r with
    | cons r1 r2 =>
      obtain ⟨as, h1, n1⟩ := f _ _ _ q r1
      obtain ⟨bs, h2, n2⟩ := ih r2
      exact ⟨_, .cons h1 h2, fun z => (List.mem_append.mp z).elim n1 n2⟩
theorem rdPairs {P : Program} {w : World} {F : V → PyData → Prop} {h : Heap} (f : ∀ x d v, F x d → RelV x v → ∃ as, Reads h v d as ∧ sysModules ∉ as) {kvs : List (Key × V)} {ds : List (PyData × PyData)}
    (p : Paired (fun (p : Key × V) (q : PyData × PyData) => q.1 = kD p.1 ∧ F p.2 q.2) kvs ds) : ∀ {vs : List (Key × Value)} {es : List DictEntry}, KV kvs vs → Pairs (mixKind P w) es vs →
    ∃ as bs, ReadsAll h (es.map (·.key)) (ds.map (·.1)) as ∧ ReadsAll h (es.map (·.val)) (ds.map (·.2)) bs ∧ sysModules ∉ as ∧ sysModules ∉ bs := by
  induction p with
  | nil =>
    intro vs es k q
    cases k
    cases q
    exact ⟨_, _, .nil, .nil, by simp, by simp⟩
  | @cons kv pd kvs ds q _ ih =>
    intro vs es k q2
    cases k with
    | cons k1 k2 =>
      cases q2 with
      | cons e1 e2 e3 =>
        obtain ⟨as, bs, h1, h2, n1, n2⟩ := ih k2 e3
        obtain ⟨qk, qv⟩ := q
        obtain ⟨kk, kr⟩ := k1
        obtain ⟨cs, h3, n3⟩ := f _ _ _ qv kr
        rw [← e2] at h3
        have hk : ∀ (k : Key) (u : Value), keyIs k u = true → Reads h u (kD k) [] := fun k u hu => by
          rcases keyIs_shape hu with ⟨i, t, rfl, rfl⟩ | ⟨x, t, rfl, rfl⟩
          · exact .int i t
          · exact .str x t
        have h4 := hk _ _ e1
        rw [← kk, ← qk] at h4
        exact ⟨_, _, .cons h4 h1, .cons h3 h2, by simpa using n1, fun z => (List.mem_append.mp z).elim n3 n2⟩
theorem rd_of (I : Inv X pins σ H s) : ∀ (n : Nat) (x : V) (d : PyData) (v : Value), ShD X.K H n x d → RelV x v → ∃ as, Reads s.heap v d as ∧ sysModules ∉ as
  | 0, _, _, _, h, _ => (show False from h).elim
  | n + 1, x, d, v, h, r => by
    rcases h with ⟨rfl, rfl⟩ | ⟨b, rfl, rfl⟩ | ⟨i, rfl, rfl⟩ | ⟨z, rfl, rfl⟩ | ⟨a, xs, ds, rfl, rfl, ha, hs, p⟩ | ⟨a, xs, ds, rfl, rfl, hs, p⟩ | ⟨a, kvs, ds, rfl, rfl, hd, p⟩
    · cases (show v = Value.none from r)
      exact ⟨_, .none, by simp⟩
    · cases (show v = Value.bool b from r)
      exact ⟨_, .bool b, by simp⟩
    · obtain ⟨t, rfl⟩ := (show ∃ t, v = Value.int i t from r)
      exact ⟨_, .int i t, by simp⟩
    · obtain ⟨t, rfl⟩ := (show ∃ t, v = Value.str z t from r)
      exact ⟨_, .str z t, by simp⟩
    · cases (show v = Value.ref a from r)
      obtain ⟨its, rv, ⟨o, c, e1, e2, _, e4⟩, _⟩ := I.list hs
      obtain ⟨as, ra, na⟩ := rdAll (rd_of I n) p rv
      refine ⟨_, .list e1 e2 e4 (by simpa using ra), fun z => ?_⟩
      rcases List.mem_cons.mp z with z | z
      · exact absurd z.symm (beq_eq_false_iff_ne.mp ha)
      · exact na z
    · cases (show v = Value.ref a from r)
      obtain ⟨its, rv, ⟨o, e1, e2, c, e4⟩, _⟩ := I.tuple hs
      obtain ⟨as, ra, na⟩ := rdAll (rd_of I n) p rv
      exact ⟨_, .tuple e1 e2 e4 (by simpa using ra), na⟩
    · cases (show v = Value.ref a from r)
      obtain ⟨_, hne, vs, kv, o, es, ep, e1, e2, e3, _, hp, _⟩ := (show ObjOk X.prog X.w H s.heap a (.dK kvs) from I.hok a _ hd)
      obtain ⟨as, bs, h1, h2, n1, n2⟩ := rdPairs (rd_of I n) p kv hp
      refine ⟨_, .dict e1 e2.1 e3 h1 h2, fun z => ?_⟩
      rcases List.mem_append.mp z with z | z
      · rcases List.mem_cons.mp z with z | z
        · exact absurd z.symm (beq_eq_false_iff_ne.mp hne)
        · exact n1 z
      · exact n2 z
/-- repr(xs) where dicts may be in it -/
def rReprD (K : PySem.W.Frag) : List V → Hp → VK → Prop := fun xs H Q => ∃ (a : Addr) (d : PyData) (n : Nat),
  xs = [.ref a] ∧ ShD K H n (.ref a) d ∧ d.showable = true ∧ d.depth ≤ 60 ∧ d.shown.length ≤ sizeLine ∧ Q (.str d.shown) H
theorem call_reprD (hgd : X.A.guards = some []) (hu : X.A.units + 64 < cLine) : CallR X (.builtin "repr") (rReprD X.K) := by
  intro pins s σ H xs us Q I r h
  obtain ⟨a, d, n, rfl, hw, h1, h3, h4, q⟩ := h
  obtain ⟨u, rfl, ru⟩ := vals1 r
  cases (show u = Value.ref a from ru)
  obtain ⟨as, rd, na⟩ := rd_of I n _ d _ hw rfl
  exact repr_of_reads' rd h1 (fun _ => na) hgd (by omega) (fun _ _ e => e)
    (fun h' u tk hk => ⟨.str d.shown, H, I.kept hk, ⟨_, rfl⟩, q⟩) h4
/-- [a, b]: no list that is laid here is the module table -/
def tLstN (t : TA) : TE := fun σ H Q => t σ H fun xs H1 => xs.length ≤ sizeLine ∧ ∀ p, H1 p = none → (p == sysModules) = false → Q (.ref p) (upd H1 p (.lst xs))
theorem pe_lstN {es : List Expr} {t : TA} {pos : Pos} (h : PA X es t) : PE X (.List es pos) (tLstN t) := by
  refine ⟨fun pins s σ H Q I hq => ?_⟩
  refine wpAny_List_spliced (thn (h.run pos pins s σ H _ I hq) fun us s1 ⟨xs, H1, I1, r, z, q⟩ => ⟨by rw [← r.length]; exact z, ?_⟩)
  have hf : H1 s1.heap.objs.size = none := I1.hok.fresh (Nat.le_refl _)
  have hs : (s1.heap.objs.size == sysModules) = false := beq_eq_false_iff_ne.mpr (Nat.ne_of_gt I1.big)
  have J := I1.laid (a := s1.heap.objs.size) (o := .lst xs) (h' := s1.heap.push { cls := .type "list", data := .seq us.toArray }) (t' := s1.toks)
    (fun b u e => Heap.get?_push_of_some _ e) (Nat.le_refl _) ⟨z, us, 0, r, Heap.get?_push_size _ rfl⟩
  exact ⟨.ref s1.heap.objs.size, upd H1 s1.heap.objs.size (.lst xs), J, rfl, q _ hf hs⟩
/-- l.count(y), flat values -/
def rCntF (K : PySem.W.Frag) : V → List V → Hp → VK → Prop := fun x xs H Q => ∃ (p : Addr) (ys : List V) (y : V), x = .ref p ∧ xs = [y] ∧ SqL K H p ys ∧ flatV y = true ∧ ys.all flatV = true ∧ Q (.int (ys.countP (fun z => eqV z y) : Nat)) H
theorem mt_countF : MtR X "list.count" (rCntF X.K) := by
  intro pins s σ H x xs v us Q I rx rxs h
  obtain ⟨p, ys, y, rfl, rfl, hs, fy, fys, q⟩ := h
  cases rx
  obtain ⟨u, rfl, ru⟩ := rxs.one
  obtain ⟨its, rv, ⟨⟨cls, dd, data, sl⟩, n, ho, hc, hdn, hd⟩, hlen⟩ := I.list hs
  simp only at hc hd
  subst hc hd
  have ec : ∀ (ys : List V) (its : List Value), Vals ys its → ys.all flatV = true → its.countP (eqU y) = ys.countP (fun z => eqV z y) := by
    intro ys its r
    induction r with
    | nil =>
      intro _
      rfl
    | @cons z w zs ws r1 _ ih =>
      intro hf
      rw [List.all_cons, Bool.and_eq_true] at hf
      rw [List.countP_cons, List.countP_cons, ih hf.2, eqU_of r1 hf.1]
  refine call_meets PySem.F.slot_list_count ⟨_, ho, rfl⟩ PySem.F.entry_list_count (PySem.F.args_list_count_2 _ _)
    (SeqAt.list_countAt p its.toArray n dd sl u (eqU y)) ⟨ho, fun u' hu' => mem_eqAt ru fy rv fys u' (by simpa using hu'), ?_⟩
  refine ⟨.int (ys.countP (fun z => eqV z y) : Nat), H, I.tok _, ⟨s.toks, ?_⟩, q⟩
  show Value.int ((its.toArray.toList.countP (eqU y) : Nat) : Int) s.toks = Value.int ((ys.countP (fun z => eqV z y) : Nat) : Int) s.toks
  rw [show its.toArray.toList = its by simp, ec ys its rv fys]
end
end Jo

set_option Elab.async false
set_option linter.all false
set_option maxRecDepth 100000
set_option maxHeartbeats 2000000
/-! How long what is shown may be, how deep the data, which signs are in it; repr of a value of any kind. -/
namespace Jo
open PySem PySem.Spec PyProof.Rows L2
/-- the signs of a text are no greater than signs are -/
def Lo (z : Str) : Prop := ∀ c ∈ z.cps.toList, c < 16 ^ 8
theorem lo_add {a b : Str} (ha : Lo a) (hb : Lo b) : Lo (a ++ b) := fun c hc => by
  rw [Str.cps_append, Array.toList_append] at hc
  exact (List.mem_append.mp hc).elim (ha c) (hb c)
theorem char_lo (c : Char) : c.toNat < 16 ^ 8 := by
  have h := c.valid
  rcases h with h | ⟨_, h⟩
  · exact Nat.lt_trans h (by decide)
  · exact Nat.lt_trans h (by decide)
theorem lo_of (s : String) : Lo (Str.ofString s) := fun c hc => by
  have e : (Str.ofString s).cps.toList = s.toList.map Char.toNat := PySem.cpsOfBytes_string s
  rw [e] at hc
  obtain ⟨x, _, rfl⟩ := List.mem_map.mp hc
  exact char_lo x
theorem char_lo2 {q c : Nat} (hq : q < 16 ^ 8) (hc : c < 16 ^ 8) : ∀ x ∈ Builtin.Str.reprChar q c, x < 16 ^ 8 := by
  intro x hx
  have dg : ∀ {w : Nat}, x ∈ List.replicate (w - ((Nat.toDigits 16 c).map Char.toNat).length) 48 ++ (Nat.toDigits 16 c).map Char.toNat → x < 16 ^ 8 := fun {w} h => by
    rcases List.mem_append.mp h with h | h
    · rw [(List.mem_replicate.mp h).2]; decide
    · obtain ⟨y, _, rfl⟩ := List.mem_map.mp h
      exact char_lo y
  unfold Builtin.Str.reprChar at hx
  dsimp only at hx
  have two : ∀ {a b : Nat}, a < 16 ^ 8 → b < 16 ^ 8 → x ∈ [a, b] → x < 16 ^ 8 := fun {a b} h1 h2 h => by
    rcases List.mem_cons.mp h with rfl | h
    · exact h1
    · rw [List.mem_singleton.mp h]; exact h2
  repeat' split at hx
  · exact two (by decide) hc hx
  · exact two (by decide) (by decide) hx
  · exact two (by decide) (by decide) hx
  · exact two (by decide) (by decide) hx
  · rw [List.mem_singleton.mp hx]; exact hc
  · rcases List.mem_append.mp hx with h | h
    · exact two (by decide) (by decide) h
    · exact dg h
  · rcases List.mem_append.mp hx with h | h
    · exact two (by decide) (by decide) h
    · exact dg h
  · rcases List.mem_append.mp hx with h | h
    · exact two (by decide) (by decide) h
    · exact dg h
theorem fold_lo {q : Nat} (hq : q < 16 ^ 8) : ∀ (l : List Nat) (acc : Array Nat), (∀ c ∈ l, c < 16 ^ 8) → (∀ c ∈ acc.toList, c < 16 ^ 8) → ∀ c ∈ (l.foldl (fun out c => out ++ (Builtin.Str.reprChar q c).toArray) acc).toList, c < 16 ^ 8
  | [], acc, _, ha => ha
  | y :: r, acc, h, ha => by
    rw [List.foldl_cons]
    refine fold_lo hq r _ (fun c hc => h c (List.mem_cons_of_mem _ hc)) fun c hc => ?_
    rw [Array.toList_append] at hc
    rcases List.mem_append.mp hc with hc | hc
    · exact ha c hc
    · exact char_lo2 hq (h y List.mem_cons_self) c (by simpa using hc)
theorem lo_repr {z : Str} (h : Lo z) : Lo (reprText z) := by
  have hq : reprQuote z < 16 ^ 8 := by unfold reprQuote; split <;> decide
  intro c hc
  unfold reprText at hc
  have hc2 : c ∈ (z.cps.foldl (fun out c => out ++ (Builtin.Str.reprChar (reprQuote z) c).toArray) #[reprQuote z]).toList ++ [reprQuote z] := by simpa using hc
  rw [← Array.foldl_toList] at hc2
  rcases List.mem_append.mp hc2 with h2 | h2
  · exact fold_lo hq _ _ h (fun c hc => by rw [show c = reprQuote z by simpa using hc]; exact hq) c h2
  · rw [List.mem_singleton.mp h2]; exact hq
theorem lo_join : ∀ {ts : List Str}, (∀ t ∈ ts, Lo t) → Lo (Str.join ", " ts)
  | [], _ => lo_of ""
  | [x], h => h x List.mem_cons_self
  | x :: y :: r, h => by
    show Lo (x ++ ", " ++ Str.join ", " (y :: r))
    exact lo_add (lo_add (h x List.mem_cons_self) (lo_of ", ")) (lo_join fun t ht => h t (List.mem_cons_of_mem _ ht))
theorem lo_tup {ts : List Str} (h : ∀ t ∈ ts, Lo t) : Lo (tupleText ts) := lo_add (lo_add (lo_of "(") (lo_join h)) (lo_of _)
theorem lo_from : ∀ {ts : List Str} {k : Nat} {acc : Str}, (∀ t ∈ ts, Lo t) → Lo acc → Lo (textFrom k acc ts)
  | [], _, _, _, ha => ha
  | t :: r, k, acc, h, ha => by
    unfold textFrom
    exact lo_from (fun t ht => h t (List.mem_cons_of_mem _ ht)) (lo_add (lo_add ha (lo_of _)) (h t List.mem_cons_self))
theorem lo_lst {ts : List Str} (h : ∀ t ∈ ts, Lo t) : Lo (listText ts) := lo_add (lo_from h (lo_of "[")) (lo_of "]")
theorem tupT_le (ts : List Str) : (tupleText ts).length ≤ 3 + piled ts := by
  unfold tupleText
  rw [Str.length_append, Str.length_append]
  have h1 : (("(" : Str)).length = 1 := by decide
  have h2 : (Str.ofString (if (ts.length == 1) = true then ",)" else ")")).length ≤ 2 := by
    by_cases h : (ts.length == 1) = true
    · rw [if_pos h]; decide
    · rw [if_neg h]; decide
  have h3 : (Str.join ", " ts).length ≤ piled ts := by
    by_cases h : ts = []
    · subst h; exact Nat.le_refl _
    · have := join_length_add ts h
      omega
  rw [h1]
  omega
theorem from_le : ∀ (ts : List Str) (k : Nat) (acc : Str), (textFrom k acc ts).length ≤ acc.length + piled ts
  | [], _, acc => by show acc.length ≤ _; omega
  | t :: r, k, acc => by
    unfold textFrom
    refine Nat.le_trans (from_le r _ _) ?_
    rw [piled_cons]
    have h2 : ((if k > 0 then ", " else "" : String) : Str).length ≤ 2 := by
      by_cases h : k > 0
      · rw [if_pos h]; decide
      · rw [if_neg h]; decide
    simp only [Str.length_append]
    omega
theorem lstT_le (ts : List Str) : (listText ts).length ≤ 2 + piled ts := by
  unfold listText
  rw [Str.length_append]
  have h1 := from_le ts 0 "["
  have h2 : (("[" : Str)).length = 1 := by decide
  have h3 : (("]" : Str)).length = 1 := by decide
  omega
/-- data that may be shown: how long at most, how deep at most -/
structure Sz (d : PyData) (n k : Nat) : Prop where
  ok : d.showable = true
  dp : d.depth ≤ k
  len : d.shown.length ≤ n
  lo : Lo d.shown
theorem Sz.le {d : PyData} {n k m j : Nat} (h : Sz d n k) (hn : n ≤ m) (hk : k ≤ j) : Sz d m j := ⟨h.ok, Nat.le_trans h.dp hk, Nat.le_trans h.len hn, h.lo⟩
theorem Sz.non : Sz .none 5 0 := ⟨rfl, Nat.le_refl _, by decide, lo_of "None"⟩
theorem Sz.bl (b : Bool) : Sz (.bool b) 5 0 := ⟨rfl, Nat.le_refl _, by cases b <;> decide, by cases b <;> exact lo_of _⟩
theorem Sz.int {i : Int} (h : i.natAbs.log2 < 1920) : Sz (.int i) 1921 0 := ⟨decide_eq_true h, Nat.le_refl _, int_text_len_1921 h, lo_of _⟩
theorem Sz.str {z : Str} {n m : Nat} (hz : Lo z) (hl : z.length ≤ n) (hm : 10 * n + 2 ≤ m) : Sz (.str z) m 0 := by
  refine ⟨rfl, Nat.le_refl _, ?_, lo_repr hz⟩
  have h1 := StrLaws.reprText_len z hz
  show (reprText z).length ≤ _
  omega
inductive SzAll : List PyData → Nat → Nat → Prop where
  | nil {k : Nat} : SzAll [] 0 k
  | cons {d : PyData} {ds : List PyData} {n m k j : Nat} : Sz d n k → SzAll ds m j → SzAll (d :: ds) (n + 2 + m) (max k j)
theorem SzAll.all {ds : List PyData} {m k : Nat} (h : SzAll ds m k) : PyData.showableAll ds = true ∧ PyData.depthAll ds ≤ k ∧ piled (PyData.shownAll ds) ≤ m ∧ ∀ t ∈ PyData.shownAll ds, Lo t := by
  induction h with
  | nil => exact ⟨rfl, Nat.zero_le _, Nat.le_refl _, fun t ht => by cases ht⟩
  | @cons d ds n m k j h1 h2 ih =>
    refine ⟨?_, ?_, ?_, ?_⟩
    · show (PyData.showable d && PyData.showableAll ds) = true
      rw [h1.ok, ih.1]; rfl
    · show max (PyData.depth d) (PyData.depthAll ds) ≤ _
      have := h1.dp
      have := ih.2.1
      omega
    · show piled (PyData.shown d :: PyData.shownAll ds) ≤ _
      rw [piled_cons]
      have := h1.len
      have := ih.2.2.1
      omega
    · intro t ht
      rcases List.mem_cons.mp (show t ∈ PyData.shown d :: PyData.shownAll ds from ht) with rfl | ht
      · exact h1.lo
      · exact ih.2.2.2 t ht
theorem Sz.tup {ds : List PyData} {m n k j : Nat} (h : SzAll ds m k) (hn : 3 + m ≤ n) (hj : k + 1 ≤ j) : Sz (.tuple ds) n j :=
  ⟨h.all.1, Nat.le_trans (Nat.succ_le_succ h.all.2.1) hj, Nat.le_trans (tupT_le _) (Nat.le_trans (Nat.add_le_add_left h.all.2.2.1 3) hn), lo_tup h.all.2.2.2⟩
theorem Sz.lst {ds : List PyData} {m n k j : Nat} (h : SzAll ds m k) (hn : 2 + m ≤ n) (hj : k + 1 ≤ j) : Sz (.list ds) n j :=
  ⟨h.all.1, Nat.le_trans (Nat.succ_le_succ h.all.2.1) hj, Nat.le_trans (lstT_le _) (Nat.le_trans (Nat.add_le_add_left h.all.2.2.1 2) hn), lo_lst h.all.2.2.2⟩
theorem Sz.dct0 : Sz (.dict []) 2 1 := ⟨rfl, by decide, by decide, lo_of "{}"⟩
/-- repr(x) of any value -/
def rReprA (K : PySem.W.Frag) : List V → Hp → VK → Prop := fun xs H Q => ∃ (x : V) (d : PyData) (n : Nat),
  xs = [x] ∧ ShD K H n x d ∧ d.showable = true ∧ d.depth ≤ 60 ∧ d.shown.length ≤ sizeLine ∧ Q (.str d.shown) H
section
variable {X : Cx}
theorem call_reprA (hgd : X.A.guards = some []) (hu : X.A.units + 64 < cLine) : CallR X (.builtin "repr") (rReprA X.K) := by
  intro pins s σ H xs us Q I r h
  obtain ⟨x, d, n, rfl, hw, h1, h3, h4, q⟩ := h
  obtain ⟨u, rfl, ru⟩ := vals1 r
  have tok : Inv X pins σ H { s with toks := s.toks + 1 } := I.tok _
  cases n with
  | zero => exact (show False from hw).elim
  | succ n =>
    rcases hw with ⟨rfl, rfl⟩ | ⟨b, rfl, rfl⟩ | ⟨i, rfl, rfl⟩ | ⟨z, rfl, rfl⟩ | hw
    · cases (show u = Value.none from ru)
      exact PySem.P.repr_of_none ⟨.str (PyData.none).shown, H, tok, ⟨_, rfl⟩, q⟩
    · cases (show u = Value.bool b from ru)
      exact PySem.P.repr_of_bool ⟨.str (PyData.bool b).shown, H, tok, ⟨_, rfl⟩, q⟩
    · obtain ⟨t, rfl⟩ := (show ∃ t, u = Value.int i t from ru)
      exact PySem.P.repr_of_int (of_decide_eq_true h1) ⟨.str (PyData.int i).shown, H, tok, ⟨_, rfl⟩, q⟩
    · obtain ⟨t, rfl⟩ := (show ∃ t, u = Value.str z t from ru)
      exact PySem.P.repr_of_str ⟨.str (PyData.str z).shown, H, tok, ⟨_, rfl⟩, q⟩ h4
    · have isr : ∃ a, x = .ref a := by
        rcases hw with ⟨a, xs, ds, rfl, _⟩ | ⟨a, xs, ds, rfl, _⟩ | ⟨a, kvs, ds, rfl, _⟩ <;> exact ⟨a, rfl⟩
      obtain ⟨a, rfl⟩ := isr
      have hw2 : ShD X.K H (n + 1) (.ref a) d := .inr (.inr (.inr (.inr hw)))
      cases (show u = Value.ref a from ru)
      obtain ⟨as, rd, na⟩ := rd_of I (n + 1) _ d _ hw2 rfl
      exact repr_of_reads' rd h1 (fun _ => na) hgd (by omega) (fun _ _ e => e)
        (fun h' u tk hk => ⟨.str d.shown, H, I.kept hk, ⟨_, rfl⟩, q⟩) h4
end
end Jo

set_option Elab.async false
set_option linter.all false
set_option maxRecDepth 100000
set_option maxHeartbeats 2000000
/-! a, b = x, y within an except suite. -/
namespace Jo
open PySem PySem.Spec PyProof.Rows L2 HotX
section
variable {prog : Program} {w : World} {A : Around} {E : Value → Shared → Prop} {s : Shared} {x1 : Addr}
theorem next_tuple_end_hot {it t : Addr} {i : Nat} {items : Array Value} {Q : Option Value → Shared → Prop} (hot : HotAt A x1 s.heap) (hx1 : x1 ≠ it)
    (hit : IsTupIter s.heap it t i) (ht : IsTup s.heap t items) (hx : items[i]? = none)
    (hQ : ∀ h', (∀ b o, b ≠ it → s.heap.get? b = some o → h'.get? b = some o) → Q none { s with heap := h' }) : wpAny (model prog w) A (pyNext (.ref it)) Q E s := by
  obtain ⟨hh, o1, vs1, h1, d1, c1⟩ := hot
  obtain ⟨o, ho, hc, hd⟩ := id hit
  obtain ⟨ol, hol, _, nl, hdl⟩ := ht
  unfold pyNext
  refine wpAny_bind (wpAny_attempt (wpAny_callSpecial?_slot (name := Str.ofString "__next__") hit.typeIs F.slot_tuple_iterator_next
    (wpAny_call_entry F.slot_tuple_iterator_next hit.typeIs F.entry_tuple_iterator_next ?_ (F.args_tuple_iterator_next_1 _))))
  show wpAny _ _ (field (.ref it) 0 >>= _) _ _ s
  refine wpAny_bind (wpAny_field ho hd (x := .ref t) rfl ?_)
  show wpAny _ _ (if (Value.ref t == Value.none) = true then _ else _) _ _ s
  rw [if_neg (show ¬ ((Value.ref t == Value.none) = true) from Bool.false_ne_true)]
  show wpAny _ _ (field (.ref it) 1 >>= _) _ _ s
  refine wpAny_bind (wpAny_field ho hd (x := .int i 0) rfl ?_)
  show wpAny _ _ (seqItems? (.ref t) >>= _) _ _ s
  refine wpAny_bind (wpAny_seqItems hol hdl ?_)
  simp only [Int.toNat_natCast, hx]
  refine wpAny_bind (wpAny_rule (wpAny_bind (wpAny_setField ho hd (by simp) ?_)))
  have k0 : ∀ b o', b ≠ it → s.heap.get? b = some o' → (s.heap.update it (Obj.mapFields (·.setIfInBounds 0 Value.none))).get? b = some o' := fun b o' hb e => by
    rw [Heap.get?_update_other _ _ (Ne.symm hb)]
    exact e
  show wpAny _ _ (newExc (.type "StopIteration") [] >>= _) _ _ _
  refine wpAny_bind ?_
  simp only [newExc, newTuple]
  refine wpAny_bind (wpAny_newObj_type ?_ (by size_fits))
  refine wpAny_bind (m := firstArgMember _ _) (wpAny_of_eq (a := Value.none) (by first | rfl | (simp only [firstArgMember]; rfl)) ?_)
  refine wpAny_newObj_type ?_ (by size_fits)
  have h1' := Heap.get?_push_of_some { cls := .type "tuple", data := .seq [].toArray } (k0 _ _ hx1 h1)
  refine raiseNew_hot ⟨hh, o1, vs1, Heap.get?_push_of_some _ h1', d1, c1⟩ (Nat.ne_of_lt (Heap.lt_size h1')) (Heap.get?_push_size _ rfl) rfl (by first | (simp; done) | (simp; omega) | (simp only [Array.size_append]; simp; omega)) ?_
  refine wpAny_bind (wpAny_isInstance (T := "StopIteration") (b := true) ⟨_, Heap.get?_update_self _ (Heap.get?_push_size _ rfl) rfl, rfl⟩ isSubtype_stop ?_)
  refine wpAny_pure (hQ _ fun b o hb e => ?_)
  rw [Heap.get?_update_other _ _ (Nat.ne_of_gt (Heap.lt_size (Heap.get?_push_of_some _ (k0 b o hb e))))]
  exact Heap.get?_push_of_some _ (Heap.get?_push_of_some _ (k0 b o hb e))
theorem unpackItems_tuple_hot {t : Addr} {items : Array Value} {Q : List Value → Shared → Prop} (hot : HotAt A x1 s.heap) (ht : IsTup s.heap t items)
    (hQ : ∀ h', (∀ b o, s.heap.get? b = some o → h'.get? b = some o) → Q items.toList { s with heap := h' }) : wpAny (model prog w) A (unpackItems (.ref t) items.size none) Q E s := by
  have hlt : t ≠ s.heap.objs.size := by obtain ⟨o, ho, _⟩ := ht; exact Nat.ne_of_lt (Heap.lt_size ho)
  obtain ⟨hh, o1, vs1, h1, d1, c1⟩ := hot
  have hx1 : x1 ≠ s.heap.objs.size := Nat.ne_of_lt (Heap.lt_size h1)
  unfold unpackItems
  refine wpAny_bind ?_
  unfold notIterableAtAll
  refine wpAny_bind (wpAny_specialOf ht.typeIs F.slot_tuple_iter.lookup ?_)
  refine wpAny_pure ?_
  simp only [Bool.false_eq_true, if_false]
  refine wpAny_bind (wpAny_holding (iter_tuple ht ?_))
  refine wpAny_bind (wpAny_holding (draw_tuple hlt items.size 0 _ _ ⟨_, Heap.get?_push_size _ rfl, rfl, rfl⟩ (ht.push _) (by omega) fun h₁ hit₁ hs₁ => ?_))
  have hall : List.take items.size (List.drop 0 items.toList) = items.toList := by
    rw [List.drop_zero]; exact List.take_of_length_le (by simp)
  rw [hall]
  rw [if_neg (by simp)]
  have ht₁ : IsTup h₁ t items := (ht.push _).extBut hs₁.extBut hlt
  refine wpAny_bind (wpAny_holding (next_tuple_end_hot ⟨hh, o1, vs1, hs₁.extBut _ _ hx1 (Heap.get?_push_of_some _ h1), d1, c1⟩ hx1 hit₁ ht₁ (by simp) fun h₂ he₂ => ?_))
  simp only [Option.isSome_none, Bool.false_eq_true, if_false]
  refine wpAny_pure (hQ h₂ fun b o e => he₂ b o (Nat.ne_of_lt (Heap.lt_size e)) (hs₁.extBut b o (Nat.ne_of_lt (Heap.lt_size e)) (Heap.get?_push_of_some _ e)))
end
section
variable {X : Cx} {pos : Pos}
theorem ps_parH {i j : Nat} {x y : Str} {a b : Expr} {ta : TA} {px py pt : Pos} {kt k2 pt2} (hc : L2H.HotC X) (hN : X.N.Nodup) (hi : X.N[i]? = some x) (hj : X.N[j]? = some y) (hij : i ≠ j)
    (hx : X.env.scope.names.lookup x = some .local) (hy : X.env.scope.names.lookup y = some .local) (ha : PA X [a, b] ta)
    (hw : swappedStores [.Tuple [.Name x px, .Name y py] kt pt] (.Tuple [a, b] k2 pt2) X.env = pure (some [x, y]))
    (hs : swapsWithSole [.Tuple [.Name x px, .Name y py] kt pt] (.Tuple [a, b] k2 pt2) pos.line X.env = pure false := by rfl) :
    PS X (.Assign [.Tuple [.Name x px, .Name y py] kt pt] (.Tuple [a, b] k2 pt2) pos) (tPar i j ta) := by
  refine ⟨fun pins s σ H D I h => ?_⟩
  rw [exec_Assign_arm]
  refine wpAny_bind (wpAny_standAt ?_)
  rw [hs]
  refine wpAny_bind (wpAny_pure ?_)
  rw [if_neg (by decide)]
  refine wpAny_bind (Tuple_ (thn (ha.run _ pins s σ H _ I h) fun us s1 ⟨vs, H1, I1, r1, q1⟩ => ?_))
  obtain ⟨v, w, e1, q1⟩ := q1
  subst e1
  obtain ⟨u1, u2, rfl, rv, rw'⟩ : ∃ u1 u2, us = [u1, u2] ∧ RelV v u1 ∧ RelV w u2 := by
    cases r1 with
    | cons p q =>
      cases q with
      | cons p' q' =>
        cases q'
        exact ⟨_, _, rfl, p, p'⟩
  refine wpAny_newObj_type ?_ (by show 2 ≤ sizeLine; decide)
  have I2 : Inv X pins σ H1 { s1 with heap := s1.heap.push { cls := .type "tuple", data := .seq [u1, u2].toArray } } := I1.kept (t' := s1.toks) fun b o e => Heap.get?_push_of_some _ e
  rw [hw]
  refine wpAny_bind (wpAny_pure ?_)
  obtain ⟨x1, hot⟩ := hc.at I2
  show wpAny (model X.prog X.w) X.A (do rule "assign.swapped-stores"; let items ← unpackItems (.ref s1.heap.objs.size) 2 none; assignInOrder [fun v => bindName X.env y v, fun v => bindName X.env x v] items.reverse; pure Flow.next) _ _ _
  refine wpAny_bind (wpAny_rule (wpAny_bind (unpackItems_tuple_hot (items := #[u1, u2]) hot (IsTup.new s1.heap _) fun h' hx' => ?_)))
  have I3 := I2.kept (h' := h') (t' := s1.toks) hx'
  show wpAny _ _ (assignInOrder [fun v => bindName X.env y v, fun v => bindName X.env x v] [u2, u1] >>= fun _ => pure Flow.next) _ _ _
  refine wpAny_bind (assignInOrder_cons (wpAny_bindName (store_ok I3 hN hj (.inl hy) rw' (fun s2 I4 => ?_) (.inr hy))))
  refine assignInOrder_cons (wpAny_bindName (store_ok I4 hN hi (.inl hx) rv (fun s3 I5 => assignInOrder_nil (wpAny_pure ?_)) (.inr hx)))
  rw [List.set_comm _ _ (Ne.symm hij)] at I5
  exact ⟨_, H1, I5, q1⟩
end
/-- the suite of a clause that caught an error with no context is hot -/
theorem hotC {X : Cx} {a : Addr} {oe : Obj} {cls : Value} {d : Option Addr} {pn : List (Addr × Obj)} (hz : L2N.Zn cls d oe) (hv : ∃ vs, oe.data = .fields vs) : L2H.HotC (X.suite a ((a, oe) :: pn)) := by
  obtain ⟨vs, e⟩ := hv
  exact ⟨(a, oe), ⟨rfl, vs, e, hz.2.2 vs e⟩, List.mem_cons_self⟩
end Jo

set_option Elab.async false
set_option linter.all false
set_option maxRecDepth 100000
set_option maxHeartbeats 2000000
/-! Errors that are caught and kept: try, except X as e: .. the error goes on as a value behind the suite. -/
namespace Jo
open PySem PySem.Spec PyProof.Rows L2
/-- at e: an exception of this class, its dict at d; where it was under way is not told -/
def exq (e : Addr) (cls : Value) (d : Option Addr) : HO := .ext fun h => ∃ (oe : Obj) (vs : Array Value), h.get? e = some oe ∧ oe.cls = cls ∧ oe.dict = d ∧ oe.data = .fields vs
theorem exq_ok {P : Program} {w : World} {H : Hp} {h : Heap} {e : Addr} {oe : Obj} {vs : Array Value} (he : h.get? e = some oe) (hd : oe.data = .fields vs) : ObjOk P w H h e (exq e oe.cls oe.dict) :=
  ⟨⟨oe, vs, he, rfl, rfl, hd⟩, ⟨_, he⟩, fun h1 h2 z k => by
    obtain ⟨o, vs, q, r⟩ := z
    exact ⟨o, vs, k _ q, r⟩⟩
theorem exq_at {P : Program} {w : World} {H : Hp} {h : Heap} {e : Addr} {cls : Value} {d : Option Addr} (hok : HOk P w H h) (he : H e = some (exq e cls d)) : ∃ (oe : Obj) (vs : Array Value), h.get? e = some oe ∧ oe.cls = cls ∧ oe.dict = d ∧ oe.data = .fields vs := by
  have x : ObjOk P w H h e (.ext fun h => ∃ (oe : Obj) (vs : Array Value), h.get? e = some oe ∧ oe.cls = cls ∧ oe.dict = d ∧ oe.data = .fields vs) := hok e _ he
  exact x.1
section
variable {X : Cx} {pins : List (Addr × Obj)} {σ : L2.St} {H : Hp} {s : Shared} {a : Addr} {oe : Obj} {vs : Array Value}
/-- an exception that stands there is told of -/
theorem track (I : Inv X pins σ H s) (he : s.heap.get? a = some oe) (hd : oe.data = .fields vs) (na : H a = none) (nP : ∀ p ∈ X.pn ++ pins, p.1 ≠ a) (n0 : X.s_0.heap.get? a = none) :
    Inv X pins σ (upd H a (exq a oe.cls oe.dict)) s := by
  have nL : X.env.locals ≠ a := fun z => by
    obtain ⟨m, ⟨o, es, ep, e1, e2, _⟩, _⟩ := I.loc
    rw [z, he] at e1
    cases e1
    rw [hd] at e2
    cases e2
  have nC : ∀ x c, X.env.cells.lookup x = some c → c ≠ a := fun x c e z => by
    obtain ⟨v, o, e1, e2⟩ := I.cell x c e
    rw [z, he] at e1
    cases e1
    rw [hd] at e2
    cases e2
  have at_ : ∀ {b : Addr} {o : HO}, H b = some o → b ≠ a := fun {b o} e => ne_of_none e na
  refine ⟨I.ok, I.os, I.bare, ⟨I.base.keep, I.base.slot, fun b o e n hx => ?_, I.base.there, fun b xs e => ?_, fun b o u e => ?_, fun b ps e => ?_⟩, I.loc, I.cell, ?_, fun x c e => ?_, fun p hp => ?_, fun b o e => ?_, I.len⟩
  · rw [upd_ne (fun z => by rw [z, n0] at e; cases e)]
    exact I.base.free b o e n hx
  · have z := I.base.tups b xs e
    rw [upd_ne (at_ z)]
    exact z
  · have z := I.base.frzs b o u e
    rw [upd_ne (at_ z)]
    exact z
  · obtain ⟨more, z⟩ := I.base.tbls b ps e
    exact ⟨more, by rw [upd_ne (at_ z)]; exact z⟩
  · rw [upd_ne nL]
    exact I.free
  · rw [upd_ne (nC x c e)]
    exact I.freeC x c e
  · obtain ⟨p1, p2, p3⟩ := I.pin p hp
    exact ⟨p1, by rw [upd_ne (nP p hp)]; exact p2, p3⟩
  · by_cases hb : b = a
    · subst hb
      rw [upd_same] at e
      cases e
      exact exq_ok he hd
    · rw [upd_ne hb] at e
      exact (I.hok b o e).stay (fun _ _ _ q => q) (fun c hc => by rw [upd_ne (at_ hc)]; exact hc) fun c xs hc => by rw [upd_ne (at_ hc)]; exact hc
/-- behind a suite: the name of the clause (slot i) is gone, the error at a is told of -/
def kept (i : Nat) (a : Addr) (cls : Value) (d : Option Addr) (D : Ends) : Ends :=
  { nx := fun σ' H' => D.nx (σ'.set i none) (upd H' a (exq a cls d)), rt := fun v H' => D.rt v (upd H' a (exq a cls d)), bk := fun σ' H' => D.bk (σ'.set i none) (upd H' a (exq a cls d)), ct := fun σ' H' => D.ct (σ'.set i none) (upd H' a (exq a cls d)) }
/-- what the clauses 'except c as n' wish, one after the other -/
def wKeep (K : PySem.W.Frag) (i : Nat) (Wout : WX) (D : Ends) : List (Value × (Addr → Value → Option Addr → TS)) → WX
  | [] => Wout
  | (c, ts) :: r => fun cls d σ H => ∃ b, PySem.W.exmOne K cls c = some b ∧ (b = true → ∀ a, H a = none → ts a cls d (kept i a cls d D) (σ.set i (some (.ref a))) H) ∧ (b = false → wKeep K i Wout D r cls d σ H)
inductive HdsK (X : Cx) (n : Str) : List ExceptHandler → List (Value × (Addr → Value → Option Addr → TS)) → Prop
  | nil : HdsK X n [] []
  | cons {x : Str} {c : Value} {ts : Addr → Value → Option Addr → TS} {b₀ : Stmt} {suite : List Stmt} {np pos' : Pos} {hds : List ExceptHandler} {l : List (Value × (Addr → Value → Option Addr → TS))} (hc : Names X x c)
      (hsu : ∀ (a : Addr) (oe : Obj) (cls : Value) (d : Option Addr) (pn : List (Addr × Obj)), L2N.Zn cls d oe → (∃ vs, oe.data = .fields vs) → PSs (X.suite a ((a, oe) :: pn)) (b₀ :: suite) (ts a cls d)) (r : HdsK X n hds l) :
      HdsK X n (.ExceptHandler (some (.Name x np)) (some n) (b₀ :: suite) pos' :: hds) ((c, ts) :: l)
end
section
variable {X : Cx} {n : Str} {i : Nat} {body : List Stmt} {h₀ : ExceptHandler} {hds : List ExceptHandler} {l : List (Value × (Addr → Value → Option Addr → TS))} {pos : Pos} {tb : WX → TS} {Wout : WX}
theorem ps_try_keep (hs : X.stack = X.env :: X.outer) (hf : X.env.frame = some X.env.locals) (hex : X.ex = []) (hN : X.N.Nodup) (hi : X.N[i]? = some n) (hln : X.env.kindOf n = some .local) (tk : L2N.Takes X Wout)
    (hb : ∀ (W : WX) (pn : List (Addr × Obj)) (xe : Value → Shared → Prop), L2N.Takes (X.tr pn xe) W → PassesOwn (model X.prog X.w) X.A X.env xe → PSs (X.tr pn xe) body (tb W))
    (hh : HdsK X n (h₀ :: hds) l) : PS X (.Try body (h₀ :: hds) [] [] pos) (fun D σ H => tb (wKeep X.K i Wout D l) D σ H) := by
  refine ⟨fun pins s σ H D I h => ?_⟩
  have ok := I.ok
  have hfr : X.A.frames = some (X.env :: X.outer) := by rw [ok.frames, hs]
  have hloc : Loc X.env.scope n := .inl hln
  refine wpAny_Try_except ?_
  refine wpAny_mono ((hb (wKeep X.K i Wout D l) (X.pn ++ pins) (fun e s₁ => wpAny (model X.prog X.w) X.A (noteFrame e X.env) (fun _ s₂ => wpAny (model X.prog X.w) X.A (setFlight e none) (fun _ s₃ =>
    wpAny (model X.prog X.w) X.A (handleBy e X.env (h₀ :: hds)) (SP X pins D) X.xe s₃) X.xe s₂) X.xe s₁) (fun u s' xx => ?_) PassesOwn.looking).run [] s σ H D (I.toTry _) h) (fun f s1 hsp => ?_) (fun e s1 he => he)
  · -- the catch
    obtain ⟨a, B, sI, pins', σ', H', cls, d, rfl, J', nb, up, sky, na, os, ag, w⟩ := xx
    have J : Inv X pins σ' H' sI := J'.ofTry ok
    have sky' : Sky B (X.env :: X.outer) a (L2N.Zn cls d) X.env.locals s'.heap := by rw [← hs]; exact sky
    show wpAny (model X.prog X.w) X.A (noteFrame (.ref a) X.env) _ _ _
    refine L2N.Sky.land L2N.Zn.steady hfr hf sky' fun h3 fl3 up3 => ?_
    have J3 : Inv X pins σ' H' { s' with heap := h3 } := J.landed nb fl3.1 (up.trans up3) os ag
    obtain ⟨oe3, vs3, he3, hz3, hd3⟩ := fl3.there
    have notFr : ∀ {h : Heap} {o : Obj} {vs : Array Value}, h.FunFrames B (X.env :: X.outer) → h.get? a = some o → o.data = .fields vs → a ∉ frs (X.env :: X.outer) := fun {h o vs} ff e dd hm => by
      obtain ⟨_, o', e', hnf⟩ := ff.mem hm
      rw [e] at e'; cases e'
      exact hnf _ dd
    have nfr := notFr fl3.2.2.1 he3 hd3
    have nL : a ≠ X.env.locals := fun z => nfr (List.mem_filterMap.mpr ⟨X.env, List.mem_cons_self, by rw [hf, z]⟩)
    have nF : a ∉ X.fs := fun hm => by
      obtain ⟨e, he, q⟩ := List.mem_filterMap.mp hm
      exact nfr (List.mem_filterMap.mpr ⟨e, List.mem_cons_of_mem _ he, q⟩)
    -- it is new
    have nI : sI.heap.get? a = none := by
      cases e : sI.heap.get? a with
      | none => rfl
      | some o =>
        have z := nb a o e (by rw [hs]; exact nfr)
        rw [fl3.2.1] at z
        cases z
    have n0 : X.s_0.heap.get? a = none := by
      cases e : X.s_0.heap.get? a with
      | none => rfl
      | some o =>
        obtain ⟨o', z⟩ := J.base.there a o e (by rw [hex]; simp)
        rw [nI] at z
        cases z
    have nP : ∀ p ∈ X.pn ++ pins, p.1 ≠ a := fun p hp z => by
      have e := (J.pin p hp).1
      rw [z, nI] at e
      cases e
    have S3 := J3.suite he3 hd3 na nL nF
    have go : ∀ {hds' : List ExceptHandler} {l' : List (Value × (Addr → Value → Option Addr → TS))}, HdsK X n hds' l' → wKeep X.K i Wout D l' cls d σ' H' →
        wpAny (model X.prog X.w) X.A (handleBy (.ref a) X.env hds') (SP X pins D) X.xe { s' with heap := h3 } := by
      intro hds' l' hk
      induction hk with
      | nil =>
        intro w
        refine wpAny_handleBy_nil ?_
        obtain ⟨k1, k2, k3, oe, vs, T, oT, ts', he, hz, hd, h1, hr⟩ := id fl3
        unfold PySem.passOn
        refine wpAny_bind (wpAny_field he hd h1 ?_)
        rw [if_neg (show ¬ ((Value.ref T == Value.none) = true) from by simp)]
        have fin : wpAny (model X.prog X.w) X.A (setFlight (.ref a) X.env.frame) (fun _ s4 => wpAny (model X.prog X.w) X.A (throw (.ref a) : Sem Flow) (SP X pins D) X.xe s4) X.xe { s' with heap := h3 } := by
          rw [hf]
          refine HandSPX.setFlight_upZ fl3 fun h4 hh4 up4 => wpAny_throw (tk _ _ ?_)
          exact ⟨a, B, sI, pins, σ', H', cls, d, rfl, J, nb, (up.trans up3).trans up4, .inr (.inr (by rw [hs]; exact hh4)), na, os, ag, w⟩
        first
          | exact wpAny_bind (wpAny_pure (wpAny_bind fin))
          | exact wpAny_bind fin
      | @cons x c ts b₀ suite np pos' hds2 l2 hc hsu r ih =>
        intro w
        obtain ⟨b, hb1, hyes, hno⟩ := w
        refine wpAny_handleBy_cons (codeAny_handlers_test ?_) (by intro q; cases q)
        have LT : PySem.W.Looks (model X.prog X.w) h3 (typeOf (.ref a)) cls := fun A Q E s k q => wpAny_typeOf_ref (k _ _ he3) (by rw [hz3.1]; exact q)
        have LM := PySem.W.exm_one (M := model X.prog X.w) (J3.kIn) LT hb1
        have test : ∀ {Q : Value → Shared → Prop} {E : Value → Shared → Prop}, Q c { s' with heap := h3 } → wpAny (model X.prog X.w) (X.A.mark (some (.ref a))) (eval (.Name x np) X.env) Q E { s' with heap := h3 } := fun {Q E} q => by
          obtain ⟨hg, hdbg, hm | ⟨hm, hv, hnn⟩⟩ := hc
          · exact ld_glob (X := X.suite a ((a, oe3) :: (X.pn ++ pins))) S3 hg hm q hdbg
          · exact ld_blt (X := X.suite a ((a, oe3) :: (X.pn ++ pins))) S3 hg hm hv q hnn hdbg
        refine test (LM.here ?_)
        cases b with
        | true =>
          refine codeAny_handlers_suite_as ?_
          refine HandSPX.lands_againZ fl3 fun h4 fl4 up4 => ?_
          have J4 : Inv X pins σ' H' { s' with heap := h4 } := J.landed nb fl4.1 ((up.trans up3).trans up4) os ag
          obtain ⟨oe4, vs4, he4, hz4, hd4⟩ := fl4.there
          have S4 := J4.suite he4 hd4 na nL nF
          refine store_ok (X := X.suite a ((a, oe4) :: (X.pn ++ pins))) (v := .ref a) S4 hN hi hloc rfl (fun s5 S5 => ?_) (.inr hln)
          refine wpAny_mono ((hsu a oe4 cls d (X.pn ++ pins) hz4 ⟨_, hd4⟩).run [] s5 _ H' _ S5 (hyes rfl a na)) (fun f s6 hsp => ?_) (fun _ _ z => False.elim z)
          have end_ : ∀ {σ6 : L2.St} {H6 : Hp} {Q : Shared → Prop}, Inv (X.suite a ((a, oe4) :: (X.pn ++ pins))) [] σ6 H6 s6 → (∀ s7, Inv X pins (σ6.set i none) (upd H6 a (exq a cls d)) s7 → Q s7) →
              wpAny (model X.prog X.w) X.A (do bindName X.env n .none; unbindBehindTheSuite X.env n pos') (fun _ s7 => Q s7) X.xe s6 := fun {σ6 H6 Q} S6 hq =>
            gone_ok (X := X.suite a ((a, oe4) :: (X.pn ++ pins))) S6 hN hi hln fun s7 S7 => hq s7 (by
              obtain ⟨p1, p2, _⟩ := S7.pin (a, oe4) (List.mem_append_left _ List.mem_cons_self)
              have z := track (S7.unsuite ok) p1 hd4 p2 nP n0
              rw [hz4.1, hz4.2.1] at z
              exact z)
          cases f with
          | next =>
            obtain ⟨σ6, H6, S6, q6⟩ := hsp
            exact end_ S6 fun s7 J7 => ⟨_, _, J7, q6⟩
          | brk =>
            obtain ⟨σ6, H6, S6, q6⟩ := hsp
            exact end_ S6 fun s7 J7 => ⟨_, _, J7, q6⟩
          | cont =>
            obtain ⟨σ6, H6, S6, q6⟩ := hsp
            exact end_ S6 fun s7 J7 => ⟨_, _, J7, q6⟩
          | ret u =>
            obtain ⟨v6, σ6, H6, S6, r6, q6⟩ := hsp
            exact end_ S6 fun s7 J7 => ⟨_, _, _, J7, r6, q6⟩
        | false =>
          show wpAny _ X.A (handleBy (.ref a) X.env hds2) _ _ _
          exact ih (hno rfl)
    exact go hh w
  · cases f with
    | next =>
      obtain ⟨σ', H', J', q⟩ := hsp
      exact wpAny_execs_nil ⟨σ', H', J'.ofTry ok, q⟩
    | brk =>
      obtain ⟨σ', H', J', q⟩ := hsp
      exact ⟨σ', H', J'.ofTry ok, q⟩
    | cont =>
      obtain ⟨σ', H', J', q⟩ := hsp
      exact ⟨σ', H', J'.ofTry ok, q⟩
    | ret u =>
      obtain ⟨v, σ', H', J', r, q⟩ := hsp
      exact ⟨v, σ', H', J'.ofTry ok, r, q⟩
end
end Jo

set_option Elab.async false
set_option linter.all false
set_option maxRecDepth 100000
set_option maxHeartbeats 2000000
/-! Defs, methods and classes of the program that let errors out; raise C(e) of an error with one field. -/
namespace Jo
open PySem PySem.Spec PyProof.Rows L2
theorem Fun.okN {P : Program} {w : World} {K : PySem.W.Frag} {mg : Str → Option Value} {base : Heap} {x qual : Str} {st : Stmt} {f : Addr} {fd : FuncData} {N ps : List Str} {k : Nat} {sp : Sp} (F : L2.Fun K x qual st f fd) (S : FnScope N ps (defScope st)) (len : ∀ vs H Q E, sp vs H Q E → vs.length = ps.length)
    (hbody : ∀ (cdv : Value) (A : Around) (outer : List Env) (s : Shared) (H : Hp) (vs : List V) (Q : VK) (E : XK), Room k (A.deeper (envOfC qual (defScope st) s.heap.objs.size f cdv)) → sp vs H Q E →
      ∃ t, PSs (cxOf (L2N.CX P w) P w K mg base N qual (defScope st) f cdv A outer s H E) (defBody st) t ∧ t { nx := fun _ H' => Q .non H', rt := Q } (start N vs) H) : FnOk P w K mg base (L2N.CX P w) (k + 1) f fd ps sp := by
  obtain ⟨oc, od, kV, doc, pm, an, cdv, ct, osl, rfl, lk, hcd⟩ := F.ex
  exact fn_of lk hcd S len fun A outer s H vs Q E hr hsp => hbody cdv A outer s H vs Q E hr hsp
/-- the name x of the module holds a def that keeps the promise sp; it may let errors out -/
structure CalX (P : Program) (w : World) (K : PySem.W.Frag) (mg : Str → Option Value) (base : Heap) (k : Nat) (x : Str) (ps : List Str) (sp : Sp) : Prop where
  ex : ∃ (f : Addr) (fd : FuncData), FnOk P w K mg base (L2N.CX P w) k f fd ps sp ∧ mg x = some (.ref f) ∧ PySem.W.keepIn K (.ref f) = true ∧ Binds K fd ps []
/-- .. the method m of the class at C -/
structure MtX (P : Program) (w : World) (K : PySem.W.Frag) (mg : Str → Option Value) (base : Heap) (k : Nat) (C : Addr) (m : Str) (ps : List Str) (sp : Sp) : Prop where
  ex : ∃ (f : Addr) (fd : FuncData), FnOk P w K mg base (L2N.CX P w) k f fd ps sp ∧ Meth K C m f ∧ Binds K fd ps []
section
variable {P : Program} {w : World} {K : PySem.W.Frag} {mg : Str → Option Value} {base : Heap} {x m qual : Str} {st : Stmt} {N ps : List Str} {sp : Sp} {k : Nat} {C : Addr}
theorem Dfn.okX (D : Dfn K mg x st ps) (S : FnScope N ps (defScope st)) (len : ∀ vs H Q E, sp vs H Q E → vs.length = ps.length)
    (body : ∀ (f : Addr) (cdv : Value) (A : Around) (fr : List Env) (s : Shared) (H : Hp) (vs : List V) (Q : VK) (E : XK),
      Room k (A.deeper (envOfC x (defScope st) s.heap.objs.size f cdv)) → sp vs H Q E →
      ∃ t, PSs (cxOf (L2N.CX P w) P w K mg base N x (defScope st) f cdv A fr s H E) (defBody st) t ∧ t { nx := fun _ H' => Q .non H', rt := Q } (start N vs) H) :
    CalX P w K mg base (k + 1) x ps sp := by
  obtain ⟨f, fd, F, hm, hb, _⟩ := D.ex
  exact ⟨f, fd, Fun.okN F S len (body f), hm, F.kp, hb⟩
theorem Mth.okX (D : Mth K C m qual st ps) (S : FnScope N ps (defScope st)) (len : ∀ vs H Q E, sp vs H Q E → vs.length = ps.length)
    (body : ∀ (f : Addr) (cdv : Value) (A : Around) (fr : List Env) (s : Shared) (H : Hp) (vs : List V) (Q : VK) (E : XK),
      Room k (A.deeper (envOfC qual (defScope st) s.heap.objs.size f cdv)) → sp vs H Q E →
      ∃ t, PSs (cxOf (L2N.CX P w) P w K mg base N qual (defScope st) f cdv A fr s H E) (defBody st) t ∧ t { nx := fun _ H' => Q .non H', rt := Q } (start N vs) H) :
    MtX P w K mg base (k + 1) C m ps sp := by
  obtain ⟨f, fd, F, hm, hb, _⟩ := D.ex
  exact ⟨f, fd, Fun.okN F S len (body f), hm, hb⟩
end
section
variable {X : Cx} {j k : Nat} {ps : List Str} {sp : Sp} {x m : Str} {p pos apos : Pos} {e o : Expr} {es : List Expr} {t : TA} {ta : TE} {C : Addr} {E : L2.St → XK}
/-- where errors are taken, they pass -/
theorem passW {W : WX} (tk : L2N.Takes X W) : ∀ σ, PassesAt (L2N.CX X.prog X.w) X σ (WE W σ) := fun σ => L2N.passAt tk σ
theorem pe_cX (c : CalX X.prog X.w X.K X.mg X.base k x ps sp) (hr : Room j X.A) (hk : k ≤ j) (hx : ∀ σ, PassesAt (L2N.CX X.prog X.w) X σ (E σ)) (hg : Gl X x)
    (ha : PA X (e :: es) t) (hdb : (x == ("__debug__" : Str)) = false := by decide)
    (he : starEach (e :: es) X.env = (false, eval e X.env) :: starEach es X.env := by rfl)
    (hpl : (backTo pos (starEach es X.env)).any (·.1) = false := by rfl) :
    PE X (.Call (.Name x p) (e :: es) [] pos) (tCallS sp E t) := by
  obtain ⟨f, fd, F, hm, kp, b⟩ := c.ex
  exact pe_callS F (hr.mono hk) hg hm kp b hx ha hdb he hpl
/-- o.m(e, ..), errors passing -/
def tMethS (C : Addr) (m : Str) (sp : Sp) (E : L2.St → XK) (ta : TE) (t : TA) : TE := fun σ H Q => ta σ H fun x H1 => ∃ a dx fs, x = .ref a ∧ H1 a = some (.ins C dx fs) ∧ fs.lookup m = none ∧
  t σ H1 fun vs H2 => sp (x :: vs) H2 Q (E σ)
theorem pe_mX {pl : Sem Bool} (he : PE X o ta) (cl : Cls X.K C) (c : MtX X.prog X.w X.K X.mg X.base k C m ps sp) (hr : Room j X.A) (hk : k ≤ j) (hx : ∀ σ, PassesAt (L2N.CX X.prog X.w) X σ (E σ)) (ha : PA X (e :: es) t)
    (hst : starEach (e :: es) X.env = (false, eval e X.env) :: starEach es X.env := by rfl) (hpl : (backTo pos (starEach es X.env)).any (·.1) = false := by rfl)
    (ht : eval (.Call (.Attribute o m apos) (e :: es) [] pos) X.env = (do
      let ov ← eval o X.env
      standAt apos.atName
      let (f, first) ← holding [ov] (getMethod ov m pl)
      callWith pos f first (backTo pos (starEach (e :: es) X.env)) (backToKw pos (keywordEach [] X.env))) := by rfl) :
    PE X (.Call (.Attribute o m apos) (e :: es) [] pos) (tMethS C m sp E ta t) := by
  obtain ⟨f, fd, F, hm, b⟩ := c.ex
  refine ⟨fun pins s σ H Q I h => ?_⟩
  refine PySem.W.methodCall_KW (pl := pl) (thn (he.run pins s σ H _ I h) fun u s1 ⟨x, H1, I1, rx, a, dx, fs, ex, ea, l, q⟩ => ?_) ht
  subst ex
  obtain rfl : u = Value.ref a := rx
  refine getmeth_ok I1 ea cl hm l ?_
  refine PySem.W.callWith_K (first := [.ref a]) (h₀ := X.base) I.ok.mod.kin hm.kp (thn (ha.run pos pins s1 σ H1 _ I1 q) fun us s2 ⟨vs, H2, I2, r, q2⟩ => ⟨I2.kIn, ?_⟩) hst hpl
  exact run_fnS (us := .ref a :: us) (vs := .ref a :: vs) F (hr.mono hk) b (hx σ) I2 (.cons rfl r) q2
/-- C(e, ..), errors of __init__ passing -/
def tMakeS (C : Addr) (sp : Sp) (E : L2.St → XK) (t : TA) : TE := fun σ H Q => t σ H fun vs H1 =>
  ∀ x dx, H1 x = none → H1 dx = none → dx ≠ x → sp (.ref x :: vs) (upd (upd H1 dx (.own x)) x (.ins C dx [])) (fun v H2 => v = .non ∧ Q (.ref x) H2) (E σ)
theorem pe_mkX {fi : Addr} (M : Mk X.K C fi) (c : MtX X.prog X.w X.K X.mg X.base k C "__init__" ps sp) (hr : Room j X.A) (hk : k + 1 ≤ j) (hx : ∀ σ, PassesAt (L2N.CX X.prog X.w) X σ (E σ)) (hg : Gl X x) (hm : X.mg x = some (.ref C))
    (ha : PA X (e :: es) t) (hdb : (x == ("__debug__" : Str)) = false := by decide)
    (he : starEach (e :: es) X.env = (false, eval e X.env) :: starEach es X.env := by rfl) (hpl : (backTo pos (starEach es X.env)).any (·.1) = false := by rfl) :
    PE X (.Call (.Name x p) (e :: es) [] pos) (tMakeS C sp E t) := by
  obtain ⟨f, fd, F, mt, b⟩ := c.ex
  have ef : fi = f := by
    have e1 := M.init.symm.trans mt.at_
    cases e1
    rfl
  subst ef
  refine ⟨fun pins s σ H Q I h => ?_⟩
  refine wpAny_Call_Name_kw (ld_glob I hg hm ?_ hdb)
  refine PySem.W.callWith_K (h₀ := X.base) I.ok.mod.kin M.kp (thn (ha.run pos pins s σ H _ I h) fun us s1 ⟨vs, H1, I1, r, q⟩ => ⟨I1.kIn, ?_⟩) he hpl
  have hq := q (s1.heap.objs.size + 1) s1.heap.objs.size (I1.hok.fresh (Nat.le_succ _)) (I1.hok.fresh (Nat.le_refl _)) (Nat.ne_of_lt (Nat.lt_succ_self _))
  have I2 := Inv.made (C := C) I1
  have r2 : Vals (V.ref (s1.heap.objs.size + 1) :: vs) (Value.ref (s1.heap.objs.size + 1) :: us) := .cons rfl r
  have hl : (Value.ref (s1.heap.objs.size + 1) :: us).length = ps.length := by
    have e := r2.length
    rw [F.len _ _ _ _ hq] at e
    exact e.symm
  have hb := b _ (Value.ref (s1.heap.objs.size + 1) :: us) I2.kIn (by rw [List.append_nil]; exact hl)
  rw [List.append_nil] at hb
  refine wpAny_call (make_map (f := fi) I1.kIn M.makes M.init (beq_iff_eq.mp M.fn) (codeAny_mono (F.run _ X.stack _ _ ⟨Value.ref (s1.heap.objs.size + 1) :: us, []⟩ (Value.ref (s1.heap.objs.size + 1) :: us) _ _ (E σ) ((hr.mono hk).make C us [])
    (I2.env0.make C us []) hb r2 hq) fun r s' hq' => ?_))
  cases r with
  | error e => exact hx σ pins _ _ e s' I2 hq'
  | ok fl =>
    cases fl with
    | ret u =>
      obtain ⟨v, H', I3, rv, ev, q3⟩ := I2.after hq'
      subst ev
      exact ⟨rv, ⟨V.ref (s1.heap.objs.size + 1), H', I3, rfl, q3⟩⟩
    | next => exact False.elim hq'
    | brk => exact False.elim hq'
    | cont => exact False.elim hq'
end
/-! ### what an error made by C(e) is (its context is None) -/
section
variable {X : Cx} {pins : List (Addr × Obj)} {σ : L2.St} {H : Hp} {es : List Expr} {e : Expr} {ta : TA} {p pos : Pos}
theorem mk_endN {H1 H2 : Hp} {Q : XK} {hp hp2 h2 : Heap} {g1 g2 : Array GenState} {d1 d2 : Drawn} {t1 t2 : Nat} {os1 os2 : OsState} {a C d : Addr} {fs : List (Str × V)} (T : Raises X (.ref C)) (I1 : Inv X pins σ H1 ⟨hp, g1, d1, t1, os1⟩)
    (ha : hp.objs.size ≤ a) (un : Un (frs X.stack) [] (upd H1 a (exo a C none)) H2 hp2 h2) (k : ∀ b o, hp.get? b = some o → hp2.get? b = some o) (hok : HOk X.prog X.w H2 h2) (ho : os2 = os1) (hb : AllBare g2)
    (ea : H2 a = some (exo a C (some d))) (ed : H2 d = some (exd d fs)) (hd1 : H1 d = none) (q : Q (.ref C) (some d) (upd (del H2 a) d (.xd fs))) : L2N.MkP X pins σ Q (.ref a) ⟨h2, g2, d2, t2, os2⟩ := by
  obtain ⟨t0, G, J, kG, ge, hoe, na⟩ := mk_end0 (d2 := d2) (t2 := t2) I1 ha k un hok ho hb ea ed hd1
  exact ⟨a, _, _, ⟨G, g2, d2, t2, os2⟩, _, .ref C, some d, rfl, J, kG, ge, hoe, ⟨rfl, rfl, fun vs e => by cases e; rfl⟩, rfl, rfl, na, rfl, hb, T, q⟩
theorem pmk_oexN {CX : CXT} {x : Str} {C fI : Addr} {k : Nat} {fd : FuncData} {ps : List Str} {sp : Sp} {ds : List Value} {dvs : List V} (T : OexC X.K C) (iC : PySem.W.findIn X.K (.ref C) "__init__" = some (some (.ref fI))) (tI : PySem.W.typeIn X.K (.ref fI) = some (.type "function"))
    (F1 : FnOk X.prog X.w X.K X.mg X.base CX k fI fd ps sp) (hr : Room (k + 1) X.A) (hb : L2.Binds X.K fd ps ds) (hd : Vals dvs ds) (hx : Passes CX X (fun _ _ _ => False)) (hg : Gl X x) (hm : X.mg x = some (.ref C)) (ha : PA X (e :: es) ta)
    (hdb : (x == ("__debug__" : Str)) = false := by decide) (he : starEach (e :: es) X.env = (false, eval e X.env) :: starEach es X.env := by rfl) (hpl : (backTo pos (starEach es X.env)).any (·.1) = false := by rfl) :
    L2N.PMk X (.Call (.Name x p) (e :: es) [] pos) (tMkO C sp dvs ta) := by
  intro pins s σ H Q I h
  obtain ⟨nm, q, N, bs, bm, sn, sub, ab, col, dd, k0, k1, k2, k3, k5, hC, hbm⟩ := T.cls
  refine wpAny_Call_Name_kw (ld_glob I hg hm ?_ hdb)
  refine PySem.W.callWith_K (h₀ := X.base) I.ok.mod.kin T.kC (thn (ha.run pos pins s σ H _ I h) fun us s1 ⟨vs, H1, I1, r1, hz, q1⟩ => ⟨I1.kIn, ?_⟩) he hpl
  show wpAny _ _ (call (.ref C) us) _ _ _
  obtain ⟨hp, g, dr, tk, os⟩ := s1
  have hget0 : ((hp.push (PySem.W.kdv_tup us)).push (PySem.HandSPX.excO C hp.objs.size)).get? (hp.objs.size + 1) = some (PySem.HandSPX.excO C hp.objs.size) := by heap_get
  let c : Addr := hp.objs.size + 1
  let hq2 : Heap := (hp.push (PySem.W.kdv_tup us)).push (PySem.HandSPX.excO C hp.objs.size)
  have hsz : hp.objs.size ≤ c := Nat.le_succ _
  have hn : H1 c = none := I1.hok.fresh hsz
  have hq := q1 c hn
  have kk : ∀ b o, hp.get? b = some o → hq2.get? b = some o := fun b o e => Heap.get?_push_of_some _ (Heap.get?_push_of_some _ e)
  have hget : hq2.get? c = some (PySem.HandSPX.excO C hp.objs.size) := hget0
  have I2 : Inv X pins σ (upd H1 c (exo c C none)) ⟨hq2, g, dr, tk, os⟩ := I1.laid (t' := tk) (a := c) (o := exo c C none) (h' := hq2) kk hsz (exo_ok hget)
  have r2 : Vals (V.ref c :: (vs ++ dvs)) (Value.ref c :: (us ++ ds)) := .cons rfl (r1.append hd)
  have hl : (Value.ref c :: us ++ ds).length = ps.length := by
    rw [← F1.len _ _ _ _ hq]
    exact r2.length.symm
  have hus : us.length ≤ sizeLine := by
    rw [← Paired.length r1, sizeLine_eq]
    omega
  refine wpAny_call (PySem.HandSPX.call_own F.excBase_ValueError (fun Y => PySem.HandSPX.refsVE_contains Y bm hbm) (I1.kIn _ _ hC) (PySem.W.looks_findIn I1.kIn iC) (fun self => PySem.W.bind_fn I1.kIn self tI) hus
    (codeAny_mono (F1.run _ X.stack _ _ ⟨Value.ref c :: us, []⟩ (Value.ref c :: (us ++ ds)) _ _ (fun _ _ _ => False) (hr.make C us []) (I2.env0.make C us []) (hb _ (Value.ref c :: us) I2.kIn hl) r2 hq) fun r s' hq' => ?_))
  cases r with
  | error er => exact hx pins σ _ _ er s' I2 hq'
  | ok fl =>
    cases fl with
    | ret u =>
      obtain ⟨v, H2, os2, bare2, un2, hok2, rv, ev, d, fs, ea, ed, hd1, q2⟩ := hq'
      subst ev
      obtain ⟨h2, g2, d2, t2, os'⟩ := s'
      exact ⟨rv, mk_endN (raises_own T.exC T.tyC) I1 hsz un2 kk hok2 os2 bare2 ea ed hd1 q2⟩
    | next => exact False.elim hq'
    | brk => exact False.elim hq'
    | cont => exact False.elim hq'
end
/-! ### raise C(e) -/
/-- the __init__ of an error class at C that keeps its argument as the field f -/
def spIni (C : Addr) (f : Str) : Sp := fun vs H Q _ => ∃ (a : Addr) (y : V), vs = [.ref a, y] ∧ H a = some (exo a C none) ∧ ∀ dx, H dx = none → dx ≠ a → Q .non (upd (upd H dx (exd dx [(f, y)])) a (exo a C (some dx)))
/-- the name x of the module holds an error class at C whose errors have the field f -/
structure ErX (P : Program) (w : World) (K : PySem.W.Frag) (mg : Str → Option Value) (base : Heap) (x : Str) (C : Addr) (f : Str) : Prop where
  gm : mg x = some (.ref C)
  ox : OexC K C
  no : PySem.W.findIn K (.ref C) f = some none
  mt : MtF P w K mg base 1 C "__init__" ["self", f] (spIni C f)
/-- raise C(y): what is wished then -/
def RsR (W : WX) (C : Addr) (f : Str) (σ : L2.St) (y : V) (H1 : Hp) : Prop := [y].length ≤ 1000 ∧ ∀ a, H1 a = none → spIni C f (.ref a :: ([y] ++ [])) (upd H1 a (exo a C none))
  (fun v H2 => v = .non ∧ ∃ (d : Addr) (fs : List (Str × V)), H2 a = some (exo a C (some d)) ∧ H2 d = some (exd d fs) ∧ H1 d = none ∧ W (.ref C) (some d) σ (upd (del H2 a) d (.xd fs))) (fun _ _ _ => False)
theorem RsR.of {W : WX} {C : Addr} {f : Str} {σ : L2.St} {y : V} {H1 : Hp} (h : ∀ d, H1 d = none → W (.ref C) (some d) σ (upd H1 d (.xd [(f, y)]))) : RsR W C f σ y H1 := by
  refine ⟨(show 1 ≤ 1000 by decide), fun a na => ⟨a, y, rfl, upd_same, fun dx hd nd => ⟨rfl, dx, [(f, y)], upd_same, ?_, ?_, ?_⟩⟩⟩
  · rw [upd_ne nd]
    exact upd_same
  · rw [upd_ne nd] at hd
    exact hd
  · have hd1 : H1 dx = none := by
      rw [upd_ne nd] at hd
      exact hd
    have e : upd (del (upd (upd (upd H1 a (exo a C none)) dx (exd dx [(f, y)])) a (exo a C (some dx))) a) dx (.xd [(f, y)]) = upd H1 dx (.xd [(f, y)]) := by
      funext b
      by_cases hb : b = dx
      · rw [hb, upd_same, upd_same]
      · rw [upd_ne hb, upd_ne hb]
        by_cases ha : b = a
        · rw [ha, del_same, na]
        · rw [del_ne ha, upd_ne ha, upd_ne hb, upd_ne ha]
    rw [e]
    exact h dx hd1
def tRs (W : WX) (C : Addr) (f : Str) (te : TE) : TS := fun _ σ H => te σ H fun y H1 => RsR W C f σ y H1
section
variable {X : Cx} {j : Nat} {x f : Str} {C : Addr} {p pos pos' : Pos} {e : Expr} {te : TE} {W : WX}
theorem ps_rs (c : ErX X.prog X.w X.K X.mg X.base x C f) (hr : Room j X.A) (hk : 2 ≤ j) (hc : X.calm = true) (tk : L2N.Takes X W) (hg : Gl X x) (he : PE X e te) (hdb : (x == ("__debug__" : Str)) = false := by decide)
    (hst : starEach [e] X.env = (false, eval e X.env) :: starEach [] X.env := by rfl) (hpl : (backTo pos (starEach [] X.env)).any (·.1) = false := by rfl) :
    PS X (.Raise (some (.Call (.Name x p) [e] [] pos)) none pos') (tRs W C f te) := by
  obtain ⟨fI, fd, F1, mt, b, _⟩ := c.mt.ex
  have tI : PySem.W.typeIn X.K (.ref fI) = some (.type "function") := beq_iff_eq.mp mt.fn
  have R := L2N.ps_raise (pos := pos') hc tk (pmk_oexN (p := p) (pos := pos) (CX := CX0) (dvs := []) c.ox mt.at_ tI F1 (hr.mono hk) b .nil (fun _ _ _ _ _ _ _ z => z.elim) hg c.gm (pa_cons he pa_nil (hs := hst)) hdb hst hpl)
  exact ⟨fun pins s σ H D I h => R.run pins s σ H D I h⟩
end
end Jo

set_option Elab.async false
set_option linter.all false
set_option maxRecDepth 100000
set_option maxHeartbeats 2000000
/-! Errors of the program over any built-in base, raised and let out (what stood before them is not told: the L2 family). -/
namespace Jo
open PySem PySem.Spec PyProof.Rows L2 ClX
/-- where errors are taken, they pass -/
theorem passE {X : Cx} {W : WX} (tk : L2.Takes X W) : ∀ σ, PassesAt (L2.CX X.prog X.w) X σ (WE W σ) := fun σ => L2.passAt tk σ
/-- the name x of the module holds a def that keeps the promise sp; it may let errors out -/
structure CalE (P : Program) (w : World) (K : PySem.W.Frag) (mg : Str → Option Value) (base : Heap) (k : Nat) (x : Str) (ps : List Str) (sp : Sp) : Prop where
  ex : ∃ (f : Addr) (fd : FuncData), FnOk P w K mg base (L2.CX P w) k f fd ps sp ∧ mg x = some (.ref f) ∧ PySem.W.keepIn K (.ref f) = true ∧ Binds K fd ps []
/-- .. the method m of the class at C -/
structure MtE (P : Program) (w : World) (K : PySem.W.Frag) (mg : Str → Option Value) (base : Heap) (k : Nat) (C : Addr) (m : Str) (ps : List Str) (sp : Sp) : Prop where
  ex : ∃ (f : Addr) (fd : FuncData), FnOk P w K mg base (L2.CX P w) k f fd ps sp ∧ Meth K C m f ∧ Binds K fd ps []
section
variable {P : Program} {w : World} {K : PySem.W.Frag} {mg : Str → Option Value} {base : Heap} {x m qual : Str} {st : Stmt} {N ps : List Str} {sp : Sp} {k : Nat} {C : Addr}
theorem Dfn.okE (D : Dfn K mg x st ps) (S : FnScope N ps (defScope st)) (len : ∀ vs H Q E, sp vs H Q E → vs.length = ps.length)
    (body : ∀ (f : Addr) (cdv : Value) (A : Around) (fr : List Env) (s : Shared) (H : Hp) (vs : List V) (Q : VK) (E : XK),
      Room k (A.deeper (envOfC x (defScope st) s.heap.objs.size f cdv)) → sp vs H Q E →
      ∃ t, PSs (cxOf (L2.CX P w) P w K mg base N x (defScope st) f cdv A fr s H E) (defBody st) t ∧ t { nx := fun _ H' => Q .non H', rt := Q } (start N vs) H) :
    CalE P w K mg base (k + 1) x ps sp := by
  obtain ⟨f, fd, F, hm, hb, _⟩ := D.ex
  exact ⟨f, fd, L2.Fun.okX F S len (body f), hm, F.kp, hb⟩
theorem Mth.okE (D : Mth K C m qual st ps) (S : FnScope N ps (defScope st)) (len : ∀ vs H Q E, sp vs H Q E → vs.length = ps.length)
    (body : ∀ (f : Addr) (cdv : Value) (A : Around) (fr : List Env) (s : Shared) (H : Hp) (vs : List V) (Q : VK) (E : XK),
      Room k (A.deeper (envOfC qual (defScope st) s.heap.objs.size f cdv)) → sp vs H Q E →
      ∃ t, PSs (cxOf (L2.CX P w) P w K mg base N qual (defScope st) f cdv A fr s H E) (defBody st) t ∧ t { nx := fun _ H' => Q .non H', rt := Q } (start N vs) H) :
    MtE P w K mg base (k + 1) C m ps sp := by
  obtain ⟨f, fd, F, hm, hb, _⟩ := D.ex
  exact ⟨f, fd, L2.Fun.okX F S len (body f), hm, hb⟩
end
section
variable {X : Cx} {j k : Nat} {ps : List Str} {sp : Sp} {x m : Str} {p pos apos : Pos} {e o : Expr} {es : List Expr} {t : TA} {ta : TE} {C : Addr} {E : L2.St → XK}
theorem pe_cE (c : CalE X.prog X.w X.K X.mg X.base k x ps sp) (hr : Room j X.A) (hk : k ≤ j) (hx : ∀ σ, PassesAt (L2.CX X.prog X.w) X σ (E σ)) (hg : Gl X x)
    (ha : PA X (e :: es) t) (hdb : (x == ("__debug__" : Str)) = false := by decide)
    (he : starEach (e :: es) X.env = (false, eval e X.env) :: starEach es X.env := by rfl)
    (hpl : (backTo pos (starEach es X.env)).any (·.1) = false := by rfl) :
    PE X (.Call (.Name x p) (e :: es) [] pos) (tCallS sp E t) := by
  obtain ⟨f, fd, F, hm, kp, b⟩ := c.ex
  exact pe_callS F (hr.mono hk) hg hm kp b hx ha hdb he hpl
theorem pe_mkE {fi : Addr} (M : Mk X.K C fi) (c : MtE X.prog X.w X.K X.mg X.base k C "__init__" ps sp) (hr : Room j X.A) (hk : k + 1 ≤ j) (hx : ∀ σ, PassesAt (L2.CX X.prog X.w) X σ (E σ)) (hg : Gl X x) (hm : X.mg x = some (.ref C))
    (ha : PA X (e :: es) t) (hdb : (x == ("__debug__" : Str)) = false := by decide)
    (he : starEach (e :: es) X.env = (false, eval e X.env) :: starEach es X.env := by rfl) (hpl : (backTo pos (starEach es X.env)).any (·.1) = false := by rfl) :
    PE X (.Call (.Name x p) (e :: es) [] pos) (tMakeS C sp E t) := by
  obtain ⟨f, fd, F, mt, b⟩ := c.ex
  have ef : fi = f := by
    have e1 := M.init.symm.trans mt.at_
    cases e1
    rfl
  subst ef
  refine ⟨fun pins s σ H Q I h => ?_⟩
  refine wpAny_Call_Name_kw (ld_glob I hg hm ?_ hdb)
  refine PySem.W.callWith_K (h₀ := X.base) I.ok.mod.kin M.kp (thn (ha.run pos pins s σ H _ I h) fun us s1 ⟨vs, H1, I1, r, q⟩ => ⟨I1.kIn, ?_⟩) he hpl
  have hq := q (s1.heap.objs.size + 1) s1.heap.objs.size (I1.hok.fresh (Nat.le_succ _)) (I1.hok.fresh (Nat.le_refl _)) (Nat.ne_of_lt (Nat.lt_succ_self _))
  have I2 := Inv.made (C := C) I1
  have r2 : Vals (V.ref (s1.heap.objs.size + 1) :: vs) (Value.ref (s1.heap.objs.size + 1) :: us) := .cons rfl r
  have hl : (Value.ref (s1.heap.objs.size + 1) :: us).length = ps.length := by
    have e := r2.length
    rw [F.len _ _ _ _ hq] at e
    exact e.symm
  have hb := b _ (Value.ref (s1.heap.objs.size + 1) :: us) I2.kIn (by rw [List.append_nil]; exact hl)
  rw [List.append_nil] at hb
  refine wpAny_call (make_map (f := fi) I1.kIn M.makes M.init (beq_iff_eq.mp M.fn) (codeAny_mono (F.run _ X.stack _ _ ⟨Value.ref (s1.heap.objs.size + 1) :: us, []⟩ (Value.ref (s1.heap.objs.size + 1) :: us) _ _ (E σ) ((hr.mono hk).make C us [])
    (I2.env0.make C us []) hb r2 hq) fun r s' hq' => ?_))
  cases r with
  | error e => exact hx σ pins _ _ e s' I2 hq'
  | ok fl =>
    cases fl with
    | ret u =>
      obtain ⟨v, H', I3, rv, ev, q3⟩ := I2.after hq'
      subst ev
      exact ⟨rv, ⟨V.ref (s1.heap.objs.size + 1), H', I3, rfl, q3⟩⟩
    | next => exact False.elim hq'
    | brk => exact False.elim hq'
    | cont => exact False.elim hq'
/-- C.m(e, ..), errors passing -/
def tCFnE (C : Addr) (sp : Sp) (E : L2.St → XK) (ta : TE) (t : TA) : TE := fun σ H Q => ta σ H fun x H1 => x = .ref C ∧ t σ H1 fun vs H2 => sp vs H2 Q (E σ)
theorem pe_cME {pl : Sem Bool} (he : PE X o ta) (r : ∀ f, Meth X.K C m f → ClFn X.K C m f) (c : MtE X.prog X.w X.K X.mg X.base k C m ps sp) (hr : Room j X.A) (hj : k ≤ j) (hx : ∀ σ, PassesAt (L2.CX X.prog X.w) X σ (E σ)) (ha : PA X (e :: es) t)
    (hst : starEach (e :: es) X.env = (false, eval e X.env) :: starEach es X.env := by rfl) (hpl : (backTo pos (starEach es X.env)).any (·.1) = false := by rfl)
    (ht : eval (.Call (.Attribute o m apos) (e :: es) [] pos) X.env = (do
      let ov ← eval o X.env
      standAt apos.atName
      let (f, first) ← holding [ov] (getMethod ov m pl)
      callWith pos f first (backTo pos (starEach (e :: es) X.env)) (backToKw pos (keywordEach [] X.env))) := by rfl) :
    PE X (.Call (.Attribute o m apos) (e :: es) [] pos) (tCFnE C sp E ta t) := by
  obtain ⟨f, fd, F, hm, b⟩ := c.ex
  refine ⟨fun pins s σ H Q I h => ?_⟩
  refine PySem.W.methodCall_KW (pl := pl) (thn (he.run pins s σ H _ I h) fun u s1 ⟨x, H1, I1, rx, ex, q⟩ => ?_) ht
  subst ex
  obtain rfl : u = Value.ref C := rx
  obtain ⟨mc, r1, r2⟩ := (r f hm).rd
  refine PySem.W.method_cls I1.kIn (r f hm).ga (PySem.W.cls_value I1.kIn r1 r2 rfl ?_)
  have I2 : Inv X pins σ H1 { s1 with toks := s1.toks + 1 } := I1.tok _
  refine PySem.W.callWith_K (h₀ := X.base) I2.ok.mod.kin hm.kp (thn (ha.run pos pins _ σ H1 _ I2 q) fun us s3 ⟨vs, H2, I3, rv, q2⟩ => ⟨I3.kIn, ?_⟩) hst hpl
  exact run_fnS F (hr.mono hj) b (hx σ) I3 rv q2
end
/-! ### what an error made by C(e) is -/
section
variable {X : Cx} {es : List Expr} {e : Expr} {ta : TA} {p pos : Pos} {C B : Addr} {newId initId b : String} {bmB : List Value}
theorem pmk_e {CX : CXT} {x : Str} {fI : Addr} {k : Nat} {fd : FuncData} {ps : List Str} {sp : Sp} {ds : List Value} {dvs : List V} (T : EC X.K C B newId bmB) (b0 : EBase b newId initId bmB) (iC : PySem.W.findIn X.K (.ref C) "__init__" = some (some (.ref fI))) (tI : PySem.W.typeIn X.K (.ref fI) = some (.type "function"))
    (F1 : FnOk X.prog X.w X.K X.mg X.base CX k fI fd ps sp) (hr : Room (k + 1) X.A) (hb : L2.Binds X.K fd ps ds) (hd : Vals dvs ds) (hx : Passes CX X (fun _ _ _ => False)) (hg : Gl X x) (hm : X.mg x = some (.ref C)) (ha : PA X (e :: es) ta)
    (hdb : (x == ("__debug__" : Str)) = false := by decide) (he : starEach (e :: es) X.env = (false, eval e X.env) :: starEach es X.env := by rfl) (hpl : (backTo pos (starEach es X.env)).any (·.1) = false := by rfl) :
    L2N.PMk X (.Call (.Name x p) (e :: es) [] pos) (tMkO C sp dvs ta) := by
  intro pins s σ H Q I h
  obtain ⟨nm, q, N, bs, sn, sub, ab, col, dd, k0, k1, k2, k3, k5, hC⟩ := T.look
  refine wpAny_Call_Name_kw (ld_glob I hg hm ?_ hdb)
  refine PySem.W.callWith_K (h₀ := X.base) I.ok.mod.kin T.kp (thn (ha.run pos pins s σ H _ I h) fun us s1 ⟨vs, H1, I1, r1, hz, q1⟩ => ⟨I1.kIn, ?_⟩) he hpl
  show wpAny _ _ (call (.ref C) us) _ _ _
  obtain ⟨hp, g, dr, tk, os⟩ := s1
  have hget0 : ((hp.push (PySem.W.kdv_tup us)).push (PySem.HandSPX.excO C hp.objs.size)).get? (hp.objs.size + 1) = some (PySem.HandSPX.excO C hp.objs.size) := by heap_get
  let c : Addr := hp.objs.size + 1
  let hq2 : Heap := (hp.push (PySem.W.kdv_tup us)).push (PySem.HandSPX.excO C hp.objs.size)
  have hsz : hp.objs.size ≤ c := Nat.le_succ _
  have hn : H1 c = none := I1.hok.fresh hsz
  have hq := q1 c hn
  have kk : ∀ b o, hp.get? b = some o → hq2.get? b = some o := fun b o e => Heap.get?_push_of_some _ (Heap.get?_push_of_some _ e)
  have hget : hq2.get? c = some (PySem.HandSPX.excO C hp.objs.size) := hget0
  have I2 : Inv X pins σ (upd H1 c (exo c C none)) ⟨hq2, g, dr, tk, os⟩ := I1.laid (t' := tk) (a := c) (o := exo c C none) (h' := hq2) kk hsz (exo_ok hget)
  have r2 : Vals (V.ref c :: (vs ++ dvs)) (Value.ref c :: (us ++ ds)) := .cons rfl (r1.append hd)
  have hl : (Value.ref c :: us ++ ds).length = ps.length := by
    rw [← F1.len _ _ _ _ hq]
    exact r2.length.symm
  have hus : us.length ≤ sizeLine := by
    rw [← Paired.length r1, sizeLine_eq]
    omega
  refine wpAny_call (PySem.HandSPX.call_own b0.f (fun Y => by rw [List.contains_cons] <;> rfl) (I1.kIn _ _ hC) (PySem.W.looks_findIn I1.kIn iC) (fun self => PySem.W.bind_fn I1.kIn self tI) hus
    (codeAny_mono (F1.run _ X.stack _ _ ⟨Value.ref c :: us, []⟩ (Value.ref c :: (us ++ ds)) _ _ (fun _ _ _ => False) (hr.make C us []) (I2.env0.make C us []) (hb _ (Value.ref c :: us) I2.kIn hl) r2 hq) fun r s' hq' => ?_))
  cases r with
  | error er => exact hx pins σ _ _ er s' I2 hq'
  | ok fl =>
    cases fl with
    | ret u =>
      obtain ⟨v, H2, os2, bare2, un2, hok2, rv, ev, d, fs, ea, ed, hd1, q2⟩ := hq'
      subst ev
      obtain ⟨h2, g2, d2, t2, os'⟩ := s'
      exact ⟨rv, mk_endN (raises_own (T.exc b0) T.ty) I1 hsz un2 kk hok2 os2 bare2 ea ed hd1 q2⟩
    | next => exact False.elim hq'
    | brk => exact False.elim hq'
    | cont => exact False.elim hq'
end
/-- the name x of the module holds an error class at C whose errors have the field f -/
structure ErE (P : Program) (w : World) (K : PySem.W.Frag) (mg : Str → Option Value) (base : Heap) (x : Str) (C : Addr) (f : Str) : Prop where
  gm : mg x = some (.ref C)
  ec : ∃ (B : Addr) (b newId initId : String) (bmB : List Value), EC K C B newId bmB ∧ EBase b newId initId bmB
  no : PySem.W.findIn K (.ref C) f = some none
  mt : MtF P w K mg base 1 C "__init__" ["self", f] (spIni C f)
section
variable {X : Cx} {j : Nat} {x f : Str} {C : Addr} {p pos pos' : Pos} {e : Expr} {te : TE} {W : WX}
theorem pmk_er (c : ErE X.prog X.w X.K X.mg X.base x C f) (hr : Room j X.A) (hk : 2 ≤ j) (hg : Gl X x) (he : PE X e te) (hdb : (x == ("__debug__" : Str)) = false := by decide)
    (hst : starEach [e] X.env = (false, eval e X.env) :: starEach [] X.env := by rfl) (hpl : (backTo pos (starEach [] X.env)).any (·.1) = false := by rfl) :
    L2N.PMk X (.Call (.Name x p) [e] [] pos) (tMkO C (spIni C f) [] (tCons te tNil)) := by
  obtain ⟨fI, fd, F1, mt, b, _⟩ := c.mt.ex
  obtain ⟨B, bb, n, i, bm, T, b0⟩ := c.ec
  have tI : PySem.W.typeIn X.K (.ref fI) = some (.type "function") := beq_iff_eq.mp mt.fn
  exact pmk_e (p := p) (pos := pos) (CX := CX0) (dvs := []) T b0 mt.at_ tI F1 (hr.mono hk) b .nil (fun _ _ _ _ _ _ _ z => z.elim) hg c.gm (pa_cons he pa_nil (hs := hst)) hdb hst hpl
/-- raise C(e) -/
theorem ps_rsE (c : ErE X.prog X.w X.K X.mg X.base x C f) (hr : Room j X.A) (hk : 2 ≤ j) (hc : X.calm = true) (tk : L2.Takes X W) (hg : Gl X x) (he : PE X e te) (hdb : (x == ("__debug__" : Str)) = false := by decide)
    (hst : starEach [e] X.env = (false, eval e X.env) :: starEach [] X.env := by rfl) (hpl : (backTo pos (starEach [] X.env)).any (·.1) = false := by rfl) :
    PS X (.Raise (some (.Call (.Name x p) [e] [] pos)) none pos') (tRs W C f te) := by
  have m := pmk_er (p := p) (pos := pos) c hr hk hg he hdb hst hpl
  have m2 : L2.PMk X (.Call (.Name x p) [e] [] pos) (tMkO C (spIni C f) [] (tCons te tNil)) := fun pins s σ H Q I h => thn (m pins s σ H Q I h) fun u s' ⟨a, oe, vs, sI, σ', cls, d, e1, e2, e3, e4, e5, e6, e7⟩ => ⟨a, oe, vs, sI, σ', cls, d, e1, e2, e3, e4, e5, e6.zc, e7⟩
  have R := L2.ps_raise (pos := pos') hc tk m2
  exact ⟨fun pins s σ H D I h => R.run pins s σ H D I h⟩
end
end Jo

set_option Elab.async false
set_option linter.all false
set_option maxRecDepth 100000
set_option maxHeartbeats 2000000
/-! Defs that are called while an error is handled: any error, whatever stood before it; an error that is handled, handed on to such a def. -/
namespace Jo
open PySem PySem.Spec PyProof.Rows L2
open L2H (RoomH roomH_of)
/-- a def's promise, kept whatever is handled; g: no repr is under way -/
structure FnW (g : Bool) (P : Program) (w : World) (K : PySem.W.Frag) (mg : Str → Option Value) (base : Heap) (k : Nat) (f : Addr) (fd : FuncData) (ps : List Str) (sp : Sp) : Prop where
  len : ∀ vs H Q E, sp vs H Q E → vs.length = ps.length
  go : ∀ (A : Around) (fr : List Env) (s : Shared) (H : Hp) (args : Args) (us : List Value) (vs : List V) (Q : VK) (E : XK),
    RoomH k A → (g = true → A.guards = some []) → Env0 P w K mg base A fr s H → BindsTo s fd args (ps.zip us) → Vals vs us →
    sp vs H Q E → codeAny (model P w) A (.call (.ref f) args) (CR CX0 fr P w H s Q E) s
/-- the context of such a def's body -/
def cxW (P : Program) (w : World) (K : PySem.W.Frag) (mg : Str → Option Value) (base : Heap) (N : List Str) (qual : Str) (scope : Scope) (f : Addr) (cd : Value) (A : Around) (outer : List Env) (s : Shared) (H : Hp) (E : XK) : Cx :=
  { cxOf CX0 P w K mg base N qual scope f cd A outer s H E with calm := false }
theorem inv_startW {P : Program} {w : World} {K : PySem.W.Frag} {mg : Str → Option Value} {base : Heap} {N ps : List Str} {qual : Str} {scope : Scope} {f : Addr} {cd : Value} {A : Around} {outer : List Env} {s s1 : Shared} {H : Hp} {E : XK} {us : List Value} {vs : List V}
    (S : FnScope N ps scope) (e0 : Env0 P w K mg base A outer s H) (hl : vs.length = ps.length) (r : Vals vs us)
    (x : InCallC s s.heap.objs.size (bindL (envOfC qual scope s.heap.objs.size f cd).kindOf (ps.zip us) fun _ => none) (cellsFrom (s.heap.objs.size + 1) scope.names []) (bindC (envOfC qual scope s.heap.objs.size f cd).kindOf (ps.zip us) fun _ => none) s1) :
    Inv (cxW P w K mg base N qual scope f cd A outer s H E) [] (L2.start N vs) H s1 := by
  have hpl : ps.length ≤ N.length := by have := congrArg List.length S.pre; rw [List.length_take] at this; omega
  obtain ⟨h1, tk, rfl, hk⟩ := x.done
  have noA : ∀ b : Addr, b ∉ (cxW P w K mg base N qual scope f cd A outer s H E).ex := fun b z => absurd (show b ∈ ([] : List Addr) from z) (by simp)
  refine ⟨⟨e0.mod, S.kind, rfl, rfl, Nat.le_refl _, fun y z c h1 h2 => ?_, fun y hy => ?_, fun y c _ h => ?_, (fun z => Bool.noConfusion (show false = true from z)), Around.frames_deeper e0.frames, .inr ⟨rfl, rfl⟩, fun b z => absurd z (noA b), e0.bs, e0.bsz, fun b _ _ => noA b, fun b z => absurd z (noA b), e0.funs, e0.frf⟩,
    rfl, e0.bare, Un.kept hk, ⟨_, x.toInCall.ns, fun i y v h1 h2 h3 => ?_⟩, fun y c h => ⟨_, x.cell y c h⟩, e0.hok.fresh (Nat.le_refl _), fun y c h => ?_, fun q hq => absurd (show q ∈ ([] : List (Addr × Obj)) from hq) (by simp), e0.hok.kept hk, ?_⟩
  · exact name_of_addr x.apart (PySem.mem_of_lookup h1) (PySem.mem_of_lookup h2)
  · have hy : scope.names.lookup y = some .cell ∨ scope.names.lookup y = some .free := hy
    rcases hy with hy | hy
    · exact cell_has hy
    · exact absurd rfl (S.nofree _ (PySem.mem_of_lookup hy))
  · exact Nat.le_of_lt (x.above y c (PySem.mem_of_lookup h))
  · have hi : i < vs.length := by
      unfold L2.start at h2
      by_cases hi : i < vs.length
      · exact hi
      · rw [List.getElem?_append_right (by simpa using hi)] at h2
        rw [List.getElem?_replicate] at h2
        split at h2 <;> cases h2
    have ha : vs[i]? = some v := by
      unfold L2.start at h2
      rw [List.getElem?_append_left (by simpa using hi), List.getElem?_map] at h2
      cases e : vs[i]? with
      | none => rw [e] at h2; cases h2
      | some a => rw [e] at h2; cases h2; rfl
    obtain ⟨u, hu, rv⟩ := r.get ha
    have hp : ps[i]? = some y := by
      rw [← S.pre, List.getElem?_take_of_lt (by omega)]; exact h1
    have ndP : ps.Nodup := by rw [← S.pre]; exact S.nd.sublist (List.take_sublist _ _)
    refine ⟨u, rv, ?_⟩
    rcases S.par y (List.mem_of_getElem? hp) with k | k
    · exact .inl ⟨k, bindL_get ndP hp hu k⟩
    · obtain ⟨c, e⟩ := cell_has (n := s.heap.objs.size + 1) k
      refine .inr ⟨.inl k, c, e, ?_⟩
      have q := x.cell y c e
      rw [bindC_get ndP hp hu (by show scope.names.lookup y ≠ _; rw [k]; decide)] at q
      exact q
  · exact e0.hok.fresh (Nat.le_of_lt (x.above y c (PySem.mem_of_lookup h)))
  · unfold L2.start
    show _ = N.length
    rw [List.length_append, List.length_map, List.length_replicate]
    omega
section
variable {P : Program} {w : World} {K : PySem.W.Frag} {mg : Str → Option Value} {base : Heap}
theorem fun_okW {g : Bool} {k : Nat} {x qual : Str} {st : Stmt} {f : Addr} {fd : FuncData} {N ps : List Str} {sp : Sp}
    (F : L2.Fun K x qual st f fd) (S : FnScope N ps (defScope st)) (len : ∀ vs H Q E, sp vs H Q E → vs.length = ps.length)
    (body : ∀ (cdv : Value) (A : Around) (fr : List Env) (s : Shared) (H : Hp) (vs : List V) (Q : VK) (E : XK),
      RoomH k (A.deeper (envOfC qual (defScope st) s.heap.objs.size f cdv)) → (g = true → A.guards = some []) → sp vs H Q E →
      ∃ t, PSs (cxW P w K mg base N qual (defScope st) f cdv A fr s H E).nox (defBody st) t ∧ t { nx := fun _ H' => Q .non H', rt := Q } (start N vs) H) :
    FnW g P w K mg base (k + 1) f fd ps sp := by
  obtain ⟨oc, od, kV, doc, pm, an, cdv, ct, osl, rfl, lk, hcd⟩ := F.ex
  refine ⟨len, fun A fr s H args us vs Q E hr hgd e0 hb r hsp => ?_⟩
  have keepB : ∀ b o, base.get? b = some o → s.heap.get? b = some o := fun b o e => (e0.bs b o e).1
  have KX := e0.mod.kin.keeps keepB
  have nolim := e0.mod.nolimit.keeps keepB
  refine codeAny_call_function hr.depth (KX _ _ lk) rfl S.co S.gen rfl (PySem.W.codeRec_of KX hcd) (hb _ _ _ _ ?_)
  refine wpAny_newFunctionEnv_cells S.kind (fun ⟨n, v⟩ hy => ?_) fun env he s1 x => ?_
  · cases S.par n (List.of_mem_zip hy).1 with
    | inl q => exact .inl q
    | inr q => exact .inr ⟨q, PySem.W.cellsFrom_some _ _ _ (.inl q)⟩
  · subst he
    refine ⟨nolim.keeps x.toInCall.keep, codeAny_func ?_⟩
    obtain ⟨t, ht, hq⟩ := body cdv A fr s H vs Q E (hr.deeper _) hgd hsp
    have I := inv_startW (E := E) S e0 (len _ _ _ _ hsp) r x
    refine wpAny_mono (ht.nox.run [] s1 (start N vs) H _ I hq) (fun fl s' hs => ?_) fun _ _ hs => hs
    cases fl with
    | brk => obtain ⟨_, _, _, q⟩ := hs; exact q.elim
    | cont => obtain ⟨_, _, _, q⟩ := hs; exact q.elim
    | ret u =>
      obtain ⟨v, _, H', J, rv, q⟩ := hs
      exact ⟨v, H', J.os, J.bare, J.base, J.hok, rv, q⟩
    | next =>
      obtain ⟨_, H', J, q⟩ := hs
      exact ⟨V.non, H', J.os, J.bare, J.base, J.hok, rfl, q⟩
end
/-- the name x of the module holds a def that keeps the promise sp, whatever is handled -/
structure CalW (g : Bool) (P : Program) (w : World) (K : PySem.W.Frag) (mg : Str → Option Value) (base : Heap) (k : Nat) (x : Str) (ps : List Str) (sp : Sp) : Prop where
  ex : ∃ (f : Addr) (fd : FuncData), FnW g P w K mg base k f fd ps sp ∧ mg x = some (.ref f) ∧ PySem.W.keepIn K (.ref f) = true ∧ Binds K fd ps []
/-- .. the method m of the class at C -/
structure MtW (g : Bool) (P : Program) (w : World) (K : PySem.W.Frag) (mg : Str → Option Value) (base : Heap) (k : Nat) (C : Addr) (m : Str) (ps : List Str) (sp : Sp) : Prop where
  ex : ∃ (f : Addr) (fd : FuncData), FnW g P w K mg base k f fd ps sp ∧ Meth K C m f ∧ Binds K fd ps []
section
variable {g : Bool} {P : Program} {w : World} {K : PySem.W.Frag} {mg : Str → Option Value} {base : Heap} {x m qual : Str} {st : Stmt} {N ps : List Str} {sp : Sp} {k : Nat} {C : Addr}
theorem Dfn.okW (D : Dfn K mg x st ps) (S : FnScope N ps (defScope st)) (len : ∀ vs H Q E, sp vs H Q E → vs.length = ps.length)
    (body : ∀ (f : Addr) (cdv : Value) (A : Around) (fr : List Env) (s : Shared) (H : Hp) (vs : List V) (Q : VK) (E : XK),
      RoomH k (A.deeper (envOfC x (defScope st) s.heap.objs.size f cdv)) → (g = true → A.guards = some []) → sp vs H Q E →
      ∃ t, PSs (cxW P w K mg base N x (defScope st) f cdv A fr s H E).nox (defBody st) t ∧ t { nx := fun _ H' => Q .non H', rt := Q } (start N vs) H) :
    CalW g P w K mg base (k + 1) x ps sp := by
  obtain ⟨f, fd, F, hm, hb, _⟩ := D.ex
  exact ⟨f, fd, fun_okW F S len (body f), hm, F.kp, hb⟩
theorem Mth.okW (D : Mth K C m qual st ps) (S : FnScope N ps (defScope st)) (len : ∀ vs H Q E, sp vs H Q E → vs.length = ps.length)
    (body : ∀ (f : Addr) (cdv : Value) (A : Around) (fr : List Env) (s : Shared) (H : Hp) (vs : List V) (Q : VK) (E : XK),
      RoomH k (A.deeper (envOfC qual (defScope st) s.heap.objs.size f cdv)) → (g = true → A.guards = some []) → sp vs H Q E →
      ∃ t, PSs (cxW P w K mg base N qual (defScope st) f cdv A fr s H E).nox (defBody st) t ∧ t { nx := fun _ H' => Q .non H', rt := Q } (start N vs) H) :
    MtW g P w K mg base (k + 1) C m ps sp := by
  obtain ⟨f, fd, F, hm, hb, _⟩ := D.ex
  exact ⟨f, fd, fun_okW F S len (body f), hm, hb⟩
end
/-! ### an error that is handled, handed on -/
/-- at a stands an error, known to the object: its class and dict -/
def frq (a : Addr) (oe : Obj) : HO := .frz oe (exq a oe.cls oe.dict)
section
variable {X : Cx} {pins : List (Addr × Obj)} {σ : L2.St} {H : Hp} {s : Shared} {a : Addr} {oe : Obj}
theorem hok_frq {P : Program} {w : World} {H : Hp} {h : Heap} {vs : Array Value} (hok : HOk P w H h) (he : h.get? a = some oe) (hd : oe.data = .fields vs) (na : H a = none) : HOk P w (upd H a (frq a oe)) h := fun b o e => by
  by_cases hb : b = a
  · subst hb
    rw [upd_same] at e
    cases e
    exact ⟨he, exq_ok (P := P) (w := w) (H := upd H b (frq b oe)) he hd⟩
  · rw [upd_ne hb] at e
    exact (hok b o e).stay (fun _ _ _ q => q) (fun c hc => by rw [upd_ne (ne_of_none hc na)]; exact hc) fun c xs hc => by rw [upd_ne (ne_of_none hc na)]; exact hc
theorem ce_frq {P : Program} {w : World} {outer : List Env} {Q : VK} {u : Value} {s' : Shared} (he : s.heap.get? a = some oe) (na : H a = none) (nf : a ∉ frs outer)
    (h : CE outer P w (upd H a (frq a oe)) s (fun v H2 => Q v (del H2 a)) u s') : CE outer P w H s Q u s' := by
  obtain ⟨v, H2, os, bare, un, hok2, rv, q⟩ := h
  have fz : H2 a = some (frq a oe) := un.frzs a oe _ upd_same
  have at2 : s'.heap.get? a = some oe := (hok2 a _ fz).1
  have up : ∀ {b : Addr}, b ≠ a → upd H a (frq a oe) b = H b := fun hb => upd_ne hb
  have nn : ∀ {b : Addr} {o : HO}, H b = some o → b ≠ a := fun {b o} e => ne_of_none e na
  have no : ∀ {c : Addr} {o : HO}, H2 c = some o → (∀ o' u, o ≠ .frz o' u) → c ≠ a := fun {c o} e hn z => by
    rw [z, fz] at e
    exact hn _ _ (Option.some.inj e).symm
  refine ⟨v, del H2 a, os, bare, ⟨fun b o e n hb hx => ?_, fun b o e n hb hx => ?_, fun b o e n hx => ?_, fun b o e hx => un.there b o e hx, fun b xs e => ?_, fun b o u e => ?_, fun b ps e => ?_⟩, fun b o e => ?_, rv, q⟩
  · by_cases h : b = a
    · subst h
      rw [he] at e
      cases e
      exact at2
    · exact un.keep b o e (by rw [up h]; exact n) hb hx
  · exact un.slot b o e (by rw [up (fun z => nf (z ▸ hb))]; exact n) hb hx
  · by_cases h : b = a
    · rw [h, del_same]
    · rw [del_ne h]
      exact un.free b o e (by rw [up h]; exact n) hx
  · rw [del_ne (nn e)]
    exact un.tups b xs (by rw [up (nn e)]; exact e)
  · rw [del_ne (nn e)]
    exact un.frzs b o u (by rw [up (nn e)]; exact e)
  · obtain ⟨more, z⟩ := un.tbls b ps (by rw [up (nn e)]; exact e)
    exact ⟨more, by rw [del_ne (nn e)]; exact z⟩
  · by_cases h : b = a
    · rw [h, del_same] at e
      cases e
    · rw [del_ne h] at e
      exact (hok2 b o e).stay (fun _ _ _ q => q) (fun c hc => by rw [del_ne (no hc fun _ _ z => by cases z)]; exact hc) fun c xs hc => by rw [del_ne (no hc fun _ _ z => by cases z)]; exact hc
/-- f(e), e the error that is handled -/
def tTold (i : Nat) (a : Addr) (oe : Obj) (sp : Sp) : TE := fun σ H Q => σ[i]? = some (some (.ref a)) ∧ sp [.ref a] (upd H a (frq a oe)) (fun v H2 => Q v (del H2 a)) E0
theorem pe_told {g : Bool} {j k i : Nat} {x n : Str} {ps : List Str} {sp : Sp} {p p2 pos : Pos} {pn : List (Addr × Obj)} (c : CalW g X.prog X.w X.K X.mg X.base k x ps sp) (hr : RoomH j X.A) (hk : k ≤ j) (hgd : g = true → X.A.guards = some []) (hg : Gl X x)
    (n0 : X.s_0.heap.get? a = none) (hv : ∃ vs, oe.data = .fields vs) (hi : X.N[i]? = some n) (hn : Vis X.env.scope n) (hdb : (x == ("__debug__" : Str)) = false := by decide) (hd : (n == ("__debug__" : Str)) = false := by decide) (hcd : (n == ("__classdict__" : Str)) = false := by decide) :
    PE (X.suite a ((a, oe) :: pn)) (.Call (.Name x p) [.Name n p2] [] pos) (tTold i a oe sp) := by
  obtain ⟨f, fd, F, hm, kp, b⟩ := c.ex
  obtain ⟨vs, hv⟩ := hv
  refine ⟨fun pins s σ H Q I h => ?_⟩
  obtain ⟨hs, h⟩ := h
  refine wpAny_Call_Name_kw (ld_glob I hg hm ?_ hdb)
  refine PySem.W.callWith_K (h₀ := X.base) I.ok.mod.kin kp (thn ((pa_cons (pe_var (X := X.suite a ((a, oe) :: pn)) (pos := p2) (i := i) hi hn hd hcd) pa_nil).run pos pins s σ H (fun xs H1 => xs = [.ref a] ∧ H1 = H) I ⟨_, hs, rfl, rfl⟩) fun us s1 ⟨xs, H1, I1, r, e1, e2⟩ => ⟨I1.kIn, ?_⟩) (by rfl) (by rfl)
  subst e1
  rw [e2] at I1
  have P1 := I1.pin (a, oe) (List.mem_append_left _ List.mem_cons_self)
  have nf : a ∉ frs X.stack := fun hm' => (List.mem_cons.mp (I1.stkSub a hm')).elim P1.2.2.1 P1.2.2.2.1
  have e0 := I1.env0
  have bs : ∀ b o, X.base.get? b = some o → s1.heap.get? b = some o ∧ upd H a (frq a oe) b = none := fun b o e => by
    obtain ⟨z1, z2⟩ := e0.bs b o e
    have nb : b ≠ a := fun z => by
      have z3 := (I1.ok.bs b o e).1
      rw [z, show (X.suite a ((a, oe) :: pn)).s_0 = X.s_0 from rfl, n0] at z3
      cases z3
    exact ⟨z1, by rw [upd_ne nb]; exact z2⟩
  have frf : ∀ b ∈ frs X.stack, upd H a (frq a oe) b = none := fun b hb => by
    have nb : b ≠ a := fun z => by rw [z] at hb; exact nf hb
    rw [upd_ne nb]
    exact e0.frf b hb
  have e1 : Env0 X.prog X.w X.K X.mg X.base (X.suite a ((a, oe) :: pn)).A X.stack s1 (upd H a (frq a oe)) := ⟨e0.frames, e0.mod, bs, e0.bsz, e0.funs, frf, hok_frq e0.hok P1.1 hv P1.2.1, e0.bare⟩
  have hl : us.length = ps.length := by rw [← r.length]; exact F.len _ _ _ _ h
  have bb := b s1 us I1.kIn (by rw [List.append_nil]; exact hl)
  rw [List.append_nil] at bb
  refine wpAny_call (codeAny_mono (F.go (X.suite a ((a, oe) :: pn)).A X.stack s1 _ ⟨us, []⟩ us _ _ E0 ⟨(hr.mono hk).dp, (hr.mono hk).un⟩ hgd e1 bb r h) fun r s' hq => ?_)
  cases r with
  | error e => exact (show False from hq).elim
  | ok fl =>
    cases fl with
    | ret u => exact I1.after (ce_frq P1.1 P1.2.1 nf hq)
    | next => exact False.elim hq
    | brk => exact False.elim hq
    | cont => exact False.elim hq
end
end Jo

set_option Elab.async false
set_option linter.all false
set_option maxRecDepth 100000
set_option maxHeartbeats 2000000
/-! Errors that were caught, as values: their class, their field. -/
namespace Jo
open PySem PySem.Spec PyProof.Rows L2
/-- at a stands an error that was caught, of the class at C, with y in its field f -/
def CauAt (H : Hp) (a C : Addr) (f : Str) (y : V) : Prop := ∃ d, H a = some (exq a (.ref C) (some d)) ∧ H d = some (.xd [(f, y)])
theorem EC.oex {K : PySem.W.Frag} {C B : Addr} (T : EC K C B "ValueError.__new__" [.type "ValueError", .type "Exception", .type "BaseException", .type "object"]) : OexC K C := by
  obtain ⟨nm, q, N, bs, sn, sub, ab, col, dd, k0, k1, k2, k3, k5, h⟩ := T.look
  exact ⟨⟨nm, q, N, bs, _, sn, sub, ab, col, dd, k0, k1, k2, k3, k5, h, by rfl⟩, T.sa, T.exc ebV, T.ty, T.kp⟩
section
variable {X : Cx} {pins : List (Addr × Obj)} {σ : L2.St} {H : Hp} {s : Shared} {a C : Addr} {f : Str} {y : V} {pos : Pos} {e : Expr}
theorem CauAt.same {H H' : Hp} (h : CauAt H a C f y) (s : Same H H') : CauAt H' a C f y := let ⟨d, e1, e2⟩ := h; ⟨d, s _ _ e1, s _ _ e2⟩
theorem CauAt.inst (h : CauAt H a C f y) (I : Inv X pins σ H s) : ∃ (oe od : Obj) (mA : Str → Option Value), PySem.W.InstAt s.heap a oe C (some od) ∧ (∀ x, PySem.W.lookIn x od = some (mA x)) ∧ ∀ g, RelO (List.lookup g [(f, y)]) (mA g) := by
  obtain ⟨d, e1, e2⟩ := h
  obtain ⟨oe, vs, he, hc, hd, hv⟩ := exq_at I.hok e1
  obtain ⟨mA, hns, rel⟩ := (show ObjOk X.prog X.w H s.heap d (.xd [(f, y)]) from I.hok _ _ e2)
  obtain ⟨od, hod, hl⟩ := lookIn_ns hns
  refine ⟨oe, od, mA, ⟨he, hc, ?_, ?_⟩, hl, rel⟩
  · obtain ⟨c, dd, dt, sl⟩ := oe
    dsimp only at hv
    subst hv
    rfl
  · rw [hd]
    exact hod
/-- isinstance(e, c) of an error that was caught -/
def rIsQ (K : PySem.W.Frag) : List V → Hp → VK → Prop := fun xs H Q => ∃ (a C B : Addr) (b newId initId : String) (bmB : List Value) (f : Str) (y c : V) (u : Value) (r : Bool), xs = [.ref a, c] ∧ CauAt H a C f y ∧
  EC K C B newId bmB ∧ EBase b newId initId bmB ∧ CW K ∧ ClsV c u ∧ PySem.W.kitOne K (.ref C) u = some r ∧ Q (.bl r) H
theorem call_isQ : CallR X (.builtin "isinstance") (rIsQ X.K) := by
  intro pins s σ H xs us Q I r h
  obtain ⟨a, C, B, b, newId, initId, bmB, f, y, c, u, v, rfl, he, T, eb, cw, k, ek, q⟩ := h
  obtain ⟨u1, u2, rfl, r1, r2⟩ := vals2 r
  have e2 := k.eq r2
  subst e2
  cases (show u1 = Value.ref a from r1)
  obtain ⟨oe, od, mA, J, _, _⟩ := he.inst I
  obtain ⟨cd, hcd, _, _⟩ := T.cls
  refine PySem.W.kia_one (PySem.W.kitx_exc (ox := oe) (od := some od) ?_ T.ga T.gg (T.exc eb) T.cl cw.get cw.take (T.obj eb)) I.kIn J ek (fun z => nomatch z) fun tk => ⟨.bl v, H, I.tok tk, rfl, q⟩
  rw [hcd] <;> rfl
/-- e.f -/
def tQf (K : PySem.W.Frag) (f : Str) (te : TE) : TE := fun σ H Q => te σ H fun x H1 => ∃ (a C B : Addr) (b newId initId : String) (bmB : List Value) (y : V), x = .ref a ∧ CauAt H1 a C f y ∧
  EC K C B newId bmB ∧ EBase b newId initId bmB ∧ PySem.W.findIn K (.ref C) f = some none ∧ Q y H1
theorem pe_qf {te : TE} (he : PE X e te) (hb : attributeBase e f X.env (eval e X.env) = eval e X.env := by rfl) : PE X (.Attribute e f pos) (tQf X.K f te) := by
  refine ⟨fun pins s σ H Q I h => attr_of hb (thn (he.run pins s σ H _ I h) fun u s1 hh => ?_)⟩
  obtain ⟨x, H1, I1, rx, a, C, B, b, newId, initId, bmB, y, ex, ha, T, eb, hno, q⟩ := hh
  subst ex
  obtain rfl : u = Value.ref a := rx
  obtain ⟨oe, od, mA, J, hl, rel⟩ := ha.inst I1
  obtain ⟨u, hu, ru⟩ := RelO.some_of (v := y) (o := mA f) (by
    have z := rel f
    rw [show List.lookup f [(f, y)] = some y by simp [List.lookup]] at z
    exact z)
  exact HandSPX.exc_get I1.kIn J T.ga T.gg (T.exc eb) (PySem.W.findObj_own T.hd hno rfl (by rw [hl, hu])) (handed_of ru) ⟨y, H1, I1.tok _, ru, q⟩
end
end Jo

set_option Elab.async false
set_option linter.all false
set_option maxRecDepth 100000
set_option maxHeartbeats 2000000
/-! f(lambda: ..), where f tries what it got and tells of the error that it let out; raise .. from None in a suite. -/
namespace Jo
open PySem PySem.Spec PyProof.Rows L2 ClX
open L2H (RoomH roomH_of)
/-! ### errors of known context are errors -/
theorem cx_e {P : Program} {w : World} {outer : List Env} {H : Hp} {s s' : Shared} {E : XK} {u : Value} (h : L2N.CX P w outer H s E u s') : L2.CX P w outer H s E u s' := by
  obtain ⟨a, B, H', cls, d, e, fl, r⟩ := h
  exact ⟨a, B, H', cls, d, e, L2H.flyingZ_imp (fun _ z => z.zc) fl, r⟩
theorem fn_e {P : Program} {w : World} {K : PySem.W.Frag} {mg : Str → Option Value} {base : Heap} {k : Nat} {f : Addr} {fd : FuncData} {ps : List Str} {sp : Sp} (F : FnOk P w K mg base (L2N.CX P w) k f fd ps sp) : FnOk P w K mg base (L2.CX P w) k f fd ps sp :=
  ⟨F.len, fun A outer s H args us vs Q E hr e0 hb r h => codeAny_mono (F.run A outer s H args us vs Q E hr e0 hb r h) fun r s' q => by
    cases r with
    | error e => exact cx_e q
    | ok fl => cases fl <;> exact q⟩
theorem CalX.e {P : Program} {w : World} {K : PySem.W.Frag} {mg : Str → Option Value} {base : Heap} {k : Nat} {x : Str} {ps : List Str} {sp : Sp} (c : CalX P w K mg base k x ps sp) : CalE P w K mg base k x ps sp := by
  obtain ⟨f, fd, F, r⟩ := c.ex
  exact ⟨f, fd, fn_e F, r⟩
theorem MtX.e {P : Program} {w : World} {K : PySem.W.Frag} {mg : Str → Option Value} {base : Heap} {k : Nat} {C : Addr} {m : Str} {ps : List Str} {sp : Sp} (c : MtX P w K mg base k C m ps sp) : MtE P w K mg base k C m ps sp := by
  obtain ⟨f, fd, F, r⟩ := c.ex
  exact ⟨f, fd, fn_e F, r⟩
section
variable {X : Cx} {j k : Nat} {x f m : Str} {C : Addr} {p pos pos' apos : Pos} {o e : Expr} {es : List Expr} {ps : List Str} {sp : Sp} {ta te : TE} {t : TA} {W : WX} {E : L2.St → XK}
/-- raise C(e), its context None -/
theorem ps_rsN (c : ErE X.prog X.w X.K X.mg X.base x C f) (hr : Room j X.A) (hk : 2 ≤ j) (hc : X.calm = true) (tk : L2N.Takes X W) (hg : Gl X x) (he : PE X e te) (hdb : (x == ("__debug__" : Str)) = false := by decide)
    (hst : starEach [e] X.env = (false, eval e X.env) :: starEach [] X.env := by rfl) (hpl : (backTo pos (starEach [] X.env)).any (·.1) = false := by rfl) :
    PS X (.Raise (some (.Call (.Name x p) [e] [] pos)) none pos') (tRs W C f te) := by
  have R := L2N.ps_raise (pos := pos') hc tk (pmk_er (p := p) (pos := pos) c hr hk hg he hdb hst hpl)
  exact ⟨fun pins s σ H D I h => R.run pins s σ H D I h⟩
/-- C.m(e, ..), errors of known context passing -/
theorem pe_cMX {pl : Sem Bool} (he : PE X o ta) (r : ∀ f, Meth X.K C m f → ClFn X.K C m f) (c : MtX X.prog X.w X.K X.mg X.base k C m ps sp) (hr : Room j X.A) (hj : k ≤ j) (hx : ∀ σ, PassesAt (L2N.CX X.prog X.w) X σ (E σ)) (ha : PA X (e :: es) t)
    (hst : starEach (e :: es) X.env = (false, eval e X.env) :: starEach es X.env := by rfl) (hpl : (backTo pos (starEach es X.env)).any (·.1) = false := by rfl)
    (ht : eval (.Call (.Attribute o m apos) (e :: es) [] pos) X.env = (do
      let ov ← eval o X.env
      standAt apos.atName
      let (f, first) ← holding [ov] (getMethod ov m pl)
      callWith pos f first (backTo pos (starEach (e :: es) X.env)) (backToKw pos (keywordEach [] X.env))) := by rfl) :
    PE X (.Call (.Attribute o m apos) (e :: es) [] pos) (tCFnE C sp E ta t) := by
  obtain ⟨f, fd, F, hm, b⟩ := c.ex
  refine ⟨fun pins s σ H Q I h => ?_⟩
  refine PySem.W.methodCall_KW (pl := pl) (thn (he.run pins s σ H _ I h) fun u s1 ⟨x, H1, I1, rx, ex, q⟩ => ?_) ht
  subst ex
  obtain rfl : u = Value.ref C := rx
  obtain ⟨mc, r1, r2⟩ := (r f hm).rd
  refine PySem.W.method_cls I1.kIn (r f hm).ga (PySem.W.cls_value I1.kIn r1 r2 rfl ?_)
  have I2 : Inv X pins σ H1 { s1 with toks := s1.toks + 1 } := I1.tok _
  refine PySem.W.callWith_K (h₀ := X.base) I2.ok.mod.kin hm.kp (thn (ha.run pos pins _ σ H1 _ I2 q) fun us s3 ⟨vs, H2, I3, rv, q2⟩ => ⟨I3.kIn, ?_⟩) hst hpl
  exact run_fnS F (hr.mono hj) b (hx σ) I3 rv q2
end
/-! ### try: .. except (A, B) as e: .. -/
/-- what the clause 'except (c1, c2) as n' wishes, slot i for n: it takes all that comes -/
def wTup (K : PySem.W.Frag) (len i : Nat) (C1 C2 : Addr) (ts : Addr → Obj → TS) (D : Ends) : WX := fun cls d σ H => PySem.W.exmAny K cls [.ref C1, .ref C2] = some true ∧
  (σ.length = len → ∀ (a : Addr) (oe : Obj), H a = none → oe.cls = cls → oe.dict = d → ts a oe { nx := fun σ' H' => D.nx (σ'.set i none) H', rt := D.rt, bk := fun σ' H' => D.bk (σ'.set i none) H', ct := fun σ' H' => D.ct (σ'.set i none) H' } (σ.set i (some (.ref a))) H)
theorem fly_kept {B h h' : Heap} {l : List Env} {e : Addr} {Z : Obj → Prop} (k : ∀ b o, h.get? b = some o → h'.get? b = some o) (x : HandSPX.FlyingZ B l e Z h) : HandSPX.FlyingZ B l e Z h' := by
  obtain ⟨k1, k2, k3, oe, vs, T, oT, ts, he, hz, hd, h1, hb, hne, hT, hTd, h3⟩ := x
  exact ⟨fun b o q => k b o (k1 b o q), k2, k3.of_keeps fun b o q _ => ⟨o, k b o q, rfl⟩, oe, vs, T, oT, ts, k _ _ he, hz, hd, h1, hb, hne, k _ _ hT, hTd, h3⟩
section
variable {X : Cx} {x1 x2 n : Str} {C1 C2 : Addr} {i kk : Nat} {body suite : List Stmt} {b₀ : Stmt} {p1 p2 tpos pos pos' : Pos} {tb : WX → TS} {ts : Addr → Obj → TS}
theorem ps_try_tup (hs : X.stack = X.env :: X.outer) (hf : X.env.frame = some X.env.locals) (hex : X.ex = []) (hN : X.N.Nodup) (hi : X.N[i]? = some n) (hln : X.env.kindOf n = some .local)
    (g1 : Gl X x1) (g2 : Gl X x2) (m1 : X.mg x1 = some (.ref C1)) (m2 : X.mg x2 = some (.ref C2)) (n1 : (x1 == ("__debug__" : Str)) = false) (n2 : (x2 == ("__debug__" : Str)) = false)
    (hb : ∀ (W : WX) (pn : List (Addr × Obj)) (xe : Value → Shared → Prop), L2.Takes (X.tr pn xe) W → PassesOwn (model X.prog X.w) X.A X.env xe → PSs (X.tr pn xe) body (tb W))
    (hsu : ∀ (a : Addr) (oe : Obj) (pn : List (Addr × Obj)), (∃ vs, oe.data = .fields vs) → X.s_0.heap.get? a = none → PSs (X.suite a ((a, oe) :: pn)) (b₀ :: suite) (ts a oe)) :
    PS X (.Try body [.ExceptHandler (some (.Tuple [.Name x1 p1, .Name x2 p2] kk tpos)) (some n) (b₀ :: suite) pos'] [] [] pos) (fun D σ H => tb (wTup X.K X.N.length i C1 C2 ts D) D σ H) := by
  refine ⟨fun pins s σ H D I h => ?_⟩
  have ok := I.ok
  have hfr : X.A.frames = some (X.env :: X.outer) := by rw [ok.frames, hs]
  have hloc : Loc X.env.scope n := .inl hln
  refine wpAny_Try_except ?_
  refine wpAny_mono ((hb (wTup X.K X.N.length i C1 C2 ts D) (X.pn ++ pins) (fun e s₁ => wpAny (model X.prog X.w) X.A (noteFrame e X.env) (fun _ s₂ => wpAny (model X.prog X.w) X.A (setFlight e none) (fun _ s₃ =>
    wpAny (model X.prog X.w) X.A (handleBy e X.env [.ExceptHandler (some (.Tuple [.Name x1 p1, .Name x2 p2] kk tpos)) (some n) (b₀ :: suite) pos']) (SP X pins D) X.xe s₃) X.xe s₂) X.xe s₁) (fun u s' xx => ?_) PassesOwn.looking).run [] s σ H D (I.toTry _) h) (fun f s1 hsp => ?_) (fun e s1 he => he)
  · -- the catch
    obtain ⟨a, B, sI, pins', σ', H', cls, d, rfl, J', nb, up, sky, na, os, ag, w⟩ := xx
    have J : Inv X pins σ' H' sI := J'.ofTry ok
    have sky' : L2.Sky B (X.env :: X.outer) a (L2.Zc cls d) X.env.locals s'.heap := by rw [← hs]; exact sky
    show wpAny (model X.prog X.w) X.A (noteFrame (.ref a) X.env) _ _ _
    refine L2.Sky.land L2.Zc.steady hfr hf sky' fun h3 fl3 up3 => ?_
    have J3 : Inv X pins σ' H' { s' with heap := h3 } := J.landed nb fl3.1 (up.trans up3) os ag
    obtain ⟨oe3, vs3, he3, hz3, hd3⟩ := fl3.there
    have notFr : ∀ {h : Heap} {o : Obj} {vs : Array Value}, h.FunFrames B (X.env :: X.outer) → h.get? a = some o → o.data = .fields vs → a ∉ frs (X.env :: X.outer) := fun {h o vs} ff e dd hm => by
      obtain ⟨_, o', e', hnf⟩ := ff.mem hm
      rw [e] at e'; cases e'
      exact hnf _ dd
    have nfr := notFr fl3.2.2.1 he3 hd3
    have nL : a ≠ X.env.locals := fun z => nfr (List.mem_filterMap.mpr ⟨X.env, List.mem_cons_self, by rw [hf, z]⟩)
    have nF : a ∉ X.fs := fun hm => by
      obtain ⟨e, he, q⟩ := List.mem_filterMap.mp hm
      exact nfr (List.mem_filterMap.mpr ⟨e, List.mem_cons_of_mem _ he, q⟩)
    have nI : sI.heap.get? a = none := by
      cases e : sI.heap.get? a with
      | none => rfl
      | some o =>
        have z := nb a o e (by rw [hs]; exact nfr)
        rw [fl3.2.1] at z
        cases z
    have n0 : X.s_0.heap.get? a = none := by
      cases e : X.s_0.heap.get? a with
      | none => rfl
      | some o =>
        obtain ⟨o', z⟩ := J.base.there a o e (by rw [hex]; simp)
        rw [nI] at z
        cases z
    have S3 := J3.suite he3 hd3 na nL nF
    refine wpAny_handleBy_cons (codeAny_handlers_test ?_) (by intro q; cases q)
    refine Tuple_ (Calls.spliced_cons (ld_glob (X := X.suite a ((a, oe3) :: (X.pn ++ pins))) S3 g1 m1 (Calls.spliced_cons (ld_glob (X := X.suite a ((a, oe3) :: (X.pn ++ pins))) S3 g2 m2 (Calls.spliced_nil ?_) n2)) n1))
    refine wpAny_newObj_type ?_ (by show 2 ≤ sizeLine; decide)
    have kp : ∀ b o, h3.get? b = some o → (h3.push { cls := .type "tuple", data := .seq [Value.ref C1, Value.ref C2].toArray }).get? b = some o := fun b o e => Heap.get?_push_of_some _ e
    have flp := fly_kept kp fl3
    have J3p : Inv X pins σ' H' { s' with heap := h3.push { cls := .type "tuple", data := .seq [Value.ref C1, Value.ref C2].toArray } } := J3.kept (t' := s'.toks) kp
    have LT : PySem.W.Looks (model X.prog X.w) (h3.push { cls := .type "tuple", data := .seq [Value.ref C1, Value.ref C2].toArray }) (typeOf (.ref a)) cls := fun A Q E s k q => wpAny_typeOf_ref (k _ _ (kp _ _ he3)) (by rw [hz3.1]; exact q)
    have LM := PySem.W.exm_tup2 (M := model X.prog X.w) J3p.kIn LT (tp := h3.objs.size) (Heap.get?_push_size _ rfl) w.1
    refine LM.here ?_
    refine codeAny_handlers_suite_as ?_
    refine HandSPX.lands_againZ flp fun h4 fl4 up4 => ?_
    have J4 : Inv X pins σ' H' { s' with heap := h4 } := J.landed nb fl4.1 (((up.trans up3).trans (Heap.UpToSlots.of_keeps kp)).trans up4) os ag
    obtain ⟨oe4, vs4, he4, hz4, hd4⟩ := fl4.there
    have S4 := J4.suite he4 hd4 na nL nF
    refine store_ok (X := X.suite a ((a, oe4) :: (X.pn ++ pins))) (v := .ref a) S4 hN hi hloc rfl (fun s5 S5 => ?_) (.inr hln)
    refine wpAny_mono ((hsu a oe4 (X.pn ++ pins) ⟨_, hd4⟩ n0).run [] s5 _ H' _ S5 (w.2 J.len a oe4 na hz4.1 hz4.2)) (fun f s6 hsp => ?_) (fun _ _ z => False.elim z)
    have end_ : ∀ {σ6 : L2.St} {H6 : Hp} {Q : Shared → Prop}, Inv (X.suite a ((a, oe4) :: (X.pn ++ pins))) [] σ6 H6 s6 → (∀ s7, Inv X pins (σ6.set i none) H6 s7 → Q s7) →
        wpAny (model X.prog X.w) X.A (do bindName X.env n .none; unbindBehindTheSuite X.env n pos') (fun _ s7 => Q s7) X.xe s6 := fun {σ6 H6 Q} S6 hq => gone_ok (S6.unsuite ok) hN hi hln hq
    cases f with
    | next =>
      obtain ⟨σ6, H6, S6, q6⟩ := hsp
      exact end_ S6 fun s7 J7 => ⟨_, _, J7, q6⟩
    | brk =>
      obtain ⟨σ6, H6, S6, q6⟩ := hsp
      exact end_ S6 fun s7 J7 => ⟨_, _, J7, q6⟩
    | cont =>
      obtain ⟨σ6, H6, S6, q6⟩ := hsp
      exact end_ S6 fun s7 J7 => ⟨_, _, J7, q6⟩
    | ret u =>
      obtain ⟨v6, σ6, H6, S6, r6, q6⟩ := hsp
      exact end_ S6 fun s7 J7 => ⟨_, _, _, J7, r6, q6⟩
  · cases f with
    | next =>
      obtain ⟨σ', H', J', q⟩ := hsp
      exact wpAny_execs_nil ⟨σ', H', J'.ofTry ok, q⟩
    | brk =>
      obtain ⟨σ', H', J', q⟩ := hsp
      exact ⟨σ', H', J'.ofTry ok, q⟩
    | cont =>
      obtain ⟨σ', H', J', q⟩ := hsp
      exact ⟨σ', H', J'.ofTry ok, q⟩
    | ret u =>
      obtain ⟨v, σ', H', J', r, q⟩ := hsp
      exact ⟨v, σ', H', J'.ofTry ok, r, q⟩
end
end Jo

set_option Elab.async false
set_option linter.all false
set_option maxRecDepth 100000
set_option maxHeartbeats 2000000
/-! Constructors by keywords, or by one argument and keywords, that may let errors out. -/
namespace Jo
open PySem PySem.Spec PyProof.Rows L2
/-- as Mth; also one argument beside self, the rest by keywords -/
structure MthQ (K : PySem.W.Frag) (C : Addr) (m qual : Str) (st : Stmt) (ps : List Str) : Prop where
  ex : ∃ (f : Addr) (fd : FuncData), Fun K m qual st f fd ∧ Meth K C m f ∧ Binds K fd ps [] ∧
    (∀ (s : Shared) (u : Value) (us : List Value), (u :: us).length = ps.length → BindsTo s fd ⟨[u], (ps.drop 1).reverse.zip us.reverse⟩ (ps.zip (u :: us))) ∧
    (∀ (s : Shared) (u v : Value) (us : List Value), (u :: v :: us).length = ps.length → BindsTo s fd ⟨[u, v], (ps.drop 2).zip us⟩ (ps.zip (u :: v :: us)))
structure MtQ (CX : CXT) (P : Program) (w : World) (K : PySem.W.Frag) (mg : Str → Option Value) (base : Heap) (k : Nat) (C : Addr) (m : Str) (ps : List Str) (sp : Sp) : Prop where
  ex : ∃ (f : Addr) (fd : FuncData), FnOk P w K mg base CX k f fd ps sp ∧ Meth K C m f ∧ Binds K fd ps [] ∧
    (∀ (s : Shared) (u : Value) (us : List Value), (u :: us).length = ps.length → BindsTo s fd ⟨[u], (ps.drop 1).reverse.zip us.reverse⟩ (ps.zip (u :: us))) ∧
    (∀ (s : Shared) (u v : Value) (us : List Value), (u :: v :: us).length = ps.length → BindsTo s fd ⟨[u, v], (ps.drop 2).zip us⟩ (ps.zip (u :: v :: us)))
theorem MthQ.m {K : PySem.W.Frag} {C : Addr} {m qual : Str} {st : Stmt} {ps : List Str} (D : MthQ K C m qual st ps) : Mth K C m qual st ps := let ⟨f, fd, F, hm, hb, hk, _⟩ := D.ex; ⟨f, fd, F, hm, hb, hk⟩
section
variable {P : Program} {w : World} {K : PySem.W.Frag} {mg : Str → Option Value} {base : Heap} {m qual : Str} {st : Stmt} {N ps : List Str} {sp : Sp} {k : Nat} {C : Addr}
theorem MthQ.okF (D : MthQ K C m qual st ps) (S : FnScope N ps (defScope st)) (len : ∀ vs H Q E, sp vs H Q E → vs.length = ps.length)
    (body : ∀ (f : Addr) (cdv : Value) (A : Around) (fr : List Env) (s : Shared) (H : Hp) (vs : List V) (Q : VK) (E : XK),
      Room k (A.deeper (envOfC qual (defScope st) s.heap.objs.size f cdv)) → sp vs H Q E →
      ∃ t, PSs (cxOf CX0 P w K mg base N qual (defScope st) f cdv A fr s H E).nox (defBody st) t ∧ t { nx := fun _ H' => Q .non H', rt := Q } (start N vs) H) :
    MtQ CX0 P w K mg base (k + 1) C m ps sp := by
  obtain ⟨f, fd, F, hm, hb, hk, hq⟩ := D.ex
  exact ⟨f, fd, F.ok S len (body f), hm, hb, hk, hq⟩
theorem MthQ.okX (D : MthQ K C m qual st ps) (S : FnScope N ps (defScope st)) (len : ∀ vs H Q E, sp vs H Q E → vs.length = ps.length)
    (body : ∀ (f : Addr) (cdv : Value) (A : Around) (fr : List Env) (s : Shared) (H : Hp) (vs : List V) (Q : VK) (E : XK),
      Room k (A.deeper (envOfC qual (defScope st) s.heap.objs.size f cdv)) → sp vs H Q E →
      ∃ t, PSs (cxOf (L2N.CX P w) P w K mg base N qual (defScope st) f cdv A fr s H E) (defBody st) t ∧ t { nx := fun _ H' => Q .non H', rt := Q } (start N vs) H) :
    MtQ (L2N.CX P w) P w K mg base (k + 1) C m ps sp := by
  obtain ⟨f, fd, F, hm, hb, hk, hq⟩ := D.ex
  exact ⟨f, fd, Fun.okN F S len (body f), hm, hb, hk, hq⟩
theorem MtQ.e (c : MtQ (L2N.CX P w) P w K mg base k C m ps sp) : MtQ (L2.CX P w) P w K mg base k C m ps sp := by
  obtain ⟨f, fd, F, r⟩ := c.ex
  exact ⟨f, fd, fn_e F, r⟩
theorem MtQ.me (c : MtQ (L2.CX P w) P w K mg base k C m ps sp) : MtE P w K mg base k C m ps sp := by
  obtain ⟨f, fd, F, hm, hb, _⟩ := c.ex
  exact ⟨f, fd, F, hm, hb⟩
end
section
variable {X : Cx} {CX : CXT} {j k : Nat} {ps : List Str} {sp : Sp} {x : Str} {p pos : Pos} {e : Expr} {kws : List Keyword} {t ta : TA} {C : Addr} {E : XK}
/-- C(b=.., a=..): the parameters by name, the last ahead -/
theorem pe_qK {fi : Addr} (M : Mk X.K C fi) (c : MtQ CX X.prog X.w X.K X.mg X.base k C "__init__" ps sp) (hr : Room j X.A) (hk : k + 1 ≤ j) (hx : Passes CX X E) (hg : Gl X x) (hm : X.mg x = some (.ref C)) {n : Nat} (hn : ps.length = n + 1)
    (hkw : PK X kws t) (hall : (backToKw pos (keywordEach kws X.env)).all (·.1.isSome) = true := by rfl)
    (hks : (backToKw pos (keywordEach kws X.env)).filterMap (·.1) = (ps.drop 1).reverse := by rfl)
    (hdb : (x == ("__debug__" : Str)) = false := by decide)
    (hpl : ((backTo pos (starEach [] X.env)).any (·.1) || (backToKw pos (keywordEach kws X.env)).any (·.1.isNone)) = false := by rfl) :
    PE X (.Call (.Name x p) [] kws pos) (tMakeK C 0 (ps.drop 1).reverse.length sp (fun vs zs => vs ++ zs.reverse) E tNil t) := by
  obtain ⟨f, fd, F, mt, _, b, _⟩ := c.ex
  have ef : fi = f := by
    have e1 := M.init.symm.trans mt.at_
    cases e1
    rfl
  subst ef
  refine pe_makeK0 (g := fun us ws => us ++ ws.reverse) M F (hr.mono hk) hg hm ⟨fun s us ws X l1 l2 => ?_, fun r1 r2 => r1.append r2.reverse⟩ hx hkw hall hks hdb hpl
  match us, l1 with
  | [u], _ =>
    have h3 : (u :: ws.reverse).length = ps.length := by
      rw [List.length_reverse, List.length_drop] at l2
      rw [List.length_cons, List.length_reverse]
      omega
    have bb := b s u ws.reverse h3
    rw [List.reverse_reverse] at bb
    exact bb
/-- C(e, b=..) -/
theorem pe_qM {fi : Addr} (M : Mk X.K C fi) (c : MtQ CX X.prog X.w X.K X.mg X.base k C "__init__" ps sp) (hr : Room j X.A) (hk : k + 1 ≤ j) (hx : Passes CX X E) (hg : Gl X x) (hm : X.mg x = some (.ref C)) {n : Nat} (hn : ps.length = n + 2)
    (ha : PA X [e] ta) (hkw : PK X kws t) (hall : (backToKw pos (keywordEach kws X.env)).all (·.1.isSome) = true := by rfl)
    (hks : (backToKw pos (keywordEach kws X.env)).filterMap (·.1) = ps.drop 2 := by rfl)
    (hdb : (x == ("__debug__" : Str)) = false := by decide) (he : starEach [e] X.env = (false, eval e X.env) :: starEach [] X.env := by rfl)
    (hpl : ((backTo pos (starEach [e] X.env)).any (·.1) || (backToKw pos (keywordEach kws X.env)).any (·.1.isNone)) = false := by rfl) :
    PE X (.Call (.Name x p) [e] kws pos) (tMakeK C 1 (ps.drop 2).length sp (fun vs zs => vs ++ zs) E ta t) := by
  obtain ⟨f, fd, F, mt, _, _, b⟩ := c.ex
  have ef : fi = f := by
    have e1 := M.init.symm.trans mt.at_
    cases e1
    rfl
  subst ef
  refine pe_makeK (n := 1) (g := fun us ws => us ++ ws) M F (hr.mono hk) hg hm ⟨fun s us ws X l1 l2 => ?_, fun r1 r2 => r1.append r2⟩ hx ha hkw hall hks hdb he hpl
  match us, l1 with
  | [u, v], _ =>
    refine b s u v ws ?_
    rw [List.length_drop] at l2
    rw [List.length_cons, List.length_cons]
    omega
end
end Jo

set_option Elab.async false
set_option linter.all false
set_option maxRecDepth 100000
set_option maxHeartbeats 2000000
/-! The error that is handed on: its class, its field; what f makes of a lambda. -/
namespace Jo
open PySem PySem.Spec PyProof.Rows L2 ClX
open L2H (RoomH roomH_of)
open LamX (GivesTo CodeO)
/-- at a stands an error that is handled, of the class at C, with y in its field f -/
def CauW (H : Hp) (a C : Addr) (f : Str) (y : V) : Prop := ∃ (d : Addr) (o : Obj), H a = some (.frz o (exq a (.ref C) (some d))) ∧ H d = some (.xd [(f, y)])
theorem cau_of {H : Hp} {a C d : Addr} {oe : Obj} {f : Str} {y : V} (na : H a = none) (hd : H d = some (.xd [(f, y)])) (e1 : oe.cls = .ref C) (e2 : oe.dict = some d) : CauW (upd H a (frq a oe)) a C f y :=
  ⟨d, oe, by rw [upd_same]; unfold frq; rw [e1, e2], by rw [upd_ne (ne_of_none hd na)]; exact hd⟩
section
variable {X : Cx} {pins : List (Addr × Obj)} {σ : L2.St} {H : Hp} {s : Shared} {a C : Addr} {f : Str} {y : V} {pos : Pos} {e : Expr}
theorem CauW.same {H H' : Hp} (h : CauW H a C f y) (s : Same H H') : CauW H' a C f y := let ⟨d, o, e1, e2⟩ := h; ⟨d, o, s _ _ e1, s _ _ e2⟩
theorem CauW.inst (h : CauW H a C f y) (I : Inv X pins σ H s) : ∃ (oe od : Obj) (mA : Str → Option Value), PySem.W.InstAt s.heap a oe C (some od) ∧ (∀ x, PySem.W.lookIn x od = some (mA x)) ∧ ∀ g, RelO (List.lookup g [(f, y)]) (mA g) := by
  obtain ⟨d, o, e1, e2⟩ := h
  obtain ⟨he0, ⟨oe, vs, he, hc, hd, hv⟩, _⟩ := (show ObjOk X.prog X.w H s.heap a (.frz o (exq a (.ref C) (some d))) from I.hok _ _ e1)
  obtain ⟨mA, hns, rel⟩ := (show ObjOk X.prog X.w H s.heap d (.xd [(f, y)]) from I.hok _ _ e2)
  obtain ⟨od, hod, hl⟩ := lookIn_ns hns
  refine ⟨oe, od, mA, ⟨he, hc, ?_, ?_⟩, hl, rel⟩
  · obtain ⟨c, dd, dt, sl⟩ := oe
    dsimp only at hv
    subst hv
    rfl
  · rw [hd]
    exact hod
/-- isinstance(e, c) of an error that is handled -/
def rIsW (K : PySem.W.Frag) : List V → Hp → VK → Prop := fun xs H Q => ∃ (a C B : Addr) (b newId initId : String) (bmB : List Value) (f : Str) (y c : V) (u : Value) (r : Bool), xs = [.ref a, c] ∧ CauW H a C f y ∧
  EC K C B newId bmB ∧ EBase b newId initId bmB ∧ CW K ∧ ClsV c u ∧ PySem.W.kitOne K (.ref C) u = some r ∧ Q (.bl r) H
theorem call_isW : CallR X (.builtin "isinstance") (rIsW X.K) := by
  intro pins s σ H xs us Q I r h
  obtain ⟨a, C, B, b, newId, initId, bmB, f, y, c, u, v, rfl, he, T, eb, cw, k, ek, q⟩ := h
  obtain ⟨u1, u2, rfl, r1, r2⟩ := vals2 r
  have e2 := k.eq r2
  subst e2
  cases (show u1 = Value.ref a from r1)
  obtain ⟨oe, od, mA, J, _, _⟩ := he.inst I
  obtain ⟨cd, hcd, _, _⟩ := T.cls
  refine PySem.W.kia_one (PySem.W.kitx_exc (ox := oe) (od := some od) ?_ T.ga T.gg (T.exc eb) T.cl cw.get cw.take (T.obj eb)) I.kIn J ek (fun z => nomatch z) fun tk => ⟨.bl v, H, I.tok tk, rfl, q⟩
  rw [hcd] <;> rfl
/-- e.f -/
def tWf (K : PySem.W.Frag) (f : Str) (te : TE) : TE := fun σ H Q => te σ H fun x H1 => ∃ (a C B : Addr) (b newId initId : String) (bmB : List Value) (y : V), x = .ref a ∧ CauW H1 a C f y ∧
  EC K C B newId bmB ∧ EBase b newId initId bmB ∧ PySem.W.findIn K (.ref C) f = some none ∧ Q y H1
theorem pe_wf {te : TE} (he : PE X e te) (hb : attributeBase e f X.env (eval e X.env) = eval e X.env := by rfl) : PE X (.Attribute e f pos) (tWf X.K f te) := by
  refine ⟨fun pins s σ H Q I h => attr_of hb (thn (he.run pins s σ H _ I h) fun u s1 hh => ?_)⟩
  obtain ⟨x, H1, I1, rx, a, C, B, b, newId, initId, bmB, y, ex, ha, T, eb, hno, q⟩ := hh
  subst ex
  obtain rfl : u = Value.ref a := rx
  obtain ⟨oe, od, mA, J, hl, rel⟩ := ha.inst I1
  obtain ⟨u, hu, ru⟩ := RelO.some_of (v := y) (o := mA f) (by
    have z := rel f
    rw [show List.lookup f [(f, y)] = some y by simp [List.lookup]] at z
    exact z)
  exact HandSPX.exc_get I1.kIn J T.ga T.gg (T.exc eb) (PySem.W.findObj_own T.hd hno rfl (by rw [hl, hu])) (handed_of ru) ⟨y, H1, I1.tok _, ru, q⟩
end
/-- try: a() / except (c1, c2) as e: return told(e) / return ('told',); sp: what told promises -/
def TFault (K : PySem.W.Frag) (C1 C2 : Addr) (sp : Sp) : (XK → Hp → VK → Prop) → Hp → VK → Prop := fun tl H Q =>
  tl (fun cls d H' => PySem.W.exmAny K cls [.ref C1, .ref C2] = some true ∧ ∀ (a : Addr) (oe : Obj), H' a = none → oe.cls = cls → oe.dict = d → sp [.ref a] (upd H' a (frq a oe)) (fun v H2 => Q v (del H2 a)) E0) H
    fun _ H' => [V.str "told"].length ≤ sizeLine ∧ ∀ p, H' p = none → Q (.ref p) (upd H' p (.tup [V.str "told"]))
section
variable {X : Cx}
theorem fault_gives {Ng ps : List Str} {x a e q x1 x2 td : Str} {sg : Scope} {g C1 C2 : Addr} {cdg : Value} {j k kk k2 j2 : Nat} {sp : Sp} {p1 p2 p3 p4 p5 p6 p7 p8 p9 p10 p11 p12 p13 p14 p15 : Pos}
    (hN : Ng.Nodup) (h0 : ∀ f : Addr, (L2.start Ng [V.ref f])[0]? = some (some (V.ref f))) (hi : Ng[1]? = some e) (hl : (L2.start Ng [V.ref 0]).length = 2) (hln : sg.names.lookup e = some .local)
    (g1 : sg.names.lookup x1 = some .globalImplicit) (g2 : sg.names.lookup x2 = some .globalImplicit) (g3 : sg.names.lookup td = some .globalImplicit) (m1 : X.mg x1 = some (.ref C1)) (m2 : X.mg x2 = some (.ref C2))
    (n1 : (x1 == ("__debug__" : Str)) = false) (n2 : (x2 == ("__debug__" : Str)) = false) (n3 : (td == ("__debug__" : Str)) = false) (n4 : (e == ("__debug__" : Str)) = false) (n5 : (e == ("__classdict__" : Str)) = false)
    (c : CalW true X.prog X.w X.K X.mg X.base k td ps sp) (hr : Room (j + 1) X.A) (hk : k ≤ j) (hgd : X.A.guards = some []) :
    GivesTo X Ng x sg g cdg [.Try [.Expr (.Call (.Name a p1) [] [] p2) p3] [.ExceptHandler (some (.Tuple [.Name x1 p4, .Name x2 p5] kk p6)) (some e) [.Return (some (.Call (.Name td p7) [.Name e p8] [] p9)) p10] p11] [] [] p12,
      .Return (some (.Tuple [.Constant (.str "told") j2 p13] k2 p14)) p15] a q (TFault X.K C1 C2 sp) := by
  intro f c' s H Q tl act hc h
  let Y : Cx := (cxOf C8.CX0 X.prog X.w X.K X.mg X.base Ng x sg g cdg X.A X.stack s H C8.E0).nox
  have hrY : RoomH j Y.A := roomH_of (hr.deeper _)
  refine ⟨_, pss_cons (ps_try_tup (X := Y) (C1 := C1) (C2 := C2) (i := 1) (tb := fun W D σ H => ∃ Ech : XK, (∀ cls d σ' H', Ech cls d H' → W cls d σ' H') ∧ σ[0]? = some (some (.ref f)) ∧ H c' = some (CodeO c' q) ∧ tl Ech H fun _ H' => D.nx σ H')
      (ts := fun a oe => tRet (tTold 1 a oe sp))
      rfl rfl rfl hN hi hln g1 g2 m1 m2 n1 n2 (fun W pn xe tk _ => ?_) (fun a oe pn hv n0 => pss_one (ps_ret (pe_told (X := Y) (i := 1) (n := e) c hrY hk (fun _ => hgd) g3 n0 hv hi (.inl hln) n3 n4 n5))))
    (pss_one (ps_ret (pe_tup (pa_cons pe_str pa_nil)))), ?_⟩
  · refine ⟨fun pins s' σ H' D I h' => ?_⟩
    obtain ⟨Ech, hW, h1, h2, h3⟩ := h'
    have hp := act W pn xe Ech p1 p2 tk hW
    have hq := pss_one (ps_expr (pos := p3) hp)
    exact hq.run pins s' σ H' D I ⟨h1, h2, h3⟩
  · refine ⟨fun cls d H' => PySem.W.exmAny X.K cls [.ref C1, .ref C2] = some true ∧ ∀ (a : Addr) (oe : Obj), H' a = none → oe.cls = cls → oe.dict = d → sp [.ref a] (upd H' a (frq a oe)) (fun v H2 => Q v (del H2 a)) E0,
      fun cls d σ' H' hE => ?_, h0 f, hc, ?_⟩
    · obtain ⟨e1, e2⟩ := hE
      refine ⟨e1, fun hlen a oe na h1 h2 => ⟨?_, e2 a oe na h1 h2⟩⟩
      have hlen' : 1 < σ'.length := by
        rw [hlen]
        exact (List.getElem?_eq_some_iff.mp hi).1
      rw [List.getElem?_set_self hlen']
    · exact h
end
end Jo

set_option Elab.async false
set_option linter.all false
set_option maxRecDepth 100000
set_option maxHeartbeats 2000000
/-! One of two readings; errors made in a suite; f(lambda: ..) by name. -/
namespace Jo
open PySem PySem.Spec PyProof.Rows L2 ClX
open L2H (RoomH roomH_of)
open LamX (GivesTo CodeO TabB Tabs tLam LamS lamSB lamS_by lamEnv lamCx pe_lamcall ExtN TabS)
theorem pe_or {X : Cx} {e : Expr} {t1 t2 : TE} (h1 : PE X e t1) (h2 : PE X e t2) : PE X e (fun σ H Q => t1 σ H Q ∨ t2 σ H Q) := ⟨fun pins s σ H Q I h => h.elim (h1.run pins s σ H Q I) (h2.run pins s σ H Q I)⟩
theorem roomH_make {k : Nat} {A : Around} (r : RoomH (k + 1) A) (C : Addr) (us : List Value) (kw : List (Str × Value)) : RoomH k (A.under (.builtin "type.__call__" ⟨.ref C :: us, kw⟩)) :=
  ⟨by have := r.dp; rw [make_depth]; omega, by have := r.un; rw [make_units]; omega⟩
section
variable {X : Cx} {es : List Expr} {e : Expr} {ta : TA} {p pos : Pos} {C B : Addr} {newId initId b : String} {bmB : List Value}
/-- C(e) in a suite, ahead of a raise .. from None -/
theorem pmk5_e {x : Str} {fI : Addr} {k : Nat} {fd : FuncData} {ps : List Str} {sp : Sp} (T : EC X.K C B newId bmB) (b0 : EBase b newId initId bmB) (iC : PySem.W.findIn X.K (.ref C) "__init__" = some (some (.ref fI))) (tI : PySem.W.typeIn X.K (.ref fI) = some (.type "function"))
    (F1 : FnW false X.prog X.w X.K X.mg X.base k fI fd ps sp) (hr : RoomH (k + 1) X.A) (hb : L2.Binds X.K fd ps []) (hg : Gl X x) (hm : X.mg x = some (.ref C)) (ha : PA X (e :: es) ta)
    (hdb : (x == ("__debug__" : Str)) = false := by decide) (he : starEach (e :: es) X.env = (false, eval e X.env) :: starEach es X.env := by rfl) (hpl : (backTo pos (starEach es X.env)).any (·.1) = false := by rfl) :
    L2H.PMk5 X (.Call (.Name x p) (e :: es) [] pos) (tMkO C sp [] ta) := by
  intro pins s σ H Q I h
  obtain ⟨nm, q, N, bs, sn, sub, ab, col, dd, k0, k1, k2, k3, k5, hC⟩ := T.look
  refine wpAny_Call_Name_kw (ld_glob I hg hm ?_ hdb)
  refine PySem.W.callWith_K (h₀ := X.base) I.ok.mod.kin T.kp (thn (ha.run pos pins s σ H _ I h) fun us s1 ⟨vs, H1, I1, r1, hz, q1⟩ => ⟨I1.kIn, ?_⟩) he hpl
  show wpAny _ _ (call (.ref C) us) _ _ _
  obtain ⟨hp, g, dr, tk, os⟩ := s1
  have hget0 : ((hp.push (PySem.W.kdv_tup us)).push (PySem.HandSPX.excO C hp.objs.size)).get? (hp.objs.size + 1) = some (PySem.HandSPX.excO C hp.objs.size) := by heap_get
  let c : Addr := hp.objs.size + 1
  let hq2 : Heap := (hp.push (PySem.W.kdv_tup us)).push (PySem.HandSPX.excO C hp.objs.size)
  have hsz : hp.objs.size ≤ c := Nat.le_succ _
  have hn : H1 c = none := I1.hok.fresh hsz
  have hq := q1 c hn
  rw [List.append_nil] at hq
  have kk : ∀ b o, hp.get? b = some o → hq2.get? b = some o := fun b o e => Heap.get?_push_of_some _ (Heap.get?_push_of_some _ e)
  have hget : hq2.get? c = some (PySem.HandSPX.excO C hp.objs.size) := hget0
  have I2 : Inv X pins σ (upd H1 c (exo c C none)) ⟨hq2, g, dr, tk, os⟩ := I1.laid (t' := tk) (a := c) (o := exo c C none) (h' := hq2) kk hsz (exo_ok hget)
  have r2 : Vals (V.ref c :: vs) (Value.ref c :: us) := .cons rfl r1
  have hl : (Value.ref c :: us).length = ps.length := by
    rw [← F1.len _ _ _ _ hq]
    exact r2.length.symm
  have hus : us.length ≤ sizeLine := by
    rw [← Paired.length r1, sizeLine_eq]
    omega
  have bb := hb _ (Value.ref c :: us) I2.kIn (by rw [List.append_nil]; exact hl)
  rw [List.append_nil] at bb
  refine wpAny_call (PySem.HandSPX.call_own b0.f (fun Y => by rw [List.contains_cons] <;> rfl) (I1.kIn _ _ hC) (PySem.W.looks_findIn I1.kIn iC) (fun self => PySem.W.bind_fn I1.kIn self tI) hus
    (codeAny_mono (F1.go _ X.stack _ _ ⟨Value.ref c :: us, []⟩ (Value.ref c :: us) _ _ (fun _ _ _ => False) (roomH_make hr C us []) (fun z => nomatch z) (I2.env0.make C us []) bb r2 hq) fun r s' hq' => ?_))
  cases r with
  | error er => exact (show False from hq').elim
  | ok fl =>
    cases fl with
    | ret u =>
      obtain ⟨v, H2, os2, bare2, un2, hok2, rv, ev, d, fs, ea, ed, hd1, q2⟩ := hq'
      subst ev
      obtain ⟨h2, g2, d2, t2, os'⟩ := s'
      obtain ⟨t1, hat⟩ := exo_at hok2 ea
      refine ⟨rv, mk_endN (raises_own (T.exc b0) T.ty) I1 hsz un2 kk hok2 os2 bare2 ea ed hd1 q2, fun a oe vs e1 e2 e3 => ?_⟩
      cases e1
      have e4 : h2.get? c = some oe := e2
      rw [hat] at e4
      cases e4
      cases e3
      show (4 : Nat) < 6
      decide
    | next => exact False.elim hq'
    | brk => exact False.elim hq'
    | cont => exact False.elim hq'
end
/-- .. of the class at C by its name -/
structure ErW (P : Program) (w : World) (K : PySem.W.Frag) (mg : Str → Option Value) (base : Heap) (x : Str) (C : Addr) (f : Str) : Prop where
  gm : mg x = some (.ref C)
  ec : ∃ (B : Addr) (b newId initId : String) (bmB : List Value), EC K C B newId bmB ∧ EBase b newId initId bmB
  mt : MtW false P w K mg base 1 C "__init__" ["self", f] (spIni C f)
section
variable {X : Cx} {j : Nat} {x f : Str} {C : Addr} {p pos pos' cpos : Pos} {e : Expr} {te : TE} {W : WX} {jc : Nat}
/-- raise C(e) from None, in a suite -/
theorem ps_rsFrom (c : ErW X.prog X.w X.K X.mg X.base x C f) (hr : RoomH j X.A) (hk : 2 ≤ j) (hc : L2H.HotC X) (tk : L2.Takes X W) (hg : Gl X x) (he : PE X e te) (hdb : (x == ("__debug__" : Str)) = false := by decide)
    (hst : starEach [e] X.env = (false, eval e X.env) :: starEach [] X.env := by rfl) (hpl : (backTo pos (starEach [] X.env)).any (·.1) = false := by rfl) :
    PS X (.Raise (some (.Call (.Name x p) [e] [] pos)) (some (.Constant .none jc cpos)) pos') (tRs W C f te) := by
  obtain ⟨fI, fd, F1, mt, b⟩ := c.mt.ex
  obtain ⟨B, bb, n, i, bm, T, b0⟩ := c.ec
  have tI : PySem.W.typeIn X.K (.ref fI) = some (.type "function") := beq_iff_eq.mp mt.fn
  have R := L2H.ps_raiseHN (pos := pos') (j := jc) (cpos := cpos) hc tk (pmk5_e (p := p) (pos := pos) T b0 mt.at_ tI F1 (hr.mono hk) b hg c.gm (pa_cons he pa_nil (hs := hst)) hdb hst hpl)
  exact ⟨fun pins s σ H D I h => R.run pins s σ H D I h⟩
end
end Jo

set_option Elab.async false
set_option linter.all false
set_option maxRecDepth 100000
set_option maxHeartbeats 2000000
/-! list.count of data; repr of a text; comprehensions whose turns make lambdas. -/
namespace Jo
open PySem PySem.Spec PyProof.Rows L2 ClX
open LamX (Tabs TabS ExtN CodeO codeO_ne)
section
variable {X : Cx}
/-- l.count(y), data -/
def rCntD (K : PySem.W.Frag) : V → List V → Hp → VK → Prop := fun x xs H Q => ∃ (a : Addr) (y : V) (d : PyData) (ds : List PyData), x = .ref a ∧ xs = [y] ∧ Dp K H (.ref a) (.list ds) ∧ Dp K H y d ∧ SeqAt.shaped (.list ds) = true ∧ SeqAt.shaped d = true ∧ Q (.int (ds.countP (fun z => PyData.eqv z d) : Nat)) H
theorem mt_countD (hu : X.A.units + 65 < cLine) : MtR X "list.count" (rCntD X.K) := by
  intro pins s σ H x xs v us Q I rx rxs h
  obtain ⟨a, y, d, ds, rfl, rfl, hl, hy, sl, sd, q⟩ := h
  cases rx
  obtain ⟨uy, rfl, ry⟩ := rxs.one
  obtain ⟨bs, r1⟩ := Dp.reads I d y uy hy ry
  have hxs : PyData.canLayAll0 ds = true := SeqAt.canLay_of_shaped sl
  have hroom : X.A.units + 1 + min (PyData.depthAll ds) d.depth < cLine := room_in_shaped sd hu
  cases hl with
  | lst hs ha =>
    obtain ⟨its, rv, ⟨⟨cls, dd, data, sls⟩, n, ho, hc, hdn, hdt⟩, hlen⟩ := I.list hs
    simp only at hc hdt
    subst hc hdt
    obtain ⟨as, h4⟩ := Dp.readsAll I ds _ its ha rv
    have hmap : its.map (SeqAt.readOf s.heap) = ds := SeqAt.readsAll_map ds its as hxs h4
    refine call_meets PySem.F.slot_list_count ⟨_, ho, rfl⟩ PySem.F.entry_list_count (PySem.F.args_list_count_2 _ _)
      (SeqAt.list_countAt a its.toArray n dd sls uy (fun u => PyData.eqv (SeqAt.readOf s.heap u) d)) ⟨ho, SeqAt.items_eqAt (vs := its.toArray) (show ReadsAll s.heap its.toArray.toList ds as from h4) r1 hxs (SeqAt.canLay_of_shaped sd) hroom, ?_⟩
    refine ⟨.int (ds.countP (fun z => PyData.eqv z d) : Nat), H, I.tok _, ⟨s.toks, ?_⟩, q⟩
    show Value.int ((its.toArray.toList.countP _ : Nat) : Int) s.toks = _
    rw [show its.toArray.toList = its by simp, ← hmap, List.countP_map]
    rfl
/-- repr of a text -/
theorem cr_reprS : CallR X (.builtin "repr") (fun xs H Q => ∃ z : Str, xs = [.str z] ∧ (reprText z).length ≤ sizeLine ∧ Q (.str (reprText z)) H) := by
  intro pins s σ H xs us Q I r h
  obtain ⟨z, rfl, hz, q⟩ := h
  obtain ⟨u, rfl, t, rfl⟩ := vals1 r
  exact PySem.P.repr_of_str ⟨.str _, H, I.tok _, ⟨_, rfl⟩, q⟩ hz
end
/-! ### all but the tables -/
theorem tabs_put {T : List (Addr × Str)} {G : Hp} {D : Addr} {xs : List V} {o : HO} (t : Tabs T G) (h : G D = some (.lst xs)) : Tabs T (upd G D o) := fun p hp => by
  obtain ⟨ps, h1, h2, h3⟩ := t p hp
  refine ⟨ps, by rw [upd_ne (fun z => by rw [z, h] at h1; cases h1)]; exact h1, h2, fun pos cv hc => ?_⟩
  obtain ⟨c, e1, e2⟩ := h3 pos cv hc
  refine ⟨c, e1, ?_⟩
  rw [upd_ne (fun z => by rw [z, h] at e2; unfold CodeO at e2; cases e2)]
  exact e2
theorem extN_put {H G : Hp} {D : Addr} {o : HO} (e : ExtN H G) (nD : H D = none) : ExtN H (upd G D o) := fun b u hb hn => by
  rw [upd_ne (fun z => by rw [z, nD] at hb; cases hb)]
  exact e b u hb hn
theorem extN_lst {H G : Hp} {D : Addr} {xs : List V} (e : ExtN H G) (h : H D = some (.lst xs)) : G D = some (.lst xs) := e _ _ h fun _ z => by cases z
theorem extN_tup {H G : Hp} {D : Addr} {xs : List V} (e : ExtN H G) (h : H D = some (.tup xs)) : G D = some (.tup xs) := e _ _ h fun _ z => by cases z
theorem sql_N {K : PySem.W.Frag} {H G : Hp} {a : Addr} {xs : List V} (h : SqL K H a xs) (e : ExtN H G) : SqL K G a xs := by
  rcases h with (h | ⟨o, h⟩) | h
  · exact .inl (.inl (e _ _ h fun _ z => by cases z))
  · exact .inl (.inr ⟨o, e _ _ h fun _ z => by cases z⟩)
  · exact .inr h
theorem lc_callN {T : List (Addr × Str)} {J : It} {n : Nat} {G0 : Hp → Prop} {Y : Nat → Hp → V → Hp → Prop} (w : Walk J n G0 Y) {g : TG} {te : TE} {vs : List Nat} {σ : L2.St} {H1 : Hp} {D : Addr} {Qd : Hp → Prop} (nD : H1 D = none) (hT : Tabs T H1)
    (vals : List V) (hn : vals.length = n) (hz : n ≤ 1000) (hG : ∀ G, ExtN H1 G → G0 G)
    (hs : ∀ (i : Nat) (x v : V) (G G' : Hp) (R : VK), vals[i]? = some v → ExtN H1 G → Tabs T G → Y i G x G' → (∀ G2, ExtN G G2 → Tabs T G2 → R v G2) → g x (wipe σ vs) G' fun σ2 H2 => wipe σ2 vs = wipe σ vs ∧ te σ2 H2 R)
    (hd : ∀ G, ExtN H1 G → Tabs T G → G D = some (.lst vals) → Qd G) :
    ∃ W : Nat → Nat → Hp → Prop, (∃ m, W 0 m (upd H1 D (.lst []))) ∧ ∀ i m H, W i m H →
      (J.stop i H ∧ Qd H) ∨ (J.go i H ∧ ∃ Nx : Hp → Prop, (∀ H', Nx H' → ∃ m', m' < m ∧ W (i + 1) m' H') ∧ ∀ x H', J.yld i H x H' → g x (wipe σ vs) H' fun σ2 H2 => wipe σ2 vs = wipe σ vs ∧ tYes σ2 H2 fun b H3 =>
        if b = true then te σ2 H3 fun y H4 => ∃ acc, H4 D = some (.lst acc) ∧ acc.length < sizeLine ∧ Nx (upd H4 D (.lst (acc ++ [y]))) else Nx H3) := by
  refine lc_it w (fun i G => ExtN H1 G ∧ Tabs T G ∧ G D = some (.lst (vals.take i))) ⟨extN_put (.refl _) nD, hT.ext (fun b o e => by rw [upd_ne (fun z => by rw [z, nD] at e; cases e)]; exact e), by rw [upd_same, List.take_zero]⟩ (fun i G _ h => hG G h.1) (fun i x G G' hi h y => ?_) (fun G h => hd G h.1 h.2.1 (by rw [h.2.2, ← hn, List.take_length]))
  have hv : vals[i]? = some vals[i] := List.getElem?_eq_getElem (by rw [hn]; exact hi)
  refine hs i x vals[i] G G' _ hv h.1 h.2.1 y fun G2 s2 t2 => ?_
  have hD2 := extN_lst s2 h.2.2
  refine ⟨vals.take i, hD2, ?_, ?_, tabs_put t2 hD2, ?_⟩
  · rw [List.length_take]
    exact Nat.lt_of_le_of_lt (Nat.le_trans (Nat.min_le_right _ _) (by omega : vals.length ≤ 1000)) (by decide)
  · exact extN_put (h.1.trans s2) nD
  · rw [upd_same, List.take_succ, hv]
    rfl
end Jo

set_option Elab.async false
set_option linter.all false
set_option maxRecDepth 100000
/-! A law's end over a head that is run by the kernel. -/
namespace Jo
open PySem PySem.Spec PyProof.Rows L2
theorem walk_ofEG {l : PySem.W.OpenLaw} {n k : Nat} {q : Program} {loose : List Str} {XP : (Str → Option Value) → Heap → Prop} {YP : World → Heap → Prop} {d : DefRec} {x : Str}
    (hn : l.most = some n) (hn2 : n ≤ sizeLine) (hdf : d.params.defaults = []) (hr : Room k callerA)
    (F : ∀ (w : World) (mg : Str → Option Value) (fa : Addr) (h : Heap), YP w h → h.Ns mainGlobals mg → mg d.name = some (.ref fa) →
      ∃ (K : PySem.W.Frag) (fd : FuncData) (sp : Sp), K.In h ∧ (∀ (s : Shared) (u : Value), BindsTo s fd ⟨[u], []⟩ [(x, u)]) ∧
        (∀ (H : Hp) (a : Addr) (ns : List Int), ns.length ≤ n → (∀ z ∈ ns, Builtin.Int.intBits z ≤ 1048576) → Only H → SqL K H a (ns.map V.int) → sp [.ref a] H (fun v _ => v = .bl true) fun _ _ _ => False) ∧
        ∀ base : Heap, K.In base → base.Ns mainGlobals mg → FnG l.prog w K mg base k fa fd [x] sp) :
    PySem.W.WalkO q loose XP YP l.row.toRowW d [] (fun f vs => PySem.call f vs) := by
  refine Att.attach_callB hn hdf fun w s₀ s₁ mg mb fa o pm cd doc a vs ns G Y ho hd hcd hmg hobj hints hlen hbits hg => ?_
  obtain ⟨K, fd, sp, KX, hb, hsp, hF⟩ := F w mg fa _ Y G.T.g hmg
  exact law_callG KX G.T.g G.T.b G.T.builtins G.T.nolimit hg hobj hints (Nat.le_trans hlen hn2) hr hF hb fun H hO hS => hsp H a ns hlen hbits hO hS
end Jo

set_option Elab.async false
set_option linter.all false
set_option maxRecDepth 100000
set_option maxHeartbeats 2000000
/-! Defs whose code object is known: they may make lambdas. -/
namespace Jo
open PySem PySem.Spec PyProof.Rows L2 ClX
open LamX (Tabs TabS ExtN CodeO TabB)
/-- as Dfn, the def's code object at c -/
structure DfnT (K : PySem.W.Frag) (mg : Str → Option Value) (x : Str) (st : Stmt) (ps : List Str) (c : Addr) : Prop where
  ex : ∃ (f : Addr) (oc : Value) (od : Option Addr) (kV doc pm ct : Value) (an : Option Addr) (osl : Array (Option Value)),
    K.lookup f = some ⟨oc, od, .func (PySem.W.fnOf x x (defArgs st) (defBody st) (defScope st) .none kV doc pm an (.ref c) ct), osl⟩ ∧ PySem.W.codeIn K (.ref c) x = true ∧ mg x = some (.ref f) ∧ PySem.W.keepIn K (.ref f) = true ∧
    Binds K (PySem.W.fnOf x x (defArgs st) (defBody st) (defScope st) .none kV doc pm an (.ref c) ct) ps [] ∧
    ∀ (s : Shared) (us : List Value), us.length = ps.length → BindsTo s (PySem.W.fnOf x x (defArgs st) (defBody st) (defScope st) .none kV doc pm an (.ref c) ct) ⟨[], ps.zip us⟩ (ps.zip us)
section
variable {P : Program} {w : World} {K : PySem.W.Frag} {mg : Str → Option Value} {base : Heap}
theorem DfnT.ok {k : Nat} {x : Str} {st : Stmt} {N ps : List Str} {sp : Sp} {c : Addr} (D : DfnT K mg x st ps c) (S : FnScope N ps (defScope st))
    (len : ∀ vs H Q E, sp vs H Q E → vs.length = ps.length)
    (body : ∀ (f : Addr) (A : Around) (fr : List Env) (s : Shared) (H : Hp) (vs : List V) (Q : VK) (E : XK),
      Room k (A.deeper (envOfC x (defScope st) s.heap.objs.size f (.ref c))) → A.guards = some [] → sp vs H Q E →
      ∃ t, PSs (cxOf CX0 P w K mg base N x (defScope st) f (.ref c) A fr s H E).nox (defBody st) t ∧ t { nx := fun _ H' => Q .non H', rt := Q } (start N vs) H) :
    CalG P w K mg base (k + 1) x ps sp := by
  obtain ⟨f, oc, od, kV, doc, pm, ct, an, osl, lk, hcd, hm, kp, hb, hk⟩ := D.ex
  refine ⟨f, _, ⟨len, fun A fr s H args us vs Q E hr hgd e0 hb r hsp => ?_⟩, hm, kp, hb, hk⟩
  have keepB : ∀ b o, base.get? b = some o → s.heap.get? b = some o := fun b o e => (e0.bs b o e).1
  have KX := e0.mod.kin.keeps keepB
  have nolim := e0.mod.nolimit.keeps keepB
  refine codeAny_call_function hr.depth (KX _ _ lk) rfl S.co S.gen rfl (PySem.W.codeRec_of KX hcd) (hb _ _ _ _ ?_)
  refine wpAny_newFunctionEnv_cells S.kind (fun ⟨n, v⟩ hy => ?_) fun env he s1 x => ?_
  · cases S.par n (List.of_mem_zip hy).1 with
    | inl q => exact .inl q
    | inr q => exact .inr ⟨q, PySem.W.cellsFrom_some _ _ _ (.inl q)⟩
  · subst he
    refine ⟨nolim.keeps x.toInCall.keep, codeAny_func ?_⟩
    obtain ⟨t, ht, hq⟩ := body f A fr s H vs Q E (hr.deeper _) hgd hsp
    have I := inv_start (CX := CX0) (E := E) S hr.hd e0 (len _ _ _ _ hsp) r x
    refine wpAny_mono (ht.nox.run [] s1 (start N vs) H _ I hq) (fun fl s' hs => ?_) fun _ _ hs => hs
    cases fl with
    | brk => obtain ⟨_, _, _, q⟩ := hs; exact q.elim
    | cont => obtain ⟨_, _, _, q⟩ := hs; exact q.elim
    | ret u =>
      obtain ⟨v, _, H', J, rv, q⟩ := hs
      exact ⟨v, H', J.os, J.bare, J.base, J.hok, rv, q⟩
    | next =>
      obtain ⟨_, H', J, q⟩ := hs
      exact ⟨V.non, H', J.os, J.bare, J.base, J.hok, rfl, q⟩
end
end Jo

set_option Elab.async false
set_option linter.all false
set_option maxRecDepth 100000
set_option maxHeartbeats 2000000
/-! A lambda that is handed on: x(lambda: .., a, b), x a def that hands it to another def, which calls it. -/
namespace Jo
open PySem PySem.Spec PyProof.Rows L2
open LamX (CodeO Tabs ExtN TabB LamS lamEnv lamCx lam_start2 lam_make2 run_ofS GivesTo)
theorem un_comp {F F' : List Addr} {H H0 HZ : Hp} {h h0 hZ : Heap} (a : Un F [] H H0 h h0) (b : Un F' [] H0 HZ h0 hZ) (hn : ∀ c ∈ F', c ∈ F ∨ h.get? c = none) : Un F [] H HZ h hZ where
  keep := fun c ob q n hc hx => b.keep c ob (a.keep c ob q n hc hx) (a.free c ob q n hx) (fun z => (hn c z).elim hc fun w => by rw [q] at w; cases w) hx
  slot := fun c ob q n hc hx => by
    obtain ⟨sl, e1⟩ := a.slot c ob q n hc hx
    obtain ⟨sl', e2⟩ := b.any e1 (a.free c ob q n hx) hx
    exact ⟨sl', e2⟩
  free := fun c ob q n hx => by
    obtain ⟨o', e1⟩ := a.there c ob q hx
    exact b.free c o' e1 (a.free c ob q n hx) hx
  there := fun c ob q hx => by
    obtain ⟨o', e1⟩ := a.there c ob q hx
    exact b.there c o' e1 hx
  tups := fun c xs q => b.tups c xs (a.tups c xs q)
  frzs := fun c ob xs q => b.frzs c ob xs (a.frzs c ob xs q)
  tbls := fun c ps q => by
    obtain ⟨m1, e1⟩ := a.tbls c ps q
    obtain ⟨m2, e2⟩ := b.tbls c _ e1
    exact ⟨m1 ++ m2, by rw [e2, Array.append_assoc]⟩
/-- the lambda at f, at (s, H) in X: what its call comes to, from whatever frames above -/
def LamAt (X : Cx) (s : Shared) (H : Hp) (f c' : Addr) (k : Nat) (tl : XK → Hp → VK → Prop) : Prop :=
  ∀ (A : Around) (outer : List Env) (sZ : Shared) (HZ : Hp) (Q : VK) (E : XK), Room (k + 1) A → Env0 X.prog X.w X.K X.mg X.base A outer sZ HZ → Un (frs X.stack) [] H HZ s.heap sZ.heap → HZ c' = some (CodeO c' (X.env.qual ++ "<lambda>")) → tl E HZ Q →
    codeAny (model X.prog X.w) A (.call (.ref f) ⟨[], []⟩) (CR (L2.CX X.prog X.w) outer X.prog X.w HZ sZ Q E) sZ
section
variable {X : Cx} {pins : List (Addr × Obj)} {σ : L2.St} {H : Hp} {s : Shared}
theorem lam_at {f c' : Addr} {pm ctv : Value} {params : Arguments} {body : Expr} {scope : Scope} {k : Nat} {t : XK → TE}
    (I : Inv X pins σ H s) (L : LamS X.env.scope scope) (hf : s.heap.get? f = some (PySem.W.kla_obj "<lambda>" (X.env.qual ++ "<lambda>") params body scope (cloFrom X.env.cells scope.names []) pm c' ctv)) (hfn : H f = none) (hfr : f ∉ frs X.stack)
    (hbind : bindArgs (PySem.W.kla_fn "<lambda>" (X.env.qual ++ "<lambda>") params body scope (cloFrom X.env.cells scope.names []) pm (.ref c') ctv) ⟨[], []⟩ = pure [])
    (hbody : ∀ (A : Around) (outer : List Env) (s : Shared) (H : Hp) (E : XK), Room k (A.deeper (lamEnv X scope s.heap.objs.size f c')) → PE (lamCx X A outer s H E scope f c') body (t E)) :
    LamAt X s H f c' k (fun E H' Q' => t E σ H' Q') := by
  intro A outer sZ HZ Q E hr e0 un hc ht
  have of1 := un.keep f _ hf hfn hfr (fun z => nomatch z)
  obtain ⟨⟨oc, vs, tt, hoc, hdc, hvc⟩, _, _⟩ := e0.hok c' _ hc
  have lim : sZ.heap.NoLimit := e0.mod.nolimit.keeps fun b o e => (e0.bs b o e).1
  refine PySem.W.kla_callFunE hr.depth of1 rfl L.co L.gen rfl ⟨c', oc, vs, tt, rfl, hoc, hdc, hvc⟩ ?_
  rw [hbind]
  refine wpAny_pure (wpAny_newFunctionEnv (fun y hy => (L.own y hy).2) (fun y hy => absurd hy (by simp)) (fun h₁ hns hsb => ⟨lim.fresh _ hsb, ?_⟩) L.kind)
  show codeAny _ _ (.expr body (lamEnv X scope sZ.heap.objs.size f c')) _ _
  have kp : ∀ b o, sZ.heap.get? b = some o → h₁.get? b = some o := fun b o e => hsb.extBut b o (Nat.ne_of_lt (Heap.lt_size e)) (Heap.get?_push_of_some _ e)
  have J : Inv (lamCx X A outer sZ HZ E scope f c') [] σ HZ { sZ with heap := h₁, toks := sZ.toks + ([] : List (Str × Value)).length } :=
    lam_start2 I L e0 hr.hd un hns kp
  refine PySem.W.kla_codeExpr (wpAny_mono ((hbody _ _ sZ HZ E (hr.deeper _)).run [] _ _ HZ Q J ht) (fun v s' hq => ?_) fun e s' hq => hq)
  obtain ⟨w', H', J', rv, q⟩ := hq
  exact ⟨w', H', J'.os, J'.bare, J'.base, J'.hok, rv, q⟩
/-- x(), in a def that has the lambda: its context is entered at (s0, H0), above outer0 -/
theorem pe_actG {CXg : CXT} {Eg : XK} {Ng : List Str} {qg : Str} {sg : Scope} {g f c' : Addr} {cdg : Value} {A0 : Around} {outer0 : List Env} {s0 : Shared} {H0 : Hp} {k i : Nat} {a : Str} {pn : List (Addr × Obj)} {xe : Value → Shared → Prop} {W : WX} {E : XK} {tl : XK → Hp → VK → Prop} {p1 p2 : Pos} {ob : Obj}
    (hL : LamAt X s H f c' k tl) (un0 : Un (frs X.stack) [] H H0 s.heap s0.heap) (hn : ∀ b ∈ frs outer0, b ∈ frs X.stack ∨ s.heap.get? b = none) (hf : s.heap.get? f = some ob) (hob : ∀ h : Heap, h.get? f = some ob → PySem.W.FnAt f h) (hfn : H f = none) (hfr : f ∉ frs X.stack)
    (tk : Takes ((cxOf CXg X.prog X.w X.K X.mg X.base Ng qg sg g cdg A0 outer0 s0 H0 Eg).tr pn xe) W) (hW : ∀ cls d σ' H', E cls d H' → W cls d σ' H') (hr : Room (k + 1) (A0.deeper (envOfC qg sg s0.heap.objs.size g cdg)))
    (hN : Ng[i]? = some a) (hv : Vis sg a) (hd : (a == ("__debug__" : Str)) = false := by decide) (hcd : (a == ("__classdict__" : Str)) = false := by decide) :
    PE ((cxOf CXg X.prog X.w X.K X.mg X.base Ng qg sg g cdg A0 outer0 s0 H0 Eg).tr pn xe) (.Call (.Name a p1) [] [] p2)
      (fun σZ HZ Q => σZ[i]? = some (some (.ref f)) ∧ HZ c' = some (CodeO c' (X.env.qual ++ "<lambda>")) ∧ tl E HZ Q) := by
  refine ⟨fun pinsZ sZ σZ HZ Q IZ h => ?_⟩
  obtain ⟨hs, hc, ht⟩ := h
  refine wpAny_Call_Name_kw (thn ((pe_var (pos := p1) (i := i) hN hv hd hcd).run pinsZ sZ σZ HZ (fun v H1 => v = .ref f ∧ H1 = HZ) IZ ⟨.ref f, hs, rfl, rfl⟩) fun u s1 ⟨v, H1, I1, r1, q1⟩ => ?_)
  obtain ⟨ev, eH⟩ := q1
  subst ev
  rw [eH] at I1
  obtain rfl : u = Value.ref f := r1
  have un : Un (frs X.stack) [] H HZ s.heap s1.heap := un_comp un0 I1.base hn
  have of1 := un.keep f _ hf hfn hfr (fun z => nomatch z)
  refine PySem.W.callWith_F0 (hob _ of1) ?_
  have rc := hL (A0.deeper (envOfC qg sg s0.heap.objs.size g cdg)) (envOfC qg sg s0.heap.objs.size g cdg :: outer0) s1 HZ Q E hr I1.env0 un hc ht
  have hx : Passes (L2.CX X.prog X.w) ((cxOf CXg X.prog X.w X.K X.mg X.base Ng qg sg g cdg A0 outer0 s0 H0 Eg).tr pn xe) E := passes_call tk hW
  refine wpAny_call (codeAny_mono rc fun r s' hq => ?_)
  cases r with
  | error e => exact hx pinsZ σZ HZ s1 e s' I1 hq
  | ok fl =>
    cases fl with
    | ret u => exact I1.after hq
    | next => exact False.elim hq
    | brk => exact False.elim hq
    | cont => exact False.elim hq
/-- the context of a def that is called from X -/
abbrev inCx (X : Cx) (Ng : List Str) (x : Str) (sg : Scope) (g : Addr) (cdg : Value) (s : Shared) (H : Hp) : Cx := cxOf CX0 X.prog X.w X.K X.mg X.base Ng x sg g cdg X.A X.stack s H E0
/-- y(a), a the lambda that the def x got from X: y calls it -/
theorem pe_pass {f c' g2 : Addr} {k i : Nat} {tl : XK → Hp → VK → Prop} {TT : (XK → Hp → VK → Prop) → Hp → VK → Prop} {Ng Ny : List Str} {x y a b : Str} {sg sy : Scope} {g : Addr} {cdg : Value} {py : Arguments} {by_ : List Stmt} {dV kV doc pm cdv ct oc : Value} {an od : Option Addr} {osl : Array (Option Value)} {ob : Obj} {p p2 pos : Pos}
    (hL : LamAt X s H f c' k tl) (hf : s.heap.get? f = some ob) (hob : ∀ h : Heap, h.get? f = some ob → PySem.W.FnAt f h) (hfn : H f = none) (hfr : f ∉ frs X.stack)
    (hg : Gl (inCx X Ng x sg g cdg s H).nox y) (hm : X.mg y = some (.ref g2)) (hk : PySem.W.keepIn X.K (.ref g2) = true)
    (lk : X.K.lookup g2 = some ⟨oc, od, .func (PySem.W.fnOf y y py by_ sy dV kV doc pm an cdv ct), osl⟩) (hcg : PySem.W.codeIn X.K cdv y = true) (hb : L2.Binds X.K (PySem.W.fnOf y y py by_ sy dV kV doc pm an cdv ct) [b] []) (Sy : FnScope Ny [b] sy) (hNy : Ny[0]? = some b) (hvb : Vis sy b)
    (hG : GivesTo (inCx X Ng x sg g cdg s H).nox Ny y sy g2 cdv by_ b (X.env.qual ++ "<lambda>") TT) (hr : Room (k + 2) (inCx X Ng x sg g cdg s H).A)
    (hN : Ng[i]? = some a) (hva : Vis sg a) (hdb : (y == ("__debug__" : Str)) = false := by decide) (hda : (a == ("__debug__" : Str)) = false := by decide) (hca : (a == ("__classdict__" : Str)) = false := by decide) (hd : (b == ("__debug__" : Str)) = false := by decide) (hcd : (b == ("__classdict__" : Str)) = false := by decide) :
    PE (inCx X Ng x sg g cdg s H).nox (.Call (.Name y p) [.Name a p2] [] pos) (fun σM HM Q => σM[i]? = some (some (.ref f)) ∧ HM c' = some (CodeO c' (X.env.qual ++ "<lambda>")) ∧ TT tl HM Q) := by
  refine ⟨fun pinsM sM σM HM Q IM h => ?_⟩
  obtain ⟨hs, hc, ht⟩ := h
  refine wpAny_Call_Name_kw (ld_glob IM hg hm ?_ hdb)
  refine PySem.W.callWith_K (h₀ := X.base) IM.ok.mod.kin hk (thn ((pa_cons (pe_var (X := (inCx X Ng x sg g cdg s H).nox) (pos := p2) (i := i) hN hva hda hca) pa_nil).run pos pinsM sM σM HM (fun xs H1 => xs = [.ref f] ∧ H1 = HM) IM ⟨_, hs, rfl, rfl⟩) fun us s1 ⟨xs, H1, I1, r, e1, e2⟩ => ⟨I1.kIn, ?_⟩) (by rfl) (by rfl)
  subst e1
  rw [e2] at I1
  have un0 : Un (frs X.stack) [] H HM s.heap s1.heap := I1.base
  have rc : codeAny (model X.prog X.w) (inCx X Ng x sg g cdg s H).A (.call (.ref g2) ⟨us, []⟩) (CR CX0 (inCx X Ng x sg g cdg s H).stack X.prog X.w HM s1 Q E0) s1 := by
    have hl : us.length = [b].length := by rw [← r.length] <;> rfl
    have bb := hb s1 us I1.kIn (by rw [List.append_nil]; exact hl)
    rw [List.append_nil] at bb
    refine run_ofS (N := Ny) (ps := [b]) (us := us) (vs := [.ref f]) lk hcg Sy hr I1.env0 bb r rfl fun hr' => ?_
    have hn : ∀ b ∈ frs (envOfC x sg s.heap.objs.size g cdg :: X.stack), b ∈ frs X.stack ∨ s.heap.get? b = none := fun b hb => by
      rcases List.mem_cons.mp (show b ∈ s.heap.objs.size :: frs X.stack from hb) with e | e
      · refine .inr ?_
        rw [e]
        cases q : s.heap.get? s.heap.objs.size with
        | none => rfl
        | some o => exact absurd (Heap.lt_size q) (Nat.lt_irrefl _)
      · exact .inl e
    have act : ∀ (W : WX) (pn : List (Addr × Obj)) (xe : Value → Shared → Prop) (E : XK) (p1 p2 : Pos), Takes ((cxOf CX0 X.prog X.w X.K X.mg X.base Ny y sy g2 cdv (X.A.deeper (envOfC x sg s.heap.objs.size g cdg)) (envOfC x sg s.heap.objs.size g cdg :: X.stack) s1 HM E0).tr pn xe) W → (∀ cls d σ' H', E cls d H' → W cls d σ' H') →
        PE ((cxOf CX0 X.prog X.w X.K X.mg X.base Ny y sy g2 cdv (X.A.deeper (envOfC x sg s.heap.objs.size g cdg)) (envOfC x sg s.heap.objs.size g cdg :: X.stack) s1 HM E0).tr pn xe) (.Call (.Name b p1) [] [] p2) (fun σZ HZ Q => σZ[0]? = some (some (.ref f)) ∧ HZ c' = some (CodeO c' (X.env.qual ++ "<lambda>")) ∧ tl E HZ Q) :=
      fun W pn xe E p1 p2 tk hW => pe_actG (i := 0) hL un0 hn hf hob hfn hfr tk hW hr' hNy hvb hd hcd
    obtain ⟨t', ht', hq'⟩ := hG f c' s1 HM Q tl act hc ht
    exact ⟨t', ht'.nox, hq'⟩
  refine wpAny_call (codeAny_mono rc fun r s2 hq => ?_)
  cases r with
  | error e => exact (show False from hq).elim
  | ok fl =>
    cases fl with
    | ret u => exact I1.after hq
    | next => exact False.elim hq
    | brk => exact False.elim hq
    | cont => exact False.elim hq
/-- x(lambda: .., v2, v3), the two others local names -/
def tLam3 (T : List (Addr × Str)) (i2 i3 : Nat) (TT : (XK → Hp → VK → Prop) → V → V → Hp → VK → Prop) (t : XK → TE) : TE := fun σ H Q => Tabs T H ∧ ∃ v2 v3, σ[i2]? = some (some v2) ∧ σ[i3]? = some (some v3) ∧ ∀ H1, ExtN H H1 → Tabs T H1 → TT (fun E H' Q' => t E σ H' Q') v2 v3 H1 Q
theorem pe_lamcall3 {T : List (Addr × Str)} {TT : (XK → Hp → VK → Prop) → V → V → Hp → VK → Prop} {x a b2 b3 n2 n3 : Str} {g c P : Addr} {k i2 i3 : Nat} {pg : Arguments} {bg : List Stmt} {sg : Scope} {dV kV doc pm cdv ct oc : Value} {an od : Option Addr} {osl : Array (Option Value)} {Ng : List Str}
    {params : Arguments} {body : Expr} {scope : Scope} {t : XK → TE} {p lpos pos p2 p3 : Pos} (hg : Gl X x) (hm : X.mg x = some (.ref g)) (hk : PySem.W.keepIn X.K (.ref g) = true)
    (lk : X.K.lookup g = some ⟨oc, od, .func (PySem.W.fnOf x x pg bg sg dV kV doc pm an cdv ct), osl⟩) (hcg : PySem.W.codeIn X.K cdv x = true) (hb : L2.Binds X.K (PySem.W.fnOf x x pg bg sg dV kV doc pm an cdv ct) [a, b2, b3] []) (Sg : FnScope Ng [a, b2, b3] sg)
    (hG : ∀ (f c' : Addr) (ob : Obj) (s1 : Shared) (H1 : Hp) (v2 v3 : V) (Q : VK) (tl : XK → Hp → VK → Prop), LamAt X s1 H1 f c' k tl → s1.heap.get? f = some ob → (∀ h : Heap, h.get? f = some ob → PySem.W.FnAt f h) → H1 f = none → f ∉ frs X.stack → Room (k + 2) (X.A.deeper (envOfC x sg s1.heap.objs.size g cdv)) →
      H1 c' = some (CodeO c' (X.env.qual ++ "<lambda>")) → TT tl v2 v3 H1 Q → ∃ t, PSs (inCx X Ng x sg g cdv s1 H1).nox bg t ∧ t { nx := fun _ H' => Q .non H', rt := Q } (L2.start Ng [.ref f, v2, v3]) H1)
    (TB : TabB X.base X.mg c P) (hcode : X.env.code = .ref c) (hmT : (P, X.env.qual ++ "<lambda>") ∈ T) (hu : ∀ p ∈ T, p.1 = P → p.2 = X.env.qual ++ "<lambda>") (hr : Room (k + 3) X.A) (L : LamS X.env.scope scope) (hdef : defaultsOf params X.env = ([], []))
    (hbind : ∀ (q : Str) (cl : List (Str × Addr)) (pm cv ctv : Value), bindArgs (PySem.W.kla_fn "<lambda>" q params body scope cl pm cv ctv) ⟨[], []⟩ = pure [])
    (hbody : ∀ (A : Around) (outer : List Env) (s : Shared) (H : Hp) (E : XK) (f c' : Addr), Room k (A.deeper (lamEnv X scope s.heap.objs.size f c')) → PE (lamCx X A outer s H E scope f c') body (t E))
    (h2 : PE X (.Name n2 p2) (tVar i2)) (h3 : PE X (.Name n3 p3) (tVar i3)) (hstk : X.stack = X.env :: X.outer := by rfl) (hfrm : X.env.frame = some X.env.locals := by rfl) (hdb : (x == ("__debug__" : Str)) = false := by decide) :
    PE X (.Call (.Name x p) [.Lambda params body scope lpos, .Name n2 p2, .Name n3 p3] [] pos) (tLam3 T i2 i3 TT t) := by
  refine ⟨fun pins s σ H Q I h => ?_⟩
  obtain ⟨hT, v2, v3, e2, e3, h⟩ := h
  refine wpAny_Call_Name_kw (ld_glob I hg hm ?_ hdb)
  refine PySem.W.callWith_K (h₀ := X.base) I.ok.mod.kin hk ?_ (by rfl) (by rfl)
  show wpAny _ _ (spliced ((false, eval (.Lambda params body scope lpos) X.env) :: backTo pos (starEach [.Name n2 p2, .Name n3 p3] X.env))) _ _ s
  refine Calls.spliced_cons (lam_make2 I TB hcode hmT hu hT hdef (L.has I.ok) fun f c' pm' ctv H1 s' I1 eN T1 hf hfn hfr hco => ?_)
  have hsub : ∀ b, b = X.env.locals ∨ b ∈ X.fs → b ∈ frs X.stack := fun b hb => by
    rw [hstk]
    show b ∈ (X.env :: X.outer).filterMap (·.frame)
    rw [List.filterMap_cons, hfrm]
    rcases hb with rfl | hb
    · exact List.mem_cons_self
    · exact List.mem_cons_of_mem _ hb
  have I1p : Inv X ((f, PySem.W.kla_obj "<lambda>" (X.env.qual ++ "<lambda>") params body scope (cloFrom X.env.cells scope.names []) pm' c' ctv) :: pins) σ H1 s' := I1.pins_of fun q hq => by
    rcases List.mem_cons.mp hq with rfl | hq
    · exact ⟨hf, hfn, fun z => hfr (hsub _ (.inl z)), fun z => hfr (hsub _ (.inr z)), fun v z => by cases z⟩
    · exact I1.pin q (List.mem_append_right _ hq)
  refine thn ((pa_cons h2 (pa_cons h3 pa_nil)).run pos _ s' σ H1 (fun xs H2 => xs = [v2, v3] ∧ H2 = H1) I1p ⟨_, e2, _, e3, rfl, rfl⟩) fun us s2 ⟨xs, H2, I2, r, ex, eH⟩ => ⟨I2.kIn, ?_⟩
  subst ex
  rw [eH] at I2
  have hf2 := (I2.pin (f, PySem.W.kla_obj "<lambda>" (X.env.qual ++ "<lambda>") params body scope (cloFrom X.env.cells scope.names []) pm' c' ctv) (List.mem_append_right _ List.mem_cons_self)).1
  have hL : LamAt X s2 H1 f c' k (fun E H' Q' => t E σ H' Q') := lam_at I2 L hf2 hfn hfr (hbind _ _ _ _ _) fun A outer s H E hr2 => hbody A outer s H E f c' hr2
  have rv : Vals [V.ref f, v2, v3] (.ref f :: us) := .cons (show RelV (.ref f) (.ref f) from rfl) r
  have hl : (Value.ref f :: us).length = [a, b2, b3].length := by rw [← rv.length] <;> rfl
  have bb := hb s2 (.ref f :: us) I2.kIn (by rw [List.append_nil]; exact hl)
  rw [List.append_nil] at bb
  have rc : codeAny (model X.prog X.w) X.A (.call (.ref g) ⟨.ref f :: us, []⟩) (CR CX0 X.stack X.prog X.w H1 s2 Q E0) s2 := by
    refine run_ofS (k := k + 2) (N := Ng) (ps := [a, b2, b3]) (us := .ref f :: us) (vs := [.ref f, v2, v3]) lk hcg Sg hr I2.env0 bb rv rfl fun hr' => ?_
    obtain ⟨t', ht', hq'⟩ := hG f c' _ s2 H1 v2 v3 Q (fun E H' Q' => t E σ H' Q') hL hf2 (fun h e => ⟨_, _, _, _, e⟩) hfn hfr hr' hco (h H1 eN T1)
    exact ⟨t', ht'.nox, hq'⟩
  refine wpAny_call (codeAny_mono rc fun r s2 hq => ?_)
  cases r with
  | error e => exact (show False from hq).elim
  | ok fl =>
    cases fl with
    | ret u =>
      obtain ⟨v, H', I', rr, q⟩ := I2.after hq
      exact ⟨v, H', I'.pins_of fun p hp => I'.pin p (List.mem_append_right _ (List.mem_cons_of_mem _ hp)), rr, q⟩
    | next => exact False.elim hq
    | brk => exact False.elim hq
    | cont => exact False.elim hq
end
end Jo

set_option Elab.async false
set_option linter.all false
set_option maxRecDepth 100000
set_option maxHeartbeats 2000000
/-! A lambda that is handed on, with one argument behind it that is any expression. -/
namespace Jo
open PySem PySem.Spec PyProof.Rows L2
open LamX (CodeO Tabs ExtN TabB LamS lamEnv lamCx lam_start2 lam_make2 run_ofS GivesTo)
section
variable {X : Cx} {pins : List (Addr × Obj)} {σ : L2.St} {H : Hp} {s : Shared}
/-- x(lambda: .., e2), e2 any expression that changes nothing that stands -/
def tLam2 (T : List (Addr × Str)) (t2 : TE) (TT : (XK → Hp → VK → Prop) → V → Hp → VK → Prop) (t : XK → TE) : TE := fun σ H Q => Tabs T H ∧ ∀ H1, ExtN H H1 → Tabs T H1 → t2 σ H1 fun v2 H2 => Same H1 H2 ∧ TT (fun E H' Q' => t E σ H' Q') v2 H2 Q
def post2 (xs : List V) (p : V → Prop) : Prop := match xs with
  | [v] => p v
  | _ => False
theorem post2_ok {xs : List V} {p : V → Prop} (h : post2 xs p) : ∃ v, xs = [v] ∧ p v := by
  match xs, h with
  | [v], h => exact ⟨v, rfl, h⟩
theorem pe_lamcall2 {T : List (Addr × Str)} {TT : (XK → Hp → VK → Prop) → V → Hp → VK → Prop} {x a b2 : Str} {e2 : Expr} {t2 : TE} {g c P : Addr} {k : Nat} {pg : Arguments} {bg : List Stmt} {sg : Scope} {dV kV doc pm cdv ct oc : Value} {an od : Option Addr} {osl : Array (Option Value)} {Ng : List Str}
    {params : Arguments} {body : Expr} {scope : Scope} {t : XK → TE} {p lpos pos : Pos} (hg : Gl X x) (hm : X.mg x = some (.ref g)) (hk : PySem.W.keepIn X.K (.ref g) = true)
    (lk : X.K.lookup g = some ⟨oc, od, .func (PySem.W.fnOf x x pg bg sg dV kV doc pm an cdv ct), osl⟩) (hcg : PySem.W.codeIn X.K cdv x = true) (hb : L2.Binds X.K (PySem.W.fnOf x x pg bg sg dV kV doc pm an cdv ct) [a, b2] []) (Sg : FnScope Ng [a, b2] sg)
    (hG : ∀ (f c' : Addr) (ob : Obj) (s1 : Shared) (H1 : Hp) (v2 : V) (Q : VK) (tl : XK → Hp → VK → Prop), LamAt X s1 H1 f c' k tl → s1.heap.get? f = some ob → (∀ h : Heap, h.get? f = some ob → PySem.W.FnAt f h) → H1 f = none → f ∉ frs X.stack → Room (k + 2) (X.A.deeper (envOfC x sg s1.heap.objs.size g cdv)) →
      H1 c' = some (CodeO c' (X.env.qual ++ "<lambda>")) → TT tl v2 H1 Q → ∃ t, PSs (inCx X Ng x sg g cdv s1 H1).nox bg t ∧ t { nx := fun _ H' => Q .non H', rt := Q } (L2.start Ng [.ref f, v2]) H1)
    (TB : TabB X.base X.mg c P) (hcode : X.env.code = .ref c) (hmT : (P, X.env.qual ++ "<lambda>") ∈ T) (hu : ∀ p ∈ T, p.1 = P → p.2 = X.env.qual ++ "<lambda>") (hr : Room (k + 3) X.A) (L : LamS X.env.scope scope) (hdef : defaultsOf params X.env = ([], []))
    (hbind : ∀ (q : Str) (cl : List (Str × Addr)) (pm cv ctv : Value), bindArgs (PySem.W.kla_fn "<lambda>" q params body scope cl pm cv ctv) ⟨[], []⟩ = pure [])
    (hbody : ∀ (A : Around) (outer : List Env) (s : Shared) (H : Hp) (E : XK) (f c' : Addr), Room k (A.deeper (lamEnv X scope s.heap.objs.size f c')) → PE (lamCx X A outer s H E scope f c') body (t E))
    (h2 : PE X e2 t2) (hst : starEach [e2] X.env = (false, eval e2 X.env) :: starEach [] X.env := by rfl) (hpl : (backTo pos (starEach [e2] X.env)).any (·.1) = false := by rfl) (hstk : X.stack = X.env :: X.outer := by rfl) (hfrm : X.env.frame = some X.env.locals := by rfl) (hdb : (x == ("__debug__" : Str)) = false := by decide) :
    PE X (.Call (.Name x p) [.Lambda params body scope lpos, e2] [] pos) (tLam2 T t2 TT t) := by
  refine ⟨fun pins s σ H Q I h => ?_⟩
  obtain ⟨hT, h⟩ := h
  refine wpAny_Call_Name_kw (ld_glob I hg hm ?_ hdb)
  refine PySem.W.callWith_K (h₀ := X.base) I.ok.mod.kin hk ?_ (by rfl) hpl
  show wpAny _ _ (spliced ((false, eval (.Lambda params body scope lpos) X.env) :: backTo pos (starEach [e2] X.env))) _ _ s
  refine Calls.spliced_cons (lam_make2 I TB hcode hmT hu hT hdef (L.has I.ok) fun f c' pm' ctv H1 s' I1 eN T1 hf hfn hfr hco => ?_)
  have hsub : ∀ b, b = X.env.locals ∨ b ∈ X.fs → b ∈ frs X.stack := fun b hb => by
    rw [hstk]
    show b ∈ (X.env :: X.outer).filterMap (·.frame)
    rw [List.filterMap_cons, hfrm]
    rcases hb with rfl | hb
    · exact List.mem_cons_self
    · exact List.mem_cons_of_mem _ hb
  have I1p : Inv X ((f, PySem.W.kla_obj "<lambda>" (X.env.qual ++ "<lambda>") params body scope (cloFrom X.env.cells scope.names []) pm' c' ctv) :: pins) σ H1 s' := I1.pins_of fun q hq => by
    rcases List.mem_cons.mp hq with rfl | hq
    · exact ⟨hf, hfn, fun z => hfr (hsub _ (.inl z)), fun z => hfr (hsub _ (.inr z)), fun v z => by cases z⟩
    · exact I1.pin q (List.mem_append_right _ hq)
  refine thn ((pa_cons h2 pa_nil hst).run pos _ s' σ H1 (fun xs H2 => post2 xs fun v2 => Same H1 H2 ∧ TT (fun E H' Q' => t E σ H' Q') v2 H2 Q) I1p (h H1 eN T1)) fun us s2 ⟨xs, H2, I2, r, hx⟩ => ⟨I2.kIn, ?_⟩
  obtain ⟨v2, rfl, sm, hTT⟩ := post2_ok hx
  have hpin := (I2.pin (f, PySem.W.kla_obj "<lambda>" (X.env.qual ++ "<lambda>") params body scope (cloFrom X.env.cells scope.names []) pm' c' ctv) (List.mem_append_right _ List.mem_cons_self))
  have hf2 := hpin.1
  have hfn2 := hpin.2.1
  have hL : LamAt X s2 H2 f c' k (fun E H' Q' => t E σ H' Q') := lam_at I2 L hf2 hfn2 hfr (hbind _ _ _ _ _) fun A outer s H E hr2 => hbody A outer s H E f c' hr2
  have rv : Vals [V.ref f, v2] (.ref f :: us) := .cons (show RelV (.ref f) (.ref f) from rfl) r
  have hl : (Value.ref f :: us).length = [a, b2].length := by rw [← rv.length] <;> rfl
  have bb := hb s2 (.ref f :: us) I2.kIn (by rw [List.append_nil]; exact hl)
  rw [List.append_nil] at bb
  have rc : codeAny (model X.prog X.w) X.A (.call (.ref g) ⟨.ref f :: us, []⟩) (CR CX0 X.stack X.prog X.w H2 s2 Q E0) s2 := by
    refine run_ofS (k := k + 2) (N := Ng) (ps := [a, b2]) (us := .ref f :: us) (vs := [.ref f, v2]) lk hcg Sg hr I2.env0 bb rv rfl fun hr' => ?_
    obtain ⟨t', ht', hq'⟩ := hG f c' _ s2 H2 v2 Q (fun E H' Q' => t E σ H' Q') hL hf2 (fun h e => ⟨_, _, _, _, e⟩) hfn2 hfr hr' (sm _ _ hco) hTT
    exact ⟨t', ht'.nox, hq'⟩
  refine wpAny_call (codeAny_mono rc fun r s2 hq => ?_)
  cases r with
  | error e => exact (show False from hq).elim
  | ok fl =>
    cases fl with
    | ret u =>
      obtain ⟨v, H', I', rr, q⟩ := I2.after hq
      exact ⟨v, H', I'.pins_of fun p hp => I'.pin p (List.mem_append_right _ (List.mem_cons_of_mem _ hp)), rr, q⟩
    | next => exact False.elim hq
    | brk => exact False.elim hq
    | cont => exact False.elim hq
end
end Jo

set_option Elab.async false
set_option linter.all false
set_option maxRecDepth 100000
set_option maxHeartbeats 2000000
/-! == of tuples that hold instances with an == of their own: the same tuple; a first item that differs; one of them empty. -/
namespace GQ
open PySem PySem.SeqAt
open AutoSeq1 (wpAny_loadPart')
open MeetsSeq MeetsSeq2 MeetsSeq3 SeqRoads2
section
variable {prog : Program} {w : World} {A : Around} {R : Result → Shared → Prop}
/-- the first items differ -/
theorem tuple_ne1 (l b : Addr) (items items2 : Array Value) (n n2 : Nat) (dd dd2 : Option Addr) (sl sl2 : Array (Option Value)) (p1 : 0 < items.size) (p2 : 0 < items2.size) {s : Shared}
    (turn : wpAny (model prog w) A.in1 (eqBool items[0] items2[0]) (fun r s' => r = false ∧ R (.ok (.ret (.bool false))) s') (fun e s' => R (.error e) s') s)
    (hl1 : s.heap.get? l = some { cls := .type "tuple", dict := dd, data := .seq items n, slots := sl }) (hb1 : s.heap.get? b = some { cls := .type "tuple", dict := dd2, data := .seq items2 n2, slots := sl2 }) :
    wpAny (model prog w) A.in1 (Builtin.«tuple.__eq__» ⟨[.ref l, .ref b], []⟩) (FinOf prog w A R) (fun e s' => R (.error e) s') s := by
  have f2 := AutoSeq1.sub_tuple_tuple
  have hlt : 0 < (items.toList.zip items2.toList).length := by simp; omega
  obtain ⟨hp, g, d, tk, os⟩ := s
  wp_walk using wpAny_loadPart' hl1, wpAny_loadPart' hb1, wpAny_forIn_list _ (fun rest b s' => b.1 = none ∧ s' = ⟨hp, g, d, tk, os⟩ ∧ rest = items.toList.zip items2.toList) _
  case turn =>
    rintro ⟨y, x⟩ rest b s' ⟨hb', rfl, hz⟩
    rw [← List.drop_zero (l := items.toList.zip items2.toList), List.drop_eq_getElem_cons hlt] at hz
    injection hz with hyx hrest
    have hy : y = items[0] := by have := congrArg Prod.fst hyx; simpa using this
    have hx : x = items2[0] := by have := congrArg Prod.snd hyx; simpa using this
    subst hy hx
    refine wpAny_bind (wpAny_mono turn (fun r s2 q2 => ?_) fun _ _ x => x)
    obtain ⟨hr, q2⟩ := q2
    subst hr
    wp_walk
    exact q2
  case fin =>
    rintro ⟨b1, b2⟩ s' ⟨hb', rfl, hz⟩
    rw [← hz] at hlt
    exact absurd hlt (by simp)
  case h =>
    exact ⟨rfl, rfl, rfl⟩
end
section
variable {prog : Program} {w : World} {A : Around} {E : Value → Shared → Prop} {s : Shared}
theorem rc_tupN {l b : Addr} {items items2 : Array Value} {Q : Value → Shared → Prop} (p1 : 0 < items.size) (p2 : 0 < items2.size) (hu : A.units < cLine) (hl : s.heap.IsTuple l items) (hb : s.heap.IsTuple b items2)
    (turn : wpAny (model prog w) A.in1 (eqBool items[0] items2[0]) (fun r s' => r = false ∧ Q (.bool false) s') E s) : wpAny (model prog w) A (richCompare .Eq (.ref l) (.ref b)) Q E s := by
  obtain ⟨⟨cls, dd, data, sl⟩, ho, hc, n, hd⟩ := id hl
  obtain ⟨⟨cls2, dd2, data2, sl2⟩, ho2, hc2, n2, hd2⟩ := id hb
  simp only at hc hd hc2 hd2
  subst hc hd hc2 hd2
  refine wpAny_richCompare_same_room (op := .Eq) ⟨_, ho, rfl⟩ ⟨_, ho2, rfl⟩ F.slot_tuple_eq (call_here F.slot_tuple_eq ⟨_, ho, rfl⟩ F.entry_tuple_eq (F.args_tuple_eq_2 _ _) ?_) hu
  exact tuple_ne1 (R := wants (fun v s' => v ≠ .notImplemented ∧ Q v s') E) l b items items2 n n2 dd dd2 sl sl2 p1 p2 (wpAny_mono turn (fun r s' q => ⟨q.1, (fun x => nomatch x), q.2⟩) fun _ _ x => x) ho ho2
end
end GQ
namespace Jo
open PySem PySem.Spec PyProof.Rows L2
/-- the same object twice -/
def DId : Eqv := fun x y _ => ∃ a, x = .ref a ∧ y = .ref a
theorem mon_id : Mon DId := fun _ _ _ _ _ d => d
theorem eqG_id {X : Cx} : EqG X 0 DId := by
  intro A pins s σ H x y u v sb I rx ry d
  obtain ⟨a, rfl, rfl⟩ := d
  cases rx
  cases ry
  exact SeqAt.EqAt.same (A := A) (s := s) (.ref a) X.prog X.w X.xe _ ⟨rfl, H, I, Ext.rfl'⟩
/-- a tuple of objects, and itself -/
theorem op_eqId {X : Cx} (hr : Room 1 X.A) : OpR X (compareOp .Eq) (rEqG (DTup X.K DId)) := op_eqG (rcG_tup mon_id eqG_id) hr
theorem prs_id {H : Hp} : ∀ {xs : List V}, (∀ x ∈ xs, ∃ a, x = .ref a) → Prs DId xs xs H
  | [], _ => Prs.nil
  | x :: xs, h => by
    obtain ⟨a, e⟩ := h x (List.mem_cons_self ..)
    exact Prs.cons ⟨a, e, e⟩ (prs_id fun y hy => h y (List.mem_cons_of_mem _ hy))
/-- the first items differ by their own == -/
def rEqT1 (K : PySem.W.Frag) (Cs : Addr → Prop) (sp : Sp) : R2 := fun x y H Q => ∃ (p q a b : Addr) (xs ys : List V) (C dx : Addr) (fs : List (Str × V)) (t : Value), x = .ref p ∧ y = .ref q ∧ SqT K H p (.ref a :: xs) ∧ SqT K H q (.ref b :: ys) ∧ a ≠ b ∧ Cs C ∧ H a = some (.ins C dx fs) ∧ RTy H (.ref b) t ∧ PySem.W.notFirst K C t = true ∧
  sp [.ref a, .ref b] H (fun v H' => v = .bl false ∧ Q (.bl false) H') E0
theorem op_eqT1 {X : Cx} {n : Nat} {ps : List Str} {Cs : Addr → Prop} {sp : Sp} (O : Own X.prog X.w X.K X.mg X.base n "__eq__" ps Cs sp) (hr : Room (n + 1) X.A) : OpR X (compareOp .Eq) (rEqT1 X.K Cs sp) := by
  intro pins s σ H x y v u Q I rx ry h
  obtain ⟨p, q, a, b, xs, ys, C, dx, fs, t, rfl, rfl, hp, hq, ne, hC, ha, ty, nf, hsp⟩ := h
  cases rx
  cases ry
  obtain ⟨its, r, e, z⟩ := I.tuple hp
  obtain ⟨its2, r2, e2, z2⟩ := I.tuple hq
  cases r with
  | @cons _ u0 _ ur r0 rr =>
    cases r2 with
    | @cons _ w0 _ wr q0 qq =>
      obtain rfl : u0 = Value.ref a := r0
      obtain rfl : w0 = Value.ref b := q0
      show wpAny (model X.prog X.w) X.A (richCompare .Eq (.ref p) (.ref q)) (EP X pins σ Q) X.xe s
      refine GQ.rc_tupN (by simp) (by simp) hr.units0 e e2 ?_
      show wpAny (model X.prog X.w) X.A.in1 (eqBool (.ref a) (.ref b)) _ X.xe s
      have sb : Sub X n X.A.in1 := Sub.in1 ⟨hr, rfl⟩
      obtain ⟨f, fd, F, bd, hf, hm⟩ := O.ex
      obtain ⟨od, J⟩ := inst_at I ha
      obtain ⟨m2, hF⟩ := I.fr
      refine GQ.eqBool_refG ne (PySem.W.cmp_K (op := .Eq) sb.room.units0 hF I.ok.mod.kin J (rty_looks I (show RelV (.ref b) (.ref b) from rfl) ty) nf (hm C hC) hf (wpAny_mono (run_at F sb bd I (.cons (show RelV (.ref a) (.ref a) from rfl) (.cons (show RelV (.ref b) (.ref b) from rfl) .nil)) hsp) (fun w s' z => ?_) fun _ _ z => z))
      obtain ⟨x, H', I', r, ex, q'⟩ := z
      subst ex
      cases (show w = Value.bool false from r)
      exact ⟨false, rfl, rfl, .bl false, H', I', rfl, q'⟩
/-- one of two tuples is empty -/
def rEqT0 (K : PySem.W.Frag) : R2 := fun x y H Q => ∃ (p q : Addr) (xs ys : List V), x = .ref p ∧ y = .ref q ∧ SqT K H p xs ∧ SqT K H q ys ∧ (xs = [] ∨ ys = []) ∧ Q (.bl (decide (xs.length = ys.length))) H
def rNeT0 (K : PySem.W.Frag) : R2 := fun x y H Q => ∃ (p q : Addr) (xs ys : List V), x = .ref p ∧ y = .ref q ∧ SqT K H p xs ∧ SqT K H q ys ∧ (xs = [] ∨ ys = []) ∧ Q (.bl (!decide (xs.length = ys.length))) H
theorem none_all {its its2 : List Value} (h : its = [] ∨ its2 = []) : ((List.range (min its.toArray.size its2.toArray.size)).all (fun _ => true) && its.toArray.size == its2.toArray.size) = decide (its.length = its2.length) := by
  rcases h with rfl | rfl
  · simp [eq_comm]
    cases its2 <;> simp
  · simp
    cases its <;> simp
theorem no_turn {P : Program} {w : World} {A : Around} {s : Shared} {its its2 : List Value} (h : its = [] ∨ its2 = []) (j : Nat) (h1 : j < its.toArray.size) (h2 : j < its2.toArray.size) : SeqAt.EqAt A.in1 s its.toArray[j] its2.toArray[j] true := by
  rcases h with rfl | rfl
  · exact absurd h1 (by simp)
  · exact absurd h2 (by simp)
theorem op_eqT0 {X : Cx} (hu : X.A.units < cLine) : OpR X (compareOp .Eq) (rEqT0 X.K) := by
  intro pins s σ H x y v u Q I rx ry h
  obtain ⟨p, q, xs, ys, rfl, rfl, hp, hq, em, hQ⟩ := h
  cases rx
  cases ry
  obtain ⟨its, r, e, z⟩ := I.tuple hp
  obtain ⟨its2, r2, e2, z2⟩ := I.tuple hq
  have em2 : its = [] ∨ its2 = [] := by
    rcases em with rfl | rfl
    · cases r; exact .inl rfl
    · cases r2; exact .inr rfl
  have := SeqAt.RcAt.tuples (A := X.A) (s := s) (e := fun _ => true) e e2 hu (no_turn (P := X.prog) (w := X.w) em2)
  rw [none_all em2, ← r.length, ← r2.length] at this
  exact this X.prog X.w X.xe _ ⟨.bl _, H, I, rfl, hQ⟩
theorem op_neT0 {X : Cx} (hu : X.A.units < cLine) : OpR X (compareOp .NotEq) (rNeT0 X.K) := by
  intro pins s σ H x y v u Q I rx ry h
  obtain ⟨p, q, xs, ys, rfl, rfl, hp, hq, em, hQ⟩ := h
  cases rx
  cases ry
  obtain ⟨its, r, e, z⟩ := I.tuple hp
  obtain ⟨its2, r2, e2, z2⟩ := I.tuple hq
  have em2 : its = [] ∨ its2 = [] := by
    rcases em with rfl | rfl
    · cases r; exact .inl rfl
    · cases r2; exact .inr rfl
  have := SeqAt.RcNeAt.tuples (A := X.A) (s := s) (e := fun _ => true) e e2 hu (no_turn (P := X.prog) (w := X.w) em2)
  rw [none_all em2, ← r.length, ← r2.length] at this
  exact this X.prog X.w X.xe _ ⟨.bl _, H, I, rfl, hQ⟩
end Jo

set_option Elab.async false
set_option linter.all false
set_option maxRecDepth 100000
set_option maxHeartbeats 2000000
/-! The law's own call, of a law that a def with an empty table of its own serves. -/
namespace Jo
open PySem PySem.Spec PyProof.Rows L2 ClX
open LamX (TabB)
section
variable {P : Program} {w : World} {K : PySem.W.Frag} {mg mb : Str → Option Value}
theorem law_callGT {k : Nat} {fa a c Pt : Addr} {fd : FuncData} {x : Str} {sp : Sp} {s₁ : Shared} {vs : List Value} {ns : List Int}
    (KX : K.In s₁.heap) (hns : s₁.heap.Ns mainGlobals mg) (hb : s₁.heap.Ns builtinsNs mb)
    (hbb : ∀ x : Str, x ≠ "__name__" → mb x = bootBuiltins x) (hlim : s₁.heap.NoLimit) (hg : s₁.gens = #[])
    (hP : s₁.heap.get? Pt = some { cls := .none, data := .fields #[] }) (nP : K.lookup Pt = none) (hC : PySem.W.CodeHd s₁.heap c Pt)
    (hbm : ∃ (bm : Addr) (ob : Obj), mg "__builtins__" = some (.ref bm) ∧ bm ≠ builtinsNs ∧ s₁.heap.get? bm = some ob ∧ ob.cls = .type "module" ∧ ob.dict = some builtinsNs ∧ ob.data = .plain)
    (ha : s₁.heap.get? a = some { cls := .type "list", data := .seq vs.toArray }) (hi : IntsAre vs ns)
    (hl : ns.length ≤ sizeLine) (hr : Room k callerA)
    (F : ∀ base : Heap, K.In base → base.Ns mainGlobals mg → TabB base mg c Pt → FnG P w K mg base k fa fd [x] sp)
    (hbind : ∀ (s : Shared) (u : Value), BindsTo s fd ⟨[u], []⟩ [(x, u)])
    (hsp : ∀ H : Hp, H Pt = some (.tbl #[]) → SqL K H a (ns.map V.int) → sp [.ref a] H (fun v _ => v = .bl true) fun _ _ _ => False) :
    codeAny (model P w) callerA (.call (.ref fa) ⟨[.ref a], []⟩)
      (fun r s' => r = .ok (.ret (.bool true)) ∧ OldK s₁.heap s'.heap ∧ s'.os = s₁.os ∧ AllBare s'.gens) s₁ := by
  have rv := vals_ints hi
  have aP : a ≠ Pt := fun e => by
    rw [e, hP] at ha
    cases ha
  let T : Hp := fun b => if b = Pt then some (.tbl #[]) else match K.lookup a with
    | some _ => none
    | none => if b = a then some (.frz { cls := .type "list", data := .seq vs.toArray } (.lst (ns.map V.int))) else none
  have hTP : T Pt = some (.tbl #[]) := if_pos rfl
  have hT : ∀ b o, T b = some o → (b = Pt ∧ o = .tbl #[]) ∨ (b ≠ Pt ∧ b = a ∧ K.lookup a = none ∧ o = .frz { cls := .type "list", data := .seq vs.toArray } (.lst (ns.map V.int))) := fun b o e => by
    by_cases hbp : b = Pt
    · have e2 := (if_pos hbp).symm.trans e
      cases e2
      exact .inl ⟨hbp, rfl⟩
    · have e1 := (if_neg hbp).symm.trans e
      revert e1
      cases hk : K.lookup a with
      | some z => intro e; cases e
      | none =>
        intro e
        by_cases hba : b = a
        · have e2 := (if_pos hba).symm.trans e
          cases e2
          exact .inr ⟨hbp, hba, rfl, rfl⟩
        · have e2 := (if_neg hba).symm.trans e
          cases e2
  have hok : HOk P w T s₁.heap := fun b o e => by
    rcases hT b o e with ⟨rfl, rfl⟩ | ⟨_, rfl, _, rfl⟩
    · exact hP
    · exact ⟨ha, by rw [List.length_map]; exact hl, vs, _, rv, ha⟩
  have hS : SqL K T a (ns.map V.int) := by
    cases hk : K.lookup a with
    | some o =>
      have e := KX a o hk
      rw [ha] at e
      cases e
      exact .inr ⟨_, vs.toArray, _, hk, rfl, rfl, rfl, by rw [List.size_toArray, hi.length]; exact hl, by simpa using rv⟩
    | none =>
      refine .inl (.inr ⟨{ cls := .type "list", data := .seq vs.toArray }, (if_neg aP).trans ?_⟩)
      show (match K.lookup a with | some _ => none | none => if a = a then some _ else none) = some _
      rw [hk]
      exact if_pos rfl
  have free : ∀ {b : Addr} {o : Obj}, s₁.heap.get? b = some o → (∀ q n, o.data ≠ .seq q n) → o.data ≠ .fields #[] → T b = none := fun {b o} e hn hf => by
    cases q : T b with
    | none => rfl
    | some u =>
      rcases hT b u q with ⟨rfl, _⟩ | ⟨_, rfl, _, _⟩
      · rw [hP] at e
        cases e
        exact absurd rfl hf
      · rw [ha] at e
        cases e
        exact absurd rfl (hn _ _)
  have seen : ∀ {b : Addr} {o : Obj}, s₁.heap.get? b = some o → T b = none → (hidT s₁.heap T).get? b = some o := fun e n => hidT_get e n
  have nsB : ∀ {b : Addr} {m : Str → Option Value}, s₁.heap.Ns b m → (hidT s₁.heap T).Ns b m :=
    fun ⟨o, es, ep, e, d, r⟩ => ⟨o, es, ep, seen e (free e (fun q n z => by rw [d] at z; cases z) fun z => by rw [d] at z; cases z), d, r⟩
  have kB : K.In (hidT s₁.heap T) := fun b o e => seen (KX b o e) (by
    cases q : T b with
    | none => rfl
    | some u =>
      rcases hT b u q with ⟨rfl, _⟩ | ⟨_, rfl, hk, _⟩
      · rw [nP] at e
        cases e
      · rw [hk] at e
        cases e)
  have gP : mainGlobals ≠ Pt := fun z => by
    obtain ⟨o, es, ep, e, d, _⟩ := hns
    rw [z, hP] at e
    cases e
    cases d
  have TB : TabB (hidT s₁.heap T) mg c Pt := by
    refine ⟨?_, ?_, gP⟩
    · obtain ⟨o, us, file, tf, flags, tg, inF, text, tt, e1, r1, r2, r3, rest⟩ := hC
      refine ⟨o, us, file, tf, flags, tg, inF, text, tt, seen e1 (free e1 (fun q n z => by rw [r2] at z; cases z) fun z => ?_), r1, r2, r3, rest⟩
      rw [r2] at z
      cases z
      cases r3
    · obtain ⟨bm, ob, b1, b2, b3, b4, b5, b6⟩ := hbm
      have nG : bm ≠ mainGlobals := fun q => by
        obtain ⟨o, es, ep, e, d, _⟩ := hns
        rw [q, e] at b3
        cases b3
        rw [d] at b6
        cases b6
      have nQ : bm ≠ Pt := fun q => by
        rw [q, hP] at b3
        cases b3
        cases b6
      exact ⟨bm, ob, b1, b2, nG, nQ, seen b3 (free b3 (fun q n z => by rw [b6] at z; cases z) fun z => by rw [b6] at z; cases z), b4, b5, b6⟩
  obtain ⟨mc, l1, l2⟩ := hlim
  have hM : Mod K mg (hidT s₁.heap T) := ⟨kB, nsB hns, ⟨mb, nsB hb, hbb⟩, ⟨mc, nsB l1, l2⟩⟩
  have none0 : ∀ b : Addr, b ∉ ([] : List Addr) := fun b z => nomatch z
  have e0 : Env0 P w K mg (hidT s₁.heap T) callerA [] s₁ T :=
    ⟨rfl, hM, fun b o e => of_hidT e, Nat.le_of_eq (hidT_size _ _), trivial, fun b z => absurd z (none0 b), hok, .of_eq hg⟩
  have run := (F _ kB (nsB hns) TB).go callerA [] s₁ T ⟨[.ref a], []⟩ [.ref a] [.ref a] _ _ hr rfl e0 (hbind s₁ (.ref a)) (.cons rfl .nil) (hsp T hTP hS)
  refine codeAny_mono run fun r s' h => ?_
  match r, h with
  | .error e, h => exact (show False from h).elim
  | .ok .next, h => exact (show False from h).elim
  | .ok .brk, h => exact (show False from h).elim
  | .ok .cont, h => exact (show False from h).elim
  | .ok (.ret u), h =>
    obtain ⟨v, H', os, bare, un, hok', r', q⟩ := h
    cases (show v = V.bl true from q)
    cases (show u = Value.bool true from r')
    have key : ∀ b o, b ≠ Pt → s₁.heap.get? b = some o → s'.heap.get? b = some o := fun b o nb e => by
      cases q : T b with
      | none => exact un.keep b o e q (none0 b) (none0 b)
      | some u =>
        rcases hT b u q with ⟨rfl, _⟩ | ⟨_, rfl, _, rfl⟩
        · exact absurd rfl nb
        · obtain ⟨e1, _⟩ := hok' b _ (un.frzs b _ _ q)
          rw [ha] at e
          cases e
          exact e1
    obtain ⟨more, hm⟩ := un.tbls Pt #[] hTP
    have grown : s'.heap.get? Pt = some { cls := .none, data := .fields (#[] ++ more) } := hok' Pt _ hm
    refine ⟨rfl, ⟨fun b o e => ?_, fun b o e => ?_⟩, os, bare⟩
    · by_cases hbp : b = Pt
      · subst hbp
        rw [hP] at e
        cases e
        exact .inr (.inl ⟨(hC.tab hP).isCodeTable, rfl, #[], more, rfl, grown⟩)
      · exact .inl (key b o hbp e)
    · by_cases hbp : b = Pt
      · subst hbp
        exact ⟨_, grown⟩
      · exact ⟨o, key b o hbp e⟩
end
theorem walk_ofGT {l : PySem.W.OpenLaw} {n k : Nat} {q : Program} {loose : List Str} {XP : (Str → Option Value) → Heap → Prop} {YP : World → Heap → Prop} {d : DefRec} {x : Str}
    (hn : l.most = some n) (hn2 : n ≤ sizeLine) (hdf : d.params.defaults = []) (hr : Room k callerA)
    (F : ∀ (w : World) (mg : Str → Option Value) (fa : Addr) (h : Heap), YP w h → h.Ns mainGlobals mg → mg d.name = some (.ref fa) →
      ∃ (K : PySem.W.Frag) (fd : FuncData) (c Pt : Addr) (sp : Sp), K.In h ∧ h.get? Pt = some { cls := .none, data := .fields #[] } ∧ K.lookup Pt = none ∧ PySem.W.CodeHd h c Pt ∧ (∀ (s : Shared) (u : Value), BindsTo s fd ⟨[u], []⟩ [(x, u)]) ∧
        (∀ (H : Hp) (a : Addr) (ns : List Int), ns.length ≤ n → (∀ z ∈ ns, Builtin.Int.intBits z ≤ 1048576) → H Pt = some (.tbl #[]) → SqL K H a (ns.map V.int) → sp [.ref a] H (fun v _ => v = .bl true) fun _ _ _ => False) ∧
        ∀ base : Heap, K.In base → base.Ns mainGlobals mg → TabB base mg c Pt → FnG l.prog w K mg base k fa fd [x] sp) :
    PySem.W.WalkO q loose XP YP l.row.toRowW d [] (fun f vs => PySem.call f vs) := by
  refine Att.attach_callB hn hdf fun w s₀ s₁ mg mb fa o pm cd doc a vs ns G Y ho hd hcd hmg hobj hints hlen hbits hg => ?_
  obtain ⟨K, fd, c, Pt, sp, KX, hP, nP, hC, hb, hsp, hF⟩ := F w mg fa _ Y G.T.g hmg
  exact law_callGT KX G.T.g G.T.b G.T.builtins G.T.nolimit hg hP nP hC G.T.bmain hobj hints (Nat.le_trans hlen hn2) hr hF hb fun H hH hS => hsp H a ns hlen hbits hH hS
end Jo

set_option Elab.async false
set_option linter.all false
set_option maxRecDepth 100000
set_option maxHeartbeats 2000000
/-! The law's own call, of a law that defs with empty tables of their own serve. -/
namespace Jo
open PySem PySem.Spec PyProof.Rows L2 ClX
open LamX (TabB)
section
variable {P : Program} {w : World} {K : PySem.W.Frag} {mg mb : Str → Option Value}
theorem law_callGM {k : Nat} {fa a : Addr} {cps : List (Addr × Addr)} {fd : FuncData} {x : Str} {sp : Sp} {s₁ : Shared} {vs : List Value} {ns : List Int}
    (KX : K.In s₁.heap) (hns : s₁.heap.Ns mainGlobals mg) (hb : s₁.heap.Ns builtinsNs mb)
    (hbb : ∀ x : Str, x ≠ "__name__" → mb x = bootBuiltins x) (hlim : s₁.heap.NoLimit) (hg : s₁.gens = #[])
    (hCP : ∀ p ∈ cps, s₁.heap.get? p.2 = some { cls := .none, data := .fields #[] } ∧ K.lookup p.2 = none ∧ PySem.W.CodeHd s₁.heap p.1 p.2)
    (hbm : ∃ (bm : Addr) (ob : Obj), mg "__builtins__" = some (.ref bm) ∧ bm ≠ builtinsNs ∧ s₁.heap.get? bm = some ob ∧ ob.cls = .type "module" ∧ ob.dict = some builtinsNs ∧ ob.data = .plain)
    (ha : s₁.heap.get? a = some { cls := .type "list", data := .seq vs.toArray }) (hi : IntsAre vs ns)
    (hl : ns.length ≤ sizeLine) (hr : Room k callerA)
    (F : ∀ base : Heap, K.In base → base.Ns mainGlobals mg → (∀ p ∈ cps, TabB base mg p.1 p.2) → FnG P w K mg base k fa fd [x] sp)
    (hbind : ∀ (s : Shared) (u : Value), BindsTo s fd ⟨[u], []⟩ [(x, u)])
    (hsp : ∀ H : Hp, (∀ p ∈ cps, H p.2 = some (.tbl #[])) → SqL K H a (ns.map V.int) → sp [.ref a] H (fun v _ => v = .bl true) fun _ _ _ => False) :
    codeAny (model P w) callerA (.call (.ref fa) ⟨[.ref a], []⟩)
      (fun r s' => r = .ok (.ret (.bool true)) ∧ OldK s₁.heap s'.heap ∧ s'.os = s₁.os ∧ AllBare s'.gens) s₁ := by
  have rv := vals_ints hi
  let Ps : List Addr := cps.map Prod.snd
  have hPs : ∀ b ∈ Ps, s₁.heap.get? b = some { cls := .none, data := .fields #[] } ∧ K.lookup b = none ∧ ∃ c, PySem.W.CodeHd s₁.heap c b := fun b hb => by
    obtain ⟨p, hp, rfl⟩ := List.mem_map.mp hb
    exact ⟨(hCP p hp).1, (hCP p hp).2.1, p.1, (hCP p hp).2.2⟩
  have inPs : ∀ p ∈ cps, p.2 ∈ Ps := fun p hp => List.mem_map.mpr ⟨p, hp, rfl⟩
  have aP : a ∉ Ps := fun e => by
    rw [(hPs a e).1] at ha
    cases ha
  let T : Hp := fun b => if b ∈ Ps then some (.tbl #[]) else match K.lookup a with
    | some _ => none
    | none => if b = a then some (.frz { cls := .type "list", data := .seq vs.toArray } (.lst (ns.map V.int))) else none
  have hTP : ∀ b ∈ Ps, T b = some (.tbl #[]) := fun b hb => if_pos hb
  have hT : ∀ b o, T b = some o → (b ∈ Ps ∧ o = .tbl #[]) ∨ (b ∉ Ps ∧ b = a ∧ K.lookup a = none ∧ o = .frz { cls := .type "list", data := .seq vs.toArray } (.lst (ns.map V.int))) := fun b o e => by
    by_cases hbp : b ∈ Ps
    · have e2 := (if_pos hbp).symm.trans e
      cases e2
      exact .inl ⟨hbp, rfl⟩
    · have e1 := (if_neg hbp).symm.trans e
      revert e1
      cases hk : K.lookup a with
      | some z => intro e; cases e
      | none =>
        intro e
        by_cases hba : b = a
        · have e2 := (if_pos hba).symm.trans e
          cases e2
          exact .inr ⟨hbp, hba, rfl, rfl⟩
        · have e2 := (if_neg hba).symm.trans e
          cases e2
  have hok : HOk P w T s₁.heap := fun b o e => by
    rcases hT b o e with ⟨hb, rfl⟩ | ⟨_, rfl, _, rfl⟩
    · exact (hPs b hb).1
    · exact ⟨ha, by rw [List.length_map]; exact hl, vs, _, rv, ha⟩
  have hS : SqL K T a (ns.map V.int) := by
    cases hk : K.lookup a with
    | some o =>
      have e := KX a o hk
      rw [ha] at e
      cases e
      exact .inr ⟨_, vs.toArray, _, hk, rfl, rfl, rfl, by rw [List.size_toArray, hi.length]; exact hl, by simpa using rv⟩
    | none =>
      refine .inl (.inr ⟨{ cls := .type "list", data := .seq vs.toArray }, (if_neg aP).trans ?_⟩)
      show (match K.lookup a with | some _ => none | none => if a = a then some _ else none) = some _
      rw [hk]
      exact if_pos rfl
  have free : ∀ {b : Addr} {o : Obj}, s₁.heap.get? b = some o → (∀ q n, o.data ≠ .seq q n) → o.data ≠ .fields #[] → T b = none := fun {b o} e hn hf => by
    cases q : T b with
    | none => rfl
    | some u =>
      rcases hT b u q with ⟨hb, _⟩ | ⟨_, rfl, _, _⟩
      · rw [(hPs b hb).1] at e
        cases e
        exact absurd rfl hf
      · rw [ha] at e
        cases e
        exact absurd rfl (hn _ _)
  have seen : ∀ {b : Addr} {o : Obj}, s₁.heap.get? b = some o → T b = none → (hidT s₁.heap T).get? b = some o := fun e n => hidT_get e n
  have nsB : ∀ {b : Addr} {m : Str → Option Value}, s₁.heap.Ns b m → (hidT s₁.heap T).Ns b m :=
    fun ⟨o, es, ep, e, d, r⟩ => ⟨o, es, ep, seen e (free e (fun q n z => by rw [d] at z; cases z) fun z => by rw [d] at z; cases z), d, r⟩
  have kB : K.In (hidT s₁.heap T) := fun b o e => seen (KX b o e) (by
    cases q : T b with
    | none => rfl
    | some u =>
      rcases hT b u q with ⟨hb, _⟩ | ⟨_, rfl, hk, _⟩
      · rw [(hPs b hb).2.1] at e
        cases e
      · rw [hk] at e
        cases e)
  have gP : ∀ b ∈ Ps, mainGlobals ≠ b := fun b hb z => by
    obtain ⟨o, es, ep, e, d, _⟩ := hns
    rw [z, (hPs b hb).1] at e
    cases e
    cases d
  have TB : ∀ p ∈ cps, TabB (hidT s₁.heap T) mg p.1 p.2 := fun p hp => by
    have hP := (hCP p hp).1
    have hC := (hCP p hp).2.2
    refine ⟨?_, ?_, gP _ (inPs p hp)⟩
    · obtain ⟨o, us, file, tf, flags, tg, inF, text, tt, e1, r1, r2, r3, rest⟩ := hC
      refine ⟨o, us, file, tf, flags, tg, inF, text, tt, seen e1 (free e1 (fun q n z => by rw [r2] at z; cases z) fun z => ?_), r1, r2, r3, rest⟩
      rw [r2] at z
      cases z
      cases r3
    · obtain ⟨bm, ob, b1, b2, b3, b4, b5, b6⟩ := hbm
      have nG : bm ≠ mainGlobals := fun q => by
        obtain ⟨o, es, ep, e, d, _⟩ := hns
        rw [q, e] at b3
        cases b3
        rw [d] at b6
        cases b6
      have nQ : bm ≠ p.2 := fun q => by
        rw [q, hP] at b3
        cases b3
        cases b6
      exact ⟨bm, ob, b1, b2, nG, nQ, seen b3 (free b3 (fun q n z => by rw [b6] at z; cases z) fun z => by rw [b6] at z; cases z), b4, b5, b6⟩
  obtain ⟨mc, l1, l2⟩ := hlim
  have hM : Mod K mg (hidT s₁.heap T) := ⟨kB, nsB hns, ⟨mb, nsB hb, hbb⟩, ⟨mc, nsB l1, l2⟩⟩
  have none0 : ∀ b : Addr, b ∉ ([] : List Addr) := fun b z => nomatch z
  have e0 : Env0 P w K mg (hidT s₁.heap T) callerA [] s₁ T :=
    ⟨rfl, hM, fun b o e => of_hidT e, Nat.le_of_eq (hidT_size _ _), trivial, fun b z => absurd z (none0 b), hok, .of_eq hg⟩
  have run := (F _ kB (nsB hns) TB).go callerA [] s₁ T ⟨[.ref a], []⟩ [.ref a] [.ref a] _ _ hr rfl e0 (hbind s₁ (.ref a)) (.cons rfl .nil) (hsp T (fun p hp => hTP _ (inPs p hp)) hS)
  refine codeAny_mono run fun r s' h => ?_
  match r, h with
  | .error e, h => exact (show False from h).elim
  | .ok .next, h => exact (show False from h).elim
  | .ok .brk, h => exact (show False from h).elim
  | .ok .cont, h => exact (show False from h).elim
  | .ok (.ret u), h =>
    obtain ⟨v, H', os, bare, un, hok', r', q⟩ := h
    cases (show v = V.bl true from q)
    cases (show u = Value.bool true from r')
    have key : ∀ b o, b ∉ Ps → s₁.heap.get? b = some o → s'.heap.get? b = some o := fun b o nb e => by
      cases q : T b with
      | none => exact un.keep b o e q (none0 b) (none0 b)
      | some u =>
        rcases hT b u q with ⟨hb, _⟩ | ⟨_, rfl, _, rfl⟩
        · exact absurd hb nb
        · obtain ⟨e1, _⟩ := hok' b _ (un.frzs b _ _ q)
          rw [ha] at e
          cases e
          exact e1
    refine ⟨rfl, ⟨fun b o e => ?_, fun b o e => ?_⟩, os, bare⟩
    · by_cases hbp : b ∈ Ps
      · obtain ⟨hP, _, c, hC⟩ := hPs b hbp
        obtain ⟨more, hm⟩ := un.tbls b #[] (hTP b hbp)
        have grown : s'.heap.get? b = some { cls := .none, data := .fields (#[] ++ more) } := hok' b _ hm
        rw [hP] at e
        cases e
        exact .inr (.inl ⟨(hC.tab hP).isCodeTable, rfl, #[], more, rfl, grown⟩)
      · exact .inl (key b o hbp e)
    · by_cases hbp : b ∈ Ps
      · obtain ⟨hP, _, c, hC⟩ := hPs b hbp
        obtain ⟨more, hm⟩ := un.tbls b #[] (hTP b hbp)
        have grown : s'.heap.get? b = some { cls := .none, data := .fields (#[] ++ more) } := hok' b _ hm
        exact ⟨_, grown⟩
      · exact ⟨o, key b o hbp e⟩
end
theorem walk_ofGM {l : PySem.W.OpenLaw} {n k : Nat} {q : Program} {loose : List Str} {XP : (Str → Option Value) → Heap → Prop} {YP : World → Heap → Prop} {d : DefRec} {x : Str}
    (hn : l.most = some n) (hn2 : n ≤ sizeLine) (hdf : d.params.defaults = []) (hr : Room k callerA)
    (F : ∀ (w : World) (mg : Str → Option Value) (fa : Addr) (h : Heap), YP w h → h.Ns mainGlobals mg → mg d.name = some (.ref fa) →
      ∃ (K : PySem.W.Frag) (fd : FuncData) (cps : List (Addr × Addr)) (sp : Sp), K.In h ∧ (∀ p ∈ cps, h.get? p.2 = some { cls := .none, data := .fields #[] } ∧ K.lookup p.2 = none ∧ PySem.W.CodeHd h p.1 p.2) ∧ (∀ (s : Shared) (u : Value), BindsTo s fd ⟨[u], []⟩ [(x, u)]) ∧
        (∀ (H : Hp) (a : Addr) (ns : List Int), ns.length ≤ n → (∀ z ∈ ns, Builtin.Int.intBits z ≤ 1048576) → (∀ p ∈ cps, H p.2 = some (.tbl #[])) → SqL K H a (ns.map V.int) → sp [.ref a] H (fun v _ => v = .bl true) fun _ _ _ => False) ∧
        ∀ base : Heap, K.In base → base.Ns mainGlobals mg → (∀ p ∈ cps, TabB base mg p.1 p.2) → FnG l.prog w K mg base k fa fd [x] sp) :
    PySem.W.WalkO q loose XP YP l.row.toRowW d [] (fun f vs => PySem.call f vs) := by
  refine Att.attach_callB hn hdf fun w s₀ s₁ mg mb fa o pm cd doc a vs ns G Y ho hd hcd hmg hobj hints hlen hbits hg => ?_
  obtain ⟨K, fd, cps, sp, KX, hCP, hb, hsp, hF⟩ := F w mg fa _ Y G.T.g hmg
  exact law_callGM KX G.T.g G.T.b G.T.builtins G.T.nolimit hg hCP G.T.bmain hobj hints (Nat.le_trans hlen hn2) hr hF hb fun H hH hS => hsp H a ns hlen hbits hH hS
end Jo

set_option Elab.async false
set_option linter.all false
set_option maxRecDepth 100000
set_option maxHeartbeats 1000000
namespace Jo
open PySem PySem.Spec PyProof.Rows L2
/-! ### a comprehension whose items are reckoned from the turn, the heap staying -/
theorem lc_fun {J : It} {n : Nat} {Y : Nat → Hp → V → Hp → Prop} (w : Walk J n (fun _ => True) Y) {g : TG} {te : TE} {vs : List Nat} {σ : L2.St}
    {H1 : Hp} {D : Addr} {Qd : Hp → Prop} (f : Nat → V) (hn : n < sizeLine)
    (hs : ∀ (i : Nat) (x : V) (H H' : Hp) (Q : VK), i < n → Y i H x H' → Q (f i) H →
      g x (wipe σ vs) H' fun σ2 H2 => wipe σ2 vs = wipe σ vs ∧ te σ2 H2 Q)
    (hd : Qd (upd H1 D (.lst ((List.range n).map f)))) :
    ∃ W : Nat → Nat → Hp → Prop, (∃ m, W 0 m (upd H1 D (.lst []))) ∧ ∀ i m H, W i m H →
      (J.stop i H ∧ Qd H) ∨ (J.go i H ∧ ∃ Nx : Hp → Prop, (∀ H', Nx H' → ∃ m', m' < m ∧ W (i + 1) m' H') ∧
        ∀ x H', J.yld i H x H' → g x (wipe σ vs) H' fun σ2 H2 => wipe σ2 vs = wipe σ vs ∧ tYes σ2 H2 fun b H3 =>
          if b = true then te σ2 H3 fun y H4 => ∃ acc, H4 D = some (.lst acc) ∧ acc.length < sizeLine ∧ Nx (upd H4 D (.lst (acc ++ [y]))) else Nx H3) := by
  refine lc_it w (fun i H => i ≤ n ∧ H = upd H1 D (.lst ((List.range i).map f))) ⟨Nat.zero_le _, rfl⟩ (fun _ _ _ _ => trivial) (fun i x H H' hi hp hy => ?_) (fun H hp => ?_)
  · obtain ⟨_, rfl⟩ := hp
    refine hs i x _ H' (fun y H4 => ∃ acc, H4 D = some (.lst acc) ∧ acc.length < sizeLine ∧ (i + 1 ≤ n ∧ upd H4 D (.lst (acc ++ [y])) = upd H1 D (.lst ((List.range (i + 1)).map f)))) hi hy ?_
    refine ⟨_, upd_same, ?_, hi, ?_⟩
    · rw [List.length_map, List.length_range]
      exact Nat.lt_trans hi hn
    · rw [List.range_succ, List.map_append]
      funext b
      by_cases hb : b = D
      · subst hb
        rw [upd_same, upd_same]
        rfl
      · rw [upd_ne hb, upd_ne hb, upd_ne hb]
  · rw [hp.2]
    exact hd

def isI : V → Bool | .int _ => true | _ => false
def isS : V → Bool | .str _ => true | _ => false
def nmS (z : Str) : Bool := (decide (1 ≤ (z.length : Int)) && decide ((z.length : Int) ≤ 8)) &&
  (decide (z.cps.getD 0 0 ∈ letters.cps.toList) && ((List.range z.cps.size).map fun i => decide (z.cps.getD i 0 ∈ signs.cps.toList)).all id)
def isNm : V → Bool | .str z => nmS z | _ => false
/-- a value of any of the built-in kinds, as isinstance sees it -/
def AnyV (K : PySem.W.Frag) (H : Hp) (x : V) : Prop := ∃ (t : Value) (i b s : Bool), TyX K H x t ∧ PySem.W.kitOne K t (.type "int") = some i ∧
  PySem.W.kitOne K t (.type "bool") = some b ∧ PySem.W.kitOne K t (.type "str") = some s ∧ (i && !b) = isI x ∧ s = isS x
section
variable {K : PySem.W.Frag} {H : Hp}
theorem any_int (n : Int) : AnyV K H (.int n) := ⟨_, true, false, false, .base (.int n), kit_ty (by decide +kernel), kit_ty (by decide +kernel), kit_ty (by decide +kernel), rfl, rfl⟩
theorem any_str (z : Str) : AnyV K H (.str z) := ⟨_, false, false, true, .base (.str z), kit_ty (by decide +kernel), kit_ty (by decide +kernel), kit_ty (by decide +kernel), rfl, rfl⟩
theorem any_bl (z : Bool) : AnyV K H (.bl z) := ⟨_, true, true, false, .base (.bl z), kit_ty (by decide +kernel), kit_ty (by decide +kernel), kit_ty (by decide +kernel), rfl, rfl⟩
theorem any_non : AnyV K H .non := ⟨_, false, false, false, .base .non, kit_ty (by decide +kernel), kit_ty (by decide +kernel), kit_ty (by decide +kernel), rfl, rfl⟩
theorem any_lst {a : Addr} {xs : List V} (e : H a = some (.lst xs)) : AnyV K H (.ref a) := ⟨_, false, false, false, .base (.lst e), kit_ty (by decide +kernel), kit_ty (by decide +kernel), kit_ty (by decide +kernel), rfl, rfl⟩
theorem any_tup {a : Addr} {xs : List V} (e : H a = some (.tup xs)) : AnyV K H (.ref a) := ⟨_, false, false, false, .base (.tup e), kit_ty (by decide +kernel), kit_ty (by decide +kernel), kit_ty (by decide +kernel), rfl, rfl⟩
theorem any_dK {a : Addr} {kvs : List (Key × V)} (e : H a = some (.dK kvs)) : AnyV K H (.ref a) := ⟨_, false, false, false, .base (.dK e), kit_ty (by decide +kernel), kit_ty (by decide +kernel), kit_ty (by decide +kernel), rfl, rfl⟩
end

section
variable {P : Program} {w : World} {K : PySem.W.Frag} {mg : Str → Option Value} {base : Heap}
/-! ### is_integer, is_size, is_name -/
def n_is_integer : List Str := ["value"]
theorem sc_is_integer : FnScope n_is_integer ["value"] (defScope s_is_integer) := ⟨rfl, rfl, rfl, by decide +kernel, rfl, by decide +kernel, by decide +kernel⟩
def spIsInt (K : PySem.W.Frag) : Sp := fun vs H Q _ => ∃ x, vs = [x] ∧ AnyV K H x ∧ Q (.bl (isI x)) H
theorem ok_is_integer (T : Txt mg) (D : Dfn K mg "is_integer" s_is_integer ["value"]) : CalF P w K mg base 1 "is_integer" ["value"] (spIsInt K) := by
  refine D.okF sc_is_integer (fun vs H Q E h => ?_) (fun f cdv A fr s H vs Q E hr h => ?_)
  · obtain ⟨x, rfl, _⟩ := h
    rfl
  · obtain ⟨x, rfl, ⟨t, i, b, z, ht, hi, hb, _, e, _⟩, q⟩ := h
    refine ⟨_, pss_one (ps_ret (pe_and (pe_callB call_isi rfl T.b_isinstance (by decide +kernel) (pa_cons (pv 0) (pa_cons (pe_bltn (v := .ty "int") (u := .type "int") rfl T.b_int (by decide +kernel) rfl) pa_nil))) (pe_one (pe_not (pe_callB call_isi rfl T.b_isinstance (by decide +kernel) (pa_cons (pv 0) (pa_cons (pe_bltn (v := .ty "bool") (u := .type "bool") rfl T.b_bool (by decide +kernel) rfl) pa_nil))))))), ?_⟩
    refine ⟨x, rfl, x, _, t, _, i, rfl, .ty "int", ht, hi, i, rfl, ?_⟩
    cases i with
    | false =>
      refine iteF ?_
      rw [← e] at q
      exact q
    | true =>
      refine iteT ⟨x, rfl, x, _, t, _, b, rfl, .ty "bool", ht, hb, b, rfl, ?_⟩
      rw [← e] at q
      exact q
def n_is_name : List Str := ["value", "sign"]
theorem sc_is_name : FnScope n_is_name ["value"] (defScope s_is_name) := ⟨rfl, rfl, rfl, by decide +kernel, rfl, by decide +kernel, by decide +kernel⟩
def spIsName (K : PySem.W.Frag) : Sp := fun vs H Q _ => ∃ x, vs = [x] ∧ AnyV K H x ∧ (∀ z, x = .str z → z.length ≤ 1000) ∧ ∀ H', Same H H' → Q (.bl (isNm x)) H'
theorem len_cps (z : Str) : z.length = z.cps.size := by simp [Str.length]
theorem cps_get {z : Str} {i c : Nat} (h : z.cps[i]? = some c) : z.cps.getD i 0 = c := by simp [Array.getD_eq_getD_getElem?, h]
theorem ok_is_name (T : Txt mg) (D : Dfn K mg "is_name" s_is_name ["value"]) : CalF P w K mg base 1 "is_name" ["value"] (spIsName K) := by
  refine D.okF sc_is_name (fun vs H Q E h => ?_) (fun f cdv A fr s H vs Q E hr h => ?_)
  · obtain ⟨x, rfl, _⟩ := h
    rfl
  · obtain ⟨x, rfl, ⟨t, i, b, z, ht, _, _, hz, _, e⟩, hlen, q⟩ := h
    refine ⟨_, pss_cons (ps_if (PW.pt (pw_or (pt_not (pt_val (pe_callB call_isi rfl T.b_isinstance (by decide +kernel) (pa_cons (pv 0) (pa_cons (pe_bltn (v := .ty "str") (u := .type "str") rfl T.b_str (by decide +kernel) rfl) pa_nil))))) (pw_or1 (pt_not (pt_chain op_le op_le pe_int (pe_callB call_len rfl T.b_len (by decide +kernel) (pa_cons (pv 0) pa_nil)) (C8.pe_gc rfl T.g_LONGEST_NAME))))))
        (pss_one (ps_ret pe_bl))
        (pss_nil))
      (pss_one (ps_ret (pe_and (pe_cmpR op_in_sign (pe_item_str (pv 0) pe_int (fun _ _ => rfl)) (C8.pe_gc rfl T.g_LETTERS) rfl) (pe_one (pe_callB (cr_all rfl) rfl T.b_all (by decide +kernel) (pa_cons (pe_lc (own := [("sign", 1)]) (g := gName 1) (tt := tYes) rfl sc_is_name.nd (pi_str (pv 0)) (blkOk_by (N := n_is_name) (sc := defScope s_is_name) (by decide +kernel)) (fun _ _ _ _ _ => pg_name (i := 1) sc_is_name.nd rfl (Or.inl rfl)) (fun _ _ _ _ _ => pts_nil) (fun _ _ _ _ _ => (pe_cmpR op_in_sign (pv 1) (C8.pe_gc rfl T.g_SIGNS) rfl))) pa_nil)))))), ?_⟩
    refine ⟨x, rfl, x, _, t, _, z, rfl, .ty "str", ht, hz, z, rfl, ?_⟩
    subst e
    cases x with
    | str y =>
      have hl := hlen y rfl
      have q' : ∀ H', Same H H' → Q (.bl (nmS y)) H' := q
      refine iteF ⟨_, rfl, .str y, y.length, rfl, ⟨Nat.le_trans hl (by decide), rfl⟩, _, _, rfl, rfl, _, rfl, ?_⟩
      by_cases h1 : (1 : Int) ≤ (y.length : Int)
      · rw [decide_eq_true h1]
        refine iteT ⟨_, _, rfl, rfl, _, rfl, ?_⟩
        by_cases h2 : (y.length : Int) ≤ 8
        · rw [decide_eq_true h2]
          refine iteF ?_
          have h0 : 0 < y.cps.size := by rw [← len_cps]; omega
          have c0 : y.cps[0]? = some (y.cps.getD 0 0) := by simp [Array.getD_eq_getD_getElem?, h0]
          refine ⟨_, rfl, y, 0, y.cps.getD 0 0, rfl, rfl, by decide, by decide, by omega, c0, _, letters, rfl, rfl, _, rfl, ?_⟩
          by_cases h3 : y.cps.getD 0 0 ∈ letters.cps.toList
          · rw [decide_eq_true h3]
            refine iteT ⟨_, rfl, y, rfl, fun Dl hD => lc_fun walk_str (fun i => .bl (decide (y.cps.getD i 0 ∈ signs.cps.toList))) (by rw [← len_cps]; exact Nat.lt_of_le_of_lt hl (by decide)) (fun i x H0 H0' Q0 hi hy hq => ?_) ?_⟩
            · obtain ⟨rfl, c, hc, rfl⟩ := hy
              refine ⟨rfl, _, rfl, c, signs, rfl, rfl, ?_⟩
              rw [← cps_get hc]
              exact hq
            · refine ⟨Dl, (List.range y.cps.size).map fun i => decide (y.cps.getD i 0 ∈ signs.cps.toList), rfl, .of (by rw [upd_same, List.map_map]; rfl), ?_⟩
              have en : nmS y = ((List.range y.cps.size).map fun i => decide (y.cps.getD i 0 ∈ signs.cps.toList)).all id := by
                unfold nmS
                rw [decide_eq_true h1, decide_eq_true h2, decide_eq_true h3]
                rfl
              rw [← en]
              exact q' _ (same_new hD)
          · rw [decide_eq_false h3]
            have en : nmS y = false := by
              unfold nmS
              rw [decide_eq_false h3, Bool.false_and, Bool.and_false]
            refine iteF ?_
            rw [← en]
            exact q' _ (Same.refl _)
        · rw [decide_eq_false h2]
          have en : nmS y = false := by
            unfold nmS
            rw [decide_eq_false h2, Bool.and_false, Bool.false_and]
          refine iteT ?_
          show Q (.bl false) H
          rw [← en]
          exact q' _ (Same.refl _)
      · rw [decide_eq_false h1]
        have en : nmS y = false := by
          unfold nmS
          rw [decide_eq_false h1, Bool.false_and, Bool.false_and]
        refine iteF ⟨_, rfl, ?_⟩
        refine iteT ?_
        show Q (.bl false) H
        rw [← en]
        exact q' _ (Same.refl _)
    | _ => exact iteT (q _ (Same.refl _))
end
end Jo

set_option Elab.async false
set_option linter.all false
set_option maxRecDepth 100000
set_option maxHeartbeats 1000000
namespace Jo
open PySem PySem.Spec PyProof.Rows L2
theorem ixN_nat {n j : Nat} (h : j < n) : ixN n (j : Int) = some j := by
  unfold ixN
  rw [if_pos (by omega), if_pos (by omega)]
  simp
/-- everything but what stands at p is kept -/
def Kp (p : Addr) (H H' : Hp) : Prop := ∀ b o, H b = some o → b ≠ p → H' b = some o
theorem Kp.refl (p : Addr) (H : Hp) : Kp p H H := fun _ _ e _ => e
theorem Kp.trans {p : Addr} {H H1 H2 : Hp} (a : Kp p H H1) (b : Kp p H1 H2) : Kp p H H2 := fun c o e n => b c o (a c o e n) n
theorem kp_of {p : Addr} {H H' : Hp} (a : Same H H') : Kp p H H' := fun c o e _ => a c o e
theorem Kp.new {p q : Addr} {H : Hp} {o : HO} (h : H q = none) : Kp p H (upd H q o) := kp_of (same_new h)
theorem Kp.put {p : Addr} {H : Hp} {o : HO} : Kp p H (upd H p o) := fun b x e n => by rw [upd_ne n]; exact e
/-- a purse: a list of three ints -/
def PurseAt (H : Hp) (p : Addr) : Prop := ∃ a b c : Int, H p = some (.lst [.int a, .int b, .int c])
theorem PurseAt.same {H H' : Hp} {p : Addr} (h : PurseAt H p) (s : Same H H') : PurseAt H' p := let ⟨a, b, c, e⟩ := h; ⟨a, b, c, s _ _ e⟩
section
variable {P : Program} {w : World} {K : PySem.W.Frag} {mg : Str → Option Value} {base : Heap}
def n_cell : List Str := ["_law_script", "_law_k", "_law_mixed", "_law_cell_here"]
theorem sc_cell : FnScope n_cell ["_law_script", "_law_k"] (defScope s_cell) := ⟨rfl, rfl, rfl, by decide +kernel, rfl, by decide +kernel, by decide +kernel⟩
def spCell (K : PySem.W.Frag) : Sp := fun vs H Q _ => ∃ (a : Addr) (ns : List Int) (k : Nat), vs = [.ref a, .int (k : Int)] ∧ SqL K H a (ns.map V.int) ∧ ns.length ≤ 63 ∧ k ≤ 63 ∧
  ∀ (c : Int) (H' : Hp), Same H H' → Q (.int c) H'
theorem ok_cell (T : Txt mg) (D : Dfn K mg "_law_cell" s_cell ["_law_script", "_law_k"]) : CalG P w K mg base 1 "_law_cell" ["_law_script", "_law_k"] (spCell K) := by
  refine D.ok sc_cell (fun vs H Q E h => ?_) (fun f cdv A fr s H vs Q E hr hgd h => ?_)
  · obtain ⟨a, ns, k, rfl, _⟩ := h
    rfl
  · obtain ⟨a, ns, k, rfl, hS, hl, hk, q⟩ := h
    refine ⟨_, pss_cons (ps_if (pt_cmpR op_lt (pv 1) (pe_callB call_len rfl T.b_len (by decide +kernel) (pa_cons (pv 0) pa_nil)) (nomark _))
        (pss_one (ps_ret (pe_ix ix_list (pv 0) (pv 1) (fun _ _ => rfl))))
        (pss_nil))
      (pss_cons (ps_set (i := 2) sc_cell.nd rfl (.inl rfl) (pe_op op_mod (pe_callTy call_int1 rfl T.b_int (by decide +kernel) (pa_cons (pe_op op_mul pe_int (pe_op op_add (pe_op op_add (pe_op op_mul (pv 1) (pv 1)) (pe_op op_mul pe_int (pv 1))) pe_int)) pa_nil)) pe_int))
      (pss_cons (ps_for PassesOwn.never rfl (pi_list (pe_slice sl_list (pv 0) po_none (po_some pe_int))) (pg_name (i := 3) sc_cell.nd rfl (.inl rfl))
        (pss_one (ps_set (i := 2) sc_cell.nd rfl (.inl rfl) (pe_op op_mod (pe_callTy call_int1 rfl T.b_int (by decide +kernel) (pa_cons (pe_op op_add (pe_op op_mul (pv 2) pe_int) (pv 3)) pa_nil)) pe_int))))
      (pss_one (ps_ret (pv 2))))), ?_⟩
    refine ⟨_, rfl, _, rfl, _, _, rfl, .inl ⟨_, hS, rfl⟩, _, _, rfl, rfl, _, rfl, ite2 (fun e => ?_) (fun e => ?_)⟩
    · have hk2 : k < ns.length := by
        have e2 := of_decide_eq_true e
        rw [List.length_map] at e2
        omega
      refine ⟨_, rfl, _, rfl, a, _, (k : Int), .int ns[k], rfl, rfl, hS, atI_nat (by rw [List.getElem?_map, List.getElem?_eq_getElem hk2]; rfl), ?_⟩
      exact q _ _ (Same.refl _)
    · have cm : -(2 ^ 64) < (k : Int) ∧ (k : Int) < 2 ^ 64 := by omega
      refine ⟨_, rfl, _, rfl, _, _, rfl, rfl, .inl cm, _, rfl, _, _, rfl, rfl, .inr cm, _, _, rfl, rfl, _, _, rfl, rfl, _, _, rfl, rfl, .inl (by decide), .inl ⟨_, rfl, _, _, rfl, rfl, (show (0 : Int) < 2147483549 by decide), ?_⟩⟩
      -- the loop over the first three
      refine ⟨_, rfl, _, rfl, a, _, rfl, hS, fun p hp => ?_⟩
      have s1 : Same H (upd H p (.lst (cutV (ns.map V.int) none (some 3)))) := same_new hp
      have allI : ∀ x ∈ cutV (ns.map V.int) none (some 3), ∃ n, x = V.int n := fun x hx => by
        have h1 : x ∈ ns.map V.int := by
          unfold cutV at hx
          exact List.mem_of_mem_drop (List.mem_of_mem_take hx)
        obtain ⟨n, _, e⟩ := List.mem_map.mp h1
        exact ⟨n, e.symm⟩
      refine ⟨p, rfl, ⟨_, SqL.of upd_same⟩, for_list (xs := cutV (ns.map V.int) none (some 3)) (fun i σ H3 => H3 = upd H p (.lst (cutV (ns.map V.int) none (some 3))) ∧ ∃ (m : Int) (y : Option V), σ = [some (.ref a), some (.int (k : Int)), some (.int m), y])
        ⟨rfl, _, _, rfl⟩ (fun i σ H3 hi hp3 => ?_) (fun i x σ H3 hx hp3 => ?_) (fun σ H3 hp3 => ?_)⟩
      · rw [hp3.1]
        exact SqL.of upd_same
      · obtain ⟨rfl, m, y, rfl⟩ := hp3
        obtain ⟨n, rfl⟩ := allI x (List.mem_of_getElem? hx)
        refine ⟨_, rfl, _, _, rfl, rfl, .inr (by decide), _, rfl, _, _, rfl, rfl, .inl ⟨_, rfl, _, _, rfl, rfl, (show (0 : Int) < 2147483549 by decide), ?_⟩⟩
        exact ⟨rfl, _, _, rfl⟩
      · obtain ⟨rfl, m, y, rfl⟩ := hp3
        exact ⟨_, rfl, q _ _ s1⟩
def n_purse : List Str := ["_law_cell_here"]
theorem sc_purse : FnScope n_purse ["_law_cell_here"] (defScope s_purse) := ⟨rfl, rfl, rfl, by decide +kernel, rfl, by decide +kernel, by decide +kernel⟩
def spPurse : Sp := fun vs H Q _ => ∃ c : Int, vs = [.int c] ∧ ∀ (p : Addr) (H' : Hp), Same H H' → H p = none → PurseAt H' p → Q (.ref p) H'
theorem ok_purse (T : Txt mg) (D : Dfn K mg "_law_purse" s_purse ["_law_cell_here"]) : CalG P w K mg base 1 "_law_purse" ["_law_cell_here"] spPurse := by
  refine D.ok sc_purse (fun vs H Q E h => ?_) (fun f cdv A fr s H vs Q E hr hgd h => ?_)
  · obtain ⟨c, rfl, _⟩ := h
    rfl
  · obtain ⟨c, rfl, q⟩ := h
    refine ⟨_, pss_one (ps_ret (pe_lst (pa_cons (pe_op op_mod (pe_callTy call_int1 rfl T.b_int (by decide +kernel) (pa_cons (pv 0) pa_nil)) pe_int) (pa_cons (pe_ifExp (PW.pt (pw_or (pt_cmpR op_lt (pv 0) pe_int (nomark _)) (pw_or1 (pt_cmpR op_ge (pv 0) (pe_op op_pow pe_int pe_int) (nomark _))))) (pe_callB call_abs rfl T.b_abs (by decide +kernel) (pa_cons (pv 0) pa_nil)) pe_int) (pa_cons pe_int pa_nil))))), ?_⟩
    refine ⟨_, rfl, .inl ⟨_, rfl, _, _, rfl, rfl, (show (0 : Int) < 2147483549 by decide), ?_⟩⟩
    have fin : ∀ b : Int, [V.int (c % 2147483549), V.int b, V.int 0].length ≤ sizeLine ∧ ∀ p, H p = none → Q (.ref p) (upd H p (.lst [V.int (c % 2147483549), V.int b, V.int 0])) :=
      fun b => ⟨(by show 3 ≤ sizeLine; decide), fun p hp => q p _ (same_new hp) hp ⟨_, _, _, upd_same⟩⟩
    have two : (if (decide (c < 0)) = true then True else (decide ((10 : Int) ^ 18 ≤ c) = true ∨ ¬ decide ((10 : Int) ^ 18 ≤ c) = true)) := by
      by_cases h : decide (c < 0) = true
      · rw [if_pos h]; trivial
      · rw [if_neg h]; exact Classical.em _
    refine ⟨_, rfl, _, _, rfl, rfl, _, rfl, ite2 (fun e => ?_) (fun e => ?_)⟩
    · refine iteT ⟨_, rfl, _, rfl, fin _⟩
    · refine ⟨_, rfl, _, _, rfl, rfl, ⟨by decide, by decide, by decide⟩, _, _, rfl, rfl, _, rfl, ite2 (fun e => ?_) (fun e => ?_)⟩
      · exact ⟨_, rfl, _, rfl, fin _⟩
      · exact fin _
def n_draw : List Str := ["_law_purse_here", "_law_many", "_law_state", "_law_factor", "_law_digit"]
theorem sc_draw : FnScope n_draw ["_law_purse_here", "_law_many"] (defScope s_draw) := ⟨rfl, rfl, rfl, by decide +kernel, rfl, by decide +kernel, by decide +kernel⟩
def spDraw : Sp := fun vs H Q _ => ∃ (p : Addr) (m : Int), vs = [.ref p, .int m] ∧ PurseAt H p ∧ 0 < m ∧ m.natAbs.log2 < 9000 ∧
  ∀ (d : Int) (H' : Hp), 0 ≤ d → d < m → PurseAt H' p → Kp p H H' → Q (.int d) H'
theorem ok_draw (T : Txt mg) (D : Dfn K mg "_law_draw" s_draw ["_law_purse_here", "_law_many"]) : CalG P w K mg base 1 "_law_draw" ["_law_purse_here", "_law_many"] spDraw := by
  refine D.ok sc_draw (fun vs H Q E h => ?_) (fun f cdv A fr s H vs Q E hr hgd h => ?_)
  · obtain ⟨p, m, rfl, _⟩ := h
    rfl
  · obtain ⟨p, m, rfl, ⟨a, b, c, hp⟩, hm, hm2, q⟩ := h
    refine ⟨_, pss_cons (ps_asg (pe_op op_add (pe_ix ix_list (pv 0) pe_int (fun _ _ => rfl)) pe_int) (pg_sub (pv 0) pe_int set_list))
      (pss_cons (ps_set (i := 2) sc_draw.nd rfl (.inl rfl) (pe_callTy call_int1 rfl T.b_int (by decide +kernel) (pa_cons (pe_ix ix_list (pv 0) pe_int (fun _ _ => rfl)) pa_nil)))
      (pss_cons (ps_set (i := 3) sc_draw.nd rfl (.inl rfl) (pe_op op_add (pe_op op_mod (pe_callTy call_int1 rfl T.b_int (by decide +kernel) (pa_cons (pv 2) pa_nil)) pe_int) pe_int))
      (pss_cons (ps_asg (pe_op op_mod (pe_callTy call_int1 rfl T.b_int (by decide +kernel) (pa_cons (pe_op op_add (pe_op op_add (pe_op op_mul (pv 2) (pv 3)) (pe_op op_mul pe_int (pe_ix ix_list (pv 0) pe_int (fun _ _ => rfl)))) pe_int) pa_nil)) pe_int) (pg_sub (pv 0) pe_int set_list))
      (pss_cons (ps_if (pt_cmpR op_gt (pe_ix ix_list (pv 0) pe_int (fun _ _ => rfl)) pe_int (nomark _))
        (pss_cons (ps_set (i := 4) sc_draw.nd rfl (.inl rfl) (pe_op op_mod (pe_callTy call_int1 rfl T.b_int (by decide +kernel) (pa_cons (pe_ix ix_list (pv 0) pe_int (fun _ _ => rfl)) pa_nil)) (pv 1)))
          (pss_cons (ps_asg (pe_op op_fdivW (pe_callTy call_int1 rfl T.b_int (by decide +kernel) (pa_cons (pe_ix ix_list (pv 0) pe_int (fun _ _ => rfl)) pa_nil)) (pv 1)) (pg_sub (pv 0) pe_int set_list))
          (pss_one (ps_ret (pv 4)))))
        (pss_nil))
      (pss_one (ps_ret (pe_op op_mod (pe_callTy call_int1 rfl T.b_int (by decide +kernel) (pa_cons (pe_op op_fdivW (pe_ix ix_list (pv 0) pe_int (fun _ _ => rfl)) pe_int) pa_nil)) (pv 1)))))))), ?_⟩
    -- the count
    refine ⟨_, rfl, p, _, 2, _, rfl, rfl, SqL.of hp, atI_nat (j := 2) rfl, _, _, rfl, rfl, _, rfl, p, _, 2, 2, rfl, rfl, hp, ixN_nat (j := 2) (show 2 < 3 by decide), ?_⟩
    -- the state, the factor
    refine ⟨_, rfl, p, _, 0, _, rfl, rfl, SqL.of upd_same, atI_nat (j := 0) rfl, .inl ⟨_, rfl, ?_⟩⟩
    refine ⟨_, rfl, .inl ⟨_, rfl, _, _, rfl, rfl, (show (0 : Int) < 37987 by decide), _, _, rfl, rfl, ?_⟩⟩
    have fb : -(2 ^ 64) < a % 37987 + 26003 ∧ a % 37987 + 26003 < 2 ^ 64 := by
      have h1 := Int.emod_nonneg a (show (37987 : Int) ≠ 0 by decide)
      have h2 := Int.emod_lt_of_pos a (show (0 : Int) < 37987 by decide)
      omega
    refine ⟨_, rfl, _, rfl, _, _, rfl, rfl, .inr fb, _, rfl, p, _, 2, _, rfl, rfl, SqL.of upd_same, atI_nat (j := 2) rfl, _, _, rfl, rfl, .inl (by decide), _, _, rfl, rfl, _, _, rfl, rfl, .inl ⟨_, rfl, _, _, rfl, rfl, (show (0 : Int) < 2147483549 by decide), ?_⟩⟩
    refine ⟨_, rfl, p, _, 0, 0, rfl, rfl, upd_same, ixN_nat (j := 0) (show 0 < 3 by decide), ?_⟩
    generalize (a * (a % 37987 + 26003) + 70841 * (c + 1) + 19) % 2147483549 = a'
    refine ⟨_, rfl, p, _, 1, _, rfl, rfl, SqL.of upd_same, atI_nat (j := 1) rfl, _, _, rfl, rfl, _, rfl, ite2 (fun e => ?_) (fun e => ?_)⟩
    · refine ⟨_, rfl, p, _, 1, _, rfl, rfl, SqL.of upd_same, atI_nat (j := 1) rfl, .inl ⟨_, rfl, _, rfl, _, _, rfl, rfl, hm, ?_⟩⟩
      refine ⟨_, rfl, p, _, 1, _, rfl, rfl, SqL.of upd_same, atI_nat (j := 1) rfl, .inl ⟨_, rfl, _, rfl, _, _, rfl, rfl, ⟨hm, hm2⟩, ?_⟩⟩
      refine ⟨_, rfl, p, _, 1, 1, rfl, rfl, upd_same, ixN_nat (j := 1) (show 1 < 3 by decide), _, rfl, ?_⟩
      exact q _ _ (Int.emod_nonneg b (by omega)) (Int.emod_lt_of_pos b hm) ⟨_, _, _, upd_same⟩ (((Kp.put).trans Kp.put).trans Kp.put)
    · refine ⟨_, rfl, p, _, 0, _, rfl, rfl, SqL.of upd_same, atI_nat (j := 0) rfl, _, _, rfl, rfl, ⟨by decide, by decide⟩, .inl ⟨_, rfl, _, rfl, _, _, rfl, rfl, hm, ?_⟩⟩
      exact q _ _ (Int.emod_nonneg _ (by omega)) (Int.emod_lt_of_pos _ hm) ⟨_, _, _, upd_same⟩ ((Kp.put).trans Kp.put)
end
end Jo

set_option Elab.async false
set_option linter.all false
set_option maxRecDepth 100000
set_option maxHeartbeats 1000000
namespace Jo
open PySem PySem.Spec PyProof.Rows L2
theorem item_ok {z : Str} {d : Int} (h0 : 0 ≤ d) (h1 : d < z.length) (hl : z.length ≤ 1000) : d < 2 ^ 63 ∧ z.cps[d.toNat]? = some (z.cps.getD d.toNat 0) := by
  have h2 : d.toNat < z.cps.size := by rw [← len_cps]; omega
  exact ⟨by omega, by simp [Array.getD_eq_getD_getElem?, h2]⟩
theorem small_log {m : Int} (h0 : 0 < m) (h1 : m ≤ 1000) : m.natAbs.log2 < 9000 := (wide_div (b := 10) (i := 0) h0 (by omega) (by decide) (by decide)).2
theorem atI_int {α : Type} {xs : List α} {d : Int} {v : α} (h0 : 0 ≤ d) (h : xs[d.toNat]? = some v) : atI xs d = some v := by
  have e : d = (d.toNat : Int) := by omega
  rw [e]
  exact atI_nat h
theorem small1000 {n : Nat} (h : n ≤ 1000) : n < sizeLine := Nat.lt_of_le_of_lt h (by decide)
structure Good (z : Str) : Prop where
  pos : 1 ≤ z.length
  first : z.cps.getD 0 0 ∈ letters.cps.toList
  all : ∀ c ∈ z.cps.toList, c ∈ signs.cps.toList
theorem let_sign : ∀ c ∈ letters.cps.toList, c ∈ signs.cps.toList := by decide +kernel
theorem one_len (c : Nat) : (⟨#[c]⟩ : Str).length = 1 := rfl
theorem cps_add (a b : Str) : (a ++ b).cps.toList = a.cps.toList ++ b.cps.toList := by
  rw [Str.cps_append, Array.toList_append]
theorem Good.add {z y : Str} (h : Good z) (hy : ∀ c ∈ y.cps.toList, c ∈ signs.cps.toList) : Good (z ++ y) := by
  refine ⟨by rw [Str.length_append]; have := h.pos; omega, ?_, fun c hc => ?_⟩
  · have h0 : 0 < z.cps.size := by rw [← len_cps]; exact h.pos
    have e : (z ++ y).cps.getD 0 0 = z.cps.getD 0 0 := by
      rw [Array.getD_eq_getD_getElem?, Array.getD_eq_getD_getElem?, Str.cps_append, Array.getElem?_append_left h0]
    rw [e]
    exact h.first
  · rw [cps_add] at hc
    rcases List.mem_append.mp hc with hc | hc
    · exact h.all c hc
    · exact hy c hc
theorem nm_of {z : Str} (h : Good z) (hl : z.length ≤ 8) : nmS z = true := by
  unfold nmS
  have hp := h.pos
  rw [decide_eq_true (show (1 : Int) ≤ (z.length : Int) by omega), decide_eq_true (show (z.length : Int) ≤ 8 by omega), decide_eq_true h.first]
  simp only [Bool.true_and]
  rw [List.all_eq_true]
  intro b hb
  obtain ⟨i, hi, rfl⟩ := List.mem_map.mp hb
  have hi2 : i < z.cps.size := List.mem_range.mp hi
  have e : z.cps.getD i 0 = z.cps[i] := by simp [Array.getD_eq_getD_getElem?, hi2]
  rw [e]
  exact decide_eq_true (h.all _ (by simp))
theorem letter_at {d : Nat} {c : Nat} (h : letters.cps[d]? = some c) : c ∈ letters.cps.toList := by
  have h2 : letters.cps.toList[d]? = some c := by simpa using h
  exact List.mem_of_getElem? h2
theorem only_one {c : Nat} : ∀ x ∈ (⟨#[c]⟩ : Str).cps.toList, x = c := by
  intro x hx
  simpa using hx
/-! ### drawing -/
/-- draw(purse, m) with a number that is at hand -/
theorem rd_draw {σ : L2.St} {H : Hp} {Q : VK} {j : Nat} {p : Addr} {m : Int} {te : TE} (hj : σ[j]? = some (some (.ref p))) (hp : PurseAt H p) (h0 : 0 < m) (h1 : m ≤ 1000)
    (ht : ∀ R : VK, R (.int m) H → te σ H R) (q : ∀ (d : Nat) H', (d : Int) < m → PurseAt H' p → Kp p H H' → Q (.int (d : Int)) H') : tCall spDraw [] E0 (tCons (tVar j) (tCons te tNil)) σ H Q := by
  refine ⟨_, hj, ht _ ⟨p, m, rfl, hp, h0, small_log h0 h1, fun d H' d0 d1 p' k' => ?_⟩⟩
  have e : d = (d.toNat : Int) := by omega
  rw [e] at d1 ⊢
  exact q d.toNat H' d1 p' k'
theorem dr {σ : L2.St} {H : Hp} {Q : VK} {j : Nat} {p : Addr} {m : Int} (hj : σ[j]? = some (some (.ref p))) (hp : PurseAt H p) (h0 : 0 < m) (h1 : m ≤ 1000)
    (q : ∀ (d : Nat) H', (d : Int) < m → PurseAt H' p → Kp p H H' → Q (.int (d : Int)) H') : tCall spDraw [] E0 (tCons (tVar j) (tCons (tC (.int m)) tNil)) σ H Q := rd_draw hj hp h0 h1 (fun _ h => h) q
theorem PurseAt.new {H : Hp} {p a : Addr} {o : HO} (hp : PurseAt H p) (n : H a = none) : PurseAt (upd H a o) p := hp.same (same_new n)
theorem purse_ne {p a : Addr} {H : Hp} (hp : PurseAt H p) (na : H a = none) : a ≠ p := fun e => by
  obtain ⟨x, y, z, h⟩ := hp
  rw [e, h] at na
  cases na
theorem purse_ne2 {p a : Addr} {H : Hp} {xs : List V} (hp : PurseAt H p) (h : H a = some (.tup xs)) : a ≠ p := fun e => by
  obtain ⟨x, y, z, h2⟩ := hp
  rw [e, h2] at h
  cases h
theorem pick_at {α : Type} {xs : List α} {d : Nat} (h : d < xs.length) : ∃ z, z ∈ xs ∧ xs[d]? = some z := ⟨xs[d], List.getElem_mem h, List.getElem?_eq_getElem h⟩
def wordsN : List Str := ["plus", "not", "into", "if", "else", "number", "call", "fail", "slot", "entry", "variable", "callout"]
theorem wordsN_ok : ∀ z ∈ wordsN, nmS z = true ∧ z.length ≤ 8 := by decide +kernel
theorem nm_len {z : Str} (h : nmS z = true) : z.length ≤ 8 := by
  unfold nmS at h
  rw [Bool.and_eq_true, Bool.and_eq_true, decide_eq_true_eq, decide_eq_true_eq] at h
  omega
section
variable {P : Program} {w : World} {K : PySem.W.Frag} {mg : Str → Option Value} {base : Heap}
def n_name : List Str := ["_law_purse_here", "_law_words", "_law_way", "_law_letters", "_law_text", "_law_turn"]
theorem sc_name : FnScope n_name ["_law_purse_here"] (defScope s_name) := ⟨rfl, rfl, rfl, by decide +kernel, rfl, by decide +kernel, by decide +kernel⟩
def spName : Sp := fun vs H Q _ => ∃ p : Addr, vs = [.ref p] ∧ PurseAt H p ∧ ∀ (z : Str) (H' : Hp), nmS z = true → PurseAt H' p → Kp p H H' → Q (.str z) H'
theorem signs_cat : letters ++ ("0123456789" : Str) = signs := by decide +kernel
theorem sign_at {d c : Nat} (h : signs.cps[d]? = some c) : c ∈ signs.cps.toList := by
  have h2 : signs.cps.toList[d]? = some c := by simpa using h
  exact List.mem_of_getElem? h2
theorem ok_name (T : Txt mg) (D : Dfn K mg "_law_name" s_name ["_law_purse_here"]) (c_draw : CalG P w K mg base 1 "_law_draw" ["_law_purse_here", "_law_many"] spDraw) :
    CalG P w K mg base 2 "_law_name" ["_law_purse_here"] spName := by
  refine D.ok sc_name (fun vs H Q E h => ?_) (fun f cdv A fr s H vs Q E hr hgd h => ?_)
  · obtain ⟨p, rfl, _⟩ := h
    rfl
  · obtain ⟨p, rfl, hp, q⟩ := h
    refine ⟨_, pss_cons (ps_set (i := 1) sc_name.nd rfl (.inl rfl) (pe_lst (pa_cons pe_str (pa_cons pe_str (pa_cons pe_str (pa_cons pe_str (pa_cons pe_str (pa_cons pe_str (pa_cons pe_str (pa_cons pe_str (pa_cons pe_str (pa_cons pe_str (pa_cons pe_str (pa_cons pe_str pa_nil))))))))))))))
      (pss_cons (ps_set (i := 2) sc_name.nd rfl (.inl rfl) (pe_cG c_draw hr (by decide) hgd rfl (pa_cons (pv 0) (pa_cons pe_int pa_nil))))
      (pss_cons (ps_if (pt_cmpR op_eq (pv 2) pe_int (nomark _))
        (pss_one (ps_ret (pe_ix ix_list (pv 1) (pe_cG c_draw hr (by decide) hgd rfl (pa_cons (pv 0) (pa_cons pe_int pa_nil))) (fun _ _ => rfl))))
        (pss_nil))
      (pss_cons (ps_set (i := 3) sc_name.nd rfl (.inl rfl) pe_str)
      (pss_cons (ps_set (i := 4) sc_name.nd rfl (.inl rfl) (pe_item_str (pv 3) (pe_cG c_draw hr (by decide) hgd rfl (pa_cons (pv 0) (pa_cons pe_int pa_nil))) (fun _ _ => rfl)))
      (pss_cons (ps_for PassesOwn.never rfl (pi_range1 rfl T.b_range (pa_cons (pe_ix ix_list (pe_lst (pa_cons pe_int (pa_cons pe_int (pa_cons pe_int (pa_cons pe_int pa_nil))))) (pe_op op_sub (pv 2) pe_int) (fun _ _ => rfl)) pa_nil)) (pg_name (i := 5) sc_name.nd rfl (.inl rfl))
        (pss_one (ps_set (i := 4) sc_name.nd rfl (.inl rfl) (pe_op op_add_str (pv 4) (pe_item_str (pe_op op_add_str (pv 3) pe_str) (pe_cG c_draw hr (by decide) hgd rfl (pa_cons (pv 0) (pa_cons pe_int pa_nil))) (fun _ _ => rfl))))))
      (pss_one (ps_ret (pv 4)))))))), ?_⟩
    refine ⟨(show 12 ≤ sizeLine by decide), fun l hl => ?_⟩
    have s1 : Same H (upd H l (.lst (wordsN.map V.str))) := same_new hl
    refine dr rfl (hp.same s1) (by decide) (by decide) fun d0 H1 h0 p1 k1 => ?_
    have k2 := (kp_of s1).trans k1
    have hl1 : H1 l = some (.lst (wordsN.map V.str)) := k1 l _ upd_same (purse_ne hp hl)
    refine ⟨_, rfl, rfl, _, rfl, ite2 (fun e => ?_) (fun e => ?_)⟩
    · refine ⟨_, rfl, dr rfl p1 (by decide) (by decide) fun d H2 h2 p2 k3 => ?_⟩
      obtain ⟨z, hz, e2⟩ := pick_at (xs := wordsN) (d := d) (by show d < 12; omega)
      exact ⟨l, _, d, _, rfl, rfl, SqL.of (k3 l _ hl1 (purse_ne hp hl)), atI_nat (by rw [List.getElem?_map, e2]; rfl), q z _ (wordsN_ok z hz).1 p2 (k2.trans k3)⟩
    · have d1 : d0 ≠ 0 := fun z => e (by rw [z]; rfl)
      refine ⟨_, rfl, dr rfl p1 (by decide) (by decide) fun d H2 h2 p2 k3 => ?_⟩
      obtain ⟨i1, i2⟩ := item_ok (z := letters) (d := (d : Int)) (by omega) (by show (d : Int) < 26; omega) (by decide)
      have hc := letter_at i2
      refine ⟨letters, d, _, rfl, rfl, by omega, i1, by show (d : Int) < 26; omega, i2, ?_⟩
      refine ⟨(show 4 ≤ sizeLine by decide), fun l2 hl2 => ?_⟩
      have s3 : Same H2 (upd H2 l2 (.lst [.int 0, .int 1, .int 3, .int 7])) := same_new hl2
      obtain ⟨n, hn, n7, n0⟩ : ∃ n : Nat, ([.int 0, .int 1, .int 3, .int 7] : List V)[d0 - 1]? = some (.int (n : Int)) ∧ n ≤ 7 ∧ True := by
        have : d0 = 1 ∨ d0 = 2 ∨ d0 = 3 ∨ d0 = 4 := by omega
        rcases this with e | e | e | e <;> subst e
        · exact ⟨0, rfl, by decide, trivial⟩
        · exact ⟨1, rfl, by decide, trivial⟩
        · exact ⟨3, rfl, by decide, trivial⟩
        · exact ⟨7, rfl, by decide, trivial⟩
      refine ⟨_, rfl, _, _, rfl, rfl, l2, _, _, _, rfl, rfl, SqL.of upd_same, atI_int (by omega) (by rw [show ((d0 : Int) - 1).toNat = d0 - 1 by omega]; exact hn), ?_⟩
      refine ⟨_, rfl, by omega, by omega, ?_⟩
      refine for_range (lo := 0) (n := n) (fun i σ H3 => PurseAt H3 p ∧ Kp p H H3 ∧ ∃ (z : Str) (y : Option V), z.length = 1 + i ∧ Good z ∧ σ = [some (.ref p), some (.ref l), some (.int d0), some (.str letters), some (.str z), y])
        ⟨p2.same s3, (k2.trans k3).trans (kp_of s3), _, _, rfl, ⟨Nat.le_refl _, hc, fun c hc2 => by rw [only_one c hc2]; exact let_sign _ hc⟩, rfl⟩ (fun i σ H3 hi hp3 => ?_) (fun σ H3 hp3 => ?_)
      · obtain ⟨p3, k4, z, y, hz, hg, rfl⟩ := hp3
        refine ⟨_, rfl, _, rfl, _, _, rfl, rfl, (by decide), ?_⟩
        rw [signs_cat]
        refine dr rfl p3 (by decide) (by decide) fun d2 H4 h4 p4 k5 => ?_
        obtain ⟨j1, j2⟩ := item_ok (z := signs) (d := (d2 : Int)) (by omega) (by show (d2 : Int) < 36; omega) (by decide)
        have hc2 := sign_at j2
        refine ⟨signs, d2, _, rfl, rfl, by omega, j1, by show (d2 : Int) < 36; omega, j2, _, _, rfl, rfl, ?_, p4, k4.trans k5, _, _, by rw [Str.length_append, hz, one_len]; omega, hg.add (fun c hc3 => by rw [only_one c hc3]; exact hc2), rfl⟩
        rw [hz, one_len]
        exact Nat.le_of_lt (small1000 (by omega))
      · obtain ⟨p3, k4, z, y, hz, hg, rfl⟩ := hp3
        exact ⟨_, rfl, q z H3 (nm_of hg (by omega)) p3 k4⟩
end
end Jo

set_option Elab.async false
set_option linter.all false
set_option maxRecDepth 100000
set_option maxHeartbeats 1000000
namespace Jo
open PySem PySem.Spec PyProof.Rows L2
theorem inV_str (z : Str) (xs : List Str) : inV (.str z) (xs.map V.str) = decide (z ∈ xs) := by
  unfold inV
  rw [List.any_map]
  induction xs with
  | nil => simp
  | cons x xs ih =>
    rw [List.any_cons, ih]
    have e : ((fun y => eqV y (V.str z)) ∘ V.str) x = decide (x = z) := by
      show (x == z) = _
      by_cases h : x = z
      · subst h; simp
      · rw [decide_eq_false h]; simpa using h
    rw [e]
    by_cases h : x = z
    · subst h; simp
    · have h2 : ¬ z = x := fun q => h q.symm
      simp [h, h2]
theorem flat_strs (xs : List Str) : (xs.map V.str).all flatV = true := by
  rw [List.all_map, List.all_eq_true]
  exact fun x _ => rfl
theorem log_s {i : Int} (h : i.natAbs < 1900) : i.natAbs.log2 < 1920 := Nat.lt_of_le_of_lt (Nat.log2_le_self _) (by omega)
def qk (i : Nat) : Str := ("q" : Str) ++ ((toString (i : Int) : String) : Str)
theorem qk_ok : ∀ i ∈ List.range 24, nmS (qk i) = true := by decide +kernel
theorem qk_nd : ((List.range 24).map qk).Nodup := by decide +kernel
theorem qk_free {xs : List Str} (h : xs.length < 24) : ∃ i, i ≤ xs.length ∧ qk i ∉ xs := by
  refine Classical.byContradiction fun no => ?_
  have nd : ((List.range (xs.length + 1)).map qk).Nodup := by
    have s : ((List.range (xs.length + 1)).map qk).Sublist ((List.range 24).map qk) := (List.range_sublist.mpr (by omega)).map qk
    exact s.nodup qk_nd
  have sub : ((List.range (xs.length + 1)).map qk) ⊆ xs := fun z hz => by
    obtain ⟨i, hi, e⟩ := List.mem_map.mp hz
    subst e
    refine Classical.byContradiction fun m => no ⟨i, ?_, m⟩
    have := List.mem_range.mp hi
    omega
  have := nd.length_le_of_subset sub
  rw [List.length_map, List.length_range] at this
  omega
end Jo

set_option Elab.async false
set_option linter.all false
set_option maxRecDepth 100000
set_option maxHeartbeats 1000000
namespace Jo
open PySem PySem.Spec PyProof.Rows L2
/-- a comprehension whose turns make values that are known, and new things -/
theorem lc_call {J : It} {n : Nat} {G0 : Hp → Prop} {Y : Nat → Hp → V → Hp → Prop} (w : Walk J n G0 Y) {g : TG} {te : TE} {vs : List Nat} {σ : L2.St} {H1 : Hp} {D : Addr} {Qd : Hp → Prop} (nD : H1 D = none)
    (vals : List V) (hn : vals.length = n) (hz : n ≤ 1000) (hG : ∀ G, Same H1 G → G0 G)
    (hs : ∀ (i : Nat) (x v : V) (G G' : Hp) (R : VK), vals[i]? = some v → Same H1 G → Y i G x G' → (∀ G2, Same G G2 → R v G2) → g x (wipe σ vs) G' fun σ2 H2 => wipe σ2 vs = wipe σ vs ∧ te σ2 H2 R)
    (hd : ∀ G, Same H1 G → G D = some (.lst vals) → Qd G) :
    ∃ W : Nat → Nat → Hp → Prop, (∃ m, W 0 m (upd H1 D (.lst []))) ∧ ∀ i m H, W i m H →
      (J.stop i H ∧ Qd H) ∨ (J.go i H ∧ ∃ Nx : Hp → Prop, (∀ H', Nx H' → ∃ m', m' < m ∧ W (i + 1) m' H') ∧ ∀ x H', J.yld i H x H' → g x (wipe σ vs) H' fun σ2 H2 => wipe σ2 vs = wipe σ vs ∧ tYes σ2 H2 fun b H3 =>
        if b = true then te σ2 H3 fun y H4 => ∃ acc, H4 D = some (.lst acc) ∧ acc.length < sizeLine ∧ Nx (upd H4 D (.lst (acc ++ [y]))) else Nx H3) := by
  refine lc_it w (fun i G => Same H1 G ∧ G D = some (.lst (vals.take i))) ⟨same_new nD, by rw [upd_same, List.take_zero]⟩ (fun i G _ h => hG G h.1) (fun i x G G' hi h y => ?_) (fun G h => hd G h.1 (by rw [h.2, ← hn, List.take_length]))
  have hv : vals[i]? = some vals[i] := List.getElem?_eq_getElem (by rw [hn]; exact hi)
  refine hs i x vals[i] G G' _ hv h.1 y fun G2 s2 => ?_
  refine ⟨vals.take i, s2 _ _ h.2, ?_, ?_, ?_⟩
  · rw [List.length_take]
    exact small1000 (by omega)
  · intro b o hb
    have nb : b ≠ D := fun e => by rw [e, nD] at hb; cases hb
    rw [upd_ne nb]
    exact s2 _ _ (h.1 _ _ hb)
  · rw [upd_same, List.take_succ, hv]
    rfl
theorem cut1 (x : V) (us : List V) : cutV (x :: us) (some 1) none = us := by
  unfold cutV
  rw [show HT.sIx (x :: us).length 0 (some (1 : Int)) = 1 by
    show HT.sIx (us.length + 1) 0 (some ((1 : Nat) : Int)) = 1
    rw [HT.sIx_nat]
    omega, HT.sIx_none]
  simp
theorem not_whole (x : V) (us : List V) : ¬ (HT.sIx (x :: us).length 0 (some (1 : Int)) = 0 ∧ HT.sIx (x :: us).length (x :: us).length none = (x :: us).length) := by
  rw [show HT.sIx (x :: us).length 0 (some (1 : Int)) = 1 by
    show HT.sIx (us.length + 1) 0 (some ((1 : Nat) : Int)) = 1
    rw [HT.sIx_nat]
    omega]
  rintro ⟨h, _⟩
  cases h
/-- pairs by places -/
theorem pair_at {α β : Type} {F : α → β → Prop} {xs : List α} {ys : List β} (p : Paired F xs ys) : ∀ {i : Nat} {y : β}, ys[i]? = some y → ∃ x, xs[i]? = some x ∧ F x y := by
  induction p with
  | nil => intro i y h; simp at h
  | cons q _ ih =>
    intro i y h
    cases i with
    | zero => exact ⟨_, rfl, by cases h; exact q⟩
    | succ i => exact ih h
theorem pair_len {α β : Type} {F : α → β → Prop} {xs : List α} {ys : List β} (p : Paired F xs ys) : xs.length = ys.length := by
  induction p with
  | nil => rfl
  | cons _ _ ih => simp [ih]
/-- a small tree: the law's -/
structure Sm (t : Tr) (n : Nat) : Prop where
  ok : t.Ok fun x => nmS x = true
  parts : t.parts ≤ 60
  depth : t.depth ≤ n
theorem Sm.kid {t u : Tr} {n : Nat} (h : Sm t (n + 1)) (hu : u ∈ t.kids) : Sm u n :=
  ⟨h.ok.kid u hu, by have := Tr.kid_parts u hu; have := h.parts; omega, by have := Tr.kid_depth u hu; have := h.depth; omega⟩
theorem Sm.not0 {t : Tr} (h : Sm t 0) : False := by
  have := Tr.one_depth t
  have := h.depth
  omega
theorem Sm.text {t : Tr} {n : Nat} (h : Sm t n) : t.text.length ≤ 1600 := by
  have := Tr.text_len (fun x h => nm_len h) h.ok
  have := h.parts
  omega
theorem Sm.mono {t : Tr} {n m : Nat} (h : Sm t n) (l : n ≤ m) : Sm t m := ⟨h.ok, h.parts, Nat.le_trans h.depth l⟩
theorem words_ne : ∀ k : Bk, (k.word = ("number" : Str)) = False ∧ (k.word = ("variable" : Str)) = False := by
  intro k
  cases k <;> exact ⟨eq_false (by decide +kernel), eq_false (by decide +kernel)⟩
theorem comp_head {t : Tr} (h : t.comp = true) : t.head ≠ ("number" : Str) ∧ t.head ≠ ("variable" : Str) := by
  cases t with
  | num n => cases h
  | var x => cases h
  | un a => exact ⟨by show ¬ ("not" : Str) = "number"; decide +kernel, by show ¬ ("not" : Str) = "variable"; decide +kernel⟩
  | bi k a b => exact ⟨fun e => by rw [← (words_ne k).1]; exact e, fun e => by rw [← (words_ne k).2]; exact e⟩
  | ch a b c => exact ⟨by show ¬ ("choose" : Str) = "number"; decide +kernel, by show ¬ ("choose" : Str) = "variable"; decide +kernel⟩
theorem kids3 (t : Tr) : t.kids.length ≤ 3 := by cases t <;> exact Nat.le_of_ble_eq_true rfl
theorem head6 (t : Tr) : t.head.length ≤ 8 := by
  cases t with
  | bi k a b => show k.word.length ≤ 8; cases k <;> decide +kernel
  | num n => show ("number" : Str).length ≤ 8; decide +kernel
  | var n => show ("variable" : Str).length ≤ 8; decide +kernel
  | un n => show ("not" : Str).length ≤ 8; decide +kernel
  | ch a b c => show ("choose" : Str).length ≤ 8; decide +kernel
theorem sum_B : ∀ {l : List Nat} {B : Nat}, (∀ x ∈ l, x ≤ B) → l.sum ≤ l.length * B
  | [], B, _ => Nat.zero_le _
  | x :: l, B, h => by
    have h1 := h x List.mem_cons_self
    have h2 := sum_B (l := l) (B := B) fun y hy => h y (List.mem_cons_of_mem _ hy)
    rw [List.sum_cons, List.length_cons, Nat.succ_mul]
    omega
theorem small_len {n : Nat} (h : n ≤ 16777216) : n ≤ sizeLine := Nat.le_trans h (by decide)
end Jo

set_option Elab.async false
set_option linter.all false
set_option maxRecDepth 100000
set_option maxHeartbeats 1000000
namespace Jo
open PySem PySem.Spec PyProof.Rows L2
theorem leaf_head {t : Tr} : (t.head ∈ (["number", "variable"] : List Str)) ↔ t.comp = false := by
  constructor
  · intro h
    cases hc : t.comp with
    | false => rfl
    | true =>
      obtain ⟨n1, n2⟩ := comp_head hc
      rcases List.mem_cons.mp h with e | h
      · exact absurd e n1
      · exact absurd (List.mem_singleton.mp h) n2
  · intro h
    cases t with
    | num n => exact List.mem_cons_self
    | var x => exact List.mem_cons_of_mem _ List.mem_cons_self
    | un a => cases h
    | bi k a b => cases h
    | ch a b c => cases h
theorem leaf_parts {t : Tr} (h : t.comp = false) : t.parts = 1 ∧ t.depth = 1 := by
  cases t with
  | num n => exact ⟨rfl, rfl⟩
  | var x => exact ⟨rfl, rfl⟩
  | un a => cases h
  | bi k a b => cases h
  | ch a b c => cases h
theorem nat_sum : ∀ l : List Nat, ((l.map fun n : Nat => (n : Int)).sum) = ((l.sum : Nat) : Int)
  | [] => rfl
  | n :: l => by
    rw [List.map_cons, List.sum_cons, List.sum_cons, nat_sum l]
    omega
theorem fold_ge : ∀ (l : List Nat) (n : Nat), n ≤ l.foldl max n ∧ (∀ x ∈ l, x ≤ l.foldl max n) ∧ (l.foldl max n = n ∨ l.foldl max n ∈ l)
  | [], n => ⟨Nat.le_refl _, fun x h => (by cases h), .inl rfl⟩
  | y :: l, n => by
    obtain ⟨h1, h2, h3⟩ := fold_ge l (max n y)
    refine ⟨by show n ≤ l.foldl max (max n y); omega, fun x hx => ?_, ?_⟩
    · show x ≤ l.foldl max (max n y)
      rcases List.mem_cons.mp hx with e | m
      · subst e; omega
      · exact h2 x m
    · show l.foldl max (max n y) = n ∨ l.foldl max (max n y) ∈ y :: l
      rcases h3 with e | m
      · rcases Nat.le_total n y with c | c
        · rw [Nat.max_eq_right c] at e ⊢
          exact .inr (by rw [e]; exact List.mem_cons_self)
        · rw [Nat.max_eq_left c] at e ⊢
          exact .inl e
      · exact .inr (List.mem_cons_of_mem _ m)
/-- the greatest of them, whatever way it is said -/
theorem top1_is {l : List Nat} {m : Int} (hm : m ∈ l.map fun n : Nat => (n : Int)) (hle : ∀ y ∈ l.map fun n : Nat => (n : Int), y ≤ m) : m = ((Tr.top1 l : Nat) : Int) := by
  obtain ⟨h1, h2, h3⟩ := fold_ge l 0
  obtain ⟨n, hn, rfl⟩ := List.mem_map.mp hm
  have a : n ≤ Tr.top1 l := h2 n hn
  have b : Tr.top1 l ≤ n := by
    rcases h3 with e | m
    · show l.foldl max 0 ≤ n
      omega
    · have := hle _ (List.mem_map.mpr ⟨_, m, rfl⟩)
      show l.foldl max 0 ≤ n
      omega
  omega
end Jo

set_option Elab.async false
set_option linter.all false
set_option maxRecDepth 100000
set_option maxHeartbeats 1000000
namespace Jo
open PySem PySem.Spec PyProof.Rows L2
theorem flat_len : ∀ (l : List Tr), (l.flatMap Tr.nms).length ≤ (l.map Tr.parts).sum
  | [] => Nat.le_refl _
  | t :: l => by
    have h1 := Tr.nms_len t
    have h2 := flat_len l
    rw [List.flatMap_cons, List.length_append, List.map_cons, List.sum_cons]
    omega
theorem nms_comp {t : Tr} (h : t.comp = true) : t.nms = srt (t.kids.flatMap Tr.nms) := by
  show srt t.vars = _
  rw [Tr.vars_comp h]
  exact (srt_flat Tr.vars t.kids).symm
theorem take_flat {α β : Type} {f : α → List β} {xs : List α} {i : Nat} {x : α} (h : xs[i]? = some x) : (xs.take (i + 1)).flatMap f = (xs.take i).flatMap f ++ f x := by
  rw [List.take_succ, h, List.flatMap_append]
  simp
theorem take_len {α β : Type} {f : α → List β} (xs : List α) (i : Nat) : ((xs.take i).flatMap f).length ≤ (xs.flatMap f).length := by
  have e : xs.flatMap f = (xs.take i).flatMap f ++ (xs.drop i).flatMap f := by rw [← List.flatMap_append, List.take_append_drop]
  rw [e, List.length_append]
  omega
end Jo

set_option Elab.async false
set_option linter.all false
set_option maxRecDepth 100000
set_option maxHeartbeats 1000000
namespace Jo
open PySem PySem.Spec PyProof.Rows L2
/-! ### what stands beside the purse -/
def Off (p : Addr) (H : Hp) : Hp := fun a => if a = p then none else H a
theorem off_get {p a : Addr} {H : Hp} {o : HO} (h : Off p H a = some o) : a ≠ p ∧ H a = some o := by
  unfold Off at h
  by_cases e : a = p
  · rw [if_pos e] at h
    cases h
  · rw [if_neg e] at h
    exact ⟨e, h⟩
theorem off_of {p a : Addr} {H : Hp} {o : HO} (n : a ≠ p) (h : H a = some o) : Off p H a = some o := (if_neg n).trans h
theorem off_same {p : Addr} {H : Hp} : Same (Off p H) H := fun _ _ e => (off_get e).2
theorem off_kp {p : Addr} {H H' : Hp} (k : Kp p H H') : Same (Off p H) (Off p H') := fun b o e => off_of (off_get e).1 (k b o (off_get e).2 (off_get e).1)
theorem kp_new {p a : Addr} {H : Hp} {o : HO} (na : H a = none) : Kp p H (upd H a o) := kp_of (same_new na)
theorem off_new {p a : Addr} {H : Hp} {o : HO} (hp : PurseAt H p) (na : H a = none) : Off p (upd H a o) a = some o := off_of (purse_ne hp na) upd_same
/-! ### texts as data -/
theorem strOk_all {z : Str} : PyData.strOk z = true ↔ ∀ c ∈ z.cps.toList, c < 0x110000 := by
  unfold PyData.strOk
  rw [← Array.all_toList, List.all_eq_true]
  exact ⟨fun h c hc => of_decide_eq_true (h c hc), fun h c hc => decide_eq_true (h c hc)⟩
theorem strOk_of (s : String) : PyData.strOk (Str.ofString s) = true := strOk_all.mpr fun c hc => by
  have e : (Str.ofString s).cps.toList = s.toList.map Char.toNat := PySem.cpsOfBytes_string s
  rw [e] at hc
  obtain ⟨x, _, rfl⟩ := List.mem_map.mp hc
  rcases x.valid with h | ⟨_, h⟩
  · exact Nat.lt_trans h (by decide)
  · exact h
theorem strOk_cat {a b : Str} (ha : PyData.strOk a = true) (hb : PyData.strOk b = true) : PyData.strOk (a ++ b) = true := strOk_all.mpr fun c hc => by
  rw [cps_add] at hc
  rcases List.mem_append.mp hc with h | h
  · exact strOk_all.mp ha c h
  · exact strOk_all.mp hb c h
theorem strOk_join {s : Str} (hs : PyData.strOk s = true) : ∀ {xs : List Str}, (∀ x ∈ xs, PyData.strOk x = true) → PyData.strOk (Str.join s xs) = true
  | [], _ => strOk_of ""
  | [x], h => h x List.mem_cons_self
  | x :: y :: r, h => strOk_cat (strOk_cat (h x List.mem_cons_self) hs) (strOk_join hs fun z hz => h z (List.mem_cons_of_mem _ hz))
theorem strOk_nm {z : Str} (h : nmS z = true) : PyData.strOk z = true := strOk_all.mpr fun c hc => by
  unfold nmS at h
  rw [Bool.and_eq_true, Bool.and_eq_true (b := (List.map _ _).all id)] at h
  have h2 := h.2.2
  rw [List.all_eq_true] at h2
  obtain ⟨i, hi, e⟩ := List.getElem_of_mem hc
  have hi2 : i < z.cps.size := by rw [← Array.length_toList]; exact hi
  have h4 : z.cps.getD i 0 ∈ signs.cps.toList := of_decide_eq_true (h2 (decide (z.cps.getD i 0 ∈ signs.cps.toList)) (List.mem_map.mpr ⟨i, List.mem_range.mpr hi2, rfl⟩))
  have h5 : z.cps.getD i 0 = c := by
    rw [← e]
    simp [Array.getD_eq_getD_getElem?, hi2]
  rw [h5] at h4
  have h6 : ∀ c ∈ signs.cps.toList, c < 0x110000 := by decide +kernel
  exact h6 c h4
theorem strOk_text : ∀ {t : Tr}, t.Ok (fun x => nmS x = true) → PyData.strOk t.text = true := by
  intro t
  have jn : ∀ {xs : List Str}, (∀ x ∈ xs, PyData.strOk x = true) → PyData.strOk (Txt.join ", " xs) = true := fun {xs} h => by
    rw [TL.join_eq]
    exact strOk_join (strOk_of ", ") h
  have wd : ∀ k : Bk, PyData.strOk k.word = true := fun k => by cases k <;> exact strOk_of _
  induction t with
  | num n => exact fun _ => strOk_of _
  | var x => exact fun o => strOk_nm o
  | un a ih =>
    intro o
    refine strOk_cat (strOk_cat (strOk_cat (strOk_of "not") (strOk_of "(")) (jn fun x hx => ?_)) (strOk_of ")")
    rw [List.mem_singleton.mp hx]
    exact ih o
  | bi k a b iha ihb =>
    intro o
    refine strOk_cat (strOk_cat (strOk_cat (wd k) (strOk_of "(")) (jn fun x hx => ?_)) (strOk_of ")")
    rcases List.mem_cons.mp hx with e | hx
    · rw [e]; exact iha o.1
    · rw [List.mem_singleton.mp hx]; exact ihb o.2
  | ch a b c iha ihb ihc =>
    intro o
    refine strOk_cat (strOk_cat (strOk_cat (strOk_of "choose") (strOk_of "(")) (jn fun x hx => ?_)) (strOk_of ")")
    rcases List.mem_cons.mp hx with e | hx
    · rw [e]; exact iha o.1
    · rcases List.mem_cons.mp hx with e | hx
      · rw [e]; exact ihb o.2.1
      · rw [List.mem_singleton.mp hx]; exact ihc o.2.2
theorem dp_strs {K : PySem.W.Frag} {H : Hp} : ∀ xs : List Str, DpAll K H (xs.map V.str) (xs.map PyData.str)
  | [] => .nil
  | x :: xs => .cons (.str x) (dp_strs xs)
theorem dp_bls {K : PySem.W.Frag} {H : Hp} : ∀ xs : List Bool, DpAll K H (xs.map V.bl) (xs.map PyData.bool)
  | [] => .nil
  | x :: xs => .cons (.bl x) (dp_bls xs)
theorem eqv_strs : ∀ xs ys : List Str, PyData.eqvAll (xs.map .str) (ys.map .str) = decide (xs = ys)
  | [], [] => rfl
  | [], y :: ys => by simp [PyData.eqvAll]
  | x :: xs, [] => by simp [PyData.eqvAll]
  | x :: xs, y :: ys => by
    show ((x == y) && PyData.eqvAll (xs.map .str) (ys.map .str)) = _
    rw [eqv_strs xs ys, Bool.eq_iff_iff]
    simp
theorem depth_strs : ∀ xs : List Str, PyData.depthAll (xs.map .str) = 0
  | [] => rfl
  | x :: xs => by
    show max 0 (PyData.depthAll (xs.map .str)) = 0
    rw [depth_strs xs]
    rfl
theorem lay_strs : ∀ {xs : List Str}, (∀ x ∈ xs, PyData.strOk x = true) → PyData.canLayAll0 (xs.map .str) = true
  | [], _ => rfl
  | x :: xs, h => by
    show (PyData.strOk x && PyData.canLayAll0 (xs.map .str)) = true
    rw [lay_strs fun y hy => h y (List.mem_cons_of_mem _ hy), h x List.mem_cons_self]
    rfl
theorem shaped_strs {xs : List Str} (h : ∀ x ∈ xs, PyData.strOk x = true) : SeqAt.shaped (.list (xs.map .str)) = true := by
  show (PyData.canLayAll0 (xs.map .str) && decide (PyData.depthAll (xs.map .str) + 1 ≤ 64)) = true
  rw [lay_strs h, depth_strs]
  rfl
theorem eqv_bls : ∀ xs ys : List Bool, PyData.eqvAll (xs.map .bool) (ys.map .bool) = decide (xs = ys)
  | [], [] => rfl
  | [], y :: ys => by simp [PyData.eqvAll]
  | x :: xs, [] => by simp [PyData.eqvAll]
  | x :: xs, y :: ys => by
    have e : PyData.eqv (.bool x) (.bool y) = decide (x = y) := by cases x <;> cases y <;> rfl
    show (PyData.eqv (.bool x) (.bool y) && PyData.eqvAll (xs.map .bool) (ys.map .bool)) = _
    rw [eqv_bls xs ys, e, Bool.eq_iff_iff]
    simp
theorem lay_bls : ∀ xs : List Bool, PyData.canLayAll0 (xs.map .bool) = true ∧ PyData.depthAll (xs.map .bool) = 0
  | [] => ⟨rfl, rfl⟩
  | x :: xs => by
    obtain ⟨h1, h2⟩ := lay_bls xs
    refine ⟨?_, ?_⟩
    · show (true && PyData.canLayAll0 (xs.map .bool)) = true
      rw [h1]; rfl
    · show max 0 (PyData.depthAll (xs.map .bool)) = 0
      rw [h2]; rfl
theorem shaped_bls (xs : List Bool) : SeqAt.shaped (.list (xs.map .bool)) = true := by
  obtain ⟨h1, h2⟩ := lay_bls xs
  show (PyData.canLayAll0 (xs.map .bool) && decide (PyData.depthAll (xs.map .bool) + 1 ≤ 64)) = true
  rw [h1, h2]
  rfl
end Jo

set_option Elab.async false
set_option linter.all false
set_option maxRecDepth 100000
set_option maxHeartbeats 1000000
namespace Jo
open PySem PySem.Spec PyProof.Rows L2
/-- the purse at p and a list of names at N -/
structure Drw (H : Hp) (p N : Addr) (ys : List Str) : Prop where
  purse : PurseAt H p
  ne : N ≠ p
  list : H N = some (.lst (ys.map V.str))
  few : ys.length ≤ 20
  nm : ∀ z ∈ ys, nmS z = true
theorem Drw.go {H H' : Hp} {p N : Addr} {ys : List Str} (d : Drw H p N ys) (hp : PurseAt H' p) (k : Kp p H H') : Drw H' p N ys := ⟨hp, d.ne, k _ _ d.list d.ne, d.few, d.nm⟩
end Jo

set_option Elab.async false
set_option linter.all false
set_option maxRecDepth 100000
set_option maxHeartbeats 1000000
namespace Jo
open PySem PySem.Spec PyProof.Rows L2
def wordsT : List Str := ["plus", "minus", "times", "equal", "below", "both", "either", "choose", "plus", "not", "choose"]
def kindsT : List Kd := [.bi .plus, .bi .minus, .bi .times, .bi .equal, .bi .below, .bi .both, .bi .either, .ch, .bi .plus, .un, .ch]
theorem kindsT_ok : ∀ d < 11, ∃ k : Kd, wordsT[d]? = some k.word ∧ 0 < k.many := by
  intro d hd
  have : d = 0 ∨ d = 1 ∨ d = 2 ∨ d = 3 ∨ d = 4 ∨ d = 5 ∨ d = 6 ∨ d = 7 ∨ d = 8 ∨ d = 9 ∨ d = 10 := by omega
  rcases this with e | e | e | e | e | e | e | e | e | e | e <;> subst e
  · exact ⟨.bi .plus, rfl, by decide⟩
  · exact ⟨.bi .minus, rfl, by decide⟩
  · exact ⟨.bi .times, rfl, by decide⟩
  · exact ⟨.bi .equal, rfl, by decide⟩
  · exact ⟨.bi .below, rfl, by decide⟩
  · exact ⟨.bi .both, rfl, by decide⟩
  · exact ⟨.bi .either, rfl, by decide⟩
  · exact ⟨.ch, rfl, by decide⟩
  · exact ⟨.bi .plus, rfl, by decide⟩
  · exact ⟨.un, rfl, by decide⟩
  · exact ⟨.ch, rfl, by decide⟩
/-- how many sides, by the word -/
theorem many_word (k : Kd) (h : 0 < k.many) : (if k.word = ("not" : Str) then 1 else if k.word = ("choose" : Str) then 3 else 2) = k.many := by
  cases k with
  | num => cases h
  | var => cases h
  | bi b => cases b <;> rfl
  | un => rfl
  | ch => rfl
theorem rd_many {σ : L2.St} {H : Hp} {Q : VK} {j : Nat} {k : Kd} (hj : σ[j]? = some (some (.str k.word))) (hm : 0 < k.many) (q : Q (.int (k.many : Int)) H) :
    tIf (tTest (tOp rEq (tVar j) (tC (.str "not")))) (tC (.int 1)) (tIf (tTest (tOp rEq (tVar j) (tC (.str "choose")))) (tC (.int 3)) (tC (.int 2))) σ H Q := by
  have mw := many_word k hm
  refine ⟨_, hj, rfl, _, rfl, ite2 (fun e => ?_) (fun e => ?_)⟩
  · have c := V.str.inj (of_decide_eq_true e)
    rw [if_pos c] at mw
    rw [← mw] at q
    exact q
  · have c : ¬ k.word = ("not" : Str) := fun z => e (decide_eq_true (congrArg V.str z))
    rw [if_neg c] at mw
    refine ⟨_, hj, rfl, _, rfl, ite2 (fun e => ?_) (fun e => ?_)⟩
    · have c := V.str.inj (of_decide_eq_true e)
      rw [if_pos c] at mw
      rw [← mw] at q
      exact q
    · have c : ¬ k.word = ("choose" : Str) := fun z => e (decide_eq_true (congrArg V.str z))
      rw [if_neg c] at mw
      rw [← mw] at q
      exact q
/-- the tree of a kind and its sides -/
theorem mk_tree {H : Hp} {k : Kd} {p : Addr} {us : List V} {ts : List Tr} (hk : 0 < k.many) (hl : ts.length = k.many) (hp : H p = some (.tup (.str k.word :: us))) (pr : Paired (Tp H) ts us) :
    ∃ t : Tr, Tp H t (.ref p) ∧ t.kids = ts ∧ t.kd = k ∧ t.comp = true := by
  cases k with
  | num => cases hk
  | var => cases hk
  | bi b =>
    match ts, us, pr, hl with
    | [a, c], [u1, u2], .cons r1 (.cons r2 .nil), _ => exact ⟨.bi b a c, ⟨p, u1, u2, rfl, hp, r1, r2⟩, rfl, rfl, rfl⟩
  | un =>
    match ts, us, pr, hl with
    | [a], [u1], .cons r1 .nil, _ => exact ⟨.un a, ⟨p, u1, rfl, hp, r1⟩, rfl, rfl, rfl⟩
  | ch =>
    match ts, us, pr, hl with
    | [a, c, d], [u1, u2, u3], .cons r1 (.cons r2 (.cons r3 .nil)), _ => exact ⟨.ch a c d, ⟨p, u1, u2, u3, rfl, hp, r1, r2, r3⟩, rfl, rfl, rfl⟩
theorem ok_kids {nm : Str → Prop} : ∀ {t : Tr}, t.comp = true → (∀ u ∈ t.kids, u.Ok nm) → t.Ok nm
  | .un a, _, h => h a List.mem_cons_self
  | .bi k a b, _, h => ⟨h a List.mem_cons_self, h b (List.mem_cons_of_mem _ List.mem_cons_self)⟩
  | .ch a b c, _, h => ⟨h a List.mem_cons_self, h b (List.mem_cons_of_mem _ List.mem_cons_self), h c (List.mem_cons_of_mem _ (List.mem_cons_of_mem _ List.mem_cons_self))⟩
theorem top1_le {l : List Nat} {B : Nat} (h : ∀ x ∈ l, x ≤ B) : Tr.top1 l ≤ B := by
  rcases (fold_ge l 0).2.2 with e | m
  · show l.foldl max 0 ≤ B
    omega
  · exact h _ m
theorem pair_mem {α β : Type} {F : α → β → Prop} {G : α → β → Prop} {xs : List α} {ys : List β} (p : Paired F xs ys) (h : ∀ x y, F x y → G x y) : Paired G xs ys := by
  induction p with
  | nil => exact .nil
  | cons q _ ih => exact .cons (h _ _ q) ih
theorem pair_end {α β : Type} {F : α → β → Prop} {xs : List α} {ys : List β} {x : α} {y : β} (p : Paired F xs ys) (q : F x y) : Paired F (xs ++ [x]) (ys ++ [y]) := by
  induction p with
  | nil => exact .cons q .nil
  | cons r _ ih => exact .cons r ih
theorem Tp.imp {H H' : Hp} (s : ∀ a xs, H a = some (.tup xs) → H' a = some (.tup xs)) : ∀ {t : Tr} {v : V}, Tp H t v → Tp H' t v
  | .num n, v, ⟨p, e, h⟩ => ⟨p, e, s _ _ h⟩
  | .var x, v, ⟨p, e, h⟩ => ⟨p, e, s _ _ h⟩
  | .un a, v, ⟨p, u, e, h, r⟩ => ⟨p, u, e, s _ _ h, r.imp s⟩
  | .bi k a b, v, ⟨p, u1, u2, e, h, r1, r2⟩ => ⟨p, u1, u2, e, s _ _ h, r1.imp s, r2.imp s⟩
  | .ch a b c, v, ⟨p, u1, u2, u3, e, h, r1, r2, r3⟩ => ⟨p, u1, u2, u3, e, s _ _ h, r1.imp s, r2.imp s, r3.imp s⟩
/-- a list changes: the trees beside it stay -/
theorem tp_put {H : Hp} {D p : Addr} {xs : List V} {o : HO} (hD : H D = some (.lst xs)) {t : Tr} {v : V} (h : Tp (Off p H) t v) : Tp (Off p (upd H D o)) t v := h.imp fun a ys e => by
  obtain ⟨n, e⟩ := off_get e
  exact off_of n (by rw [upd_ne (fun q => by rw [q, hD] at e; cases e)]; exact e)
/-- a tree that is drawn -/
structure Dn (t : Tr) (deep room : Nat) (ys : List Str) : Prop where
  ok : t.Ok fun x => nmS x = true
  depth : t.depth ≤ deep
  parts : t.parts ≤ room
  vars : ∀ z ∈ t.vars, z ∈ ys
end Jo

set_option Elab.async false
set_option linter.all false
set_option maxRecDepth 100000
set_option maxHeartbeats 1000000
namespace Jo
open PySem PySem.Spec PyProof.Rows L2
theorem Of.app {S : Str → Bool} {n : Nat} {xs ys : List Str} (h : Of S n xs) (e : xs = ys) : Of S n ys := e ▸ h
/-- {y for x in t for y in x.names}, t a tuple of instances -/
theorem sc2_names {P : Program} {w : World} {K : PySem.W.Frag} {q : Addr} {us : List V} {vs : List Nat} {i1 i2 : Nat} {σ : L2.St} {G1 : Hp} {D : Addr} {Qd : Hp → Prop} (nD : G1 D = none) (hq : SqT K G1 q us) (nl : List (List Str)) (hl : nl.length = us.length) (few : nl.flatten.length ≤ 60)
    (hx : ∀ (i : Nat) (x : V), us[i]? = some x → ∃ (a Cc dx : Addr) (fs : List (Str × V)) (b : Addr) (nm : List Str), x = .ref a ∧ G1 a = some (.ins Cc dx fs) ∧ Cls K Cc ∧ NoAttr K Cc "names" ∧ fs.lookup ("names" : Str) = some (.ref b) ∧ nl[i]? = some nm ∧ SqT K G1 b (nm.map V.str))
    (hw1 : ∀ x, wipe ((wipe σ vs).set i1 (some x)) vs = wipe σ vs) (hv1 : ∀ x, ((wipe σ vs).set i1 (some x))[i1]? = some (some x))
    (hw2 : ∀ x y, wipe ((wipe ((wipe σ vs).set i1 (some x)) [i2]).set i2 (some y)) [i2] = wipe ((wipe σ vs).set i1 (some x)) [i2]) (hv2 : ∀ x y, ((wipe ((wipe σ vs).set i1 (some x)) [i2]).set i2 (some y))[i2]? = some (some y))
    (hd : ∀ S n, Of S n nl.flatten → Qd (upd G1 D (SetT P w D S n))) :
    ∃ W : Nat → Nat → Hp → Prop, (∃ m, W 0 m (upd G1 D (set0 P w D))) ∧ ∀ i m G2, W i m G2 → ((Itt K q).stop i G2 ∧ Qd G2) ∨
      ((Itt K q).go i G2 ∧ ∃ Nx : Hp → Prop, (∀ G3, Nx G3 → ∃ m', m' < m ∧ W (i + 1) m' G3) ∧
        ∀ x G3, (Itt K q).yld i G2 x G3 → gName i1 x (wipe σ vs) G3 fun σ2 G4 => wipe σ2 vs = wipe σ vs ∧ tYes σ2 G4 fun b G5 => if b = true then tScIn P w D (iTup K (tFld K (tVar i1) "names")) (gName i2) tYes (tVar i2) [i2] Nx σ2 G5 else Nx G5) := by
  have sm : ∀ {S n}, Same G1 (upd G1 D (SetT P w D S n)) := same_new nD
  have sT : ∀ {a : Addr} {xs : List V} {G : Hp}, SqT K G1 a xs → Same G1 G → SqT K G a xs := fun {a xs G} h s => by
    rcases h with (h | ⟨o, h⟩) | h
    · exact .inl (.inl (s _ _ h))
    · exact .inl (.inr ⟨o, s _ _ h⟩)
    · exact .inr h
  refine ⟨fun i m G => m = us.length - i ∧ i ≤ us.length ∧ ∃ S n, G = upd G1 D (SetT P w D S n) ∧ Of S n (nl.take i).flatten, ⟨us.length, by simp, Nat.zero_le _, _, 0, rfl, by rw [List.take_zero]; exact Of.nil⟩, ?_⟩
  rintro i m G2 ⟨rfl, hi, S, n, rfl, hO⟩
  by_cases lt : i < us.length
  · refine .inr ⟨⟨us, us[i], sT hq sm, by simp [lt]⟩, fun G => i + 1 ≤ us.length ∧ ∃ S n, G = upd G1 D (SetT P w D S n) ∧ Of S n (nl.take (i + 1)).flatten, fun G3 ⟨h1, h2⟩ => ⟨us.length - (i + 1), by omega, rfl, h1, h2⟩, fun x G3 y => ?_⟩
    obtain ⟨e, y⟩ := y
    subst e
    have hxi := y us (sT hq sm)
    obtain ⟨a, Cc, dx, fs, b, nm, rfl, ha, cl, na, lk, hnm, hb⟩ := hx i x hxi
    refine ⟨hw1 _, ?_⟩
    refine ⟨_, hv1 _, a, Cc, dx, fs, _, rfl, sm _ _ ha, cl, na, lk, b, rfl, ⟨_, sT hb sm⟩, ?_⟩
    have flat : nl.flatten.length = ((nl.take (i + 1)).flatten).length + ((nl.drop (i + 1)).flatten).length := by
      rw [← List.length_append, ← List.flatten_append, List.take_append_drop]
    have step : (nl.take (i + 1)).flatten = (nl.take i).flatten ++ nm := by
      rw [List.take_succ, hnm, List.flatten_append]
      simp
    rw [step, List.length_append] at flat
    refine ⟨fun j k G => k = nm.length - j ∧ j ≤ nm.length ∧ ∃ S n, G = upd G1 D (SetT P w D S n) ∧ Of S n ((nl.take i).flatten ++ nm.take j), ⟨nm.length, by simp, Nat.zero_le _, S, n, rfl, by rw [List.take_zero, List.append_nil]; exact hO⟩, ?_⟩
    rintro j k G4 ⟨rfl, hj, S2, n2, rfl, hO2⟩
    by_cases lt2 : j < nm.length
    · refine .inr ⟨⟨_, (nm.map V.str)[j]'(by rw [List.length_map]; exact lt2), sT hb sm, by simp [lt2]⟩, fun G => j + 1 ≤ nm.length ∧ ∃ S n, G = upd G1 D (SetT P w D S n) ∧ Of S n ((nl.take i).flatten ++ nm.take (j + 1)), fun G5 ⟨h1, h2⟩ => ⟨nm.length - (j + 1), by omega, rfl, h1, h2⟩, fun x2 G5 y2 => ?_⟩
      obtain ⟨e, y2⟩ := y2
      subst e
      have hx2 := y2 _ (sT hb sm)
      have ex : x2 = .str nm[j] := by
        rw [List.getElem?_map, List.getElem?_eq_getElem lt2] at hx2
        exact (Option.some.inj hx2).symm
      subst ex
      refine ⟨hw2 _ _, ?_⟩
      refine ⟨_, hv2 _ _, nm[j], S2, n2, rfl, upd_same, ?_, lt2, _, _, by rw [upd_upd], ?_⟩
      · have := hO2.2
        rw [List.length_append, List.length_take] at this
        unfold scanBound
        omega
      · have h3 := hO2.put nm[j]
        have e : ((nl.take i).flatten ++ nm.take j) ++ [nm[j]] = (nl.take i).flatten ++ nm.take (j + 1) := by
          rw [List.append_assoc, List.take_succ, List.getElem?_eq_getElem lt2]
          rfl
        exact h3.app e
    · have e : j = nm.length := by omega
      subst e
      refine .inl ⟨⟨_, sT hb sm, by rw [List.length_map]; exact Nat.le_refl _⟩, lt, S2, n2, rfl, ?_⟩
      rw [List.take_length] at hO2
      exact hO2.app step.symm
  · have e : i = us.length := by omega
    subst e
    refine .inl ⟨⟨us, sT hq sm, Nat.le_refl _⟩, hd S n ?_⟩
    rw [← hl, List.take_length] at hO
    exact hO
theorem seqT_same {K : PySem.W.Frag} {H H' : Hp} {a : Addr} {xs : List V} (h : SqT K H a xs) (s : Same H H') : SqT K H' a xs := by
  rcases h with (h | ⟨o, h⟩) | h
  · exact .inl (.inl (s _ _ h))
  · exact .inl (.inr ⟨o, s _ _ h⟩)
  · exact .inr h
end Jo

set_option Elab.async false
set_option linter.all false
set_option maxRecDepth 100000
set_option maxHeartbeats 1000000
namespace Jo
open PySem PySem.Spec PyProof.Rows L2
/-- an own class below object alone: what isinstance asks of it -/
structure OwnC (K : PySem.W.Frag) (C : Addr) : Prop where
  cl : Cls K C
  ha : PySem.W.findIn K (.ref C) "__class__" = some (some (.builtin "object.__class__"))
  hn : PySem.W.specialIn K (.builtin "object.__class__") "__get__" = some (some (.builtin "getset_descriptor.__get__"))
  ht : PySem.W.takesIn K (.builtin "object.__class__") = some true
  hm : PySem.W.mroIn K C (.type "object") = some true
theorem OwnC.ty {K : PySem.W.Frag} {C a dx : Addr} {H : Hp} {fs : List (Str × V)} (o : OwnC K C) (h : H a = some (.ins C dx fs)) : TyX K H (.ref a) (.ref C) := .base (.ins h o.cl o.ha o.hn o.ht o.hm)
/-- the classes of expressions: C each kind's, CE the base class's -/
structure XT (K : PySem.W.Frag) (mg : Str → Option Value) (C : Kd → Addr) (CE : Addr) : Prop where
  own : ∀ k, OwnC K (C k)
  na : ∀ k, ∀ f ∈ fieldsX, NoAttr K (C k) f
  mgC : ∀ k : Kd, k.has = true → mg k.cname = some (.ref (C k))
  mgE : mg "Expression" = some (.ref CE)
  con : ∀ k : Kd, k.has = true → ∃ u, Con K (C k) "WORD" (.str k.word) u
  cval : ∀ k : Kd, k.has = true → ∃ mc u, ClX.CRead K (C k) mc ∧ ClX.CVal K (C k) mc "WORD" (.str k.word) u
  kit : ∀ k l : Kd, k.has = true → l.has = true → PySem.W.kitOne K (.ref (C k)) (.ref (C l)) = some (decide (k = l))
  kitE : ∀ k, PySem.W.kitOne K (.ref (C k)) (.ref CE) = some true
  kitS : PySem.W.kitOne K (.type "str") (.ref CE) = some false
  nf : ∀ k l, PySem.W.notFirst K (C k) (.ref (C l)) = true
  nfS : ∀ k, PySem.W.notFirst K (C k) (.type "str") = true
  fmt : ∀ k, PySem.W.findIn K (.ref (C k)) "__format__" = some (some (.builtin "object.__format__"))
theorem XT.nof {K : PySem.W.Frag} {mg : Str → Option Value} {C : Kd → Addr} {CE : Addr} (x : XT K mg C CE) (k : Kd) {f : Str} (h : f ∈ fieldsX) : NoAttr K (C k) f := x.na k f h
theorem Is.imp {C : Kd → Addr} {H H' : Hp} (s : ∀ a o, H a = some o → (∀ Cc dx, o ≠ .ins Cc dx []) → H' a = some o) : ∀ {t : Tr} {v : V}, Is C H t v → Is C H' t v := by
  have hs : ∀ {t : Tr} {a : Addr} {fs : List (Str × V)}, Has C H t a fs → Has C H' t a fs := fun {t a fs} h => by
    refine ⟨?_, h.text, ?_, h.parts, h.depth, h.no⟩
    · obtain ⟨dx, e⟩ := h.at_
      refine ⟨dx, s _ _ e fun Cc dx' q => ?_⟩
      injection q with _ _ q
      have := h.text
      rw [q] at this
      cases this
    · obtain ⟨q, e, e2⟩ := h.names
      exact ⟨q, e, s _ _ e2 fun Cc dx' q => nomatch q⟩
  intro t
  induction t with
  | num n => exact fun {v} ⟨a, fs, e, h, r⟩ => ⟨a, fs, e, hs h, r⟩
  | var x => exact fun {v} ⟨a, fs, e, h, r⟩ => ⟨a, fs, e, hs h, r⟩
  | un t ih => exact fun {v} ⟨a, fs, u, e, h, r, i⟩ => ⟨a, fs, u, e, hs h, r, ih i⟩
  | bi k t1 t2 ih1 ih2 => exact fun {v} ⟨a, fs, u1, u2, e, h, r1, r2, i1, i2⟩ => ⟨a, fs, u1, u2, e, hs h, r1, r2, ih1 i1, ih2 i2⟩
  | ch t1 t2 t3 ih1 ih2 ih3 => exact fun {v} ⟨a, fs, u1, u2, u3, e, h, r1, r2, r3, i1, i2, i3⟩ => ⟨a, fs, u1, u2, u3, e, hs h, r1, r2, r3, ih1 i1, ih2 i2, ih3 i3⟩
/-- the sides of an expression that may be made -/
structure Sides (C : Kd → Addr) (H : Hp) (ts : List Tr) (us : List V) : Prop where
  is : Paired (Is C H) ts us
  ok : ∀ t ∈ ts, t.Ok fun x => nmS x = true
  three : ts.length ≤ 3
  parts : 1 + (ts.map Tr.parts).sum ≤ 40
  depth : 1 + Tr.top1 (ts.map Tr.depth) ≤ 6
theorem Sides.same {C : Kd → Addr} {H H' : Hp} {ts : List Tr} {us : List V} (s : Sides C H ts us) (h : Same H H') : Sides C H' ts us := ⟨pair_mem s.is fun x y i => i.same h, s.ok, s.three, s.parts, s.depth⟩
theorem Sides.part {C : Kd → Addr} {H : Hp} {ts : List Tr} {us : List V} (s : Sides C H ts us) {t : Tr} (h : t ∈ ts) : t.parts ≤ 40 := by
  have : ∀ {l : List Nat} {x : Nat}, x ∈ l → x ≤ l.sum := fun {l x} h => by
    induction l with
    | nil => cases h
    | cons y l ih =>
      rw [List.sum_cons]
      rcases List.mem_cons.mp h with e | h
      · omega
      · have := ih h
        omega
  have h1 := this (List.mem_map.mpr ⟨t, h, rfl⟩ : t.parts ∈ ts.map Tr.parts)
  have := s.parts
  omega
section
variable {P : Program} {w : World} {K : PySem.W.Frag} {mg : Str → Option Value} {base : Heap} {C : Kd → Addr} {CE : Addr}
def n_parts_with : List Str := ["inside", "part"]
theorem sc_parts_with : FnScope n_parts_with ["inside"] (defScope s_parts_with) := ⟨rfl, rfl, rfl, by decide +kernel, rfl, by decide +kernel, by decide +kernel⟩
def spPartsWith (K : PySem.W.Frag) (C : Kd → Addr) : Sp := fun vs H Q _ => ∃ (q : Addr) (ts : List Tr) (us : List V), vs = [.ref q] ∧ SqT K H q us ∧ Sides C H ts us ∧ ∀ H', Same H H' → Q (.int ((1 + (ts.map Tr.parts).sum : Nat) : Int)) H'
theorem ok_parts_with (T : Txt mg) (X : XT K mg C CE) (D : Dfn K mg "parts_with" s_parts_with ["inside"]) : CalF P w K mg base 1 "parts_with" ["inside"] (spPartsWith K C) := by
  refine D.okF sc_parts_with (fun vs H Q E h => ?_) (fun f cdv A fr s H vs Q E hr h => ?_)
  · obtain ⟨q, ts, us, rfl, _⟩ := h
    rfl
  · obtain ⟨q, ts, us, rfl, hq, sd, fin⟩ := h
    refine ⟨_, pss_one (ps_ret (pe_op op_add pe_int (pe_callB (cr_sum rfl) rfl T.b_sum (by decide +kernel) (pa_cons (pe_lc (own := [("part", 1)]) (g := gName 1) (tt := tYes) (te := tFld K (tVar 1) "parts") rfl sc_parts_with.nd (pi_tup (pv 0)) (blkOk_by (N := n_parts_with) (sc := defScope s_parts_with) (by decide +kernel)) (fun _ _ _ _ _ => pg_name (i := 1) sc_parts_with.nd rfl (Or.inl rfl)) (fun _ _ _ _ _ => pts_nil) (fun _ _ _ _ _ => (pe_fld (pv 1) rfl))) pa_nil)))), ?_⟩
    have pl := pair_len sd.is
    have h3 := sd.three
    refine ⟨_, rfl, q, rfl, ⟨_, hq⟩, fun D1 nD => ?_⟩
    refine lc_call (walk_tup (K := K) (a := q) (xs := us)) nD (ts.map fun u => V.int (u.parts : Int)) (by rw [List.length_map]; exact pl) (by omega) (fun G sG => ?_) (fun i x v G G' R hv sG hy hR => ?_) (fun G sG hD => ?_)
    · exact seqT_same hq sG
    · obtain ⟨rfl, hx⟩ := hy
      obtain ⟨u, hu, iu⟩ := pair_at sd.is hx
      have ev : v = .int (u.parts : Int) := by
        rw [List.getElem?_map, hu] at hv
        exact (Option.some.inj hv).symm
      subst ev
      obtain ⟨a, fs, rfl, hh⟩ := (iu.same sG).has
      obtain ⟨dx, ha⟩ := hh.at_
      exact ⟨rfl, _, rfl, a, _, dx, fs, _, rfl, ha, (X.own _).cl, X.nof _ (by decide +kernel), hh.parts, hR _ (.refl _)⟩
    · refine ⟨D1, (ts.map Tr.parts).map fun n : Nat => (n : Int), rfl, SqL.of (by rw [hD, List.map_map, List.map_map]; rfl), _, _, rfl, rfl, ?_⟩
      rw [nat_sum]
      have e3 : (1 : Int) + (((ts.map Tr.parts).sum : Nat) : Int) = ((1 + (ts.map Tr.parts).sum : Nat) : Int) := by omega
      have q2 := fin G sG
      rw [← e3] at q2
      exact q2
end
end Jo

set_option Elab.async false
set_option linter.all false
set_option maxRecDepth 100000
set_option maxHeartbeats 1000000
namespace Jo
open PySem PySem.Spec PyProof.Rows L2
theorem fold_int : ∀ (l : List Nat) (n : Nat), (l.map fun x : Nat => (x : Int)).foldl max (n : Int) = ((l.foldl max n : Nat) : Int)
  | [], n => rfl
  | x :: l, n => by
    rw [List.map_cons, List.foldl_cons, List.foldl_cons, ← fold_int l (max n x)]
    congr 1
    omega
theorem fold_top1 (n : Nat) (l : List Nat) : l.foldl max n = Tr.top1 (n :: l) := by
  show _ = l.foldl max (max 0 n)
  rw [Nat.max_eq_right (Nat.zero_le n)]
/-- the text of a kind around its sides, or of a leaf -/
def writ (h : Str) (ts : List Tr) : Str := if ts = [] then h else ((h ++ ("(" : Str)) ++ Txt.join ", " (ts.map Tr.text)) ++ ")"
theorem empty_cat (z : Str) : Str.empty ++ z = z := by
  cases z with
  | mk c =>
    show (⟨#[] ++ c⟩ : Str) = _
    simp
theorem Sides.joined {C : Kd → Addr} {H : Hp} {ts : List Tr} {us : List V} (s : Sides C H ts us) : (Txt.join ", " (ts.map Tr.text)).length ≤ 3000 ∧ ((ts.map Tr.text).map (·.length)).sum + (ts.map Tr.text).length * (", " : Str).length ≤ 3000 := by
  have tl : ∀ x ∈ (ts.map Tr.text).map (·.length), x ≤ 640 := fun x hx => by
    obtain ⟨z, hz, rfl⟩ := List.mem_map.mp hx
    obtain ⟨u, hu, rfl⟩ := List.mem_map.mp hz
    have h1 := Tr.text_len (fun x h => nm_len h) (s.ok u hu)
    have h2 := s.part hu
    omega
  have s3 := sum_B tl
  have k3 := s.three
  rw [List.length_map, List.length_map] at s3
  have j1 := join_len ", " (ts.map Tr.text)
  have j2 : (", " : Str).length = 2 := by decide +kernel
  have j3 : (ts.map Tr.text).length * (", " : Str).length ≤ 6 := by rw [List.length_map, j2]; omega
  omega
section
variable {P : Program} {w : World} {K : PySem.W.Frag} {mg : Str → Option Value} {base : Heap} {C : Kd → Addr} {CE : Addr}
def n_depth_with : List Str := ["inside", "part"]
theorem sc_depth_with : FnScope n_depth_with ["inside"] (defScope s_depth_with) := ⟨rfl, rfl, rfl, by decide +kernel, rfl, by decide +kernel, by decide +kernel⟩
def spDepthWith (K : PySem.W.Frag) (C : Kd → Addr) : Sp := fun vs H Q _ => ∃ (q : Addr) (ts : List Tr) (us : List V), vs = [.ref q] ∧ SqT K H q us ∧ Sides C H ts us ∧ ∀ H', Same H H' → Q (.int ((1 + Tr.top1 (ts.map Tr.depth) : Nat) : Int)) H'
theorem ok_depth_with (T : Txt mg) (X : XT K mg C CE) (D : Dfn K mg "depth_with" s_depth_with ["inside"]) : CalF P w K mg base 2 "depth_with" ["inside"] (spDepthWith K C) := by
  refine D.okF sc_depth_with (fun vs H Q E h => ?_) (fun f cdv A fr s H vs Q E hr h => ?_)
  · obtain ⟨q, ts, us, rfl, _⟩ := h
    rfl
  · obtain ⟨q, ts, us, rfl, hq, sd, fin⟩ := h
    refine ⟨_, pss_one (ps_ret (pe_op op_add pe_int (pe_callBK (cr_maxD rfl hr) rfl T.b_max (by decide +kernel) (pa_cons (pe_lc (own := [("part", 1)]) (g := gName 1) (tt := tYes) (te := tFld K (tVar 1) "depth") rfl sc_depth_with.nd (pi_tup (pv 0)) (blkOk_by (N := n_depth_with) (sc := defScope s_depth_with) (by decide +kernel)) (fun _ _ _ _ _ => pg_name (i := 1) sc_depth_with.nd rfl (Or.inl rfl)) (fun _ _ _ _ _ => pts_nil) (fun _ _ _ _ _ => (pe_fld (pv 1) rfl))) pa_nil) (pk_cons pe_int pk_nil)))), ?_⟩
    have pl := pair_len sd.is
    have h3 := sd.three
    refine ⟨_, rfl, q, rfl, ⟨_, hq⟩, fun D1 nD => ?_⟩
    refine lc_call (walk_tup (K := K) (a := q) (xs := us)) nD (ts.map fun u => V.int (u.depth : Int)) (by rw [List.length_map]; exact pl) (by omega) (fun G sG => ?_) (fun i x v G G' R hv sG hy hR => ?_) (fun G sG hD => ?_)
    · exact seqT_same hq sG
    · obtain ⟨rfl, hx⟩ := hy
      obtain ⟨u, hu, iu⟩ := pair_at sd.is hx
      have ev : v = .int (u.depth : Int) := by
        rw [List.getElem?_map, hu] at hv
        exact (Option.some.inj hv).symm
      subst ev
      obtain ⟨a, fs, rfl, hh⟩ := (iu.same sG).has
      obtain ⟨dx, ha⟩ := hh.at_
      exact ⟨rfl, _, rfl, a, _, dx, fs, _, rfl, ha, (X.own _).cl, X.nof _ (by decide +kernel), hh.depth, hR _ (.refl _)⟩
    · have q2 := fin G sG
      refine ⟨D1, (ts.map Tr.depth).map fun n : Nat => (n : Int), 0, rfl, rfl, SqL.of (by rw [hD, List.map_map, List.map_map]; rfl), fun e => ?_, fun n r e => ?_⟩
      · have e1 : ts.map Tr.depth = [] := List.map_eq_nil_iff.mp e
        rw [e1] at q2
        exact ⟨_, _, rfl, rfl, q2⟩
      · generalize hL : ts.map Tr.depth = L at e q2
        match L, e with
        | m :: l, e =>
          rw [List.map_cons] at e
          injection e with e1 e2
          subst e1 e2
          refine ⟨_, _, rfl, rfl, ?_⟩
          rw [fold_int, fold_top1]
          have e3 : (1 : Int) + ((Tr.top1 (m :: l) : Nat) : Int) = ((1 + Tr.top1 (m :: l) : Nat) : Int) := by omega
          rw [← e3] at q2
          exact q2
def n_check_inside : List Str := ["inside", "part"]
theorem sc_check_inside : FnScope n_check_inside ["inside"] (defScope s_check_inside) := ⟨rfl, rfl, rfl, by decide +kernel, rfl, by decide +kernel, by decide +kernel⟩
def spCheckInside (K : PySem.W.Frag) (C : Kd → Addr) : Sp := fun vs H Q _ => ∃ (q : Addr) (ts : List Tr) (us : List V), vs = [.ref q] ∧ SqT K H q us ∧ Sides C H ts us ∧ ∀ H', Same H H' → Q .non H'
theorem ok_check_inside (T : Txt mg) (X : XT K mg C CE) (D : Dfn K mg "check_inside" s_check_inside ["inside"]) (c_parts : CalF P w K mg base 1 "parts_with" ["inside"] (spPartsWith K C)) (c_depth : CalF P w K mg base 2 "depth_with" ["inside"] (spDepthWith K C)) :
    CalF P w K mg base 3 "check_inside" ["inside"] (spCheckInside K C) := by
  refine D.okF sc_check_inside (fun vs H Q E h => ?_) (fun f cdv A fr s H vs Q E hr h => ?_)
  · obtain ⟨q, ts, us, rfl, _⟩ := h
    rfl
  · obtain ⟨q, ts, us, rfl, hq, sd, fin⟩ := h
    refine ⟨_, pss_cons (ps_for PassesOwn.never rfl (pi_tup (pv 0)) (pg_name (i := 1) sc_check_inside.nd rfl (.inl rfl))
        (pss_one (ps_if (pt_not (pt_val (pe_callB call_isi rfl T.b_isinstance (by decide +kernel) (pa_cons (pv 1) (pa_cons (pe_glob (v := .ref CE) rfl X.mgE rfl) pa_nil)))))
            (pss_one ps_never)
            (pss_nil))))
      (pss_cons (ps_if (pt_cmpR op_gt (pe_cF c_parts hr (by decide) rfl (pa_cons (pv 0) pa_nil)) (C8.pe_gc rfl T.g_MAX_PARTS) (nomark _))
        (pss_one ps_never)
        (pss_nil))
      (pss_one (ps_if (pt_cmpR op_gt (pe_cF c_depth hr (by decide) rfl (pa_cons (pv 0) pa_nil)) (C8.pe_gc rfl T.g_MAX_DEPTH) (nomark _))
        (pss_one ps_never)
        (pss_nil)))), ?_⟩
    refine ⟨_, rfl, q, rfl, ⟨_, hq⟩, ?_⟩
    refine for_tup (K := K) (a := q) (xs := us) (fun i σ G => Same H G ∧ ∃ y : Option V, σ = [some (.ref q), y]) ⟨.refl _, none, rfl⟩ (fun i σ G hi hG => seqT_same hq hG.1) (fun i x σ G hx hG => ?_) (fun σ G hG => ?_)
    · obtain ⟨sG, y, rfl⟩ := hG
      obtain ⟨u, hu, iu⟩ := pair_at sd.is hx
      obtain ⟨a, fs, rfl, hh⟩ := (iu.same sG).has
      obtain ⟨dx, ha⟩ := hh.at_
      exact ⟨_, rfl, _, _, _, _, true, rfl, .own CE, (X.own _).ty ha, X.kitE _, true, rfl, iteF ⟨sG, _, rfl⟩⟩
    · obtain ⟨sG, y, rfl⟩ := hG
      refine ⟨_, rfl, q, ts, us, rfl, seqT_same hq sG, sd.same sG, fun G1 s1 => ?_⟩
      refine ⟨_, _, rfl, rfl, _, rfl, ?_⟩
      rw [decide_eq_false (by have := sd.parts; omega)]
      refine iteF ⟨_, rfl, q, ts, us, rfl, seqT_same hq (sG.trans s1), sd.same (sG.trans s1), fun G2 s2 => ?_⟩
      refine ⟨_, _, rfl, rfl, _, rfl, ?_⟩
      rw [decide_eq_false (by have := sd.depth; omega)]
      exact iteF (fin G2 ((sG.trans s1).trans s2))
def n_written : List Str := ["head", "inside", "texts", "part"]
theorem sc_written : FnScope n_written ["head", "inside"] (defScope s_written) := ⟨rfl, rfl, rfl, by decide +kernel, rfl, by decide +kernel, by decide +kernel⟩
def spWritten (K : PySem.W.Frag) (C : Kd → Addr) : Sp := fun vs H Q _ => ∃ (h : Str) (q : Addr) (ts : List Tr) (us : List V), vs = [.str h, .ref q] ∧ h.length ≤ 8 ∧ SqT K H q us ∧ Sides C H ts us ∧ ∀ H', Same H H' → Q (.str (writ h ts)) H'
theorem ok_written (T : Txt mg) (X : XT K mg C CE) (D : Dfn K mg "written" s_written ["head", "inside"]) : CalF P w K mg base 1 "written" ["head", "inside"] (spWritten K C) := by
  refine D.okF sc_written (fun vs H Q E h => ?_) (fun f cdv A fr s H vs Q E hr h => ?_)
  · obtain ⟨z, q, ts, us, rfl, _⟩ := h
    rfl
  · obtain ⟨z, q, ts, us, rfl, hz, hq, sd, fin⟩ := h
    refine ⟨_, pss_cons (ps_if (pt_not (pt_truth (pv 1) (by intro _; rfl)))
        (pss_one (ps_ret (pv 0)))
        (pss_nil))
      (pss_cons (ps_set (i := 2) sc_written.nd rfl (.inl rfl) (pe_join pe_str (pe_lc (own := [("part", 3)]) (g := gName 3) (tt := tYes) (te := tFld K (tVar 3) "text") rfl sc_written.nd (pi_tup (pv 1)) (blkOk_by (N := n_written) (sc := defScope s_written) (by decide +kernel)) (fun _ _ _ _ _ => pg_name (i := 3) sc_written.nd rfl (Or.inl rfl)) (fun _ _ _ _ _ => pts_nil) (fun _ _ _ _ _ => (pe_fld (pv 3) rfl)))))
      (pss_one (ps_ret (pe_joined (.cons (pe_fmt (pv 0)) (.cons pe_str (.cons (pe_fmt (pv 2)) (.cons pe_str .nil)))))))), ?_⟩
    have pl := pair_len sd.is
    have h3 := sd.three
    refine ⟨_, rfl, !us.isEmpty, .inr (.inl ⟨us, hq, rfl⟩), ?_⟩
    cases us with
    | nil =>
      have e : ts = [] := List.eq_nil_of_length_eq_zero pl
      refine iteT ⟨_, rfl, ?_⟩
      have q2 := fin H (.refl _)
      unfold writ at q2
      rw [if_pos e] at q2
      exact q2
    | cons u0 ur =>
      have e : ts ≠ [] := fun e => by rw [e] at pl; cases pl
      refine iteF ⟨⟨_, rfl⟩, _, rfl, q, rfl, ⟨_, hq⟩, fun D1 nD => ?_⟩
      refine lc_call (walk_tup (K := K) (a := q) (xs := u0 :: ur)) nD (ts.map fun u => V.str u.text) (by rw [List.length_map]; exact pl) (by omega) (fun G sG => ?_) (fun i x v G G' R hv sG hy hR => ?_) (fun G sG hD => ?_)
      · exact seqT_same hq sG
      · obtain ⟨rfl, hx⟩ := hy
        obtain ⟨u, hu, iu⟩ := pair_at sd.is hx
        have ev : v = .str u.text := by
          rw [List.getElem?_map, hu] at hv
          exact (Option.some.inj hv).symm
        subst ev
        obtain ⟨a, fs, rfl, hh⟩ := (iu.same sG).has
        obtain ⟨dx, ha⟩ := hh.at_
        exact ⟨rfl, _, rfl, a, _, dx, fs, _, rfl, ha, (X.own _).cl, X.nof _ (by decide +kernel), hh.text, hR _ (.refl _)⟩
      · obtain ⟨j1, j2⟩ := sd.joined
        refine ⟨", ", D1, ts.map Tr.text, rfl, rfl, .inl (SqL.of (by rw [hD, List.map_map]; rfl)), by omega, ?_⟩
        have c1 : ("(" : Str).length = 1 := by decide +kernel
        have c2 : (")" : Str).length = 1 := by decide +kernel
        refine ⟨_, rfl, .inl ⟨z, rfl, small_len (by omega), z, rfl, ?_, ?_⟩⟩
        · rw [empty_cat]
          exact small_len (by omega)
        · rw [empty_cat]
          refine ⟨"(", rfl, by rw [len_cat, c1]; exact small_len (by omega), _, rfl, .inl ⟨_, rfl, small_len (by omega), _, rfl, by rw [len_cat, len_cat, c1]; exact small_len (by omega), ")", rfl, by rw [len_cat, len_cat, len_cat, c1, c2]; exact small_len (by omega), ?_⟩⟩
          have q2 := fin G sG
          unfold writ at q2
          rw [if_neg e] at q2
          exact q2
end
end Jo

set_option Elab.async false
set_option linter.all false
set_option maxRecDepth 100000
set_option maxHeartbeats 1000000
namespace Jo
open PySem PySem.Spec PyProof.Rows L2
theorem seqT_kp {K : PySem.W.Frag} {H G : Hp} {a b Cc dx : Addr} {fs : List (Str × V)} {xs : List V} (h : SqT K H b xs) (k : Kp a H G) (ha : H a = some (.ins Cc dx fs)) : SqT K G b xs := by
  rcases h with (h | ⟨o, h⟩) | h
  · exact .inl (.inl (k _ _ h fun e => by rw [e, ha] at h; cases h))
  · exact .inl (.inr ⟨o, k _ _ h fun e => by rw [e, ha] at h; cases h⟩)
  · exact .inr h
theorem is_kp {C : Kd → Addr} {H G : Hp} {a Cc dx : Addr} (k : Kp a H G) (ha : H a = some (.ins Cc dx [])) {t : Tr} {v : V} (h : Is C H t v) : Is C G t v := h.imp fun b o e n => k b o e fun q => by
  rw [q, ha] at e
  cases e
  exact n _ _ rfl
theorem Sides.kp {C : Kd → Addr} {H G : Hp} {ts : List Tr} {us : List V} {a Cc dx : Addr} (s : Sides C H ts us) (k : Kp a H G) (ha : H a = some (.ins Cc dx [])) : Sides C G ts us := ⟨pair_mem s.is fun x y i => is_kp k ha i, s.ok, s.three, s.parts, s.depth⟩
theorem kp_put {a : Addr} {H G : Hp} {o : HO} (k : Kp a H G) : Kp a H (upd G a o) := k.trans Kp.put
theorem pf {f : Str} {y : V} {fs : List (Str × V)} {n : Nat} (h : fs.length ≤ n) : (putF f y fs).length ≤ n + 1 := by
  have := length_putF f y fs
  omega
theorem pf0 : ([] : List (Str × V)).length ≤ 0 := Nat.le_refl _
/-- the fields that every expression has -/
def fsX (z : Str) (r : Addr) (p d : Nat) : List (Str × V) := putF "depth" (.int (d : Int)) (putF "parts" (.int (p : Int)) (putF "names" (.ref r) (putF "text" (.str z) [])))
theorem flat_nms : ∀ ts : List Tr, (ts.map Tr.nms).flatten = ts.flatMap Tr.nms := fun ts => by rw [List.flatMap_def]
section
variable {P : Program} {w : World} {K : PySem.W.Frag} {mg : Str → Option Value} {base : Heap} {C : Kd → Addr} {CE : Addr}
def n_exi : List Str := ["self", "head", "inside", "part", "name"]
theorem sc_exi : FnScope n_exi ["self", "head", "inside"] (defScope m_Expression_init) := ⟨rfl, rfl, rfl, by decide +kernel, rfl, by decide +kernel, by decide +kernel⟩
def spExI (K : PySem.W.Frag) (C : Kd → Addr) : Sp := fun vs H Q _ => ∃ (a dx q : Addr) (k : Kd) (h : Str) (ts : List Tr) (us : List V), vs = [.ref a, .str h, .ref q] ∧ H a = some (.ins (C k) dx []) ∧ h.length ≤ 8 ∧ SqT K H q us ∧ Sides C H ts us ∧
  ∀ G r, Kp a H G → r ≠ a → G a = some (.ins (C k) dx (fsX (writ h ts) r (1 + (ts.map Tr.parts).sum) (1 + Tr.top1 (ts.map Tr.depth)))) → G r = some (.tup ((srt (ts.flatMap Tr.nms)).map V.str)) → Q .non G
theorem ok_exi (T : Txt mg) (X : XT K mg C CE) (D : Mth K CE "__init__" "Expression.__init__" m_Expression_init ["self", "head", "inside"]) (c_parts : CalF P w K mg base 1 "parts_with" ["inside"] (spPartsWith K C)) (c_depth : CalF P w K mg base 2 "depth_with" ["inside"] (spDepthWith K C))
    (c_check : CalF P w K mg base 3 "check_inside" ["inside"] (spCheckInside K C)) (c_written : CalF P w K mg base 1 "written" ["head", "inside"] (spWritten K C)) : MtF P w K mg base 4 CE "__init__" ["self", "head", "inside"] (spExI K C) := by
  refine D.okF sc_exi (fun vs H Q E h => ?_) (fun f cdv A fr s H vs Q E hr h => ?_)
  · obtain ⟨a, dx, q, k, h, ts, us, rfl, _⟩ := h
    rfl
  · obtain ⟨a, dx, q, k, z, ts, us, rfl, ha, hz, hq, sd, fin⟩ := h
    refine ⟨_, pss_cons (ps_expr (pe_cF c_check hr (by decide) rfl (pa_cons (pv 2) pa_nil)))
      (pss_cons (ps_fld (pv 0) (pe_cF c_written hr (by decide) rfl (pa_cons (pv 1) (pa_cons (pv 2) pa_nil))) rfl)
      (pss_cons (ps_fld (pv 0) (pe_callTy call_tuple_of rfl T.b_tuple (by decide +kernel) (pa_cons (pe_callB (cr_sortT2 rfl) rfl T.b_sorted (by decide +kernel) (pa_cons
        (pe_sc2 (own := [("part", 3), ("name", 4)]) (vs1 := [4]) (g := gName 3) (g1 := gName 4) (tt := tYes) (tt1 := tYes) (wi1 := iTup K (tFld K (tVar 3) "names")) (te := tVar 4) rfl sc_exi.nd (pi_tup (pv 2)) (blkOk_by (N := n_exi) (sc := defScope m_Expression_init) (by decide +kernel)) (fun i h => by rw [List.mem_singleton.mp h]; decide)
          (fun _ _ _ _ _ => pg_name (i := 3) sc_exi.nd rfl (Or.inl rfl)) (fun _ _ _ _ _ => pts_nil) (fun _ _ _ _ _ => pi_tup (pe_fld (pv 3) rfl)) (fun _ _ _ _ _ => pg_name (i := 4) sc_exi.nd rfl (Or.inl rfl)) (fun _ _ _ _ _ => pts_nil) (fun _ _ _ _ _ => pv 4)) pa_nil)) pa_nil)) rfl)
      (pss_cons (ps_fld (pv 0) (pe_cF c_parts hr (by decide) rfl (pa_cons (pv 2) pa_nil)) rfl)
      (pss_one (ps_fld (pv 0) (pe_cF c_depth hr (by decide) rfl (pa_cons (pv 2) pa_nil)) rfl))))), ?_⟩
    have cl := (X.own k).cl
    refine ⟨_, rfl, q, ts, us, rfl, hq, sd, fun G1 s1 => ?_⟩
    refine ⟨_, rfl, _, rfl, z, q, ts, us, rfl, hz, seqT_same hq s1, sd.same s1, fun G2 s2 => ?_⟩
    have ha2 := s2 _ _ (s1 _ _ ha)
    refine ⟨_, rfl, a, _, dx, [], rfl, ha2, cl, X.nof _ (by decide +kernel), by decide, ?_⟩
    have k3 : Kp a H (upd G2 a (.ins (C k) dx (putF "text" (.str (writ z ts)) []))) := kp_put (kp_of (s1.trans s2))
    generalize hG3 : upd G2 a (.ins (C k) dx (putF "text" (.str (writ z ts)) [])) = G3 at k3
    have a3 : G3 a = some (.ins (C k) dx (putF "text" (.str (writ z ts)) [])) := by rw [← hG3, upd_same]
    have sd3 := sd.kp k3 ha
    have hq3 := seqT_kp hq k3 ha
    refine ⟨_, rfl, q, rfl, ⟨_, hq3⟩, fun D1 nD => ?_⟩
    refine sc2_names (P := P) (w := w) (K := K) (vs := [3, 4]) (i1 := 3) (i2 := 4) (σ := [some (.ref a), some (.str z), some (.ref q), none, none]) nD hq3 (ts.map Tr.nms) (by rw [List.length_map]; exact pair_len sd.is) ?_ (fun i x hx => ?_) (by intro _; rfl) (by intro _; rfl) (by intro _ _; rfl) (by intro _ _; rfl) (fun S n hO => ?_)
    · rw [flat_nms]
      have h1 := flat_len ts
      have h2 := sd.parts
      omega
    · obtain ⟨u, hu, iu⟩ := pair_at sd3.is hx
      obtain ⟨b, fs, rfl, hh⟩ := iu.has
      obtain ⟨dy, hb⟩ := hh.at_
      obtain ⟨r, hr1, hr2⟩ := hh.names
      exact ⟨b, _, dy, fs, r, u.nms, rfl, hb, (X.own _).cl, X.nof _ (by decide +kernel), hr1, by rw [List.getElem?_map, hu]; rfl, .inl (.inl hr2)⟩
    · rw [flat_nms] at hO
      have nDa : D1 ≠ a := fun e => by rw [e, a3] at nD; cases nD
      have k4 : Kp a H (upd G3 D1 (SetT P w D1 S n)) := k3.trans (kp_of (same_new nD))
      refine ⟨D1, S, n, rfl, upd_same, ?_, fun ys p1 y1 y2 y3 y4 np1 => ?_⟩
      · have h1 := flat_len ts
        have h2 := sd.parts
        have h3 := hO.2
        omega
      · have ey : ys = srt (ts.flatMap Tr.nms) := srt_of y1 y2 fun x => (y3 x).trans (hO.1 x)
        subst ey
        refine ⟨p1, _, rfl, .inl ⟨SqL.of upd_same, fun r nr => ?_⟩⟩
        have a4 : upd G3 D1 (SetT P w D1 S n) a = some (.ins (C k) dx (putF "text" (.str (writ z ts)) [])) := by rw [upd_ne (fun e => nDa e.symm)]; exact a3
        have np1a : a ≠ p1 := fun e => by rw [← e, a4] at np1; cases np1
        have a5 : upd (upd G3 D1 (SetT P w D1 S n)) p1 (.lst ((srt (ts.flatMap Tr.nms)).map V.str)) a = some (.ins (C k) dx (putF "text" (.str (writ z ts)) [])) := by rw [upd_ne np1a]; exact a4
        have nra : a ≠ r := fun e => by rw [← e, a5] at nr; cases nr
        have k6 : Kp a H (upd (upd (upd G3 D1 (SetT P w D1 S n)) p1 (.lst ((srt (ts.flatMap Tr.nms)).map V.str))) r (.tup ((srt (ts.flatMap Tr.nms)).map V.str))) := (k4.trans (kp_of (same_new np1))).trans (kp_of (same_new nr))
        refine ⟨_, rfl, a, _, dx, _, rfl, by rw [upd_ne nra]; exact a5, cl, X.nof _ (by decide +kernel), Nat.lt_of_le_of_lt (pf pf0) (by decide), ?_⟩
        have k7 := kp_put (o := .ins (C k) dx (putF "names" (.ref r) (putF "text" (.str (writ z ts)) []))) k6
        generalize hG7 : upd (upd (upd (upd G3 D1 (SetT P w D1 S n)) p1 (.lst ((srt (ts.flatMap Tr.nms)).map V.str))) r (.tup ((srt (ts.flatMap Tr.nms)).map V.str))) a (.ins (C k) dx (putF "names" (.ref r) (putF "text" (.str (writ z ts)) []))) = G7 at k7
        have a7 : G7 a = some (.ins (C k) dx (putF "names" (.ref r) (putF "text" (.str (writ z ts)) []))) := by rw [← hG7, upd_same]
        have r7 : G7 r = some (.tup ((srt (ts.flatMap Tr.nms)).map V.str)) := by rw [← hG7, upd_ne (fun e => nra e.symm), upd_same]
        refine ⟨_, rfl, q, ts, us, rfl, seqT_kp hq k7 ha, sd.kp k7 ha, fun G8 s8 => ?_⟩
        refine ⟨_, rfl, a, _, dx, _, rfl, s8 _ _ a7, cl, X.nof _ (by decide +kernel), Nat.lt_of_le_of_lt (pf (pf pf0)) (by decide), ?_⟩
        have k9 := kp_put (o := .ins (C k) dx (putF "parts" (.int ((1 + (ts.map Tr.parts).sum : Nat) : Int)) (putF "names" (.ref r) (putF "text" (.str (writ z ts)) [])))) (k7.trans (kp_of s8))
        refine ⟨_, rfl, q, ts, us, rfl, seqT_kp hq k9 ha, sd.kp k9 ha, fun G9 s9 => ?_⟩
        refine ⟨_, rfl, a, _, dx, _, rfl, s9 _ _ upd_same, cl, X.nof _ (by decide +kernel), Nat.lt_of_le_of_lt (pf (pf (pf pf0))) (by decide), ?_⟩
        refine fin _ r (kp_put (k9.trans (kp_of s9))) (fun e => nra e.symm) upd_same ?_
        rw [upd_ne (fun e => nra e.symm)]
        exact s9 _ _ (by rw [upd_ne (fun e => nra e.symm)]; exact s8 _ _ r7)
end
end Jo

set_option Elab.async false
set_option linter.all false
set_option maxRecDepth 100000
set_option maxHeartbeats 1000000
namespace Jo
open PySem PySem.Spec PyProof.Rows L2 ClX
/-- the base class's __init__, called through the class -/
structure XI (K : PySem.W.Frag) (CE : Addr) : Prop where
  ini : ∀ f, Meth K CE "__init__" f → ClFn K CE "__init__" f
/-- C.m(a, ..), m's promise known by the class -/
theorem pe_cM {X : Cx} {j k : Nat} {C : Addr} {m : Str} {ps : List Str} {sp : Sp} {o e : Expr} {es : List Expr} {pos apos : Pos} {ta : TE} {t : TA} {pl : Sem Bool} (he : PE X o ta) (r : ∀ f, Meth X.K C m f → ClFn X.K C m f) (c : MtF X.prog X.w X.K X.mg X.base k C m ps sp) (hr : Room j X.A) (hk : k ≤ j) (ha : PA X (e :: es) t)
    (hst : starEach (e :: es) X.env = (false, eval e X.env) :: starEach es X.env := by rfl) (hpl : (backTo pos (starEach es X.env)).any (·.1) = false := by rfl)
    (ht : eval (.Call (.Attribute o m apos) (e :: es) [] pos) X.env = (do
      let ov ← eval o X.env
      standAt apos.atName
      let (f, first) ← holding [ov] (getMethod ov m pl)
      callWith pos f first (backTo pos (starEach (e :: es) X.env)) (backToKw pos (keywordEach [] X.env))) := by rfl) :
    PE X (.Call (.Attribute o m apos) (e :: es) [] pos) (tCFn C sp [] ta t) := by
  obtain ⟨f, fd, F, hm, b, _⟩ := c.ex
  exact pe_cfn he (r f hm) F hr hk hm.kp b .nil ha hst hpl ht
/-- fields of the tree's instance, whatever is put beside the four -/
structure Fl (t : Tr) (r : Addr) (fs : List (Str × V)) : Prop where
  text : fs.lookup ("text" : Str) = some (.str t.text)
  names : fs.lookup ("names" : Str) = some (.ref r)
  parts : fs.lookup ("parts" : Str) = some (.int (t.parts : Int))
  depth : fs.lookup ("depth" : Str) = some (.int (t.depth : Int))
  no : ∀ m : Str, m ∉ fieldsX → fs.lookup m = none
theorem ne_S {a b : Str} (h : (decide (a = b)) = false) : ¬ a = b := of_decide_eq_false h
theorem Fl.base (t : Tr) (r : Addr) : Fl t r (fsX t.text r t.parts t.depth) := by
  unfold fsX
  refine ⟨?_, ?_, ?_, ?_, fun m hm => ?_⟩
  · rw [lookup_putF, if_neg (ne_S (by decide +kernel)), lookup_putF, if_neg (ne_S (by decide +kernel)), lookup_putF, if_neg (ne_S (by decide +kernel)), lookup_putF, if_pos rfl]
  · rw [lookup_putF, if_neg (ne_S (by decide +kernel)), lookup_putF, if_neg (ne_S (by decide +kernel)), lookup_putF, if_pos rfl]
  · rw [lookup_putF, if_neg (ne_S (by decide +kernel)), lookup_putF, if_pos rfl]
  · rw [lookup_putF, if_pos rfl]
  · have h1 : ∀ x ∈ fieldsX, ¬ m = x := fun x hx e => hm (by rw [e]; exact hx)
    rw [lookup_putF, if_neg (h1 _ (by decide +kernel)), lookup_putF, if_neg (h1 _ (by decide +kernel)), lookup_putF, if_neg (h1 _ (by decide +kernel)), lookup_putF, if_neg (h1 _ (by decide +kernel))]
    rfl
theorem Fl.put {t : Tr} {r : Addr} {fs : List (Str × V)} {f : Str} {y : V} (h : Fl t r fs) (hf : f ∈ (["number", "name", "test", "first", "second"] : List Str)) : Fl t r (putF f y fs) := by
  have h4 : ∀ x ∈ (["text", "names", "parts", "depth"] : List Str), ∀ f ∈ (["number", "name", "test", "first", "second"] : List Str), ¬ x = f := by decide +kernel
  have h9 : ∀ f ∈ (["number", "name", "test", "first", "second"] : List Str), f ∈ fieldsX := by decide +kernel
  refine ⟨?_, ?_, ?_, ?_, fun m hm => ?_⟩
  · rw [lookup_putF, if_neg (h4 _ (by decide +kernel) f hf)]; exact h.text
  · rw [lookup_putF, if_neg (h4 _ (by decide +kernel) f hf)]; exact h.names
  · rw [lookup_putF, if_neg (h4 _ (by decide +kernel) f hf)]; exact h.parts
  · rw [lookup_putF, if_neg (h4 _ (by decide +kernel) f hf)]; exact h.depth
  · rw [lookup_putF, if_neg (fun e => hm (by rw [e]; exact h9 f hf))]; exact h.no m hm
theorem Fl.rename {t : Tr} {r r' : Addr} {fs : List (Str × V)} (h : Fl t r fs) : Fl t r' (putF "names" (.ref r') fs) := by
  refine ⟨?_, ?_, ?_, ?_, fun m hm => ?_⟩
  · rw [lookup_putF, if_neg (ne_S (by decide +kernel))]; exact h.text
  · rw [lookup_putF, if_pos rfl]
  · rw [lookup_putF, if_neg (ne_S (by decide +kernel))]; exact h.parts
  · rw [lookup_putF, if_neg (ne_S (by decide +kernel))]; exact h.depth
  · rw [lookup_putF, if_neg (fun e => hm (by rw [e]; decide +kernel))]; exact h.no m hm
theorem Fl.has {C : Kd → Addr} {t : Tr} {r a dx : Addr} {fs : List (Str × V)} {G : Hp} (h : Fl t r fs) (ha : G a = some (.ins (C t.kd) dx fs)) (hr : G r = some (.tup (t.nms.map V.str))) : Has C G t a fs :=
  ⟨⟨dx, ha⟩, h.text, ⟨r, h.names, hr⟩, h.parts, h.depth, h.no⟩
theorem put_get {f : Str} {y : V} {fs : List (Str × V)} : (putF f y fs).lookup f = some y := by rw [lookup_putF, if_pos rfl]
theorem put_past {f g : Str} {y x : V} {fs : List (Str × V)} (n : ¬ g = f) (h : fs.lookup g = some x) : (putF f y fs).lookup g = some x := by rw [lookup_putF, if_neg n]; exact h
/-- an expression that may be made -/
structure Lim (t : Tr) : Prop where
  ok : t.Ok fun x => nmS x = true
  parts : t.parts ≤ 40
  depth : t.depth ≤ 6
theorem Lim.sides {C : Kd → Addr} {H : Hp} {t : Tr} {us : List V} (l : Lim t) (hc : t.comp = true) (p : Paired (Is C H) t.kids us) : Sides C H t.kids us := by
  have h1 := Tr.parts_comp hc
  have h2 := Tr.depth_comp hc
  have h3 := l.parts
  have h4 := l.depth
  exact ⟨p, fun u hu => l.ok.kid u hu, kids3 t, by omega, by omega⟩
theorem fsX_comp {t : Tr} (hc : t.comp = true) (r : Addr) : fsX (writ t.head t.kids) r (1 + (t.kids.map Tr.parts).sum) (1 + Tr.top1 (t.kids.map Tr.depth)) = fsX t.text r t.parts t.depth := by
  have e : t.kids ≠ [] := fun e => by
    unfold Tr.comp at hc
    rw [e] at hc
    cases hc
  have e2 : writ t.head t.kids = t.text := by
    unfold writ
    rw [if_neg e, Tr.text_comp hc]
  rw [e2, ← Tr.parts_comp hc, ← Tr.depth_comp hc]
section
variable {P : Program} {w : World} {K : PySem.W.Frag} {mg : Str → Option Value} {base : Heap} {C : Kd → Addr} {CE : Addr}
def spNum (C : Kd → Addr) : Sp := fun vs H Q _ => ∃ (a dx : Addr) (n : Int), vs = [.ref a, .int n] ∧ H a = some (.ins (C .num) dx []) ∧ 0 ≤ n ∧ n ≤ 999 ∧ ∀ G, Kp a H G → Is C G (.num n) (.ref a) → Q .non G
def spVar (C : Kd → Addr) : Sp := fun vs H Q _ => ∃ (a dx : Addr) (x : Str), vs = [.ref a, .str x] ∧ H a = some (.ins (C .var) dx []) ∧ nmS x = true ∧ ∀ G, Kp a H G → Is C G (.var x) (.ref a) → Q .non G
def spUn (C : Kd → Addr) : Sp := fun vs H Q _ => ∃ (a dx : Addr) (t : Tr) (v : V), vs = [.ref a, v] ∧ H a = some (.ins (C .un) dx []) ∧ Is C H t v ∧ Lim (.un t) ∧ ∀ G, Kp a H G → Is C G (.un t) (.ref a) → Q .non G
def spBi (C : Kd → Addr) (k : Bk) : Sp := fun vs H Q _ => ∃ (a dx : Addr) (t1 t2 : Tr) (v1 v2 : V), vs = [.ref a, v1, v2] ∧ H a = some (.ins (C (.bi k)) dx []) ∧ Is C H t1 v1 ∧ Is C H t2 v2 ∧ Lim (.bi k t1 t2) ∧ ∀ G, Kp a H G → Is C G (.bi k t1 t2) (.ref a) → Q .non G
def spCh (C : Kd → Addr) : Sp := fun vs H Q _ => ∃ (a dx : Addr) (t1 t2 t3 : Tr) (v1 v2 v3 : V), vs = [.ref a, v1, v2, v3] ∧ H a = some (.ins (C .ch) dx []) ∧ Is C H t1 v1 ∧ Is C H t2 v2 ∧ Is C H t3 v3 ∧ Lim (.ch t1 t2 t3) ∧ ∀ G, Kp a H G → Is C G (.ch t1 t2 t3) (.ref a) → Q .non G
/-- what every __init__ of two sides comes to -/
theorem bi_end {k : Bk} {H : Hp} {Q : VK} {a dx : Addr} {t1 t2 : Tr} {v1 v2 : V} (X : XT K mg C CE) (hk : (Kd.bi k).has = true) (lim : Lim (.bi k t1 t2)) (ha : H a = some (.ins (C (.bi k)) dx [])) (i1 : Is C H t1 v1) (i2 : Is C H t2 v2) (fin : ∀ G, Kp a H G → Is C G (.bi k t1 t2) (.ref a) → Q .non G) :
    tSeq (tDrop (tCFn CE (spExI K C) [] (tC (.ref CE)) (tCons (tVar 0) (tCons (tCVal K (tC (.ref (C (.bi k)))) "WORD") (tCons (tTup (tCons (tVar 1) (tCons (tVar 2) tNil))) tNil)))))
      (tSeq (sFld K (tVar 0) (tVar 1) "first") (sFld K (tVar 0) (tVar 2) "second")) { nx := fun _ H' => Q .non H', rt := Q } [some (.ref a), some v1, some v2] H := by
  obtain ⟨mc, u, cr, cv⟩ := X.cval (.bi k) hk
  refine ⟨rfl, _, rfl, ⟨_, mc, .str k.word, u, rfl, cr, cv, _, rfl, _, rfl, (show 2 ≤ sizeLine by decide), fun q nq => ?_⟩⟩
  have sn : Same H (upd H q (.tup [v1, v2])) := same_new nq
  refine ⟨a, dx, q, .bi k, k.word, [t1, t2], [v1, v2], rfl, sn _ _ ha, head6 (.bi k t1 t2), .inl (.inl upd_same), lim.sides rfl (.cons (i1.same sn) (.cons (i2.same sn) .nil)), fun G r kG hr aG rG => ?_⟩
  have kH : Kp a H G := (kp_of sn).trans kG
  have eG : G a = some (.ins (C (.bi k)) dx (fsX (Tr.bi k t1 t2).text r (Tr.bi k t1 t2).parts (Tr.bi k t1 t2).depth)) := by
    rw [← fsX_comp (t := .bi k t1 t2) rfl]
    exact aG
  have cl := (X.own (.bi k)).cl
  refine ⟨_, rfl, _, rfl, a, _, dx, _, rfl, eG, cl, X.nof _ (by decide +kernel), Nat.lt_of_le_of_lt (pf (pf (pf (pf pf0)))) (by decide), ?_⟩
  refine ⟨_, rfl, _, rfl, a, _, dx, _, rfl, upd_same, cl, X.nof _ (by decide +kernel), Nat.lt_of_le_of_lt (pf (pf (pf (pf (pf pf0))))) (by decide), ?_⟩
  have kE := kp_put (o := .ins (C (.bi k)) dx (putF "second" v2 (putF "first" v1 (fsX (Tr.bi k t1 t2).text r (Tr.bi k t1 t2).parts (Tr.bi k t1 t2).depth)))) (kp_put (o := .ins (C (.bi k)) dx (putF "first" v1 (fsX (Tr.bi k t1 t2).text r (Tr.bi k t1 t2).parts (Tr.bi k t1 t2).depth))) kH)
  refine fin _ kE ⟨a, _, v1, v2, rfl, (((Fl.base (.bi k t1 t2) r).put (by decide +kernel)).put (by decide +kernel)).has upd_same ?_, ?_, put_get, is_kp kE ha i1, is_kp kE ha i2⟩
  · rw [upd_ne hr, upd_ne hr]
    have e : (Tr.bi k t1 t2).nms = srt ([t1, t2].flatMap Tr.nms) := nms_comp (t := .bi k t1 t2) rfl
    rw [e]
    exact rG
  · exact put_past (ne_S (by decide +kernel)) put_get
theorem sc_Plus : FnScope ["self", "first", "second"] ["self", "first", "second"] (defScope m_Plus_init) := ⟨rfl, rfl, rfl, by decide +kernel, rfl, by decide +kernel, by decide +kernel⟩
theorem ok_Plus (X : XT K mg C CE) (I : XI K CE) (D : Mth K (C (.bi .plus)) "__init__" "Plus.__init__" m_Plus_init ["self", "first", "second"]) (c_exi : MtF P w K mg base 4 CE "__init__" ["self", "head", "inside"] (spExI K C)) :
    MtF P w K mg base 5 (C (.bi .plus)) "__init__" ["self", "first", "second"] (spBi C .plus) := by
  refine D.okF sc_Plus (fun vs H Q E h => ?_) (fun f cdv A fr s H vs Q E hr h => ?_)
  · obtain ⟨a, dx, t1, t2, v1, v2, rfl, _⟩ := h
    rfl
  · obtain ⟨a, dx, t1, t2, v1, v2, rfl, ha, i1, i2, lim, fin⟩ := h
    refine ⟨_, pss_cons (ps_expr (pe_cM (pe_glob (v := .ref CE) rfl X.mgE rfl) I.ini c_exi hr (by decide) (pa_cons (pv 0) (pa_cons (pe_cval (pe_glob (v := .ref (C (.bi .plus))) rfl (X.mgC (.bi .plus) rfl) rfl) rfl) (pa_cons (pe_tup (pa_cons (pv 1) (pa_cons (pv 2) pa_nil))) pa_nil)))))
      (pss_cons (ps_fld (pv 0) (pv 1) rfl)
      (pss_one (ps_fld (pv 0) (pv 2) rfl))), ?_⟩
    exact bi_end X rfl lim ha i1 i2 fin
theorem sc_Minus : FnScope ["self", "first", "second"] ["self", "first", "second"] (defScope m_Minus_init) := ⟨rfl, rfl, rfl, by decide +kernel, rfl, by decide +kernel, by decide +kernel⟩
theorem ok_Minus (X : XT K mg C CE) (I : XI K CE) (D : Mth K (C (.bi .minus)) "__init__" "Minus.__init__" m_Minus_init ["self", "first", "second"]) (c_exi : MtF P w K mg base 4 CE "__init__" ["self", "head", "inside"] (spExI K C)) :
    MtF P w K mg base 5 (C (.bi .minus)) "__init__" ["self", "first", "second"] (spBi C .minus) := by
  refine D.okF sc_Minus (fun vs H Q E h => ?_) (fun f cdv A fr s H vs Q E hr h => ?_)
  · obtain ⟨a, dx, t1, t2, v1, v2, rfl, _⟩ := h
    rfl
  · obtain ⟨a, dx, t1, t2, v1, v2, rfl, ha, i1, i2, lim, fin⟩ := h
    refine ⟨_, pss_cons (ps_expr (pe_cM (pe_glob (v := .ref CE) rfl X.mgE rfl) I.ini c_exi hr (by decide) (pa_cons (pv 0) (pa_cons (pe_cval (pe_glob (v := .ref (C (.bi .minus))) rfl (X.mgC (.bi .minus) rfl) rfl) rfl) (pa_cons (pe_tup (pa_cons (pv 1) (pa_cons (pv 2) pa_nil))) pa_nil)))))
      (pss_cons (ps_fld (pv 0) (pv 1) rfl)
      (pss_one (ps_fld (pv 0) (pv 2) rfl))), ?_⟩
    exact bi_end X rfl lim ha i1 i2 fin
theorem sc_Times : FnScope ["self", "first", "second"] ["self", "first", "second"] (defScope m_Times_init) := ⟨rfl, rfl, rfl, by decide +kernel, rfl, by decide +kernel, by decide +kernel⟩
theorem ok_Times (X : XT K mg C CE) (I : XI K CE) (D : Mth K (C (.bi .times)) "__init__" "Times.__init__" m_Times_init ["self", "first", "second"]) (c_exi : MtF P w K mg base 4 CE "__init__" ["self", "head", "inside"] (spExI K C)) :
    MtF P w K mg base 5 (C (.bi .times)) "__init__" ["self", "first", "second"] (spBi C .times) := by
  refine D.okF sc_Times (fun vs H Q E h => ?_) (fun f cdv A fr s H vs Q E hr h => ?_)
  · obtain ⟨a, dx, t1, t2, v1, v2, rfl, _⟩ := h
    rfl
  · obtain ⟨a, dx, t1, t2, v1, v2, rfl, ha, i1, i2, lim, fin⟩ := h
    refine ⟨_, pss_cons (ps_expr (pe_cM (pe_glob (v := .ref CE) rfl X.mgE rfl) I.ini c_exi hr (by decide) (pa_cons (pv 0) (pa_cons (pe_cval (pe_glob (v := .ref (C (.bi .times))) rfl (X.mgC (.bi .times) rfl) rfl) rfl) (pa_cons (pe_tup (pa_cons (pv 1) (pa_cons (pv 2) pa_nil))) pa_nil)))))
      (pss_cons (ps_fld (pv 0) (pv 1) rfl)
      (pss_one (ps_fld (pv 0) (pv 2) rfl))), ?_⟩
    exact bi_end X rfl lim ha i1 i2 fin
theorem sc_Both : FnScope ["self", "first", "second"] ["self", "first", "second"] (defScope m_Both_init) := ⟨rfl, rfl, rfl, by decide +kernel, rfl, by decide +kernel, by decide +kernel⟩
theorem ok_Both (X : XT K mg C CE) (I : XI K CE) (D : Mth K (C (.bi .both)) "__init__" "Both.__init__" m_Both_init ["self", "first", "second"]) (c_exi : MtF P w K mg base 4 CE "__init__" ["self", "head", "inside"] (spExI K C)) :
    MtF P w K mg base 5 (C (.bi .both)) "__init__" ["self", "first", "second"] (spBi C .both) := by
  refine D.okF sc_Both (fun vs H Q E h => ?_) (fun f cdv A fr s H vs Q E hr h => ?_)
  · obtain ⟨a, dx, t1, t2, v1, v2, rfl, _⟩ := h
    rfl
  · obtain ⟨a, dx, t1, t2, v1, v2, rfl, ha, i1, i2, lim, fin⟩ := h
    refine ⟨_, pss_cons (ps_expr (pe_cM (pe_glob (v := .ref CE) rfl X.mgE rfl) I.ini c_exi hr (by decide) (pa_cons (pv 0) (pa_cons (pe_cval (pe_glob (v := .ref (C (.bi .both))) rfl (X.mgC (.bi .both) rfl) rfl) rfl) (pa_cons (pe_tup (pa_cons (pv 1) (pa_cons (pv 2) pa_nil))) pa_nil)))))
      (pss_cons (ps_fld (pv 0) (pv 1) rfl)
      (pss_one (ps_fld (pv 0) (pv 2) rfl))), ?_⟩
    exact bi_end X rfl lim ha i1 i2 fin
theorem sc_Either : FnScope ["self", "first", "second"] ["self", "first", "second"] (defScope m_Either_init) := ⟨rfl, rfl, rfl, by decide +kernel, rfl, by decide +kernel, by decide +kernel⟩
theorem ok_Either (X : XT K mg C CE) (I : XI K CE) (D : Mth K (C (.bi .either)) "__init__" "Either.__init__" m_Either_init ["self", "first", "second"]) (c_exi : MtF P w K mg base 4 CE "__init__" ["self", "head", "inside"] (spExI K C)) :
    MtF P w K mg base 5 (C (.bi .either)) "__init__" ["self", "first", "second"] (spBi C .either) := by
  refine D.okF sc_Either (fun vs H Q E h => ?_) (fun f cdv A fr s H vs Q E hr h => ?_)
  · obtain ⟨a, dx, t1, t2, v1, v2, rfl, _⟩ := h
    rfl
  · obtain ⟨a, dx, t1, t2, v1, v2, rfl, ha, i1, i2, lim, fin⟩ := h
    refine ⟨_, pss_cons (ps_expr (pe_cM (pe_glob (v := .ref CE) rfl X.mgE rfl) I.ini c_exi hr (by decide) (pa_cons (pv 0) (pa_cons (pe_cval (pe_glob (v := .ref (C (.bi .either))) rfl (X.mgC (.bi .either) rfl) rfl) rfl) (pa_cons (pe_tup (pa_cons (pv 1) (pa_cons (pv 2) pa_nil))) pa_nil)))))
      (pss_cons (ps_fld (pv 0) (pv 1) rfl)
      (pss_one (ps_fld (pv 0) (pv 2) rfl))), ?_⟩
    exact bi_end X rfl lim ha i1 i2 fin
theorem ok_TimesI (X : XT K mg C CE) (I : XI K CE) (D : MthI K (C (.bi .times)) "__init__" "Times.__init__" m_Times_init ["self", "first", "second"]) (c_exi : MtF P w K mg base 4 CE "__init__" ["self", "head", "inside"] (spExI K C)) :
    MtI P w K mg base 5 (C (.bi .times)) "__init__" ["self", "first", "second"] (spBi C .times) := by
  refine D.okF sc_Times (fun vs H Q E h => ?_) (fun f cdv A fr s H vs Q E hr h => ?_)
  · obtain ⟨a, dx, t1, t2, v1, v2, rfl, _⟩ := h
    rfl
  · obtain ⟨a, dx, t1, t2, v1, v2, rfl, ha, i1, i2, lim, fin⟩ := h
    refine ⟨_, pss_cons (ps_expr (pe_cM (pe_glob (v := .ref CE) rfl X.mgE rfl) I.ini c_exi hr (by decide) (pa_cons (pv 0) (pa_cons (pe_cval (pe_glob (v := .ref (C (.bi .times))) rfl (X.mgC (.bi .times) rfl) rfl) rfl) (pa_cons (pe_tup (pa_cons (pv 1) (pa_cons (pv 2) pa_nil))) pa_nil)))))
      (pss_cons (ps_fld (pv 0) (pv 1) rfl)
      (pss_one (ps_fld (pv 0) (pv 2) rfl))), ?_⟩
    exact bi_end X rfl lim ha i1 i2 fin
theorem sc_Not : FnScope ["self", "first"] ["self", "first"] (defScope m_Not_init) := ⟨rfl, rfl, rfl, by decide +kernel, rfl, by decide +kernel, by decide +kernel⟩
theorem ok_Not (X : XT K mg C CE) (I : XI K CE) (D : Mth K (C .un) "__init__" "Not.__init__" m_Not_init ["self", "first"]) (c_exi : MtF P w K mg base 4 CE "__init__" ["self", "head", "inside"] (spExI K C)) :
    MtF P w K mg base 5 (C .un) "__init__" ["self", "first"] (spUn C) := by
  refine D.okF sc_Not (fun vs H Q E h => ?_) (fun f cdv A fr s H vs Q E hr h => ?_)
  · obtain ⟨a, dx, t, v, rfl, _⟩ := h
    rfl
  · obtain ⟨a, dx, t, v, rfl, ha, i1, lim, fin⟩ := h
    refine ⟨_, pss_cons (ps_expr (pe_cM (pe_glob (v := .ref CE) rfl X.mgE rfl) I.ini c_exi hr (by decide) (pa_cons (pv 0) (pa_cons (pe_cval (pe_glob (v := .ref (C .un)) rfl (X.mgC .un rfl) rfl) rfl) (pa_cons (pe_tup (pa_cons (pv 1) pa_nil)) pa_nil)))))
      (pss_one (ps_fld (pv 0) (pv 1) rfl)), ?_⟩
    obtain ⟨mc, u, cr, cv⟩ := X.cval .un rfl
    refine ⟨rfl, _, rfl, ⟨_, mc, .str (Kd.word .un), u, rfl, cr, cv, _, rfl, (show 1 ≤ sizeLine by decide), fun q nq => ?_⟩⟩
    have sn : Same H (upd H q (.tup [v])) := same_new nq
    refine ⟨a, dx, q, .un, Kd.word .un, [t], [v], rfl, sn _ _ ha, head6 (.un t), .inl (.inl upd_same), lim.sides rfl (.cons (i1.same sn) .nil), fun G r kG hr2 aG rG => ?_⟩
    have kH : Kp a H G := (kp_of sn).trans kG
    have eG : G a = some (.ins (C .un) dx (fsX (Tr.un t).text r (Tr.un t).parts (Tr.un t).depth)) := by
      rw [← fsX_comp (t := .un t) rfl]
      exact aG
    have cl := (X.own .un).cl
    refine ⟨_, rfl, _, rfl, a, _, dx, _, rfl, eG, cl, X.nof _ (by decide +kernel), Nat.lt_of_le_of_lt (pf (pf (pf (pf pf0)))) (by decide), ?_⟩
    have kE := kp_put (o := .ins (C .un) dx (putF "first" v (fsX (Tr.un t).text r (Tr.un t).parts (Tr.un t).depth))) kH
    refine fin _ kE ⟨a, _, v, rfl, ((Fl.base (.un t) r).put (by decide +kernel)).has upd_same ?_, put_get, is_kp kE ha i1⟩
    rw [upd_ne hr2]
    have e : (Tr.un t).nms = srt ([t].flatMap Tr.nms) := nms_comp (t := .un t) rfl
    rw [e]
    exact rG
theorem sides0 {C : Kd → Addr} {H : Hp} : Sides C H [] [] := ⟨.nil, fun t h => (by cases h), by decide, by decide, by decide⟩
theorem sc_Number : FnScope ["self", "number"] ["self", "number"] (defScope m_Number_init) := ⟨rfl, rfl, rfl, by decide +kernel, rfl, by decide +kernel, by decide +kernel⟩
theorem ok_Number (T : Txt mg) (X : XT K mg C CE) (I : XI K CE) (D : Mth K (C .num) "__init__" "Number.__init__" m_Number_init ["self", "number"]) (c_exi : MtF P w K mg base 4 CE "__init__" ["self", "head", "inside"] (spExI K C))
    (c_is_integer : CalF P w K mg base 1 "is_integer" ["value"] (spIsInt K)) : MtF P w K mg base 5 (C .num) "__init__" ["self", "number"] (spNum C) := by
  refine D.okF sc_Number (fun vs H Q E h => ?_) (fun f cdv A fr s H vs Q E hr h => ?_)
  · obtain ⟨a, dx, n, rfl, _⟩ := h
    rfl
  · obtain ⟨a, dx, n, rfl, ha, n0, n1, fin⟩ := h
    refine ⟨_, pss_cons (ps_if (PW.pt (pw_or (pt_not (pt_val (pe_cF c_is_integer hr (by decide) rfl (pa_cons (pv 1) pa_nil)))) (pw_or1 (pt_not (pt_chain op_le op_le pe_int (pv 1) (C8.pe_gc rfl T.g_MAX_NUMBER))))))
        (pss_one ps_never)
        (pss_nil))
      (pss_cons (ps_expr (pe_cM (pe_glob (v := .ref CE) rfl X.mgE rfl) I.ini c_exi hr (by decide) (pa_cons (pv 0) (pa_cons (pe_callTy call_str_int rfl T.b_str (by decide +kernel) (pa_cons (pv 1) pa_nil)) (pa_cons (pe_tup pa_nil) pa_nil)))))
      (pss_one (ps_fld (pv 0) (pv 1) rfl))), ?_⟩
    have l3 := num_len n0 n1
    refine ⟨_, rfl, .int n, rfl, any_int n, true, rfl, iteF ⟨_, rfl, _, _, rfl, rfl, _, rfl, ?_⟩⟩
    rw [decide_eq_true n0]
    refine iteT ⟨_, _, rfl, rfl, _, rfl, ?_⟩
    rw [decide_eq_true n1]
    refine iteF ⟨rfl, _, rfl, _, rfl, n, rfl, log_s (by omega), (show 0 ≤ sizeLine by decide), fun q nq => ?_⟩
    have sn : Same H (upd H q (.tup [])) := same_new nq
    refine ⟨a, dx, q, .num, _, [], [], rfl, sn _ _ ha, Nat.le_trans l3 (by decide), .inl (.inl upd_same), sides0, fun G r kG hr2 aG rG => ?_⟩
    have kH : Kp a H G := (kp_of sn).trans kG
    have cl := (X.own .num).cl
    refine ⟨_, rfl, _, rfl, a, _, dx, _, rfl, aG, cl, X.nof _ (by decide +kernel), Nat.lt_of_le_of_lt (pf (pf (pf (pf pf0)))) (by decide), ?_⟩
    have kE := kp_put (o := .ins (C .num) dx (putF "number" (.int n) (fsX (Tr.num n).text r (Tr.num n).parts (Tr.num n).depth))) kH
    refine fin _ kE ⟨a, _, rfl, ((Fl.base (.num n) r).put (by decide +kernel)).has upd_same ?_, put_get⟩
    rw [upd_ne hr2]
    exact rG
theorem sc_Variable : FnScope ["self", "name"] ["self", "name"] (defScope m_Variable_init) := ⟨rfl, rfl, rfl, by decide +kernel, rfl, by decide +kernel, by decide +kernel⟩
theorem ok_Variable (T : Txt mg) (X : XT K mg C CE) (I : XI K CE) (D : Mth K (C .var) "__init__" "Variable.__init__" m_Variable_init ["self", "name"]) (c_exi : MtF P w K mg base 4 CE "__init__" ["self", "head", "inside"] (spExI K C))
    (c_is_name : CalF P w K mg base 1 "is_name" ["value"] (spIsName K)) : MtF P w K mg base 5 (C .var) "__init__" ["self", "name"] (spVar C) := by
  refine D.okF sc_Variable (fun vs H Q E h => ?_) (fun f cdv A fr s H vs Q E hr h => ?_)
  · obtain ⟨a, dx, x, rfl, _⟩ := h
    rfl
  · obtain ⟨a, dx, x, rfl, ha, nx, fin⟩ := h
    refine ⟨_, pss_cons (ps_if (pt_not (pt_val (pe_cF c_is_name hr (by decide) rfl (pa_cons (pv 1) pa_nil))))
        (pss_one ps_never)
        (pss_nil))
      (pss_cons (ps_expr (pe_cM (pe_glob (v := .ref CE) rfl X.mgE rfl) I.ini c_exi hr (by decide) (pa_cons (pv 0) (pa_cons (pv 1) (pa_cons (pe_tup pa_nil) pa_nil)))))
      (pss_cons (ps_fld (pv 0) (pe_tup (pa_cons (pv 1) pa_nil)) rfl)
      (pss_one (ps_fld (pv 0) (pv 1) rfl)))), ?_⟩
    have l8 := nm_len nx
    refine ⟨_, rfl, .str x, rfl, any_str x, (fun z e => by cases e; omega), fun H1 s1 => ⟨true, by show V.bl (nmS x) = _; rw [nx], iteF ?_⟩⟩
    refine ⟨rfl, _, rfl, _, rfl, (show 0 ≤ sizeLine by decide), fun q nq => ?_⟩
    have sn : Same H (upd H1 q (.tup [])) := s1.trans (same_new nq)
    refine ⟨a, dx, q, .var, x, [], [], rfl, sn _ _ ha, l8, .inl (.inl upd_same), sides0, fun G r kG hr2 aG rG => ?_⟩
    have kH : Kp a H G := (kp_of sn).trans kG
    have cl := (X.own .var).cl
    refine ⟨_, rfl, (show 1 ≤ sizeLine by decide), fun q2 nq2 => ?_⟩
    have q2a : a ≠ q2 := fun e => by rw [← e, aG] at nq2; cases nq2
    refine ⟨_, rfl, a, _, dx, _, rfl, by rw [upd_ne q2a]; exact aG, cl, X.nof _ (by decide +kernel), Nat.lt_of_le_of_lt (pf (pf (pf (pf pf0)))) (by decide), ?_⟩
    refine ⟨_, rfl, _, rfl, a, _, dx, _, rfl, upd_same, cl, X.nof _ (by decide +kernel), Nat.lt_of_le_of_lt (pf (pf (pf (pf (pf pf0))))) (by decide), ?_⟩
    have kE := kp_put (o := .ins (C .var) dx (putF "name" (.str x) (putF "names" (.ref q2) (fsX (Tr.var x).text r (Tr.var x).parts (Tr.var x).depth)))) (kp_put (o := .ins (C .var) dx (putF "names" (.ref q2) (fsX (Tr.var x).text r (Tr.var x).parts (Tr.var x).depth))) (kH.trans (kp_of (same_new (o := .tup [.str x]) nq2))))
    refine fin _ kE ⟨a, _, rfl, ((Fl.base (.var x) r).rename.put (by decide +kernel)).has upd_same ?_, put_get⟩
    rw [upd_ne (fun e => q2a e.symm), upd_ne (fun e => q2a e.symm), upd_same]
    rfl
end
end Jo

set_option Elab.async false
set_option linter.all false
set_option maxRecDepth 100000
set_option maxHeartbeats 1000000
namespace Jo
open PySem PySem.Spec PyProof.Rows L2 ClX
/-- what the kinds take over from their base class -/
structure XH (K : PySem.W.Frag) (C : Kd → Addr) (CE : Addr) : Prop where
  inh : ∀ m ∈ (["__eq__", "__str__", "__repr__"] : List Str), ∀ f, Meth K CE m f → ∀ k, PySem.W.findIn K (.ref (C k)) m = some (some (.ref f))
abbrev IsK (C : Kd → Addr) : Addr → Prop := fun A => ∃ k, A = C k
theorem own_of {P : Program} {w : World} {K : PySem.W.Frag} {mg : Str → Option Value} {base : Heap} {C : Kd → Addr} {CE : Addr} {k : Nat} {m : Str} {ps : List Str} {sp : Sp} (h : XH K C CE) (hm : m ∈ (["__eq__", "__str__", "__repr__"] : List Str)) (c : MtF P w K mg base k CE m ps sp) : Own P w K mg base k m ps (IsK C) sp := by
  obtain ⟨f, fd, F, mt, b, _⟩ := c.ex
  exact ⟨f, fd, F, b, mt.fn, fun A ⟨k, e⟩ => by rw [e]; exact h.inh m hm f mt k⟩
def shownX (t : Tr) : Str := (("Expression(" : Str) ++ t.text) ++ ")"
/-- what __eq__ sees on the right -/
def EqE (K : PySem.W.Frag) (C : Kd → Addr) (CE : Addr) (H : Hp) (t : Tr) (y : V) (b : Bool) : Prop :=
  (∃ t2, Is C H t2 y ∧ b = decide (t.text = t2.text)) ∨ (∃ ty, TyX K H y ty ∧ PySem.W.kitOne K ty (.ref CE) = some false ∧ b = false)
section
variable {P : Program} {w : World} {K : PySem.W.Frag} {mg : Str → Option Value} {base : Heap} {C : Kd → Addr} {CE : Addr}
theorem sc_exeq : FnScope ["self", "other"] ["self", "other"] (defScope m_Expression_eq) := ⟨rfl, rfl, rfl, by decide +kernel, rfl, by decide +kernel, by decide +kernel⟩
def spExEq (K : PySem.W.Frag) (C : Kd → Addr) (CE : Addr) : Sp := fun vs H Q _ => ∃ (t : Tr) (x y : V) (b : Bool), vs = [x, y] ∧ Is C H t x ∧ EqE K C CE H t y b ∧ Q (.bl b) H
theorem ok_exeq (T : Txt mg) (X : XT K mg C CE) (D : Mth K CE "__eq__" "Expression.__eq__" m_Expression_eq ["self", "other"]) : MtF P w K mg base 1 CE "__eq__" ["self", "other"] (spExEq K C CE) := by
  refine D.okF sc_exeq (fun vs H Q E h => ?_) (fun f cdv A fr s H vs Q E hr h => ?_)
  · obtain ⟨t, x, y, b, rfl, _⟩ := h
    rfl
  · obtain ⟨t, x, y, b, rfl, ix, hy, fin⟩ := h
    refine ⟨_, pss_one (ps_ret (pe_and (pe_callB call_isi rfl T.b_isinstance (by decide +kernel) (pa_cons (pv 1) (pa_cons (pe_glob (v := .ref CE) rfl X.mgE rfl) pa_nil))) (pe_one (pe_cmpR op_eq (pe_fld (pv 0) rfl) (pe_fld (pv 1) rfl) (nomark _))))), ?_⟩
    obtain ⟨a, fs, rfl, hh⟩ := ix.has
    obtain ⟨dx, ha⟩ := hh.at_
    rcases hy with ⟨t2, iy, rfl⟩ | ⟨ty, h1, h2, rfl⟩
    · obtain ⟨a2, fs2, rfl, hh2⟩ := iy.has
      obtain ⟨dx2, ha2⟩ := hh2.at_
      refine ⟨_, rfl, _, _, _, _, true, rfl, .own CE, (X.own _).ty ha2, X.kitE _, true, rfl, iteT ?_⟩
      refine ⟨_, rfl, a, _, dx, fs, _, rfl, ha, (X.own _).cl, X.nof _ (by decide +kernel), hh.text, _, rfl, a2, _, dx2, fs2, _, rfl, ha2, (X.own _).cl, X.nof _ (by decide +kernel), hh2.text, rfl, ?_⟩
      have e : decide (V.str t.text = V.str t2.text) = decide (t.text = t2.text) := by
        by_cases c : t.text = t2.text
        · rw [decide_eq_true c, decide_eq_true (congrArg V.str c)]
        · rw [decide_eq_false c, decide_eq_false fun z => c (V.str.inj z)]
      rw [← e] at fin
      exact fin
    · exact ⟨_, rfl, _, _, _, _, false, rfl, .own CE, h1, h2, false, rfl, iteF fin⟩
theorem sc_exstr : FnScope ["self"] ["self"] (defScope m_Expression_str) := ⟨rfl, rfl, rfl, by decide +kernel, rfl, by decide +kernel, by decide +kernel⟩
def spExStr (C : Kd → Addr) : Sp := fun vs H Q _ => ∃ (t : Tr) (x : V), vs = [x] ∧ Is C H t x ∧ Q (.str t.text) H
theorem ok_exstr (T : Txt mg) (X : XT K mg C CE) (D : Mth K CE "__str__" "Expression.__str__" m_Expression_str ["self"]) : MtF P w K mg base 1 CE "__str__" ["self"] (spExStr C) := by
  refine D.okF sc_exstr (fun vs H Q E h => ?_) (fun f cdv A fr s H vs Q E hr h => ?_)
  · obtain ⟨t, x, rfl, _⟩ := h
    rfl
  · obtain ⟨t, x, rfl, ix, fin⟩ := h
    refine ⟨_, pss_one (ps_ret (pe_callTy SkE.call_str_str rfl T.b_str (by decide +kernel) (pa_cons (pe_fld (pv 0) rfl) pa_nil))), ?_⟩
    obtain ⟨a, fs, rfl, hh⟩ := ix.has
    obtain ⟨dx, ha⟩ := hh.at_
    exact ⟨_, rfl, a, _, dx, fs, _, rfl, ha, (X.own _).cl, X.nof _ (by decide +kernel), hh.text, _, rfl, fin⟩
theorem sc_exrepr : FnScope ["self"] ["self"] (defScope m_Expression_repr) := ⟨rfl, rfl, rfl, by decide +kernel, rfl, by decide +kernel, by decide +kernel⟩
def spExRepr (C : Kd → Addr) : Sp := fun vs H Q _ => ∃ (t : Tr) (x : V), vs = [x] ∧ Is C H t x ∧ t.text.length ≤ 2000 ∧ Q (.str (shownX t)) H
theorem ok_exrepr (T : Txt mg) (X : XT K mg C CE) (D : Mth K CE "__repr__" "Expression.__repr__" m_Expression_repr ["self"]) : MtF P w K mg base 1 CE "__repr__" ["self"] (spExRepr C) := by
  refine D.okF sc_exrepr (fun vs H Q E h => ?_) (fun f cdv A fr s H vs Q E hr h => ?_)
  · obtain ⟨t, x, rfl, _⟩ := h
    rfl
  · obtain ⟨t, x, rfl, ix, hl, fin⟩ := h
    refine ⟨_, pss_one (ps_ret (pe_joined (.cons pe_str (.cons (pe_fmt (pe_fld (pv 0) rfl)) (.cons pe_str .nil))))), ?_⟩
    obtain ⟨a, fs, rfl, hh⟩ := ix.has
    obtain ⟨dx, ha⟩ := hh.at_
    have c1 : ("Expression(" : Str).length = 11 := by decide +kernel
    have c2 : (")" : Str).length = 1 := by decide +kernel
    refine ⟨"Expression(", rfl, by rw [empty_cat, c1]; exact small_len (by decide), _, rfl, a, _, dx, fs, _, rfl, ha, (X.own _).cl, X.nof _ (by decide +kernel), hh.text, .inl ⟨t.text, rfl, small_len (by omega), t.text, rfl, ?_, ")", rfl, ?_, ?_⟩⟩
    · rw [empty_cat, len_cat, c1]
      exact small_len (by omega)
    · rw [empty_cat, len_cat, len_cat, c1, c2]
      exact small_len (by omega)
    · rw [empty_cat]
      exact fin
end
end Jo

set_option Elab.async false
set_option linter.all false
set_option maxRecDepth 100000
set_option maxHeartbeats 1000000
namespace Jo
open PySem PySem.Spec PyProof.Rows L2 ClX
theorem word_is {k j : Bk} (h : k.word = j.word) : k = j := by
  revert h
  cases k <;> cases j <;> decide +kernel
/-- every kind can be made -/
structure Makes (P : Program) (w : World) (K : PySem.W.Frag) (mg : Str → Option Value) (base : Heap) (C : Kd → Addr) : Prop where
  cls : ∀ k : Kd, k.has = true → ∃ fi, Mk K (C k) fi
  num : MtF P w K mg base 5 (C .num) "__init__" ["self", "number"] (spNum C)
  var : MtF P w K mg base 5 (C .var) "__init__" ["self", "name"] (spVar C)
  un : MtF P w K mg base 5 (C .un) "__init__" ["self", "first"] (spUn C)
  bi : ∀ k, (Kd.bi k).has = true → MtF P w K mg base 5 (C (.bi k)) "__init__" ["self", "first", "second"] (spBi C k)
  timesI : MtI P w K mg base 5 (C (.bi .times)) "__init__" ["self", "first", "second"] (spBi C .times)
theorem same_mk {H G : Hp} {x dx : Addr} {o1 o2 : HO} (hx : H x = none) (hd : H dx = none) (k : Kp x (upd (upd H dx o1) x o2) G) : Same H G := fun b o h => by
  have nb : b ≠ x := fun e => by rw [e, hx] at h; cases h
  have nd : b ≠ dx := fun e => by rw [e, hd] at h; cases h
  exact k b o (by rw [upd_ne nb, upd_ne nd]; exact h) nb
theorem same_in {H : Hp} {x dx : Addr} {o1 o2 : HO} (hx : H x = none) (hd : H dx = none) : Same H (upd (upd H dx o1) x o2) := same_mk hx hd (.refl _ _)
section
variable {C : Kd → Addr} {H : Hp} {Q : VK}
theorem mk_num {n : Int} (h0 : 0 ≤ n) (h1 : n ≤ 999) (q : ∀ x G, Same H G → Is C G (.num n) (.ref x) → Q (.ref x) G) (x dx : Addr) (hx : H x = none) (hd : H dx = none) (ne : dx ≠ x) :
    spNum C [.ref x, .int n] (upd (upd H dx (.own x)) x (.ins (C .num) dx [])) (fun v H2 => v = .non ∧ Q (.ref x) H2) E0 := ⟨x, dx, n, rfl, upd_same, h0, h1, fun G k i => ⟨rfl, q x G (same_mk hx hd k) i⟩⟩
theorem mk_var {z : Str} (h : nmS z = true) (q : ∀ x G, Same H G → Is C G (.var z) (.ref x) → Q (.ref x) G) (x dx : Addr) (hx : H x = none) (hd : H dx = none) (ne : dx ≠ x) :
    spVar C [.ref x, .str z] (upd (upd H dx (.own x)) x (.ins (C .var) dx [])) (fun v H2 => v = .non ∧ Q (.ref x) H2) E0 := ⟨x, dx, z, rfl, upd_same, h, fun G k i => ⟨rfl, q x G (same_mk hx hd k) i⟩⟩
theorem mk_un {t : Tr} {v : V} (i : Is C H t v) (l : Lim (.un t)) (q : ∀ x G, Same H G → Is C G (.un t) (.ref x) → Q (.ref x) G) (x dx : Addr) (hx : H x = none) (hd : H dx = none) (ne : dx ≠ x) :
    spUn C [.ref x, v] (upd (upd H dx (.own x)) x (.ins (C .un) dx [])) (fun v H2 => v = .non ∧ Q (.ref x) H2) E0 := ⟨x, dx, t, v, rfl, upd_same, i.same (same_in hx hd), l, fun G k i => ⟨rfl, q x G (same_mk hx hd k) i⟩⟩
theorem mk_bi {k : Bk} {t1 t2 : Tr} {v1 v2 : V} (i1 : Is C H t1 v1) (i2 : Is C H t2 v2) (l : Lim (.bi k t1 t2)) (q : ∀ x G, Same H G → Is C G (.bi k t1 t2) (.ref x) → Q (.ref x) G) (x dx : Addr) (hx : H x = none) (hd : H dx = none) (ne : dx ≠ x) :
    spBi C k [.ref x, v1, v2] (upd (upd H dx (.own x)) x (.ins (C (.bi k)) dx [])) (fun v H2 => v = .non ∧ Q (.ref x) H2) E0 :=
  ⟨x, dx, t1, t2, v1, v2, rfl, upd_same, i1.same (same_in hx hd), i2.same (same_in hx hd), l, fun G k i => ⟨rfl, q x G (same_mk hx hd k) i⟩⟩
theorem mk_ch {t1 t2 t3 : Tr} {v1 v2 v3 : V} (i1 : Is C H t1 v1) (i2 : Is C H t2 v2) (i3 : Is C H t3 v3) (l : Lim (.ch t1 t2 t3)) (q : ∀ x G, Same H G → Is C G (.ch t1 t2 t3) (.ref x) → Q (.ref x) G) (x dx : Addr) (hx : H x = none) (hd : H dx = none) (ne : dx ≠ x) :
    spCh C [.ref x, v1, v2, v3] (upd (upd H dx (.own x)) x (.ins (C .ch) dx [])) (fun v H2 => v = .non ∧ Q (.ref x) H2) E0 :=
  ⟨x, dx, t1, t2, t3, v1, v2, v3, rfl, upd_same, i1.same (same_in hx hd), i2.same (same_in hx hd), i3.same (same_in hx hd), l, fun G k i => ⟨rfl, q x G (same_mk hx hd k) i⟩⟩
end
end Jo

set_option Elab.async false
set_option linter.all false
set_option maxRecDepth 100000
set_option maxHeartbeats 1000000
namespace Jo
open PySem PySem.Spec PyProof.Rows L2 ClX
theorem Is.only {C : Kd → Addr} {H H' : Hp} (s1 : ∀ a Cc dx fs, H a = some (.ins Cc dx fs) → H' a = some (.ins Cc dx fs)) (s2 : ∀ a xs, H a = some (.tup xs) → H' a = some (.tup xs)) : ∀ {t : Tr} {v : V}, Is C H t v → Is C H' t v := by
  have hs : ∀ {t : Tr} {a : Addr} {fs : List (Str × V)}, Has C H t a fs → Has C H' t a fs := fun {t a fs} h =>
    ⟨let ⟨dx, e⟩ := h.at_; ⟨dx, s1 _ _ _ _ e⟩, h.text, let ⟨q, e, e2⟩ := h.names; ⟨q, e, s2 _ _ e2⟩, h.parts, h.depth, h.no⟩
  intro t
  induction t with
  | num n => exact fun {v} ⟨a, fs, e, h, r⟩ => ⟨a, fs, e, hs h, r⟩
  | var x => exact fun {v} ⟨a, fs, e, h, r⟩ => ⟨a, fs, e, hs h, r⟩
  | un t ih => exact fun {v} ⟨a, fs, u, e, h, r, i⟩ => ⟨a, fs, u, e, hs h, r, ih i⟩
  | bi k t1 t2 ih1 ih2 => exact fun {v} ⟨a, fs, u1, u2, e, h, r1, r2, i1, i2⟩ => ⟨a, fs, u1, u2, e, hs h, r1, r2, ih1 i1, ih2 i2⟩
  | ch t1 t2 t3 ih1 ih2 ih3 => exact fun {v} ⟨a, fs, u1, u2, u3, e, h, r1, r2, r3, i1, i2, i3⟩ => ⟨a, fs, u1, u2, u3, e, hs h, r1, r2, r3, ih1 i1, ih2 i2, ih3 i3⟩
theorem is_put {C : Kd → Addr} {H : Hp} {D : Addr} {xs : List V} {o : HO} (hD : H D = some (.lst xs)) {t : Tr} {v : V} (h : Is C H t v) : Is C (upd H D o) t v :=
  h.only (fun a Cc dx fs e => by rw [upd_ne (fun q => by rw [q, hD] at e; cases e)]; exact e) (fun a ys e => by rw [upd_ne (fun q => by rw [q, hD] at e; cases e)]; exact e)
theorem Lim.kid {t u : Tr} (l : Lim t) (h : u ∈ t.kids) : Lim u := ⟨l.ok.kid u h, by have := Tr.kid_parts u h; have := l.parts; omega, by have := Tr.kid_depth u h; have := l.depth; omega⟩
/-- a comprehension over a tuple whose turns make instances -/
theorem lc_is {C : Kd → Addr} {K : PySem.W.Frag} {q : Addr} {us : List V} {g : TG} {te : TE} {vs : List Nat} {σ : L2.St} {H1 : Hp} {D : Addr} {Qd : Hp → Prop} (nD : H1 D = none) (ts : List Tr) (hl : ts.length = us.length) (hz : us.length ≤ 1000) (hq : SqT K H1 q us)
    (hs : ∀ (i : Nat) (x : V) (t : Tr) (G : Hp) (R : VK), us[i]? = some x → ts[i]? = some t → Same H1 G → (∀ y G2, Same G G2 → Is C G2 t (.ref y) → R (.ref y) G2) → g x (wipe σ vs) G fun σ2 H2 => wipe σ2 vs = wipe σ vs ∧ te σ2 H2 R)
    (hd : ∀ G xs, Same H1 G → G D = some (.lst xs) → Paired (Is C G) ts xs → Qd G) :
    ∃ W : Nat → Nat → Hp → Prop, (∃ m, W 0 m (upd H1 D (.lst []))) ∧ ∀ i m H, W i m H →
      ((Itt K q).stop i H ∧ Qd H) ∨ ((Itt K q).go i H ∧ ∃ Nx : Hp → Prop, (∀ H', Nx H' → ∃ m', m' < m ∧ W (i + 1) m' H') ∧ ∀ x H', (Itt K q).yld i H x H' → g x (wipe σ vs) H' fun σ2 H2 => wipe σ2 vs = wipe σ vs ∧ tYes σ2 H2 fun b H3 =>
        if b = true then te σ2 H3 fun y H4 => ∃ acc, H4 D = some (.lst acc) ∧ acc.length < sizeLine ∧ Nx (upd H4 D (.lst (acc ++ [y]))) else Nx H3) := by
  refine lc_tup (K := K) (a := q) (xs := us) (fun i G => Same H1 G ∧ ∃ xs, G D = some (.lst xs) ∧ Paired (Is C G) (ts.take i) xs) ⟨same_new nD, [], upd_same, by rw [List.take_zero]; exact .nil⟩ (fun i G hi h => seqT_same hq h.1) (fun i x G hx h => ?_) (fun G h => ?_)
  · obtain ⟨sG, xs, hD, pr⟩ := h
    have hi : i < ts.length := by rw [hl]; exact (List.getElem?_eq_some_iff.mp hx).1
    have ht : ts[i]? = some ts[i] := List.getElem?_eq_getElem hi
    refine hs i x ts[i] G _ hx ht sG fun y G2 s2 iy => ?_
    have hD2 := s2 _ _ hD
    have pl := pair_len pr
    rw [List.length_take] at pl
    refine ⟨xs, hD2, small1000 (by omega), fun b o hb => ?_, xs ++ [.ref y], upd_same, ?_⟩
    · have nb : b ≠ D := fun e => by rw [e, nD] at hb; cases hb
      rw [upd_ne nb]
      exact s2 _ _ (sG _ _ hb)
    · rw [List.take_succ, ht]
      exact pair_end (pair_mem pr fun a b h => is_put hD2 (h.same s2)) (is_put hD2 iy)
  · obtain ⟨sG, xs, hD, pr⟩ := h
    rw [← hl, List.take_length] at pr
    exact hd G xs sG hD pr
end Jo

set_option Elab.async false
set_option linter.all false
set_option maxRecDepth 100000
set_option maxHeartbeats 1000000
namespace Jo
open PySem PySem.Spec PyProof.Rows L2 ClX
/-! ### a comprehension of two clauses over tuples -/
theorem lc2_tt {K : PySem.W.Frag} {q : Addr} {xs : List V} {vs vs1 : List Nat} {a b : Nat} {ti te : TE} {σ : L2.St} {H1 : Hp} {D : Addr} {Qd : Hp → Prop} (rows : List (List V)) (hq : SqT K H1 q xs) (nD : H1 D = none) (hl : rows.length = xs.length) (few : rows.flatten.length ≤ 1000000)
    (hw2 : ∀ x, wipe ((wipe σ vs).set a (some x)) vs = wipe σ vs) (hw3 : ∀ x y, wipe ((wipe ((wipe σ vs).set a (some x)) vs1).set b (some y)) vs1 = wipe ((wipe σ vs).set a (some x)) vs1)
    (turn : ∀ (i : Nat) (x : V) (row : List V), xs[i]? = some x → rows[i]? = some row → ∃ (q1 : Addr) (ys : List V), SqT K H1 q1 ys ∧ ys.length = row.length ∧ (∀ (G : Hp) (P : VK), Same H1 G → P (.ref q1) G → ti ((wipe σ vs).set a (some x)) G P) ∧
      ∀ (j : Nat) (y r : V), ys[j]? = some y → row[j]? = some r → ∀ (G : Hp) (P : VK), Same H1 G → P r G → te ((wipe ((wipe σ vs).set a (some x)) vs1).set b (some y)) G P)
    (hd : ∀ G, Same H1 G → G D = some (.lst rows.flatten) → Qd G) :
    ∃ W : Nat → Nat → Hp → Prop, (∃ m, W 0 m (upd H1 D (.lst []))) ∧ ∀ i m H, W i m H →
      ((Itt K q).stop i H ∧ Qd H) ∨ ((Itt K q).go i H ∧ ∃ Nx : Hp → Prop, (∀ H', Nx H' → ∃ m', m' < m ∧ W (i + 1) m' H') ∧ ∀ x H', (Itt K q).yld i H x H' → gName a x (wipe σ vs) H' fun σ2 H2 => wipe σ2 vs = wipe σ vs ∧ tYes σ2 H2 fun c H3 =>
        if c = true then iTup K ti σ2 H3 fun J1 H4 => ∃ W1 : Nat → Nat → Hp → Prop, (∃ m, W1 0 m H4) ∧ ∀ j k H, W1 j k H → (J1.stop j H ∧ Nx H) ∨ (J1.go j H ∧ ∃ Nx1 : Hp → Prop, (∀ H', Nx1 H' → ∃ k', k' < k ∧ W1 (j + 1) k' H') ∧
          ∀ x H', J1.yld j H x H' → gName b x (wipe σ2 vs1) H' fun σ3 H4 => wipe σ3 vs1 = wipe σ2 vs1 ∧ tYes σ3 H4 fun c H5 => if c = true then te σ3 H5 fun y H6 => ∃ acc, H6 D = some (.lst acc) ∧ acc.length < sizeLine ∧ Nx1 (upd H6 D (.lst (acc ++ [y]))) else Nx1 H5)
        else Nx H3) := by
  have sD : ∀ {G : Hp} {o : HO}, Same H1 G → Same H1 (upd G D o) := fun {G o} s b u hb => by
    rw [upd_ne (fun e => by rw [e, nD] at hb; cases hb)]
    exact s b u hb
  have sub : ∀ (i : Nat) (row : List V) (j : Nat), rows[i]? = some row → ((rows.take i).flatten ++ row.take j).length ≤ 1000000 := fun i row j h => by
    have hi : i < rows.length := (List.getElem?_eq_some_iff.mp h).1
    have er : row = rows[i] := (List.getElem?_eq_some_iff.mp h).2.symm
    have e1 : rows.flatten = (rows.take i).flatten ++ (row ++ (rows.drop (i + 1)).flatten) := by
      conv => lhs; rw [← List.take_append_drop i rows, List.flatten_append, List.drop_eq_getElem_cons hi, List.flatten_cons, ← er]
    rw [e1, List.length_append, List.length_append] at few
    rw [List.length_append, List.length_take]
    have := Nat.min_le_right j row.length
    omega
  refine ⟨fun i m G => i ≤ xs.length ∧ m = xs.length - i ∧ Same H1 G ∧ G D = some (.lst (rows.take i).flatten), ⟨_, Nat.zero_le _, rfl, same_new nD, upd_same⟩, fun i m G hW => ?_⟩
  obtain ⟨hi, rfl, sG, hD⟩ := hW
  by_cases he : i = xs.length
  · subst he
    refine .inl ⟨⟨xs, seqT_same hq sG, Nat.le_refl _⟩, hd G sG ?_⟩
    rw [hD, ← hl, List.take_length]
  · have hi2 : i < xs.length := by omega
    have hx : xs[i]? = some xs[i] := List.getElem?_eq_getElem hi2
    have hr : rows[i]? = some (rows[i]'(by omega)) := List.getElem?_eq_getElem (by omega)
    generalize rows[i]'(by omega) = row at hr
    refine .inr ⟨⟨xs, _, seqT_same hq sG, hx⟩, fun G2 => Same H1 G2 ∧ G2 D = some (.lst (rows.take (i + 1)).flatten), fun G2 h => ⟨_, by omega, by omega, rfl, h.1, h.2⟩, fun x G2 hy => ?_⟩
    obtain ⟨rfl, hy2⟩ := hy
    have ex := hy2 xs (seqT_same hq sG)
    obtain ⟨q1, ys, hq1, hyl, hti, hte⟩ := turn i x row ex hr
    refine ⟨hw2 x, ?_⟩
    unfold tYes
    try dsimp only
    rw [if_pos rfl]
    refine hti G2 _ sG ⟨q1, rfl, ⟨_, seqT_same hq1 sG⟩, fun j k G3 => j ≤ ys.length ∧ k = ys.length - j ∧ Same H1 G3 ∧ G3 D = some (.lst ((rows.take i).flatten ++ row.take j)), ⟨_, Nat.zero_le _, rfl, sG, by rw [List.take_zero, List.append_nil]; exact hD⟩, fun j k G3 hW1 => ?_⟩
    obtain ⟨hj, rfl, s3, hD3⟩ := hW1
    by_cases hje : j = ys.length
    · subst hje
      refine .inl ⟨⟨ys, seqT_same hq1 s3, Nat.le_refl _⟩, s3, ?_⟩
      rw [hD3, hyl, List.take_length, List.take_succ, hr, List.flatten_append]
      simp
    · have hj2 : j < ys.length := by omega
      have hyj : ys[j]? = some ys[j] := List.getElem?_eq_getElem hj2
      have hrj : row[j]? = some (row[j]'(by omega)) := List.getElem?_eq_getElem (by omega)
      refine .inr ⟨⟨ys, _, seqT_same hq1 s3, hyj⟩, fun G4 => Same H1 G4 ∧ G4 D = some (.lst ((rows.take i).flatten ++ row.take (j + 1))), fun G4 h => ⟨_, by omega, by omega, rfl, h.1, h.2⟩, fun y G4 hy4 => ?_⟩
      obtain ⟨rfl, hy5⟩ := hy4
      have ey := hy5 ys (seqT_same hq1 s3)
      refine ⟨hw3 x y, ?_⟩
      rw [if_pos rfl]
      refine hte j y _ ey hrj G4 _ s3 ⟨_, hD3, ?_, sD s3, ?_⟩
      · exact Nat.lt_of_le_of_lt (sub i row j hr) (by decide)
      · rw [upd_same, List.take_succ, hrj, List.append_assoc]
        rfl
/-! ### statements, by what is shown of them -/
inductive Hd | assign (x : Str) (e : Tr) | ifs (e : Tr) | whl (e : Tr) | call (x : Str) (e : Tr) (into : Option Str) | ret (e : Tr) | fail | att
inductive Sk | assign | ifs | whl | call | ret | fail | att
  deriving DecidableEq
def Hd.kind : Hd → Sk
  | .assign _ _ => .assign
  | .ifs _ => .ifs
  | .whl _ => .whl
  | .call _ _ _ => .call
  | .ret _ => .ret
  | .fail => .fail
  | .att => .att
/-- the kinds that the program has -/
def Sk.has : Sk → Bool
  | .whl => false
  | .att => false
  | _ => true
def Sk.word : Sk → Str
  | .assign => "assign"
  | .ifs => "if"
  | .whl => "while"
  | .call => "call"
  | .ret => "return"
  | .fail => "fail"
  | .att => "attempt"
def Sk.cname : Sk → Str
  | .assign => "Assign"
  | .ifs => "If"
  | .whl => "While"
  | .call => "Call"
  | .ret => "Return"
  | .fail => "Fail"
  | .att => "Attempt"
def Hd.line : Hd → Str
  | .assign x e => ((("assign " : Str) ++ x) ++ " ") ++ e.text
  | .ifs e => ("if " : Str) ++ e.text
  | .whl e => ("while " : Str) ++ e.text
  | .call x e none => ((("call " : Str) ++ x) ++ " ") ++ e.text
  | .call x e (some y) => ((((("call " : Str) ++ x) ++ " ") ++ e.text) ++ " into ") ++ y
  | .ret e => ("return " : Str) ++ e.text
  | .fail => "fail"
  | .att => "attempt"
/-- what is shown of a statement -/
structure SR where
  kind : Sk
  line : Str
  lines : List Str
  amount : Nat
  height : Nat
def pad (l : Str) : Str := ("  " : Str) ++ l
def indS (b : List SR) : List Str := b.flatMap fun s => s.lines.map pad
def insd : Nat → List (List SR) → List Str
  | _, [] => []
  | n, b :: r => (if 0 < n ∧ b ≠ [] then [("else" : Str)] else []) ++ (indS b ++ insd (n + 1) r)
def amtS (bs : List (List SR)) : Nat := (bs.flatten.map SR.amount).sum
def hgtS (bs : List (List SR)) : Nat := Tr.top1 (bs.flatten.map SR.height)
def mkS (h : Hd) (bs : List (List SR)) : SR := ⟨h.kind, h.line, h.line :: insd 0 bs, 1 + amtS bs, 1 + hgtS bs⟩
/-- v is the program's statement; CK: where the classes of the kinds stand -/
def SIs (CK : Sk → Addr) (H : Hp) (s : SR) (v : V) : Prop := ∃ (a dx q : Addr) (fs : List (Str × V)), v = .ref a ∧ H a = some (.ins (CK s.kind) dx fs) ∧ fs.lookup ("amount" : Str) = some (.int (s.amount : Int)) ∧ fs.lookup ("height" : Str) = some (.int (s.height : Int)) ∧
  fs.lookup ("lines" : Str) = some (.ref q) ∧ H q = some (.tup (s.lines.map V.str))
theorem SIs.same {CK : Sk → Addr} {H G : Hp} {s : SR} {v : V} (h : SIs CK H s v) (sm : Same H G) : SIs CK G s v := by
  obtain ⟨a, dx, q, fs, e, h1, h2, h3, h4, h5⟩ := h
  exact ⟨a, dx, q, fs, e, sm _ _ h1, h2, h3, h4, sm _ _ h5⟩
/-- a body: a tuple of statements -/
def BIs (K : PySem.W.Frag) (CK : Sk → Addr) (H : Hp) (b : List SR) (v : V) : Prop := ∃ (q : Addr) (us : List V), v = .ref q ∧ SqT K H q us ∧ Paired (SIs CK H) b us
theorem BIs.same {K : PySem.W.Frag} {CK : Sk → Addr} {H G : Hp} {b : List SR} {v : V} (h : BIs K CK H b v) (sm : Same H G) : BIs K CK G b v := by
  obtain ⟨q, us, e, h1, h2⟩ := h
  exact ⟨q, us, e, seqT_same h1 sm, pair_mem h2 fun x y i => i.same sm⟩
end Jo

set_option Elab.async false
set_option linter.all false
set_option maxRecDepth 100000
set_option maxHeartbeats 1000000
namespace Jo
open PySem PySem.Spec PyProof.Rows L2 ClX
/-- what is shown of a statement keeps bounds -/
structure SR.Fine (s : SR) : Prop where
  one : 1 ≤ s.amount
  amount : s.amount ≤ 400
  height : s.height ≤ 8
  many : s.lines.length ≤ 2 * s.amount
  long : ∀ l ∈ s.lines, l.length ≤ 1000 + 2 * s.height
  first : ∃ r, s.lines = s.line :: r
  ok : ∀ l ∈ s.lines, PyData.strOk l = true
/-- bodies that may stand in a statement -/
structure Fits (bs : List (List SR)) : Prop where
  two : bs.length ≤ 2
  fine : ∀ s ∈ bs.flatten, s.Fine
  amount : amtS bs ≤ 399
  height : hgtS bs ≤ 7
theorem sum_ge1 : ∀ l : List SR, (∀ s ∈ l, s.Fine) → l.length ≤ (l.map SR.amount).sum
  | [], _ => Nat.le_refl _
  | s :: l, h => by
    have h1 := sum_ge1 l fun x hx => h x (List.mem_cons_of_mem _ hx)
    have h2 := (h s (List.mem_cons_self ..)).one
    rw [List.length_cons, List.map_cons, List.sum_cons]
    omega
/-- bodies whatever they come to -/
structure Wide (bs : List (List SR)) : Prop where
  two : bs.length ≤ 2
  fine : ∀ s ∈ bs.flatten, s.Fine
  few : bs.flatten.length ≤ 2000
theorem Fits.few {bs : List (List SR)} (h : Fits bs) : bs.flatten.length ≤ 399 := Nat.le_trans (sum_ge1 _ h.fine) h.amount
theorem Fits.wide {bs : List (List SR)} (h : Fits bs) : Wide bs := ⟨h.two, h.fine, Nat.le_trans h.few (by decide)⟩
theorem flat_rows (bs : List (List SR)) (f : SR → V) : (bs.map fun b => b.map f).flatten = bs.flatten.map f := by
  rw [List.map_flatten]
/-- the classes of statements: CS the base class, CK the kinds -/
structure ST2 (K : PySem.W.Frag) (mg : Str → Option Value) (C : Kd → Addr) (CE CS : Addr) (CK : Sk → Addr) : Prop where
  own : ∀ k, OwnC K (CK k)
  na : ∀ k, ∀ f ∈ (["amount", "height", "names", "bodies", "lines", "expression", "name", "test", "body", "otherwise", "handler", "into"] : List Str), NoAttr K (CK k) f
  mgS : mg "Statement" = some (.ref CS)
  mgK : ∀ k : Sk, k.has = true → mg k.cname = some (.ref (CK k))
  kit : ∀ k l, k.has = true → l.has = true → PySem.W.kitOne K (.ref (CK k)) (.ref (CK l)) = some (decide (k = l))
  kitS : ∀ k, PySem.W.kitOne K (.ref (CK k)) (.ref CS) = some true
  kitE : ∀ k, PySem.W.kitOne K (.ref (CK k)) (.ref CE) = some false
  kitC : ∀ k, PySem.W.kitOne K (.ref (C k)) (.ref CS) = some false
  kitStr : PySem.W.kitOne K (.type "str") (.ref CS) = some false
  kitTup : PySem.W.kitOne K (.type "tuple") (.ref CS) = some false
section
variable {P : Program} {w : World} {K : PySem.W.Frag} {mg : Str → Option Value} {base : Heap} {C : Kd → Addr} {CE CS : Addr} {CK : Sk → Addr}
/-- a def of bodies: what it says of them -/
def spBods (K : PySem.W.Frag) (CK : Sk → Addr) (v : List (List SR) → V) : Sp := fun vs H Q _ => ∃ (q : Addr) (bs : List (List SR)) (us : List V), vs = [.ref q] ∧ SqT K H q us ∧ Paired (BIs K CK H) bs us ∧ Wide bs ∧ ∀ H', Same H H' → Q (v bs) H'
theorem body_at {H : Hp} {bs : List (List SR)} {us : List V} {i : Nat} {x : V} (p : Paired (BIs K CK H) bs us) (hx : us[i]? = some x) : ∃ b, bs[i]? = some b ∧ BIs K CK H b x := pair_at p hx
def n_amount_of : List Str := ["bodies", "body", "statement"]
theorem sc_amount_of : FnScope n_amount_of ["bodies"] (defScope s_amount_of) := ⟨rfl, rfl, rfl, by decide +kernel, rfl, by decide +kernel, by decide +kernel⟩
theorem ok_amount_of (T : Txt mg) (S : ST2 K mg C CE CS CK) (D : Dfn K mg "amount_of" s_amount_of ["bodies"]) : CalF P w K mg base 1 "amount_of" ["bodies"] (spBods K CK fun bs => .int ((amtS bs : Nat) : Int)) := by
  refine D.okF sc_amount_of (fun vs H Q E h => ?_) (fun f cdv A fr s H vs Q E hr h => ?_)
  · obtain ⟨q, bs, us, rfl, _⟩ := h
    rfl
  · obtain ⟨q, bs, us, rfl, hq, pb, ft, fin⟩ := h
    refine ⟨_, pss_one (ps_ret (pe_callB (cr_sum rfl) rfl T.b_sum (by decide +kernel) (pa_cons (pe_lc2 (own := [("body", 1), ("statement", 2)]) (vs1 := [2]) (g := gName 1) (g1 := gName 2) (tt := tYes) (tt1 := tYes) (wi1 := iTup K (tVar 1)) (te := tFld K (tVar 2) "amount") rfl sc_amount_of.nd (pi_tup (pv 0)) (blkOk_by (N := n_amount_of) (sc := defScope s_amount_of) (by decide +kernel)) (fun i h => by rw [List.mem_singleton.mp h]; decide)
      (fun _ _ _ _ _ => pg_name (i := 1) sc_amount_of.nd rfl (Or.inl rfl)) (fun _ _ _ _ _ => pts_nil) (fun _ _ _ _ _ => pi_tup (pv 1)) (fun _ _ _ _ _ => pg_name (i := 2) sc_amount_of.nd rfl (Or.inl rfl)) (fun _ _ _ _ _ => pts_nil) (fun _ _ _ _ _ => pe_fld (pv 2) rfl)) pa_nil))), ?_⟩
    refine ⟨_, rfl, q, rfl, ⟨_, hq⟩, fun D1 nD => ?_⟩
    refine lc2_tt (K := K) (vs := [1, 2]) (vs1 := [2]) (a := 1) (b := 2) (ti := tVar 1) (te := tFld K (tVar 2) "amount") (σ := [some (.ref q), none, none]) (bs.map fun b => b.map fun s => V.int ((s.amount : Nat) : Int)) hq nD (by rw [List.length_map]; exact pair_len pb) (by rw [flat_rows, List.length_map]; have := ft.few; omega) (by intro _; rfl) (by intro _ _; rfl) (fun i x row hx hr => ?_) (fun G sG hD => ?_)
    · obtain ⟨b, hb, ib⟩ := body_at pb hx
      rw [List.getElem?_map, hb] at hr
      obtain rfl := Option.some.inj hr
      obtain ⟨q1, ys, rfl, hq1, ps⟩ := ib
      refine ⟨q1, ys, hq1, by rw [List.length_map]; exact (pair_len ps).symm, fun G P sG hP => ⟨_, rfl, hP⟩, fun j y r hy hr2 G P sG hP => ?_⟩
      obtain ⟨s, hs, is⟩ := pair_at ps hy
      rw [List.getElem?_map, hs] at hr2
      obtain rfl := Option.some.inj hr2
      obtain ⟨a, dx, q2, fs, rfl, ha, h1, h2, h3, h4⟩ := is.same sG
      exact ⟨_, rfl, a, _, dx, fs, _, rfl, ha, (S.own _).cl, S.na _ _ (by decide +kernel), h1, hP⟩
    · refine ⟨D1, (bs.flatten.map SR.amount).map fun n : Nat => (n : Int), rfl, SqL.of (by rw [hD, flat_rows, List.map_map, List.map_map]; rfl), ?_⟩
      rw [nat_sum]
      exact fin G sG
def n_height_of : List Str := ["bodies", "body", "statement"]
theorem sc_height_of : FnScope n_height_of ["bodies"] (defScope s_height_of) := ⟨rfl, rfl, rfl, by decide +kernel, rfl, by decide +kernel, by decide +kernel⟩
theorem ok_height_of (T : Txt mg) (S : ST2 K mg C CE CS CK) (D : Dfn K mg "height_of" s_height_of ["bodies"]) : CalF P w K mg base 2 "height_of" ["bodies"] (spBods K CK fun bs => .int ((hgtS bs : Nat) : Int)) := by
  refine D.okF sc_height_of (fun vs H Q E h => ?_) (fun f cdv A fr s H vs Q E hr h => ?_)
  · obtain ⟨q, bs, us, rfl, _⟩ := h
    rfl
  · obtain ⟨q, bs, us, rfl, hq, pb, ft, fin⟩ := h
    refine ⟨_, pss_one (ps_ret (pe_callBK (cr_maxD rfl hr) rfl T.b_max (by decide +kernel) (pa_cons (pe_lc2 (own := [("body", 1), ("statement", 2)]) (vs1 := [2]) (g := gName 1) (g1 := gName 2) (tt := tYes) (tt1 := tYes) (wi1 := iTup K (tVar 1)) (te := tFld K (tVar 2) "height") rfl sc_height_of.nd (pi_tup (pv 0)) (blkOk_by (N := n_height_of) (sc := defScope s_height_of) (by decide +kernel)) (fun i h => by rw [List.mem_singleton.mp h]; decide)
      (fun _ _ _ _ _ => pg_name (i := 1) sc_height_of.nd rfl (Or.inl rfl)) (fun _ _ _ _ _ => pts_nil) (fun _ _ _ _ _ => pi_tup (pv 1)) (fun _ _ _ _ _ => pg_name (i := 2) sc_height_of.nd rfl (Or.inl rfl)) (fun _ _ _ _ _ => pts_nil) (fun _ _ _ _ _ => pe_fld (pv 2) rfl)) pa_nil) (pk_cons pe_int pk_nil))), ?_⟩
    refine ⟨_, rfl, q, rfl, ⟨_, hq⟩, fun D1 nD => ?_⟩
    refine lc2_tt (K := K) (vs := [1, 2]) (vs1 := [2]) (a := 1) (b := 2) (ti := tVar 1) (te := tFld K (tVar 2) "height") (σ := [some (.ref q), none, none]) (bs.map fun b => b.map fun s => V.int ((s.height : Nat) : Int)) hq nD (by rw [List.length_map]; exact pair_len pb) (by rw [flat_rows, List.length_map]; have := ft.few; omega) (by intro _; rfl) (by intro _ _; rfl) (fun i x row hx hr => ?_) (fun G sG hD => ?_)
    · obtain ⟨b, hb, ib⟩ := body_at pb hx
      rw [List.getElem?_map, hb] at hr
      obtain rfl := Option.some.inj hr
      obtain ⟨q1, ys, rfl, hq1, ps⟩ := ib
      refine ⟨q1, ys, hq1, by rw [List.length_map]; exact (pair_len ps).symm, fun G P sG hP => ⟨_, rfl, hP⟩, fun j y r hy hr2 G P sG hP => ?_⟩
      obtain ⟨s, hs, is⟩ := pair_at ps hy
      rw [List.getElem?_map, hs] at hr2
      obtain rfl := Option.some.inj hr2
      obtain ⟨a, dx, q2, fs, rfl, ha, h1, h2, h3, h4⟩ := is.same sG
      exact ⟨_, rfl, a, _, dx, fs, _, rfl, ha, (S.own _).cl, S.na _ _ (by decide +kernel), h2, hP⟩
    · have q2 : Q (.int ((Tr.top1 (bs.flatten.map SR.height) : Nat) : Int)) G := fin G sG
      refine ⟨D1, (bs.flatten.map SR.height).map fun n : Nat => (n : Int), 0, rfl, rfl, SqL.of (by rw [hD, flat_rows, List.map_map, List.map_map]; rfl), fun e => ?_, fun n r e => ?_⟩
      · have e1 : bs.flatten.map SR.height = [] := List.map_eq_nil_iff.mp e
        rw [e1] at q2
        exact q2
      · generalize hL : bs.flatten.map SR.height = L at e q2
        match L, e with
        | m :: l, e =>
          rw [List.map_cons] at e
          injection e with e1 e2
          subst e1 e2
          rw [fold_int, fold_top1]
          exact q2
end
end Jo

set_option Elab.async false
set_option linter.all false
set_option maxRecDepth 100000
set_option maxHeartbeats 1000000
namespace Jo
open PySem PySem.Spec PyProof.Rows L2 ClX
theorem len_pad (l : Str) : (pad l).length = 2 + l.length := by
  unfold pad
  rw [len_cat]
  rfl
theorem ind_len : ∀ b : List SR, (∀ s ∈ b, s.Fine) → (indS b).length ≤ 2 * (b.map SR.amount).sum
  | [], _ => Nat.le_refl _
  | s :: b, h => by
    have h1 := ind_len b fun x hx => h x (List.mem_cons_of_mem _ hx)
    have h2 := (h s (List.mem_cons_self ..)).many
    unfold indS at h1 ⊢
    rw [List.flatMap_cons, List.length_append, List.length_map, List.map_cons, List.sum_cons]
    omega
theorem ind_rows (b : List SR) : (b.map fun s => s.lines.map fun l => V.str (pad l)).flatten = (indS b).map V.str := by
  unfold indS
  rw [List.flatMap_def, List.map_flatten, List.map_map]
  congr 1
  refine List.map_congr_left fun s _ => ?_
  show _ = (s.lines.map pad).map V.str
  rw [List.map_map]
  rfl
theorem insd_snoc : ∀ (l : List (List SR)) (b : List SR) (n : Nat), insd n (l ++ [b]) = insd n l ++ ((if 0 < n + l.length ∧ b ≠ [] then [("else" : Str)] else []) ++ indS b)
  | [], b, n => by simp [insd]
  | c :: l, b, n => by
    show _ ++ (indS c ++ insd (n + 1) (l ++ [b])) = (_ ++ (indS c ++ insd (n + 1) l)) ++ _
    rw [insd_snoc l b (n + 1), show n + 1 + l.length = n + (c :: l).length by rw [List.length_cons]; omega, List.append_assoc, List.append_assoc]
theorem insd_len : ∀ (bs : List (List SR)) (n : Nat), (∀ s ∈ bs.flatten, s.Fine) → (insd n bs).length ≤ bs.length + 2 * (bs.flatten.map SR.amount).sum
  | [], _, _ => Nat.zero_le _
  | b :: bs, n, h => by
    have h1 := insd_len bs (n + 1) fun x hx => h x (by rw [List.flatten_cons]; exact List.mem_append_right _ hx)
    have h2 := ind_len b fun x hx => h x (by rw [List.flatten_cons]; exact List.mem_append_left _ hx)
    have h3 : (if 0 < n ∧ b ≠ [] then [("else" : Str)] else []).length ≤ 1 := by
      split
      · exact Nat.le_refl _
      · exact Nat.zero_le _
    show (_ ++ (indS b ++ insd (n + 1) bs)).length ≤ _
    rw [List.length_append, List.length_append, List.flatten_cons, List.map_append, List.sum_append, List.length_cons]
    omega
/-- with two bodies at most, one else at most -/
theorem insd_two {bs : List (List SR)} (h : Fits bs) : (insd 0 bs).length ≤ 1 + 2 * amtS bs := by
  match bs, h with
  | [], _ => exact Nat.zero_le _
  | b :: r, h =>
    have h1 := insd_len r 1 fun x hx => h.fine x (by rw [List.flatten_cons]; exact List.mem_append_right _ hx)
    have h2 := ind_len b fun x hx => h.fine x (by rw [List.flatten_cons]; exact List.mem_append_left _ hx)
    have h3 := h.two
    rw [List.length_cons] at h3
    show (_ ++ (indS b ++ insd 1 r)).length ≤ _
    unfold amtS
    rw [if_neg (fun e => absurd e.1 (Nat.lt_irrefl 0)), List.length_append, List.length_append, List.flatten_cons, List.map_append, List.sum_append]
    show 0 + _ ≤ _
    omega
section
variable {P : Program} {w : World} {K : PySem.W.Frag} {mg : Str → Option Value} {base : Heap} {C : Kd → Addr} {CE CS : Addr} {CK : Sk → Addr}
def n_indented : List Str := ["body", "statement", "line"]
theorem sc_indented : FnScope n_indented ["body"] (defScope s_indented) := ⟨rfl, rfl, rfl, by decide +kernel, rfl, by decide +kernel, by decide +kernel⟩
def spInd (K : PySem.W.Frag) (CK : Sk → Addr) : Sp := fun vs H Q _ => ∃ (b : List SR) (v : V), vs = [v] ∧ BIs K CK H b v ∧ (∀ s ∈ b, s.Fine) ∧ (b.map SR.amount).sum ≤ 399 ∧ ∀ D H', Same H H' → H' D = some (.lst ((indS b).map V.str)) → H D = none → Q (.ref D) H'
theorem ok_indented (T : Txt mg) (S : ST2 K mg C CE CS CK) (D : Dfn K mg "indented" s_indented ["body"]) : CalF P w K mg base 1 "indented" ["body"] (spInd K CK) := by
  refine D.okF sc_indented (fun vs H Q E h => ?_) (fun f cdv A fr s H vs Q E hr h => ?_)
  · obtain ⟨b, v, rfl, _⟩ := h
    rfl
  · obtain ⟨b, v, rfl, ⟨q, us, rfl, hq, ps⟩, hf, ha, fin⟩ := h
    refine ⟨_, pss_one (ps_ret (pe_lc2 (own := [("statement", 1), ("line", 2)]) (vs1 := [2]) (g := gName 1) (g1 := gName 2) (tt := tYes) (tt1 := tYes) (wi1 := iTup K (tFld K (tVar 1) "lines")) rfl sc_indented.nd (pi_tup (pv 0)) (blkOk_by (N := n_indented) (sc := defScope s_indented) (by decide +kernel)) (fun i h => by rw [List.mem_singleton.mp h]; decide)
      (fun _ _ _ _ _ => pg_name (i := 1) sc_indented.nd rfl (Or.inl rfl)) (fun _ _ _ _ _ => pts_nil) (fun _ _ _ _ _ => pi_tup (pe_fld (pv 1) rfl)) (fun _ _ _ _ _ => pg_name (i := 2) sc_indented.nd rfl (Or.inl rfl)) (fun _ _ _ _ _ => pts_nil) (fun _ _ _ _ _ => pe_joined (.cons pe_str (.cons (pe_fmt (pv 2)) .nil))))), ?_⟩
    refine ⟨_, rfl, q, rfl, ⟨_, hq⟩, fun D1 nD => ?_⟩
    refine lc2_tt (K := K) (vs := [1, 2]) (vs1 := [2]) (a := 1) (b := 2) (ti := tFld K (tVar 1) "lines") (te := fun σ H Q => tJs [tC (.str "  "), tFmt (tVar 2)] Str.empty σ H fun out H1 => Q (.str out) H1) (σ := [some (.ref q), none, none]) (b.map fun s => s.lines.map fun l => V.str (pad l)) hq nD (by rw [List.length_map]; exact pair_len ps) (by rw [ind_rows, List.length_map]; have := ind_len b hf; omega) (by intro _; rfl) (by intro _ _; rfl) (fun i x row hx hr2 => ?_) (fun G sG hD => ?_)
    · obtain ⟨s, hs, is⟩ := pair_at ps hx
      rw [List.getElem?_map, hs] at hr2
      obtain rfl := Option.some.inj hr2
      have is0 := is
      obtain ⟨a, dx, q2, fs, rfl, h0, h1, h2, h3, h4⟩ := is
      refine ⟨q2, s.lines.map V.str, .inl (.inl h4), by rw [List.length_map, List.length_map], fun G P sG hP => ⟨_, rfl, a, _, dx, fs, _, rfl, sG _ _ h0, (S.own _).cl, S.na _ _ (by decide +kernel), h3, hP⟩, fun j y r hy hr3 G P sG hP => ?_⟩
      rw [List.getElem?_map] at hy hr3
      obtain ⟨l, hl, rfl⟩ := Option.map_eq_some_iff.mp hy
      rw [hl] at hr3
      obtain rfl := Option.some.inj hr3
      have fl := hf s (List.mem_of_getElem? hs)
      have ll := fl.long l (List.mem_of_getElem? hl)
      have lh := fl.height
      have c1 : ("  " : Str).length = 2 := by decide +kernel
      refine ⟨"  ", rfl, by rw [empty_cat, c1]; exact small_len (by decide), _, rfl, .inl ⟨l, rfl, small_len (by omega), l, rfl, ?_, ?_⟩⟩
      · rw [empty_cat, len_cat, c1]
        exact small_len (by omega)
      · rw [empty_cat]
        exact hP
    · exact fin D1 G sG (by rw [hD, ind_rows]) nD
def n_lines_inside : List Str := ["bodies", "lines", "number", "body"]
theorem sc_lines_inside : FnScope n_lines_inside ["bodies"] (defScope s_lines_inside) := ⟨rfl, rfl, rfl, by decide +kernel, rfl, by decide +kernel, by decide +kernel⟩
def spLines (K : PySem.W.Frag) (CK : Sk → Addr) : Sp := fun vs H Q _ => ∃ (q : Addr) (bs : List (List SR)) (us : List V), vs = [.ref q] ∧ SqT K H q us ∧ Paired (BIs K CK H) bs us ∧ Fits bs ∧ ∀ H' r, Same H H' → H' r = some (.tup ((insd 0 bs).map V.str)) → Q (.ref r) H'
theorem ok_lines_inside (T : Txt mg) (S : ST2 K mg C CE CS CK) (D : Dfn K mg "lines_inside" s_lines_inside ["bodies"]) (c_ind : CalF P w K mg base 1 "indented" ["body"] (spInd K CK)) : CalF P w K mg base 2 "lines_inside" ["bodies"] (spLines K CK) := by
  refine D.okF sc_lines_inside (fun vs H Q E h => ?_) (fun f cdv A fr s H vs Q E hr h => ?_)
  · obtain ⟨q, bs, us, rfl, _⟩ := h
    rfl
  · obtain ⟨q, bs, us, rfl, hq, pb, ft, fin⟩ := h
    refine ⟨_, pss_cons (ps_set (i := 1) sc_lines_inside.nd rfl (.inl rfl) (pe_lst pa_nil))
      (pss_cons (ps_for PassesOwn.never rfl (pi_enumT rfl T.b_enumerate (pa_cons (pv 0) pa_nil)) (pg_tup rfl (pgs_cons (pg_name (i := 2) sc_lines_inside.nd rfl (.inl rfl)) (pgs_cons (pg_name (i := 3) sc_lines_inside.nd rfl (.inl rfl)) pgs_nil)))
        (pss_cons (ps_if (PW.pt (pw_and (pt_cmpR op_gt (pv 2) pe_int (nomark _)) (pw_and1 (pt_truth (pv 3) (by intro _; rfl)))))
            (pss_one (ps_expr (pe_bm PySem.F.plainAttrs_list PySem.F.slot_list_append PySem.F.type_list_append mt_append (pv 1) (pa_cons pe_str pa_nil))))
            (pss_nil))
          (pss_one (ps_aug (i := 1) sc_lines_inside.nd rfl (.inl rfl) (pe_cF c_ind hr (by decide) rfl (pa_cons (pv 3) pa_nil)) iop_ext))))
      (pss_one (ps_ret (pe_callTy call_tuple_of rfl T.b_tuple (by decide +kernel) (pa_cons (pv 1) pa_nil))))), ?_⟩
    refine ⟨(show 0 ≤ sizeLine by decide), fun l nl => ?_⟩
    have s1 : Same H (upd H l (.lst [])) := same_new nl
    have pl := pair_len pb
    have hz := insd_two ft
    have ha := ft.amount
    refine ⟨_, rfl, q, _, rfl, seqT_same hq s1, ?_⟩
    refine for_it (walk_enumT (K := K) (a := q) (xs := us)) (fun i σ G => Same H G ∧ G l = some (.lst ((insd 0 (bs.take i)).map V.str)) ∧ ∃ y1 y2 : Option V, σ = [some (.ref q), some (.ref l), y1, y2]) ⟨s1, upd_same, none, none, rfl⟩ (fun i σ G hi hG => seqT_same hq hG.1) (fun i x σ G G' hi hG hy => ?_) (fun σ G hG => ?_)
    · obtain ⟨sG, hl, y1, y2, rfl⟩ := hG
      obtain ⟨Tp, a, b, rfl, hT, rfl, ea, eb⟩ := hy
      have ea2 : a = V.int (i : Int) := (Option.some.inj ea).symm
      subst ea2
      obtain ⟨bd, hb, ib⟩ := pair_at pb eb
      have hlT : l ≠ Tp := fun e => by rw [e, hT] at hl; cases hl
      have s2 := sG.trans (same_new (o := .tup [V.int (i : Int), b]) hT)
      have hl2 : upd G Tp (.tup [V.int (i : Int), b]) l = some (.lst ((insd 0 (bs.take i)).map V.str)) := by rw [upd_ne hlT]; exact hl
      have hT2 : upd G Tp (.tup [V.int (i : Int), b]) Tp = some (.tup [V.int (i : Int), b]) := upd_same
      generalize upd G Tp (.tup [V.int (i : Int), b]) = G1 at s2 hl2 hT2
      have ib1 := ib.same s2
      have hbs : i < bs.length := by have := (List.getElem?_eq_some_iff.mp hb).1; exact this
      have et : bs.take (i + 1) = bs.take i ++ [bd] := by rw [List.take_succ, hb]; rfl
      have e1 := insd_snoc (bs.take i) bd 0
      rw [← et, List.length_take, Nat.min_eq_left (Nat.le_of_lt hbs), Nat.zero_add] at e1
      have few : (insd 0 (bs.take (i + 1))).length ≤ 800 := by
        have h1 := insd_len (bs.take (i + 1)) 0 fun s hs => ft.fine s (by
          rw [← List.take_append_drop (i + 1) bs, List.flatten_append]
          exact List.mem_append_left _ hs)
        have h2 : ((bs.take (i + 1)).flatten.map SR.amount).sum ≤ amtS bs := by
          unfold amtS
          conv => rhs; rw [← List.take_append_drop (i + 1) bs, List.flatten_append, List.map_append, List.sum_append]
          exact Nat.le_add_right _ _
        have h3 := List.length_take (i := i + 1) (l := bs)
        have h4 := ft.two
        omega
      have hin : ∀ s ∈ bd, s.Fine := fun s hs => ft.fine s (List.mem_flatten.mpr ⟨bd, List.mem_of_getElem? hb, hs⟩)
      have ham : (bd.map SR.amount).sum ≤ 399 := by
        have h1 : bs.flatten = (bs.take i).flatten ++ (bd ++ (bs.drop (i + 1)).flatten) := by
          conv => lhs; rw [← List.take_append_drop i bs, List.flatten_append, List.drop_eq_getElem_cons hbs, List.flatten_cons]
          rw [show bs[i] = bd from Option.some.inj ((List.getElem?_eq_getElem hbs).symm.trans hb)]
        unfold amtS at ha
        rw [h1, List.map_append, List.map_append, List.sum_append, List.sum_append] at ha
        omega
      have sLine : ∀ n : Nat, n ≤ 800 → n ≤ sizeLine := fun n h => Nat.le_trans h (by decide)
      have rest : ∀ (D : Ends) (G2 : Hp) (pre : List Str), (∀ G3, Same H G3 → G3 l = some (.lst ((insd 0 (bs.take (i + 1))).map V.str)) → D.nx [some (.ref q), some (.ref l), some (.int (i : Int)), some b] G3) → Same H G2 → G2 l = some (.lst (pre.map V.str)) → pre ++ indS bd = insd 0 (bs.take (i + 1)) →
          tAug 1 (tCall (spInd K CK) [] E0 (tCons (tVar 3) tNil)) rExt2 D [some (.ref q), some (.ref l), some (.int (i : Int)), some b] G2 := fun D G2 pre hn s12 hl3 hp => by
        refine ⟨_, rfl, _, rfl, bd, b, rfl, ib.same s12, hin, ham, fun D2 G3 s23 hD2 nD2 => ?_⟩
        refine ⟨l, D2, pre.map V.str, (indS bd).map V.str, rfl, rfl, s23 _ _ hl3, hD2, ?_, ?_⟩
        · rw [List.length_map, List.length_map, ← List.length_append, hp]
          exact sLine _ few
        · rw [← List.map_append, hp]
          have s3 := s12.trans s23
          exact hn _ (fun c o hc => by rw [upd_ne (fun e => by rw [e, nl] at hc; cases hc)]; exact s3 c o hc) upd_same
      have end3 : ∀ G3, Same H G3 → G3 l = some (.lst ((insd 0 (bs.take (i + 1))).map V.str)) → Same H G3 ∧ G3 l = some (.lst ((insd 0 (bs.take (i + 1))).map V.str)) ∧ ∃ y1 y2 : Option V, [some (V.ref q), some (V.ref l), some (V.int (i : Int)), some b] = [some (.ref q), some (.ref l), y1, y2] := fun G3 h1 h2 => ⟨h1, h2, _, _, rfl⟩
      refine ⟨Tp, _, rfl, .inl (.inl hT2), rfl, _, _, rfl, _, _, rfl, rfl, ?_⟩
      obtain ⟨q1, ys, rfl, hq1, ps⟩ := ib1
      have pl1 := pair_len ps
      refine ⟨_, rfl, _, _, rfl, rfl, _, rfl, ?_⟩
      by_cases h0 : 0 < i
      · rw [decide_eq_true (by omega : (i : Int) > 0)]
        refine iteT ⟨_, rfl, !ys.isEmpty, .inr (.inl ⟨ys, hq1, rfl⟩), ?_⟩
        cases ys with
        | nil =>
          have e2 : bd = [] := List.eq_nil_of_length_eq_zero pl1
          refine iteF (rest _ _ _ end3 s2 hl2 ?_)
          rw [e1, if_neg (fun h => h.2 e2)]
          rfl
        | cons y ys =>
          have e2 : bd ≠ [] := fun e => by rw [e] at pl1; cases pl1
          have e3 : insd 0 (bs.take (i + 1)) = (insd 0 (bs.take i) ++ [("else" : Str)]) ++ indS bd := by
            rw [e1, if_pos ⟨h0, e2⟩, List.append_assoc]
          refine iteT ⟨_, rfl, .inl ⟨rfl, _, SqL.of hl2⟩, l, _, _, rfl, rfl, hl2, ?_, ?_⟩
          · rw [List.length_map]
            rw [e3, List.length_append, List.length_append] at few
            have : (insd 0 (bs.take i)).length < 800 := by simp only [List.length_singleton] at few; omega
            exact Nat.lt_of_lt_of_le this (by decide)
          · refine rest _ _ (insd 0 (bs.take i) ++ [("else" : Str)]) end3 (fun c o hc => ?_) ?_ e3.symm
            · rw [upd_ne (fun e => by rw [e, nl] at hc; cases hc)]
              exact s2 c o hc
            · rw [upd_same, List.map_append]
              rfl
      · rw [decide_eq_false (by omega : ¬ (i : Int) > 0)]
        refine iteF (iteF (rest _ _ _ end3 s2 hl2 ?_))
        rw [e1, if_neg (fun h => h0 h.1)]
        rfl
    · obtain ⟨sG, hl, y1, y2, rfl⟩ := hG
      rw [← pl, List.take_length] at hl
      exact ⟨_, rfl, l, _, rfl, .inl ⟨SqL.of hl, fun r nr => fin _ r (sG.trans (same_new nr)) upd_same⟩⟩
end
end Jo

set_option Elab.async false
set_option linter.all false
set_option maxRecDepth 100000
set_option maxHeartbeats 1000000
namespace Jo
open PySem PySem.Spec PyProof.Rows L2 ClX
theorem SIs.kp {CK : Sk → Addr} {H G : Hp} {a Cc dx : Addr} {s : SR} {v : V} (h : SIs CK H s v) (k : Kp a H G) (ha : H a = some (.ins Cc dx [])) : SIs CK G s v := by
  obtain ⟨b, dy, q, fs, e, h1, h2, h3, h4, h5⟩ := h
  refine ⟨b, dy, q, fs, e, k _ _ h1 fun e => ?_, h2, h3, h4, k _ _ h5 fun e => ?_⟩
  · rw [e, ha] at h1
    injection h1 with h1
    injection h1 with _ _ h1
    rw [← h1] at h2
    cases h2
  · rw [e, ha] at h5
    cases h5
theorem BIs.kp {K : PySem.W.Frag} {CK : Sk → Addr} {H G : Hp} {a Cc dx : Addr} {b : List SR} {v : V} (h : BIs K CK H b v) (k : Kp a H G) (ha : H a = some (.ins Cc dx [])) : BIs K CK G b v := by
  obtain ⟨q, us, e, h1, h2⟩ := h
  exact ⟨q, us, e, seqT_kp h1 k ha, pair_mem h2 fun x y i => i.kp k ha⟩
/-- the fields that every statement has -/
structure StF (s : SR) (q : Addr) (fs : List (Str × V)) : Prop where
  amount : fs.lookup ("amount" : Str) = some (.int (s.amount : Int))
  height : fs.lookup ("height" : Str) = some (.int (s.height : Int))
  lines : fs.lookup ("lines" : Str) = some (.ref q)
theorem StF.put {s : SR} {q : Addr} {fs : List (Str × V)} {f : Str} {y : V} (h : StF s q fs) (hf : f ∈ (["expression", "name", "test", "body", "otherwise", "handler", "into"] : List Str)) : StF s q (putF f y fs) := by
  have h4 : ∀ x ∈ (["amount", "height", "lines"] : List Str), ∀ f ∈ (["expression", "name", "test", "body", "otherwise", "handler", "into"] : List Str), ¬ x = f := by decide +kernel
  refine ⟨?_, ?_, ?_⟩
  · rw [lookup_putF, if_neg (h4 _ (by decide +kernel) f hf)]; exact h.amount
  · rw [lookup_putF, if_neg (h4 _ (by decide +kernel) f hf)]; exact h.height
  · rw [lookup_putF, if_neg (h4 _ (by decide +kernel) f hf)]; exact h.lines
theorem StF.is {CK : Sk → Addr} {G : Hp} {s : SR} {a dx q : Addr} {fs : List (Str × V)} (h : StF s q fs) (ha : G a = some (.ins (CK s.kind) dx fs)) (hq : G q = some (.tup (s.lines.map V.str))) : SIs CK G s (.ref a) := ⟨a, dx, q, fs, rfl, ha, h.amount, h.height, h.lines, hq⟩
/-- what is made of a line and bodies -/
def mkL (k : Sk) (z : Str) (bs : List (List SR)) : SR := ⟨k, z, z :: insd 0 bs, 1 + amtS bs, 1 + hgtS bs⟩
theorem mkS_eq (h : Hd) (bs : List (List SR)) : mkS h bs = mkL h.kind h.line bs := rfl
section
variable {P : Program} {w : World} {K : PySem.W.Frag} {mg : Str → Option Value} {base : Heap} {C : Kd → Addr} {CE CS : Addr} {CK : Sk → Addr}
def spSt (K : PySem.W.Frag) (CK : Sk → Addr) : Sp := fun vs H Q _ => ∃ (a dx B : Addr) (k : Sk) (z : Str) (x : V) (bs : List (List SR)) (us : List V), vs = [.ref a, .str z, x, .ref B] ∧ H a = some (.ins (CK k) dx []) ∧ SqT K H B us ∧ Paired (BIs K CK H) bs us ∧ Fits bs ∧
  ∀ G fs q, Kp a H G → G a = some (.ins (CK k) dx fs) → fs.length ≤ 10 → StF (mkL k z bs) q fs → q ≠ a → G q = some (.tup ((z :: insd 0 bs).map V.str)) → Q .non G
theorem sc_sti : FnScope ["self", "line", "names", "bodies"] ["self", "line", "names", "bodies"] (defScope m_Statement_init) := ⟨rfl, rfl, rfl, by decide +kernel, rfl, by decide +kernel, by decide +kernel⟩
theorem ok_sti {f : Addr} {fd : FuncData} {dvs : List V} (T : Txt mg) (S : ST2 K mg C CE CS CK) (D : FunD K "__init__" "Statement.__init__" (defArgs m_Statement_init) (defBody m_Statement_init) (defScope m_Statement_init) dvs [] f fd)
    (c_amount : CalF P w K mg base 1 "amount_of" ["bodies"] (spBods K CK fun bs => .int ((amtS bs : Nat) : Int))) (c_height : CalF P w K mg base 2 "height_of" ["bodies"] (spBods K CK fun bs => .int ((hgtS bs : Nat) : Int))) (c_lines : CalF P w K mg base 2 "lines_inside" ["bodies"] (spLines K CK)) :
    FnOk P w K mg base CX0 3 f fd ["self", "line", "names", "bodies"] (spSt K CK) := by
  refine D.ok sc_sti (fun vs H Q E h => ?_) (fun cdv A fr s H vs Q E hr h => ?_)
  · obtain ⟨a, dx, B, k, z, x, bs, us, rfl, _⟩ := h
    rfl
  · obtain ⟨a, dx, B, k, z, x, bs, us, rfl, ha, hB, pb, ft, fin⟩ := h
    have cl := (S.own k).cl
    have na := S.na k
    have f1 := ft.amount
    have f2 := ft.height
    refine ⟨_, pss_cons (ps_fld (pv 0) (pe_op op_add pe_int (pe_cF c_amount hr (by decide) rfl (pa_cons (pv 3) pa_nil))) rfl)
      (pss_cons (ps_fld (pv 0) (pe_op op_add pe_int (pe_cF c_height hr (by decide) rfl (pa_cons (pv 3) pa_nil))) rfl)
      (pss_cons (ps_if (pt_cmpR op_gt (pe_fld (pv 0) rfl) (C8.pe_gc rfl T.g_MAX_STATEMENTS) (nomark _))
        (pss_one ps_never)
        (pss_nil))
      (pss_cons (ps_if (pt_cmpR op_gt (pe_fld (pv 0) rfl) (C8.pe_gc rfl T.g_MAX_LEVEL) (nomark _))
        (pss_one ps_never)
        (pss_nil))
      (pss_cons (ps_fld (pv 0) (pv 2) rfl)
      (pss_cons (ps_fld (pv 0) (pv 3) rfl)
      (pss_one (ps_fld (pv 0) (pe_op op_catT (pe_tup (pa_cons (pv 1) pa_nil)) (pe_cF c_lines hr (by decide) rfl (pa_cons (pv 3) pa_nil))) rfl))))))), ?_⟩
    have e1 : (1 : Int) + ((amtS bs : Nat) : Int) = ((1 + amtS bs : Nat) : Int) := by omega
    have e2 : (1 : Int) + ((hgtS bs : Nat) : Int) = ((1 + hgtS bs : Nat) : Int) := by omega
    refine ⟨_, rfl, B, bs, us, rfl, hB, pb, ft.wide, fun G1 s1 => ⟨_, _, rfl, rfl, _, rfl, a, _, dx, [], rfl, s1 _ _ ha, cl, na _ (by decide +kernel), by decide, ?_⟩⟩
    have k2 := kp_put (o := .ins (CK k) dx (putF "amount" (.int (1 + ((amtS bs : Nat) : Int))) [])) (kp_of (p := a) s1)
    refine ⟨_, rfl, B, bs, us, rfl, seqT_kp hB k2 ha, pair_mem pb fun x y i => i.kp k2 ha, ft.wide, fun G3 s3 => ⟨_, _, rfl, rfl, _, rfl, a, _, dx, _, rfl, s3 _ _ upd_same, cl, na _ (by decide +kernel), Nat.lt_of_le_of_lt (pf pf0) (by decide), ?_⟩⟩
    have k4 := kp_put (o := .ins (CK k) dx (putF "height" (.int (1 + ((hgtS bs : Nat) : Int))) (putF "amount" (.int (1 + ((amtS bs : Nat) : Int))) []))) (k2.trans (kp_of s3))
    refine ⟨_, rfl, a, _, dx, _, _, rfl, upd_same, cl, na _ (by decide +kernel), put_past (ne_S (by decide +kernel)) put_get, _, _, rfl, rfl, _, rfl, ?_⟩
    rw [decide_eq_false (by omega)]
    refine iteF ⟨_, rfl, a, _, dx, _, _, rfl, upd_same, cl, na _ (by decide +kernel), put_get, _, _, rfl, rfl, _, rfl, ?_⟩
    rw [decide_eq_false (by omega)]
    refine iteF ⟨_, rfl, _, rfl, a, _, dx, _, rfl, upd_same, cl, na _ (by decide +kernel), Nat.lt_of_le_of_lt (pf (pf pf0)) (by decide), ?_⟩
    refine ⟨_, rfl, _, rfl, a, _, dx, _, rfl, upd_same, cl, na _ (by decide +kernel), Nat.lt_of_le_of_lt (pf (pf (pf pf0))) (by decide), ?_⟩
    have k6 := kp_put (o := .ins (CK k) dx (putF "bodies" (.ref B) (putF "names" x (putF "height" (.int (1 + ((hgtS bs : Nat) : Int))) (putF "amount" (.int (1 + ((amtS bs : Nat) : Int))) []))))) (kp_put (o := .ins (CK k) dx (putF "names" x (putF "height" (.int (1 + ((hgtS bs : Nat) : Int))) (putF "amount" (.int (1 + ((amtS bs : Nat) : Int))) [])))) k4)
    generalize hG : upd (upd (upd G3 a (.ins (CK k) dx (putF "height" (.int (1 + ((hgtS bs : Nat) : Int))) (putF "amount" (.int (1 + ((amtS bs : Nat) : Int))) [])))) a (.ins (CK k) dx (putF "names" x (putF "height" (.int (1 + ((hgtS bs : Nat) : Int))) (putF "amount" (.int (1 + ((amtS bs : Nat) : Int))) []))))) a (.ins (CK k) dx (putF "bodies" (.ref B) (putF "names" x (putF "height" (.int (1 + ((hgtS bs : Nat) : Int))) (putF "amount" (.int (1 + ((amtS bs : Nat) : Int))) []))))) = G6 at k6
    have a6 : G6 a = some (.ins (CK k) dx (putF "bodies" (.ref B) (putF "names" x (putF "height" (.int (1 + ((hgtS bs : Nat) : Int))) (putF "amount" (.int (1 + ((amtS bs : Nat) : Int))) []))))) := by rw [← hG, upd_same]
    refine ⟨_, rfl, (show 1 ≤ sizeLine by decide), fun q nq => ?_⟩
    have a7 : upd G6 q (.tup [.str z]) a = some (.ins (CK k) dx (putF "bodies" (.ref B) (putF "names" x (putF "height" (.int (1 + ((hgtS bs : Nat) : Int))) (putF "amount" (.int (1 + ((amtS bs : Nat) : Int))) []))))) := by
      rw [upd_ne (fun e => by rw [← e, a6] at nq; cases nq)]
      exact a6
    have k7 : Kp a H (upd G6 q (.tup [.str z])) := k6.trans (kp_of (same_new nq))
    refine ⟨_, rfl, B, bs, us, rfl, seqT_kp hB k7 ha, pair_mem pb fun x y i => i.kp k7 ha, ft, fun G8 r s8 hr8 => ?_⟩
    have a8 := s8 _ _ a7
    have q8 : G8 q = some (.tup [.str z]) := s8 _ _ upd_same
    have hz := insd_two ft
    have k8 := k7.trans (kp_of (p := a) s8)
    generalize insd 0 bs = ls at hr8 hz fin
    -- the fields when lines stands at p
    have close : ∀ (G9 : Hp) (p : Addr), Same G8 G9 → G9 p = some (.tup ((z :: ls).map V.str)) → ∃ a_1 C dx_1 fs, V.ref a = V.ref a_1 ∧ G9 a_1 = some (HO.ins C dx_1 fs) ∧ Cls K C ∧ NoAttr K C "lines" ∧ fs.length < 1000 ∧ Q V.non (upd G9 a_1 (HO.ins C dx_1 (putF "lines" (.ref p) fs))) := fun G9 p s9 hp => by
      have a9 := s9 _ _ a8
      have npa : p ≠ a := fun e => by rw [e, a9] at hp; cases hp
      refine ⟨a, _, dx, _, rfl, a9, cl, na _ (by decide +kernel), Nat.lt_of_le_of_lt (pf (pf (pf (pf pf0)))) (by decide), ?_⟩
      exact fin _ _ p (kp_put (k8.trans (kp_of s9))) upd_same (Nat.le_trans (pf (pf (pf (pf (pf pf0))))) (by decide)) ⟨put_past (ne_S (by decide +kernel)) (put_past (ne_S (by decide +kernel)) (put_past (ne_S (by decide +kernel)) (put_past (ne_S (by decide +kernel)) (put_get.trans (congrArg (fun n : Int => some (V.int n)) e1))))), put_past (ne_S (by decide +kernel)) (put_past (ne_S (by decide +kernel)) (put_past (ne_S (by decide +kernel)) (put_get.trans (congrArg (fun n : Int => some (V.int n)) e2)))), put_get⟩ npa (by rw [upd_ne npa]; exact hp)
    refine ⟨q, r, [.str z], ls.map V.str, rfl, rfl, .inl (.inl q8), .inl (.inl hr8), (fun e => by cases e), ?_, fun e => ?_, fun ne p np => ?_⟩
    · rw [List.length_map]
      exact Nat.le_trans (by show 1 + ls.length ≤ 1000; omega : [V.str z].length + ls.length ≤ 1000) (by decide)
    · have e3 : ls = [] := List.map_eq_nil_iff.mp e
      exact ⟨_, rfl, close G8 q (.refl _) (by rw [e3]; exact q8)⟩
    · exact ⟨_, rfl, close _ p (same_new np) upd_same⟩
end
end Jo

set_option Elab.async false
set_option linter.all false
set_option maxRecDepth 100000
set_option maxHeartbeats 1000000
namespace Jo
open PySem PySem.Spec PyProof.Rows L2 ClX
theorem seqT_ty {K : PySem.W.Frag} {H : Hp} {a : Addr} {xs : List V} (h : SqT K H a xs) : ∃ t, TyX K H (.ref a) t ∧ PySem.W.kitOne K t (.type "tuple") = some true := by
  rcases h with (h | ⟨o, h⟩) | ⟨o, its, n, h1, h2, _⟩
  · exact ⟨_, .base (.tup h), kit_ty (by decide +kernel)⟩
  · exact ⟨_, .fTuple h, kit_ty (by decide +kernel)⟩
  · exact ⟨_, .kTuple h1 h2, kit_ty (by decide +kernel)⟩
theorem SIs.ins {CK : Sk → Addr} {H : Hp} {s : SR} {v : V} (h : SIs CK H s v) : ∃ a dx fs, v = .ref a ∧ H a = some (.ins (CK s.kind) dx fs) := by
  obtain ⟨a, dx, q, fs, e, h1, _⟩ := h
  exact ⟨a, dx, fs, e, h1⟩
section
variable {P : Program} {w : World} {K : PySem.W.Frag} {mg : Str → Option Value} {base : Heap} {C : Kd → Addr} {CE CS : Addr} {CK : Sk → Addr}
theorem sc_check_name : FnScope ["value"] ["value"] (defScope s_check_name) := ⟨rfl, rfl, rfl, by decide +kernel, rfl, by decide +kernel, by decide +kernel⟩
def spCheckName : Sp := fun vs H Q _ => ∃ z : Str, vs = [.str z] ∧ nmS z = true ∧ ∀ H', Same H H' → Q .non H'
theorem ok_check_name (D : Dfn K mg "check_name" s_check_name ["value"]) (c_is_name : CalF P w K mg base 1 "is_name" ["value"] (spIsName K)) : CalF P w K mg base 2 "check_name" ["value"] spCheckName := by
  refine D.okF sc_check_name (fun vs H Q E h => ?_) (fun f cdv A fr s H vs Q E hr h => ?_)
  · obtain ⟨z, rfl, _⟩ := h
    rfl
  · obtain ⟨z, rfl, nz, fin⟩ := h
    refine ⟨_, pss_one (ps_if (pt_not (pt_val (pe_cF c_is_name hr (by decide) rfl (pa_cons (pv 0) pa_nil))))
        (pss_one ps_never)
        (pss_nil)), ?_⟩
    have l8 := nm_len nz
    exact ⟨_, rfl, .str z, rfl, any_str z, (fun y e => by cases e; omega), fun H1 s1 => ⟨true, by show V.bl (nmS z) = _; rw [nz], iteF (fin H1 s1)⟩⟩
def n_check_expression : List Str := ["value"]
theorem sc_check_expression : FnScope n_check_expression ["value"] (defScope s_check_expression) := ⟨rfl, rfl, rfl, by decide +kernel, rfl, by decide +kernel, by decide +kernel⟩
def spCheckEx (C : Kd → Addr) : Sp := fun vs H Q _ => ∃ (t : Tr) (x : V), vs = [x] ∧ Is C H t x ∧ Q .non H
theorem ok_check_expression (T : Txt mg) (X : XT K mg C CE) (D : Dfn K mg "check_expression" s_check_expression ["value"]) : CalF P w K mg base 1 "check_expression" ["value"] (spCheckEx C) := by
  refine D.okF sc_check_expression (fun vs H Q E h => ?_) (fun f cdv A fr s H vs Q E hr h => ?_)
  · obtain ⟨t, x, rfl, _⟩ := h
    rfl
  · obtain ⟨t, x, rfl, ix, fin⟩ := h
    refine ⟨_, pss_one (ps_if (pt_not (pt_val (pe_callB call_isi rfl T.b_isinstance (by decide +kernel) (pa_cons (pv 0) (pa_cons (pe_glob (v := .ref CE) rfl X.mgE rfl) pa_nil)))))
        (pss_one ps_never)
        (pss_nil)), ?_⟩
    obtain ⟨a, fs, rfl, hh⟩ := ix.has
    obtain ⟨dx, ha⟩ := hh.at_
    exact ⟨_, rfl, _, _, _, _, true, rfl, .own CE, (X.own _).ty ha, X.kitE _, true, rfl, iteF fin⟩
def n_check_body : List Str := ["body", "index", "statement"]
theorem sc_check_body : FnScope n_check_body ["body"] (defScope s_check_body) := ⟨rfl, rfl, rfl, by decide +kernel, rfl, by decide +kernel, by decide +kernel⟩
def spCheckBody (K : PySem.W.Frag) (CK : Sk → Addr) : Sp := fun vs H Q _ => ∃ (b : List SR) (v : V), vs = [v] ∧ BIs K CK H b v ∧ ∀ H', Same H H' → Q .non H'
theorem ok_check_body (T : Txt mg) (S : ST2 K mg C CE CS CK) (D : Dfn K mg "check_body" s_check_body ["body"]) : CalF P w K mg base 1 "check_body" ["body"] (spCheckBody K CK) := by
  refine D.okF sc_check_body (fun vs H Q E h => ?_) (fun f cdv A fr s H vs Q E hr h => ?_)
  · obtain ⟨b, v, rfl, _⟩ := h
    rfl
  · obtain ⟨b, v, rfl, ⟨q, us, rfl, hq, ps⟩, fin⟩ := h
    obtain ⟨ty, ht, hk⟩ := seqT_ty hq
    refine ⟨_, pss_cons (ps_if (pt_not (pt_val (pe_callB call_isi rfl T.b_isinstance (by decide +kernel) (pa_cons (pv 0) (pa_cons (pe_bltn (v := .ty "tuple") (u := .type "tuple") rfl T.b_tuple (by decide +kernel) rfl) pa_nil)))))
        (pss_one ps_never)
        (pss_nil))
      (pss_one (ps_for PassesOwn.never rfl (pi_enumT rfl T.b_enumerate (pa_cons (pv 0) pa_nil)) (pg_tup rfl (pgs_cons (pg_name (i := 1) sc_check_body.nd rfl (.inl rfl)) (pgs_cons (pg_name (i := 2) sc_check_body.nd rfl (.inl rfl)) pgs_nil)))
        (pss_one (ps_if (pt_not (pt_val (pe_callB call_isi rfl T.b_isinstance (by decide +kernel) (pa_cons (pv 2) (pa_cons (pe_glob (v := .ref CS) rfl S.mgS rfl) pa_nil)))))
            (pss_one ps_never)
            (pss_nil))))), ?_⟩
    refine ⟨_, rfl, _, _, ty, _, true, rfl, .ty "tuple", ht, hk, true, rfl, iteF ?_⟩
    refine ⟨_, rfl, q, _, rfl, hq, for_it (walk_enumT (K := K) (a := q) (xs := us)) (fun i σ H1 => Same H H1 ∧ ∃ y1 y2 : Option V, σ = [some (.ref q), y1, y2]) ⟨Same.refl _, _, _, rfl⟩ (fun i σ H1 _ hp => seqT_same hq hp.1) (fun i x σ H1 H1' hi hp hy => ?_) (fun σ H1 hp => ?_)⟩
    · obtain ⟨s1, y1, y2, rfl⟩ := hp
      obtain ⟨Tp, a, b2, rfl, hT, rfl, ea, eb⟩ := hy
      have s2 := s1.trans (same_new (o := .tup [a, b2]) hT)
      obtain ⟨s, hs, is⟩ := pair_at ps eb
      obtain ⟨a3, dx, fs, rfl, h3⟩ := (is.same s2).ins
      refine ⟨Tp, _, rfl, .inl (.inl upd_same), rfl, _, _, rfl, _, _, rfl, rfl, ?_⟩
      exact ⟨_, rfl, _, _, _, _, true, rfl, .own CS, (S.own _).ty h3, S.kitS _, true, rfl, iteF ⟨s2, _, _, rfl⟩⟩
    · obtain ⟨s1, y1, y2, rfl⟩ := hp
      exact fin H1 s1
end
end Jo

set_option Elab.async false
set_option linter.all false
set_option maxRecDepth 100000
set_option maxHeartbeats 1000000
namespace Jo
open PySem PySem.Spec PyProof.Rows L2 ClX
/-- Statement's __init__ with its two defaults, empty tuples at e1 and e2 -/
structure StI (K : PySem.W.Frag) (CS : Addr) : Prop where
  ex : ∃ (f : Addr) (fd : FuncData) (e1 e2 : Addr), FunD K "__init__" "Statement.__init__" (defArgs m_Statement_init) (defBody m_Statement_init) (defScope m_Statement_init) [.ref e1, .ref e2] [] f fd ∧ ClFn K CS "__init__" f ∧ PySem.W.keepIn K (.ref f) = true ∧
    (∀ H, SqT K H e1 []) ∧ (∀ H, SqT K H e2 []) ∧ Binds K fd ["self", "line", "names", "bodies"] [] ∧ (∃ ds, Vals [V.ref e1, V.ref e2] ds ∧ Binds K fd ["self", "line", "names", "bodies"] ds) ∧ (∃ ds, Vals [V.ref e2] ds ∧ Binds K fd ["self", "line", "names", "bodies"] ds)
structure StC (P : Program) (w : World) (K : PySem.W.Frag) (mg : Str → Option Value) (base : Heap) (CS : Addr) (CK : Sk → Addr) : Prop where
  ex : ∃ (f : Addr) (fd : FuncData) (e1 e2 : Addr), FnOk P w K mg base CX0 3 f fd ["self", "line", "names", "bodies"] (spSt K CK) ∧ ClFn K CS "__init__" f ∧ PySem.W.keepIn K (.ref f) = true ∧
    (∀ H, SqT K H e1 []) ∧ (∀ H, SqT K H e2 []) ∧ Binds K fd ["self", "line", "names", "bodies"] [] ∧ (∃ ds, Vals [V.ref e1, V.ref e2] ds ∧ Binds K fd ["self", "line", "names", "bodies"] ds) ∧ (∃ ds, Vals [V.ref e2] ds ∧ Binds K fd ["self", "line", "names", "bodies"] ds)
theorem Lim.len {t : Tr} (l : Lim t) : t.text.length ≤ 640 := by
  have := Tr.text_len (fun x h => nm_len h) l.ok
  have := l.parts
  omega
theorem fits0 : Fits [] := ⟨Nat.zero_le _, (fun s h => by cases h), Nat.zero_le _, Nat.zero_le _⟩
section
variable {P : Program} {w : World} {K : PySem.W.Frag} {mg : Str → Option Value} {base : Heap} {C : Kd → Addr} {CE CS : Addr} {CK : Sk → Addr}
theorem stC_of (T : Txt mg) (S : ST2 K mg C CE CS CK) (I : StI K CS) (c_amount : CalF P w K mg base 1 "amount_of" ["bodies"] (spBods K CK fun bs => .int ((amtS bs : Nat) : Int))) (c_height : CalF P w K mg base 2 "height_of" ["bodies"] (spBods K CK fun bs => .int ((hgtS bs : Nat) : Int))) (c_lines : CalF P w K mg base 2 "lines_inside" ["bodies"] (spLines K CK)) :
    StC P w K mg base CS CK := by
  obtain ⟨f, fd, e1, e2, D, r⟩ := I.ex
  exact ⟨f, fd, e1, e2, ok_sti T S D c_amount c_height c_lines, r⟩
/-- what a kind's __init__ leads to -/
def Made (CK : Sk → Addr) (H : Hp) (a : Addr) (s : SR) (Q : VK) : Prop := ∀ G, Kp a H G → SIs CK G s (.ref a) → Q .non G
theorem ex_str (X : XT K mg C CE) {H : Hp} {t : Tr} {v : V} (i : Is C H t v) : ∃ (b dy q : Addr) (fs : List (Str × V)), v = .ref b ∧ H b = some (.ins (C t.kd) dy fs) ∧ fs.lookup ("names" : Str) = some (.ref q) := by
  obtain ⟨b, fs, e, hh⟩ := i.has
  obtain ⟨dy, hb⟩ := hh.at_
  obtain ⟨q, hq, _⟩ := hh.names
  exact ⟨b, dy, q, fs, e, hb, hq⟩
theorem l_assign : ("assign " : Str).length = 7 := by decide +kernel
theorem l_if : ("if " : Str).length = 3 := by decide +kernel
theorem l_while : ("while " : Str).length = 6 := by decide +kernel
theorem l_call : ("call " : Str).length = 5 := by decide +kernel
theorem l_return : ("return " : Str).length = 7 := by decide +kernel
theorem l_into : (" into " : Str).length = 6 := by decide +kernel
theorem l_sp : (" " : Str).length = 1 := by decide +kernel
theorem sc_assign : FnScope ["self", "name", "expression"] ["self", "name", "expression"] (defScope m_Assign_init) := ⟨rfl, rfl, rfl, by decide +kernel, rfl, by decide +kernel, by decide +kernel⟩
def spAssign (C : Kd → Addr) (CK : Sk → Addr) : Sp := fun vs H Q _ => ∃ (a dx : Addr) (x : Str) (t : Tr) (v : V), vs = [.ref a, .str x, v] ∧ H a = some (.ins (CK .assign) dx []) ∧ nmS x = true ∧ Is C H t v ∧ Lim t ∧ Made CK H a (mkS (.assign x t) []) Q
theorem ok_assign (T : Txt mg) (X : XT K mg C CE) (XM : ∀ k, PySem.W.mroIn K (C k) (.type "object") = some true) (O : Own P w K mg base 1 "__str__" ["self"] (IsK C) (spExStr C)) (S : ST2 K mg C CE CS CK) (c : StC P w K mg base CS CK) (c_ex : CalF P w K mg base 1 "check_expression" ["value"] (spCheckEx C)) (c_nm : CalF P w K mg base 2 "check_name" ["value"] spCheckName) (c_bd : CalF P w K mg base 1 "check_body" ["body"] (spCheckBody K CK)) (D : Mth K (CK .assign) "__init__" "Assign.__init__" m_Assign_init ["self", "name", "expression"]) : MtF P w K mg base 4 (CK .assign) "__init__" ["self", "name", "expression"] (spAssign C CK) := by
  refine D.okF sc_assign (fun vs H Q E h => ?_) (fun f cdv A fr s H vs Q E hr h => ?_)
  · obtain ⟨a, dx, x, t, v, rfl, _⟩ := h
    rfl
  · obtain ⟨a, dx, x, t, v, rfl, ha, nx, ix, lt, fin⟩ := h
    obtain ⟨f2, fd2, e1, e2, F, cf, kp, t1, t2, b0, ⟨ds2, rv2, bn2⟩, ds1, rv1, bn1⟩ := c.ex
    refine ⟨_, pss_cons (ps_expr (pe_cF c_nm hr (by decide) rfl (pa_cons (pv 1) pa_nil)))
      (pss_cons (ps_expr (pe_cF c_ex hr (by decide) rfl (pa_cons (pv 2) pa_nil)))
      (pss_cons (ps_expr (pe_cfn (pe_glob (v := .ref CS) rfl S.mgS rfl) cf F hr (by decide) kp bn1 rv1 (pa_cons (pv 0) (pa_cons (pe_joined (.cons pe_str (.cons (pe_fmt (pv 1)) (.cons pe_str (.cons (pe_fmtO (pv 2) O (fun A ⟨k, e⟩ => by rw [e]; exact ⟨X.fmt k, XM k⟩) (hr.mono (by decide))) .nil))))) (pa_cons (pe_fld (pv 2) rfl) pa_nil)))))
      (pss_cons (ps_fld (pv 0) (pv 1) rfl)
      (pss_one (ps_fld (pv 0) (pv 2) rfl))))), ?_⟩
    refine ⟨_, rfl, x, rfl, nx, fun H1 s1 => ?_⟩
    have ix2 := ix.same s1
    refine ⟨_, rfl, t, v, rfl, ix2, ?_⟩
    obtain ⟨b2, dy, q, fs, rfl, hb, hq1⟩ := ex_str X ix2
    have lx := nm_len nx
    have le := lt.len
    refine ⟨rfl, _, rfl, "assign ", rfl, by rw [empty_cat, l_assign]; exact small_len (by decide), _, rfl, .inl ⟨x, rfl, small_len (by omega), x, rfl, by rw [empty_cat, len_cat, l_assign]; exact small_len (by omega), " ", rfl, by rw [empty_cat, len_cat, len_cat, l_assign, l_sp]; exact small_len (by omega), _, rfl, b2, _, dy, fs, rfl, ⟨t.kd, rfl⟩, hb, t, .ref b2, rfl, ix2, ⟨_, rfl⟩, t.text, rfl, ?_, ?_⟩⟩
    · rw [empty_cat, len_cat, len_cat, len_cat, l_assign, l_sp]
      exact small_len (by omega)
    · rw [empty_cat]
      refine ⟨_, rfl, b2, _, dy, fs, _, rfl, hb, (X.own _).cl, X.nof _ (by decide +kernel), hq1, ?_⟩
      refine ⟨a, dx, e2, .assign, _, _, [], [], rfl, s1 _ _ ha, t2 _, .nil, fits0, fun G fs3 q kG aG hf SF nq hq => ?_⟩
      exact ⟨_, rfl, _, rfl, a, _, dx, _, rfl, aG, (S.own _).cl, S.na _ _ (by decide +kernel), Nat.lt_of_le_of_lt hf (by decide), _, rfl, _, rfl, a, _, dx, _, rfl, upd_same, (S.own _).cl, S.na _ _ (by decide +kernel), Nat.lt_of_le_of_lt (pf hf) (by decide), fin _ (kp_put (kp_put ((kp_of s1).trans kG))) (StF.is (StF.put (StF.put SF (by decide +kernel)) (by decide +kernel)) upd_same (by rw [upd_ne nq, upd_ne nq]; exact hq))⟩
theorem sc_return : FnScope ["self", "expression"] ["self", "expression"] (defScope m_Return_init) := ⟨rfl, rfl, rfl, by decide +kernel, rfl, by decide +kernel, by decide +kernel⟩
def spReturn (C : Kd → Addr) (CK : Sk → Addr) : Sp := fun vs H Q _ => ∃ (a dx : Addr) (t : Tr) (v : V), vs = [.ref a, v] ∧ H a = some (.ins (CK .ret) dx []) ∧ Is C H t v ∧ Lim t ∧ Made CK H a (mkS (.ret t) []) Q
theorem ok_return (T : Txt mg) (X : XT K mg C CE) (XM : ∀ k, PySem.W.mroIn K (C k) (.type "object") = some true) (O : Own P w K mg base 1 "__str__" ["self"] (IsK C) (spExStr C)) (S : ST2 K mg C CE CS CK) (c : StC P w K mg base CS CK) (c_ex : CalF P w K mg base 1 "check_expression" ["value"] (spCheckEx C)) (c_nm : CalF P w K mg base 2 "check_name" ["value"] spCheckName) (c_bd : CalF P w K mg base 1 "check_body" ["body"] (spCheckBody K CK)) (D : Mth K (CK .ret) "__init__" "Return.__init__" m_Return_init ["self", "expression"]) : MtF P w K mg base 4 (CK .ret) "__init__" ["self", "expression"] (spReturn C CK) := by
  refine D.okF sc_return (fun vs H Q E h => ?_) (fun f cdv A fr s H vs Q E hr h => ?_)
  · obtain ⟨a, dx, t, v, rfl, _⟩ := h
    rfl
  · obtain ⟨a, dx, t, v, rfl, ha, ix2, lt, fin⟩ := h
    obtain ⟨f2, fd2, e1, e2, F, cf, kp, t1, t2, b0, ⟨ds2, rv2, bn2⟩, ds1, rv1, bn1⟩ := c.ex
    refine ⟨_, pss_cons (ps_expr (pe_cF c_ex hr (by decide) rfl (pa_cons (pv 1) pa_nil)))
      (pss_cons (ps_expr (pe_cfn (pe_glob (v := .ref CS) rfl S.mgS rfl) cf F hr (by decide) kp bn1 rv1 (pa_cons (pv 0) (pa_cons (pe_joined (.cons pe_str (.cons (pe_fmtO (pv 1) O (fun A ⟨k, e⟩ => by rw [e]; exact ⟨X.fmt k, XM k⟩) (hr.mono (by decide))) .nil))) (pa_cons (pe_fld (pv 1) rfl) pa_nil)))))
      (pss_one (ps_fld (pv 0) (pv 1) rfl))), ?_⟩
    refine ⟨_, rfl, t, v, rfl, ix2, ?_⟩
    obtain ⟨b2, dy, q, fs, rfl, hb, hq1⟩ := ex_str X ix2
    have le := lt.len
    refine ⟨rfl, _, rfl, "return ", rfl, by rw [empty_cat, l_return]; exact small_len (by decide), _, rfl, b2, _, dy, fs, rfl, ⟨t.kd, rfl⟩, hb, t, .ref b2, rfl, ix2, ⟨_, rfl⟩, t.text, rfl, ?_, ?_⟩
    · rw [empty_cat, len_cat, l_return]
      exact small_len (by omega)
    · rw [empty_cat]
      refine ⟨_, rfl, b2, _, dy, fs, _, rfl, hb, (X.own _).cl, X.nof _ (by decide +kernel), hq1, ?_⟩
      refine ⟨a, dx, e2, .ret, _, _, [], [], rfl, ha, t2 _, .nil, fits0, fun G fs3 q kG aG hf SF nq hq => ?_⟩
      exact ⟨_, rfl, _, rfl, a, _, dx, _, rfl, aG, (S.own _).cl, S.na _ _ (by decide +kernel), Nat.lt_of_le_of_lt hf (by decide), fin _ (kp_put (kG)) (StF.is (StF.put SF (by decide +kernel)) upd_same (by rw [upd_ne nq]; exact hq))⟩
theorem sc_fail : FnScope ["self"] ["self"] (defScope m_Fail_init) := ⟨rfl, rfl, rfl, by decide +kernel, rfl, by decide +kernel, by decide +kernel⟩
def spFail (CK : Sk → Addr) : Sp := fun vs H Q _ => ∃ (a dx : Addr), vs = [.ref a] ∧ H a = some (.ins (CK .fail) dx []) ∧ Made CK H a (mkS .fail []) Q
theorem ok_fail (S : ST2 K mg C CE CS CK) (c : StC P w K mg base CS CK) (D : Mth K (CK .fail) "__init__" "Fail.__init__" m_Fail_init ["self"]) : MtF P w K mg base 4 (CK .fail) "__init__" ["self"] (spFail CK) := by
  refine D.okF sc_fail (fun vs H Q E h => ?_) (fun f cdv A fr s H vs Q E hr h => ?_)
  · obtain ⟨a, dx, rfl, _⟩ := h
    rfl
  · obtain ⟨a, dx, rfl, ha, fin⟩ := h
    obtain ⟨f2, fd2, e1, e2, F, cf, kp, t1, t2, b0, ⟨ds2, rv2, bn2⟩, ds1, rv1, bn1⟩ := c.ex
    refine ⟨_, pss_one (ps_expr (pe_cfn (pe_glob (v := .ref CS) rfl S.mgS rfl) cf F hr (by decide) kp bn2 rv2 (pa_cons (pv 0) (pa_cons pe_str pa_nil)))), ?_⟩
    exact ⟨rfl, _, rfl, a, dx, e2, .fail, _, _, [], [], rfl, ha, t2 _, .nil, fits0, fun G fs3 q kG aG hf SF nq hq => fin _ kG (SF.is aG hq)⟩
theorem sc_if : FnScope ["self", "test", "body", "otherwise"] ["self", "test", "body", "otherwise"] (defScope m_If_init) := ⟨rfl, rfl, rfl, by decide +kernel, rfl, by decide +kernel, by decide +kernel⟩
def spIf (K : PySem.W.Frag) (C : Kd → Addr) (CK : Sk → Addr) : Sp := fun vs H Q _ => ∃ (a dx : Addr) (t : Tr) (v v1 v2 : V) (b1 b2 : List SR), vs = [.ref a, v, v1, v2] ∧ H a = some (.ins (CK .ifs) dx []) ∧ Is C H t v ∧ Lim t ∧ BIs K CK H b1 v1 ∧ BIs K CK H b2 v2 ∧ Fits [b1, b2] ∧ Made CK H a (mkS (.ifs t) [b1, b2]) Q
theorem ok_if (T : Txt mg) (X : XT K mg C CE) (XM : ∀ k, PySem.W.mroIn K (C k) (.type "object") = some true) (O : Own P w K mg base 1 "__str__" ["self"] (IsK C) (spExStr C)) (S : ST2 K mg C CE CS CK) (c : StC P w K mg base CS CK) (c_ex : CalF P w K mg base 1 "check_expression" ["value"] (spCheckEx C)) (c_nm : CalF P w K mg base 2 "check_name" ["value"] spCheckName) (c_bd : CalF P w K mg base 1 "check_body" ["body"] (spCheckBody K CK)) {f : Addr} {fd : FuncData} {dvs : List V} (D : FunD K "__init__" "If.__init__" (defArgs m_If_init) (defBody m_If_init) (defScope m_If_init) dvs [] f fd) : FnOk P w K mg base CX0 4 f fd ["self", "test", "body", "otherwise"] (spIf K C CK) := by
  refine D.ok sc_if (fun vs H Q E h => ?_) (fun cdv A fr s H vs Q E hr h => ?_)
  · obtain ⟨a, dx, t, v, v1, v2, b1, b2, rfl, _⟩ := h
    rfl
  · obtain ⟨a, dx, t, v, v1, v2, bb1, bb2, rfl, ha, ix, lt, i1, i2, ft, fin⟩ := h
    obtain ⟨f2, fd2, e1, e2, F, cf, kp, t1, t2, b0, ⟨ds2, rv2, bn2⟩, ds1, rv1, bn1⟩ := c.ex
    refine ⟨_, pss_cons (ps_expr (pe_cF c_ex hr (by decide) rfl (pa_cons (pv 1) pa_nil)))
      (pss_cons (ps_expr (pe_cF c_bd hr (by decide) rfl (pa_cons (pv 2) pa_nil)))
      (pss_cons (ps_expr (pe_cF c_bd hr (by decide) rfl (pa_cons (pv 3) pa_nil)))
      (pss_cons (ps_expr (pe_cfn (pe_glob (v := .ref CS) rfl S.mgS rfl) cf F hr (by decide) kp b0 .nil (pa_cons (pv 0) (pa_cons (pe_joined (.cons pe_str (.cons (pe_fmtO (pv 1) O (fun A ⟨k, e⟩ => by rw [e]; exact ⟨X.fmt k, XM k⟩) (hr.mono (by decide))) .nil))) (pa_cons (pe_fld (pv 1) rfl) (pa_cons (pe_tup (pa_cons (pv 2) (pa_cons (pv 3) pa_nil))) pa_nil))))))
      (pss_cons (ps_fld (pv 0) (pv 1) rfl)
      (pss_cons (ps_fld (pv 0) (pv 2) rfl)
      (pss_one (ps_fld (pv 0) (pv 3) rfl))))))), ?_⟩
    refine ⟨_, rfl, t, v, rfl, ix, ?_⟩
    refine ⟨_, rfl, bb1, v1, rfl, i1, fun H0 s0 => ?_⟩
    refine ⟨_, rfl, bb2, v2, rfl, i2.same s0, fun H1 s01 => ?_⟩
    have s1 := s0.trans s01
    have ix2 := ix.same s1
    obtain ⟨b2, dy, q, fs, rfl, hb, hq1⟩ := ex_str X ix2
    have le := lt.len
    refine ⟨rfl, _, rfl, "if ", rfl, by rw [empty_cat, l_if]; exact small_len (by decide), _, rfl, b2, _, dy, fs, rfl, ⟨t.kd, rfl⟩, hb, t, .ref b2, rfl, ix2, ⟨_, rfl⟩, t.text, rfl, ?_, ?_⟩
    · rw [empty_cat, len_cat, l_if]
      exact small_len (by omega)
    · rw [empty_cat]
      refine ⟨_, rfl, b2, _, dy, fs, _, rfl, hb, (X.own _).cl, X.nof _ (by decide +kernel), hq1, ?_⟩
      refine ⟨_, rfl, _, rfl, (show 2 ≤ sizeLine by decide), fun B nB => ?_⟩
      have s2 := s1.trans (same_new (o := .tup [v1, v2]) nB)
      refine ⟨a, dx, B, .ifs, _, _, [bb1, bb2], [v1, v2], rfl, s2 _ _ ha, .inl (.inl upd_same), .cons (i1.same s2) (.cons (i2.same s2) .nil), ft, fun G fs3 q kG aG hf SF nq hq => ?_⟩
      exact ⟨_, rfl, _, rfl, a, _, dx, _, rfl, aG, (S.own _).cl, S.na _ _ (by decide +kernel), Nat.lt_of_le_of_lt hf (by decide), _, rfl, _, rfl, a, _, dx, _, rfl, upd_same, (S.own _).cl, S.na _ _ (by decide +kernel), Nat.lt_of_le_of_lt (pf hf) (by decide), _, rfl, _, rfl, a, _, dx, _, rfl, upd_same, (S.own _).cl, S.na _ _ (by decide +kernel), Nat.lt_of_le_of_lt (pf (pf hf)) (by decide), fin _ (kp_put (kp_put (kp_put ((kp_of s2).trans kG)))) (StF.is (StF.put (StF.put (StF.put SF (by decide +kernel)) (by decide +kernel)) (by decide +kernel)) upd_same (by rw [upd_ne nq, upd_ne nq, upd_ne nq]; exact hq))⟩
def ovS : Option Str → V
  | none => .non
  | some y => .str y
theorem sc_call : FnScope ["self", "name", "expression", "into", "line"] ["self", "name", "expression", "into"] (defScope m_Call_init) := ⟨rfl, rfl, rfl, by decide +kernel, rfl, by decide +kernel, by decide +kernel⟩
def spCall (C : Kd → Addr) (CK : Sk → Addr) : Sp := fun vs H Q _ => ∃ (a dx : Addr) (x : Str) (t : Tr) (v : V) (o : Option Str), vs = [.ref a, .str x, v, ovS o] ∧ H a = some (.ins (CK .call) dx []) ∧ nmS x = true ∧ (∀ y, o = some y → nmS y = true) ∧ Is C H t v ∧ Lim t ∧ Made CK H a (mkS (.call x t o) []) Q
theorem ok_call (T : Txt mg) (X : XT K mg C CE) (XM : ∀ k, PySem.W.mroIn K (C k) (.type "object") = some true) (O : Own P w K mg base 1 "__str__" ["self"] (IsK C) (spExStr C)) (S : ST2 K mg C CE CS CK) (c : StC P w K mg base CS CK) (c_ex : CalF P w K mg base 1 "check_expression" ["value"] (spCheckEx C)) (c_nm : CalF P w K mg base 2 "check_name" ["value"] spCheckName) (c_bd : CalF P w K mg base 1 "check_body" ["body"] (spCheckBody K CK)) {f : Addr} {fd : FuncData} {dvs : List V} (D : FunD K "__init__" "Call.__init__" (defArgs m_Call_init) (defBody m_Call_init) (defScope m_Call_init) dvs [] f fd) : FnOk P w K mg base CX0 4 f fd ["self", "name", "expression", "into"] (spCall C CK) := by
  refine D.ok sc_call (fun vs H Q E h => ?_) (fun cdv A fr s H vs Q E hr h => ?_)
  · obtain ⟨a, dx, x, t, v, o, rfl, _⟩ := h
    rfl
  · obtain ⟨a, dx, x, t, v, o, rfl, ha, nx, no, ix, lt, fin⟩ := h
    obtain ⟨f2, fd2, e1, e2, F, cf, kp, t1, t2, b0, ⟨ds2, rv2, bn2⟩, ds1, rv1, bn1⟩ := c.ex
    refine ⟨_, pss_cons (ps_expr (pe_cF c_nm hr (by decide) rfl (pa_cons (pv 1) pa_nil)))
      (pss_cons (ps_expr (pe_cF c_ex hr (by decide) rfl (pa_cons (pv 2) pa_nil)))
      (pss_cons (ps_set (i := 4) sc_call.nd rfl (.inl rfl) (pe_joined (.cons pe_str (.cons (pe_fmt (pv 1)) (.cons pe_str (.cons (pe_fmtO (pv 2) O (fun A ⟨k, e⟩ => by rw [e]; exact ⟨X.fmt k, XM k⟩) (hr.mono (by decide))) .nil))))))
      (pss_cons (ps_if (pt_cmpR op_notN (pv 3) pe_non (nomark _))
          (pss_cons (ps_expr (pe_cF c_nm hr (by decide) rfl (pa_cons (pv 3) pa_nil)))
          (pss_one (ps_set (i := 4) sc_call.nd rfl (.inl rfl) (pe_joined (.cons (pe_fmt (pv 4)) (.cons pe_str (.cons (pe_fmt (pv 3)) .nil)))))))
          (pss_nil))
      (pss_cons (ps_expr (pe_cfn (pe_glob (v := .ref CS) rfl S.mgS rfl) cf F hr (by decide) kp bn1 rv1 (pa_cons (pv 0) (pa_cons (pv 4) (pa_cons (pe_fld (pv 2) rfl) pa_nil)))))
      (pss_cons (ps_fld (pv 0) (pv 1) rfl)
      (pss_cons (ps_fld (pv 0) (pv 2) rfl)
      (pss_one (ps_fld (pv 0) (pv 3) rfl)))))))), ?_⟩
    refine ⟨_, rfl, x, rfl, nx, fun H1 s1 => ?_⟩
    have ix2 := ix.same s1
    refine ⟨_, rfl, t, v, rfl, ix2, ?_⟩
    obtain ⟨b2, dy, q, fs, rfl, hb, hq1⟩ := ex_str X ix2
    have lx := nm_len nx
    have le := lt.len
    refine ⟨"call ", rfl, by rw [empty_cat, l_call]; exact small_len (by decide), _, rfl, .inl ⟨x, rfl, small_len (by omega), x, rfl, by rw [empty_cat, len_cat, l_call]; exact small_len (by omega), " ", rfl, by rw [empty_cat, len_cat, len_cat, l_call, l_sp]; exact small_len (by omega), _, rfl, b2, _, dy, fs, rfl, ⟨t.kd, rfl⟩, hb, t, .ref b2, rfl, ix2, ⟨_, rfl⟩, t.text, rfl, ?_, ?_⟩⟩
    · rw [empty_cat, len_cat, len_cat, len_cat, l_call, l_sp]
      exact small_len (by omega)
    · rw [empty_cat]
      cases o with
      | none =>
        refine ⟨_, rfl, rfl, _, rfl, iteF ?_⟩
        refine ⟨rfl, _, rfl, _, rfl, _, rfl, b2, _, dy, fs, _, rfl, hb, (X.own _).cl, X.nof _ (by decide +kernel), hq1, ?_⟩
        refine ⟨a, dx, e2, .call, _, _, [], [], rfl, s1 _ _ ha, t2 _, .nil, fits0, fun G fs3 q kG aG hf SF nq hq => ?_⟩
        exact ⟨_, rfl, _, rfl, a, _, dx, _, rfl, aG, (S.own _).cl, S.na _ _ (by decide +kernel), Nat.lt_of_le_of_lt hf (by decide), _, rfl, _, rfl, a, _, dx, _, rfl, upd_same, (S.own _).cl, S.na _ _ (by decide +kernel), Nat.lt_of_le_of_lt (pf hf) (by decide), _, rfl, _, rfl, a, _, dx, _, rfl, upd_same, (S.own _).cl, S.na _ _ (by decide +kernel), Nat.lt_of_le_of_lt (pf (pf hf)) (by decide), fin _ (kp_put (kp_put (kp_put ((kp_of s1).trans kG)))) (StF.is (StF.put (StF.put (StF.put SF (by decide +kernel)) (by decide +kernel)) (by decide +kernel)) upd_same (by rw [upd_ne nq, upd_ne nq, upd_ne nq]; exact hq))⟩
      | some y =>
        have ny := no y rfl
        have ly := nm_len ny
        refine ⟨_, rfl, rfl, _, rfl, iteT ?_⟩
        refine ⟨_, rfl, y, rfl, ny, fun H2 s2 => ?_⟩
        have hb := s2 _ _ hb
        refine ⟨_, rfl, .inl ⟨_, rfl, by rw [len_cat, len_cat, len_cat, l_call, l_sp]; exact small_len (by omega), _, rfl, by rw [empty_cat, len_cat, len_cat, len_cat, l_call, l_sp]; exact small_len (by omega), " into ", rfl, by rw [empty_cat, len_cat, len_cat, len_cat, len_cat, l_call, l_sp, l_into]; exact small_len (by omega), _, rfl, .inl ⟨y, rfl, small_len (by omega), y, rfl, by rw [empty_cat, len_cat, len_cat, len_cat, len_cat, len_cat, l_call, l_sp, l_into]; exact small_len (by omega), ?_⟩⟩⟩
        rw [empty_cat]
        refine ⟨rfl, _, rfl, _, rfl, _, rfl, b2, _, dy, fs, _, rfl, hb, (X.own _).cl, X.nof _ (by decide +kernel), hq1, ?_⟩
        refine ⟨a, dx, e2, .call, _, _, [], [], rfl, s2 _ _ (s1 _ _ ha), t2 _, .nil, fits0, fun G fs3 q kG aG hf SF nq hq => ?_⟩
        exact ⟨_, rfl, _, rfl, a, _, dx, _, rfl, aG, (S.own _).cl, S.na _ _ (by decide +kernel), Nat.lt_of_le_of_lt hf (by decide), _, rfl, _, rfl, a, _, dx, _, rfl, upd_same, (S.own _).cl, S.na _ _ (by decide +kernel), Nat.lt_of_le_of_lt (pf hf) (by decide), _, rfl, _, rfl, a, _, dx, _, rfl, upd_same, (S.own _).cl, S.na _ _ (by decide +kernel), Nat.lt_of_le_of_lt (pf (pf hf)) (by decide), fin _ (kp_put (kp_put (kp_put ((kp_of (s1.trans s2)).trans kG)))) (StF.is (StF.put (StF.put (StF.put SF (by decide +kernel)) (by decide +kernel)) (by decide +kernel)) upd_same (by rw [upd_ne nq, upd_ne nq, upd_ne nq]; exact hq))⟩
end
end Jo

set_option Elab.async false
set_option linter.all false
set_option maxRecDepth 100000
set_option maxHeartbeats 1000000
namespace Jo
open PySem PySem.Spec PyProof.Rows L2 ClX
theorem eqv_tup_strs (xs ys : List Str) : PyData.eqv (.tuple (xs.map .str)) (.tuple (ys.map .str)) = decide (xs = ys) := eqv_strs xs ys
theorem shapedT_strs {xs : List Str} (h : ∀ x ∈ xs, PyData.strOk x = true) : SeqAt.shaped (.tuple (xs.map .str)) = true := by
  show (PyData.canLayAll0 (xs.map .str) && decide (PyData.depthAll (xs.map .str) + 1 ≤ 64)) = true
  rw [lay_strs h, depth_strs]
  rfl
theorem sum_le_mul : ∀ (l : List Nat) (b : Nat), (∀ x ∈ l, x ≤ b) → l.sum ≤ l.length * b
  | [], b, _ => Nat.zero_le _
  | x :: l, b, h => by
    have h1 := sum_le_mul l b fun y hy => h y (List.mem_cons_of_mem _ hy)
    have h2 := h x (List.mem_cons_self ..)
    rw [List.sum_cons, List.length_cons, Nat.add_mul]
    omega
def shownS (s : SR) : Str := (("Statement(" : Str) ++ s.line) ++ ")"
def textS (s : SR) : Str := Txt.join "\n" s.lines
theorem SR.Fine.size {s : SR} (h : s.Fine) : (s.lines.map (·.length)).sum + s.lines.length * ("\n" : Str).length ≤ 820000 := by
  have h1 := h.many
  have h2 := h.amount
  have h3 : (s.lines.map (·.length)).sum ≤ s.lines.length * 1016 := by
    have := sum_le_mul (s.lines.map (·.length)) 1016 fun x hx => by
      obtain ⟨l, hl, rfl⟩ := List.mem_map.mp hx
      have h4 := h.long l hl
      have h5 := h.height
      omega
    rw [List.length_map] at this
    exact this
  have c : ("\n" : Str).length = 1 := by decide +kernel
  rw [c]
  have h6 : s.lines.length * 1016 ≤ 800 * 1016 := Nat.mul_le_mul_right _ (by omega)
  omega
theorem SR.Fine.lineLen {s : SR} (h : s.Fine) : s.line.length ≤ 1016 := by
  obtain ⟨r, hr⟩ := h.first
  have h4 := h.long s.line (by rw [hr]; exact List.mem_cons_self ..)
  have h5 := h.height
  omega
/-- what the kinds take over from their base class -/
structure XH2 (K : PySem.W.Frag) (CK : Sk → Addr) (CS : Addr) : Prop where
  inh : ∀ m ∈ (["__eq__", "__str__", "__repr__"] : List Str), ∀ f, Meth K CS m f → ∀ k, PySem.W.findIn K (.ref (CK k)) m = some (some (.ref f))
abbrev IsS (CK : Sk → Addr) : Addr → Prop := fun A => ∃ k, A = CK k
theorem own2_of {P : Program} {w : World} {K : PySem.W.Frag} {mg : Str → Option Value} {base : Heap} {CK : Sk → Addr} {CS : Addr} {k : Nat} {m : Str} {ps : List Str} {sp : Sp} (h : XH2 K CK CS) (hm : m ∈ (["__eq__", "__str__", "__repr__"] : List Str)) (c : MtF P w K mg base k CS m ps sp) : Own P w K mg base k m ps (IsS CK) sp := by
  obtain ⟨f, fd, F, mt, b, _⟩ := c.ex
  exact ⟨f, fd, F, b, mt.fn, fun A ⟨k, e⟩ => by rw [e]; exact h.inh m hm f mt k⟩
/-- what __eq__ sees on the right -/
def EqS (K : PySem.W.Frag) (CK : Sk → Addr) (CS : Addr) (H : Hp) (s : SR) (y : V) (b : Bool) : Prop :=
  (∃ s2, SIs CK H s2 y ∧ s2.Fine ∧ b = decide (s.lines = s2.lines)) ∨ (∃ ty, TyX K H y ty ∧ PySem.W.kitOne K ty (.ref CS) = some false ∧ b = false)
section
variable {P : Program} {w : World} {K : PySem.W.Frag} {mg : Str → Option Value} {base : Heap} {C : Kd → Addr} {CE CS : Addr} {CK : Sk → Addr}
theorem sc_steq : FnScope ["self", "other"] ["self", "other"] (defScope m_Statement_eq) := ⟨rfl, rfl, rfl, by decide +kernel, rfl, by decide +kernel, by decide +kernel⟩
def spStEq (K : PySem.W.Frag) (CK : Sk → Addr) (CS : Addr) : Sp := fun vs H Q _ => ∃ (s : SR) (x y : V) (b : Bool), vs = [x, y] ∧ SIs CK H s x ∧ s.Fine ∧ EqS K CK CS H s y b ∧ Q (.bl b) H
theorem ok_steq (T : Txt mg) (S : ST2 K mg C CE CS CK) (D : Mth K CS "__eq__" "Statement.__eq__" m_Statement_eq ["self", "other"]) : MtF P w K mg base 1 CS "__eq__" ["self", "other"] (spStEq K CK CS) := by
  refine D.okF sc_steq (fun vs H Q E h => ?_) (fun f cdv A fr s H vs Q E hr h => ?_)
  · obtain ⟨s, x, y, b, rfl, _⟩ := h
    rfl
  · obtain ⟨s, x, y, b, rfl, ix, fx, hy, fin⟩ := h
    refine ⟨_, pss_one (ps_ret (pe_and (pe_callB call_isi rfl T.b_isinstance (by decide +kernel) (pa_cons (pv 1) (pa_cons (pe_glob (v := .ref CS) rfl S.mgS rfl) pa_nil))) (pe_one (pe_cmpR (op_eqD hr.units) (pe_fld (pv 0) rfl) (pe_fld (pv 1) rfl) (nomark _))))), ?_⟩
    obtain ⟨a, dx, q, fs, rfl, h1, h2, h3, h4, h5⟩ := ix
    rcases hy with ⟨s2, iy, fy, rfl⟩ | ⟨ty, g1, g2, rfl⟩
    · obtain ⟨a2, dx2, q2, fs2, rfl, e1, e2, e3, e4, e5⟩ := iy
      refine ⟨_, rfl, _, _, _, _, true, rfl, .own CS, (S.own _).ty e1, S.kitS _, true, rfl, iteT ?_⟩
      refine ⟨_, rfl, a, _, dx, fs, _, rfl, h1, (S.own _).cl, S.na _ _ (by decide +kernel), h4, _, rfl, a2, _, dx2, fs2, _, rfl, e1, (S.own _).cl, S.na _ _ (by decide +kernel), e4, ?_⟩
      refine ⟨.tuple (s.lines.map PyData.str), .tuple (s2.lines.map PyData.str), .tup (.inl (.inl h5)) (dp_strs _), .tup (.inl (.inl e5)) (dp_strs _), shapedT_strs fx.ok, shapedT_strs fy.ok, ?_⟩
      rw [eqv_tup_strs]
      exact fin
    · exact ⟨_, rfl, _, _, _, _, false, rfl, .own CS, g1, g2, false, rfl, iteF fin⟩
theorem sc_ststr : FnScope ["self"] ["self"] (defScope m_Statement_str) := ⟨rfl, rfl, rfl, by decide +kernel, rfl, by decide +kernel, by decide +kernel⟩
def spStStr (CK : Sk → Addr) : Sp := fun vs H Q _ => ∃ (s : SR) (x : V), vs = [x] ∧ SIs CK H s x ∧ s.Fine ∧ Q (.str (textS s)) H
theorem ok_ststr (T : Txt mg) (S : ST2 K mg C CE CS CK) (D : Mth K CS "__str__" "Statement.__str__" m_Statement_str ["self"]) : MtF P w K mg base 1 CS "__str__" ["self"] (spStStr CK) := by
  refine D.okF sc_ststr (fun vs H Q E h => ?_) (fun f cdv A fr s H vs Q E hr h => ?_)
  · obtain ⟨s, x, rfl, _⟩ := h
    rfl
  · obtain ⟨s, x, rfl, ix, fx, fin⟩ := h
    refine ⟨_, pss_one (ps_ret (pe_join pe_str (pe_fld (pv 0) rfl))), ?_⟩
    obtain ⟨a, dx, q, fs, rfl, h1, h2, h3, h4, h5⟩ := ix
    have sz := fx.size
    exact ⟨⟨_, rfl⟩, _, rfl, a, _, dx, fs, _, rfl, h1, (S.own _).cl, S.na _ _ (by decide +kernel), h4, "\n", q, s.lines, rfl, rfl, .inr (.inl (.inl h5)), Nat.le_trans sz (by decide), fin⟩
theorem sc_strepr : FnScope ["self"] ["self"] (defScope m_Statement_repr) := ⟨rfl, rfl, rfl, by decide +kernel, rfl, by decide +kernel, by decide +kernel⟩
def spStRepr (CK : Sk → Addr) : Sp := fun vs H Q _ => ∃ (s : SR) (x : V), vs = [x] ∧ SIs CK H s x ∧ s.Fine ∧ Q (.str (shownS s)) H
theorem ok_strepr (T : Txt mg) (S : ST2 K mg C CE CS CK) (D : Mth K CS "__repr__" "Statement.__repr__" m_Statement_repr ["self"]) : MtF P w K mg base 1 CS "__repr__" ["self"] (spStRepr CK) := by
  refine D.okF sc_strepr (fun vs H Q E h => ?_) (fun f cdv A fr s H vs Q E hr h => ?_)
  · obtain ⟨s, x, rfl, _⟩ := h
    rfl
  · obtain ⟨s, x, rfl, ix, fx, fin⟩ := h
    refine ⟨_, pss_one (ps_ret (pe_joined (.cons pe_str (.cons (pe_fmt (pe_ix ix_tup (pe_fld (pv 0) rfl) pe_int (fun _ _ => rfl))) (.cons pe_str .nil))))), ?_⟩
    obtain ⟨a, dx, q, fs, rfl, h1, h2, h3, h4, h5⟩ := ix
    have c1 : ("Statement(" : Str).length = 10 := by decide +kernel
    have c2 : (")" : Str).length = 1 := by decide +kernel
    have ll := fx.lineLen
    obtain ⟨r, hr2⟩ := fx.first
    rw [hr2] at h5
    refine ⟨"Statement(", rfl, by rw [empty_cat, c1]; exact small_len (by decide), _, rfl, a, _, dx, fs, _, rfl, h1, (S.own _).cl, S.na _ _ (by decide +kernel), h4, q, _, 0, _, rfl, rfl, .inl (.inl h5), atI_nat (j := 0) rfl, .inl ⟨s.line, rfl, small_len (by omega), s.line, rfl, ?_, ")", rfl, ?_, ?_⟩⟩
    · rw [empty_cat, len_cat, c1]
      exact small_len (by omega)
    · rw [empty_cat, len_cat, len_cat, c1, c2]
      exact small_len (by omega)
    · rw [empty_cat]
      exact fin
end
end Jo

set_option Elab.async false
set_option linter.all false
set_option maxRecDepth 100000
set_option maxHeartbeats 1000000
namespace Jo
open PySem PySem.Spec PyProof.Rows L2 ClX
/-- what stands behind a statement that never goes on -/
theorem pss_stop {X : Cx} {st : Stmt} {rest : List Stmt} {t : TS} (h : PS X st t) : PSs X (st :: rest) (fun D σ H => t { D with nx := fun _ _ => False } σ H) := by
  refine ⟨fun pins s σ H D I hw => ?_⟩
  refine wpAny_execs_cons (thn (h.run pins s σ H { D with nx := fun _ _ => False } I hw) fun f s1 q => ?_)
  cases f with
  | next =>
    obtain ⟨_, _, _, q⟩ := q
    exact q.elim
  | ret v => exact q
  | brk => exact q
  | cont => exact q
/-! ### the error classes -/
/-- one error class: its base, its field's name, its name in the module -/
structure Er1 (K : PySem.W.Frag) (mg : Str → Option Value) (x f : Str) (CX CR1 CR2 : Addr) : Prop where
  T : ∃ (B : Addr) (b newId initId : String) (bmB : List Value), EC K CX B newId bmB ∧ EBase b newId initId bmB
  g : mg x = some (.ref CX)
  n : PySem.W.findIn K (.ref CX) f = some none
  x : PySem.W.exmAny K (.ref CX) [.ref CR1, .ref CR2] = some true
/-- which of the four it is: a name, a size, slots, a body -/
inductive EK where | a | s | l | b
  deriving DecidableEq
structure ErC (K : PySem.W.Frag) (mg : Str → Option Value) (A : EK → Addr) (CR1 CR2 : Addr) : Prop where
  a : Er1 K mg "InvalidName" "value" (A .a) CR1 CR2
  s : Er1 K mg "InvalidSize" "value" (A .s) CR1 CR2
  l : Er1 K mg "InvalidSlots" "index" (A .l) CR1 CR2
  b : Er1 K mg "InvalidBody" "index" (A .b) CR1 CR2
  k : ∀ i j, PySem.W.kitOne K (.ref (A i)) (.ref (A j)) = some (decide (i = j))
  g1 : mg "ReentryError" = some (.ref CR1)
  g2 : mg "LimitError" = some (.ref CR2)
  cw : CW K
section
variable {P : Program} {w : World} {K : PySem.W.Frag} {mg : Str → Option Value} {base : Heap} {C : Kd → Addr} {CE CS CT CR1 CR2 : Addr} {CK : Sk → Addr}
theorem sc_iA : FnScope ["self", "value"] ["self", "value"] (defScope m_InvalidName_init) := ⟨rfl, rfl, rfl, by decide +kernel, rfl, by decide +kernel, by decide +kernel⟩
theorem sc_iS : FnScope ["self", "value"] ["self", "value"] (defScope m_InvalidSize_init) := ⟨rfl, rfl, rfl, by decide +kernel, rfl, by decide +kernel, by decide +kernel⟩
theorem sc_iL : FnScope ["self", "index"] ["self", "index"] (defScope m_InvalidSlots_init) := ⟨rfl, rfl, rfl, by decide +kernel, rfl, by decide +kernel, by decide +kernel⟩
theorem sc_iB : FnScope ["self", "index"] ["self", "index"] (defScope m_InvalidBody_init) := ⟨rfl, rfl, rfl, by decide +kernel, rfl, by decide +kernel, by decide +kernel⟩
theorem ini_A (Ec : Er1 K mg "InvalidName" "value" CT CR1 CR2) (D : Mth K CT "__init__" "InvalidName.__init__" m_InvalidName_init ["self", "value"]) : ErE P w K mg base "InvalidName" CT "value" := by
  obtain ⟨B, b, n, i, bm, T, eb⟩ := Ec.T
  refine ⟨Ec.g, Ec.T, Ec.n, D.okF sc_iA (fun vs H Q E h => ?_) (fun f cdv A fr s H vs Q E hr h => ?_)⟩
  · obtain ⟨a, y, rfl, _⟩ := h
    rfl
  · obtain ⟨a, y, rfl, ha, q⟩ := h
    exact ⟨_, pss_one (ps_est (pv 0) (pv 1)), _, rfl, _, rfl, a, CT, B, b, n, i, bm, rfl, T, eb, Ec.n, .inl ⟨ha, fun dx hd nd => q dx hd nd⟩⟩
theorem ini_S (Ec : Er1 K mg "InvalidSize" "value" CT CR1 CR2) (D : Mth K CT "__init__" "InvalidSize.__init__" m_InvalidSize_init ["self", "value"]) : ErE P w K mg base "InvalidSize" CT "value" := by
  obtain ⟨B, b, n, i, bm, T, eb⟩ := Ec.T
  refine ⟨Ec.g, Ec.T, Ec.n, D.okF sc_iS (fun vs H Q E h => ?_) (fun f cdv A fr s H vs Q E hr h => ?_)⟩
  · obtain ⟨a, y, rfl, _⟩ := h
    rfl
  · obtain ⟨a, y, rfl, ha, q⟩ := h
    exact ⟨_, pss_one (ps_est (pv 0) (pv 1)), _, rfl, _, rfl, a, CT, B, b, n, i, bm, rfl, T, eb, Ec.n, .inl ⟨ha, fun dx hd nd => q dx hd nd⟩⟩
theorem ini_L (Ec : Er1 K mg "InvalidSlots" "index" CT CR1 CR2) (D : Mth K CT "__init__" "InvalidSlots.__init__" m_InvalidSlots_init ["self", "index"]) : ErE P w K mg base "InvalidSlots" CT "index" := by
  obtain ⟨B, b, n, i, bm, T, eb⟩ := Ec.T
  refine ⟨Ec.g, Ec.T, Ec.n, D.okF sc_iL (fun vs H Q E h => ?_) (fun f cdv A fr s H vs Q E hr h => ?_)⟩
  · obtain ⟨a, y, rfl, _⟩ := h
    rfl
  · obtain ⟨a, y, rfl, ha, q⟩ := h
    exact ⟨_, pss_one (ps_est (pv 0) (pv 1)), _, rfl, _, rfl, a, CT, B, b, n, i, bm, rfl, T, eb, Ec.n, .inl ⟨ha, fun dx hd nd => q dx hd nd⟩⟩
theorem ini_B (Ec : Er1 K mg "InvalidBody" "index" CT CR1 CR2) (D : Mth K CT "__init__" "InvalidBody.__init__" m_InvalidBody_init ["self", "index"]) : ErE P w K mg base "InvalidBody" CT "index" := by
  obtain ⟨B, b, n, i, bm, T, eb⟩ := Ec.T
  refine ⟨Ec.g, Ec.T, Ec.n, D.okF sc_iB (fun vs H Q E h => ?_) (fun f cdv A fr s H vs Q E hr h => ?_)⟩
  · obtain ⟨a, y, rfl, _⟩ := h
    rfl
  · obtain ⟨a, y, rfl, ha, q⟩ := h
    exact ⟨_, pss_one (ps_est (pv 0) (pv 1)), _, rfl, _, rfl, a, CT, B, b, n, i, bm, rfl, T, eb, Ec.n, .inl ⟨ha, fun dx hd nd => q dx hd nd⟩⟩
end
/-! ### what is refused -/
/-- the error of the class at CN with y in its field f is let out -/
def NoE (CN : Addr) (f : Str) (y : V) (H : Hp) (E : XK) : Prop := ∀ (G : Hp) (d : Addr), Same H G → G d = some (.xd [(f, y)]) → E (.ref CN) (some d) G
theorem NoE.go {CN : Addr} {f : Str} {y : V} {H H' : Hp} {E : XK} (h : NoE CN f y H E) (s : Same H H') : NoE CN f y H' E := fun G d sG hd => h G d (s.trans sG) hd
/-- no name -/
def BadNam (K : PySem.W.Frag) (H : Hp) (y : V) : Prop := (∀ G, Same H G → AnyV K G y) ∧ isNm y = false ∧ ∀ z, y = .str z → z.length ≤ 1000
/-- nothing of the class u -/
def OddO (K : PySem.W.Frag) (u : Value) (H : Hp) (y : V) : Prop := ∃ t, PySem.W.kitOne K t u = some false ∧ ∀ G, Same H G → TyX K G y t
theorem OddO.same {K : PySem.W.Frag} {u : Value} {H G : Hp} {y : V} (h : OddO K u H y) (s : Same H G) : OddO K u G y := let ⟨t, h1, h2⟩ := h; ⟨t, h1, fun G2 s2 => h2 G2 (s.trans s2)⟩
theorem BadNam.same {K : PySem.W.Frag} {H G : Hp} {y : V} (h : BadNam K H y) (s : Same H G) : BadNam K G y := ⟨fun G2 s2 => h.1 G2 (s.trans s2), h.2⟩
/-- the statement that is none stands at place m -/
def FirstS (K : PySem.W.Frag) (CK : Sk → Addr) (CS : Addr) (H : Hp) (us : List V) (m : Nat) : Prop := (∃ y, us[m]? = some y ∧ OddO K (.ref CS) H y) ∧ ∀ (j : Nat) (x : V), j < m → us[j]? = some x → ∃ s, SIs CK H s x
theorem FirstS.same {K : PySem.W.Frag} {CK : Sk → Addr} {CS : Addr} {H G : Hp} {us : List V} {m : Nat} (h : FirstS K CK CS H us m) (s : Same H G) : FirstS K CK CS G us m :=
  let ⟨⟨y, h1, h2⟩, h3⟩ := h
  ⟨⟨y, h1, h2.same s⟩, fun j x hj hx => let ⟨t, it⟩ := h3 j x hj hx; ⟨t, it.same s⟩⟩
section
variable {P : Program} {w : World} {K : PySem.W.Frag} {mg : Str → Option Value} {base : Heap} {C : Kd → Addr} {CE CS CA CN CB : Addr} {CK : Sk → Addr}
def spNameX (K : PySem.W.Frag) (CA : Addr) : Sp := fun vs H _ E => ∃ y, vs = [y] ∧ BadNam K H y ∧ NoE CA "value" y H E
theorem ox_check_name (D : Dfn K mg "check_name" s_check_name ["value"]) (c_A : ErE P w K mg base "InvalidName" CA "value") (c_is_name : CalF P w K mg base 1 "is_name" ["value"] (spIsName K)) : CalX P w K mg base 3 "check_name" ["value"] (spNameX K CA) := by
  refine D.okX sc_check_name (fun vs H Q E h => ?_) (fun f cdv A fr s H vs Q E hr h => ?_)
  · obtain ⟨y, rfl, _⟩ := h
    rfl
  · obtain ⟨y, rfl, ⟨av, bad, sz⟩, fin⟩ := h
    refine ⟨_, pss_stop (ps_if (pt_not (pt_val (pe_cF c_is_name hr (by decide) rfl (pa_cons (pv 0) pa_nil))))
        (pss_one (ps_rsN c_A hr (by decide) rfl (L2N.takes_of rfl rfl rfl rfl) rfl (pv 0)))
        (pss_nil)), ?_⟩
    refine ⟨_, rfl, y, rfl, av H (.refl _), sz, fun H1 s1 => ⟨isNm y, rfl, ?_⟩⟩
    rw [bad]
    exact iteT ⟨_, rfl, RsR.of (W := fun cls d _ H => E cls d H) (C := CA) (f := "value") (σ := [some y]) (y := y) (H1 := H1) fun d nd => fin _ d (s1.trans (same_new nd)) upd_same⟩
/-- a size -/
def isSz : V → Bool | .int n => decide (1 ≤ n) && decide (n ≤ 40) | _ => false
def spIsSize (K : PySem.W.Frag) : Sp := fun vs H Q _ => ∃ x, vs = [x] ∧ AnyV K H x ∧ Q (.bl (isSz x)) H
theorem sc_is_size : FnScope ["value"] ["value"] (defScope s_is_size) := ⟨rfl, rfl, rfl, by decide +kernel, rfl, by decide +kernel, by decide +kernel⟩
theorem ok_is_size (T : Txt mg) (D : Dfn K mg "is_size" s_is_size ["value"]) (c_int : CalF P w K mg base 1 "is_integer" ["value"] (spIsInt K)) : CalF P w K mg base 2 "is_size" ["value"] (spIsSize K) := by
  refine D.okF sc_is_size (fun vs H Q E h => ?_) (fun f cdv A fr s H vs Q E hr h => ?_)
  · obtain ⟨n, rfl, _⟩ := h
    rfl
  · obtain ⟨x, rfl, av, fin⟩ := h
    refine ⟨_, pss_one (ps_ret (pe_and (pe_cF c_int hr (by decide) rfl (pa_cons (pv 0) pa_nil)) (pe_one (pe_chain op_le op_le pe_int (pv 0) (C8.pe_gc rfl T.g_MAX_SIZE))))), ?_⟩
    refine ⟨_, rfl, x, rfl, av, isI x, rfl, ?_⟩
    cases x with
    | int n =>
      refine iteT ⟨_, rfl, _, _, rfl, rfl, _, rfl, ?_⟩
      by_cases h1 : (1 : Int) ≤ n
      · rw [decide_eq_true h1]
        refine iteT ⟨_, _, rfl, rfl, ?_⟩
        have e : isSz (.int n) = decide (n ≤ 40) := by
          show (decide (1 ≤ n) && decide (n ≤ 40)) = _
          rw [decide_eq_true h1]
          rfl
        rw [e] at fin
        exact fin
      · rw [decide_eq_false h1]
        have e : isSz (.int n) = false := by
          show (decide (1 ≤ n) && decide (n ≤ 40)) = _
          rw [decide_eq_false h1]
          rfl
        rw [e] at fin
        exact iteF fin
    | _ => exact iteF fin
theorem sc_check_size : FnScope ["value"] ["value"] (defScope s_check_size) := ⟨rfl, rfl, rfl, by decide +kernel, rfl, by decide +kernel, by decide +kernel⟩
def spCheckSize (K : PySem.W.Frag) : Sp := fun vs H Q _ => ∃ y, vs = [y] ∧ AnyV K H y ∧ isSz y = true ∧ Q .non H
theorem ok_check_size (D : Dfn K mg "check_size" s_check_size ["value"]) (c : CalF P w K mg base 2 "is_size" ["value"] (spIsSize K)) : CalF P w K mg base 3 "check_size" ["value"] (spCheckSize K) := by
  refine D.okF sc_check_size (fun vs H Q E h => ?_) (fun f cdv A fr s H vs Q E hr h => ?_)
  · obtain ⟨n, rfl, _⟩ := h
    rfl
  · obtain ⟨y, rfl, av, ok, fin⟩ := h
    refine ⟨_, pss_one (ps_if (pt_not (pt_val (pe_cF c hr (by decide) rfl (pa_cons (pv 0) pa_nil)))) (pss_one ps_never) (pss_nil)), ?_⟩
    exact ⟨_, rfl, y, rfl, av, isSz y, rfl, by rw [ok]; exact iteF fin⟩
def spSizeX (K : PySem.W.Frag) (CA : Addr) : Sp := fun vs H _ E => ∃ y, vs = [y] ∧ AnyV K H y ∧ isSz y = false ∧ NoE CA "value" y H E
theorem ox_check_size (D : Dfn K mg "check_size" s_check_size ["value"]) (c_S : ErE P w K mg base "InvalidSize" CA "value") (c : CalF P w K mg base 2 "is_size" ["value"] (spIsSize K)) : CalX P w K mg base 3 "check_size" ["value"] (spSizeX K CA) := by
  refine D.okX sc_check_size (fun vs H Q E h => ?_) (fun f cdv A fr s H vs Q E hr h => ?_)
  · obtain ⟨y, rfl, _⟩ := h
    rfl
  · obtain ⟨y, rfl, av, bad, fin⟩ := h
    refine ⟨_, pss_stop (ps_if (pt_not (pt_val (pe_cF c hr (by decide) rfl (pa_cons (pv 0) pa_nil))))
        (pss_one (ps_rsN c_S hr (by decide) rfl (L2N.takes_of rfl rfl rfl rfl) rfl (pv 0)))
        (pss_nil)), ?_⟩
    refine ⟨_, rfl, y, rfl, av, isSz y, rfl, ?_⟩
    rw [bad]
    exact iteT ⟨_, rfl, RsR.of (W := fun cls d _ H => E cls d H) (C := CA) (f := "value") (σ := [some y]) (y := y) (H1 := H) fun d nd => fin _ d (same_new nd) upd_same⟩
/-- a body that is no tuple, or has something at a place that is no statement -/
def BadBd (K : PySem.W.Frag) (CK : Sk → Addr) (CS : Addr) (H : Hp) (y : V) : Option Nat → Prop
  | none => OddO K (.type "tuple") H y
  | some m => ∃ (q : Addr) (us : List V), y = .ref q ∧ SqT K H q us ∧ FirstS K CK CS H us m
theorem BadBd.same {K : PySem.W.Frag} {CK : Sk → Addr} {CS : Addr} {H G : Hp} {y : V} : ∀ {o : Option Nat}, BadBd K CK CS H y o → Same H G → BadBd K CK CS G y o
  | none, h, s => OddO.same h s
  | some m, ⟨q, us, e, h1, h2⟩, s => ⟨q, us, e, seqT_same h1 s, h2.same s⟩
def iv : Option Nat → V
  | none => .non
  | some m => .int (m : Int)
def spBodyX (K : PySem.W.Frag) (CK : Sk → Addr) (CS CB : Addr) : Sp := fun vs H _ E => ∃ (y : V) (o : Option Nat), vs = [y] ∧ BadBd K CK CS H y o ∧ NoE CB "index" (iv o) H E
theorem ox_check_body (T : Txt mg) (S : ST2 K mg C CE CS CK) (D : Dfn K mg "check_body" s_check_body ["body"]) (c_B : ErE P w K mg base "InvalidBody" CB "index") : CalX P w K mg base 3 "check_body" ["body"] (spBodyX K CK CS CB) := by
  refine D.okX sc_check_body (fun vs H Q E h => ?_) (fun f cdv A fr s H vs Q E hr h => ?_)
  · obtain ⟨y, o, rfl, _⟩ := h
    rfl
  · obtain ⟨y, o, rfl, bad, fin⟩ := h
    refine ⟨_, pss_cons (ps_if (pt_not (pt_val (pe_callB call_isi rfl T.b_isinstance (by decide +kernel) (pa_cons (pv 0) (pa_cons (pe_bltn (v := .ty "tuple") (u := .type "tuple") rfl T.b_tuple (by decide +kernel) rfl) pa_nil)))))
        (pss_one (ps_rsN c_B hr (by decide) rfl (L2N.takes_of rfl rfl rfl rfl) rfl pe_non))
        (pss_nil))
      (pss_one (ps_for (L2.passes_of rfl) rfl (pi_enumT rfl T.b_enumerate (pa_cons (pv 0) pa_nil)) (pg_tup rfl (pgs_cons (pg_name (i := 1) sc_check_body.nd rfl (.inl rfl)) (pgs_cons (pg_name (i := 2) sc_check_body.nd rfl (.inl rfl)) pgs_nil)))
        (pss_one (ps_if (pt_not (pt_val (pe_callB call_isi rfl T.b_isinstance (by decide +kernel) (pa_cons (pv 2) (pa_cons (pe_glob (v := .ref CS) rfl S.mgS rfl) pa_nil)))))
            (pss_one (ps_rsN c_B hr (by decide) rfl (L2N.takes_of rfl rfl rfl rfl) rfl (pv 1)))
            (pss_nil))))), ?_⟩
    cases o with
    | none =>
      obtain ⟨t, h1, h2⟩ := bad
      refine ⟨_, rfl, _, _, _, _, false, rfl, .ty "tuple", h2 H (.refl _), h1, false, rfl, iteT ?_⟩
      exact RsR.of (W := fun cls d _ H => E cls d H) (C := CB) (f := "index") (σ := [some y, none, none]) (y := .non) (H1 := H) fun d nd => fin _ d (same_new nd) upd_same
    | some m =>
      obtain ⟨q, us, rfl, hq, ⟨y, hm, oy⟩, ok⟩ := bad
      obtain ⟨ty, ht, hk⟩ := seqT_ty hq
      have ml : m < us.length := (List.getElem?_eq_some_iff.mp hm).1
      refine ⟨_, rfl, _, _, ty, _, true, rfl, .ty "tuple", ht, hk, true, rfl, iteF ?_⟩
      refine ⟨_, rfl, q, _, rfl, hq, for_it (walk_enumT (K := K) (a := q) (xs := us)) (fun i σ H1 => i ≤ m ∧ Same H H1 ∧ ∃ y1 y2 : Option V, σ = [some (.ref q), y1, y2]) ⟨Nat.zero_le _, Same.refl _, _, _, rfl⟩ (fun i σ H1 _ hp => seqT_same hq hp.2.1) (fun i x σ H1 H1' hi hp hy => ?_) (fun σ H1 hp => ?_)⟩
      · obtain ⟨i1, s1, y1, y2, rfl⟩ := hp
        obtain ⟨Tp, a, b2, rfl, hT, rfl, ea, eb⟩ := hy
        have ea2 : a = V.int (i : Int) := (Option.some.inj ea).symm
        subst ea2
        have s2 := s1.trans (same_new (o := .tup [V.int (i : Int), b2]) hT)
        refine ⟨Tp, _, rfl, .inl (.inl upd_same), rfl, _, _, rfl, _, _, rfl, rfl, ?_⟩
        by_cases e : i = m
        · subst e
          have eb2 : us[i]? = some b2 := eb
          rw [hm] at eb2
          cases eb2
          obtain ⟨t, h1, h2⟩ := oy
          refine ⟨_, rfl, _, _, _, _, false, rfl, .own CS, h2 _ s2, h1, false, rfl, iteT ?_⟩
          exact ⟨_, rfl, RsR.of (W := fun cls d _ H => E cls d H) (C := CB) (f := "index") (σ := [some (.ref q), some (.int (i : Int)), some y]) (y := .int (i : Int)) (H1 := upd H1 Tp (.tup [V.int (i : Int), y])) fun d nd => fin _ d (s2.trans (same_new nd)) upd_same⟩
        · obtain ⟨s, is⟩ := ok i b2 (by omega) eb
          obtain ⟨a3, dx, fs, rfl, h3⟩ := (is.same s2).ins
          exact ⟨_, rfl, _, _, _, _, true, rfl, .own CS, (S.own _).ty h3, S.kitS _, true, rfl, iteF ⟨by omega, s2, _, _, rfl⟩⟩
      · have := hp.1
        omega
end
end Jo

set_option Elab.async false
set_option linter.all false
set_option maxRecDepth 100000
set_option maxHeartbeats 2000000
namespace Jo
open PySem PySem.Spec PyProof.Rows L2 ClX
/-! ### slots -/
/-- what an item of slots is: none, no pair; else the name if the first part is one, and whether the second is a size -/
abbrev It := Option (Option Str × Bool)
/-- the first place that is no slot; t: the names that are taken -/
def badAt : List Str → List It → Option Nat
  | _, [] => none
  | _, none :: _ => some 0
  | _, some (none, _) :: _ => some 0
  | _, some (some _, false) :: _ => some 0
  | t, some (some z, true) :: r => if z ∈ t then some 0 else (badAt (t ++ [z]) r).map (· + 1)
def NmO (x : V) : Option Str → Prop
  | none => isNm x = false
  | some z => x = .str z ∧ nmS z = true
theorem NmO.is {x : V} {o : Option Str} (h : NmO x o) : isNm x = o.isSome := by
  cases o with
  | none => exact h
  | some z => obtain ⟨rfl, h⟩ := h; exact h
def ItIs (K : PySem.W.Frag) (H : Hp) : It → V → Prop
  | none, v => OddO K (.type "tuple") H v ∨ ∃ q xs, v = .ref q ∧ SqT K H q xs ∧ xs.length ≤ 10 ∧ xs.length ≠ 2
  | some (o, b), v => ∃ q x y, v = .ref q ∧ SqT K H q [x, y] ∧ (∀ G, Same H G → AnyV K G x) ∧ (∀ G, Same H G → AnyV K G y) ∧ (∀ z, x = .str z → z.length ≤ 1000) ∧ NmO x o ∧ isSz y = b
theorem ItIs.same {K : PySem.W.Frag} {H G : Hp} {v : V} : ∀ {i : It}, ItIs K H i v → Same H G → ItIs K G i v
  | none, h, s => by
    rcases h with h | ⟨q, xs, e, h1, h2⟩
    · exact .inl (h.same s)
    · exact .inr ⟨q, xs, e, seqT_same h1 s, h2⟩
  | some (o, b), ⟨q, x, y, e, h1, h2, h3, h4⟩, s => ⟨q, x, y, e, seqT_same h1 s, fun G2 s2 => h2 G2 (s.trans s2), fun G2 s2 => h3 G2 (s.trans s2), h4⟩
def SlG (K : PySem.W.Frag) (H : Hp) (par : Str) (v : V) : Prop := ∃ (q : Addr) (us : List V) (its : List It), v = .ref q ∧ SqT K H q us ∧ its.length ≤ 3 ∧ Paired (ItIs K H) its us ∧ badAt [par] its = none
def SlB (K : PySem.W.Frag) (H : Hp) (par : Str) (v : V) : Option Nat → Prop
  | none => OddO K (.type "tuple") H v ∨ ∃ q us, v = .ref q ∧ SqT K H q us ∧ us.length ≤ 10 ∧ 3 < us.length
  | some k => ∃ (q : Addr) (us : List V) (its : List It), v = .ref q ∧ SqT K H q us ∧ its.length ≤ 3 ∧ Paired (ItIs K H) its us ∧ badAt [par] its = some k
theorem SlG.same {K : PySem.W.Frag} {H G : Hp} {par : Str} {v : V} (h : SlG K H par v) (s : Same H G) : SlG K G par v :=
  let ⟨q, us, its, e, h1, h2, h3, h4⟩ := h
  ⟨q, us, its, e, seqT_same h1 s, h2, pair_mem h3 fun x y i => i.same s, h4⟩
theorem SlB.same {K : PySem.W.Frag} {H G : Hp} {par : Str} {v : V} : ∀ {o : Option Nat}, SlB K H par v o → Same H G → SlB K G par v o
  | none, h, s => by
    rcases h with h | ⟨q, us, e, h1, h2⟩
    · exact .inl (h.same s)
    · exact .inr ⟨q, us, e, seqT_same h1 s, h2⟩
  | some k, ⟨q, us, its, e, h1, h2, h3, h4⟩, s => ⟨q, us, its, e, seqT_same h1 s, h2, pair_mem h3 fun x y i => i.same s, h4⟩
/-- the dict of the names that are taken -/
def keysD (t : List Str) : List (Key × V) := t.map fun z => (Sum.inr z, V.bl true)
theorem keys_in (z : Str) : ∀ t : List Str, (valV (keysD t) (Sum.inr z)).isSome = decide (z ∈ t)
  | [] => by
    rw [decide_eq_false (List.not_mem_nil)]
    rfl
  | y :: t => by
    have ih := keys_in z t
    by_cases e : y = z
    · subst e
      rw [decide_eq_true (List.mem_cons_self ..)]
      show (valV ((Sum.inr y, V.bl true) :: keysD t) (Sum.inr y)).isSome = true
      rw [valV_pos rfl]
      rfl
    · show (valV ((Sum.inr y, V.bl true) :: keysD t) (Sum.inr z)).isSome = _
      rw [valV_neg (fun q => e (by cases q; rfl)), ih]
      exact decide_eq_decide.mpr ⟨fun h => List.mem_cons_of_mem _ h, fun h => (List.mem_cons.mp h).elim (fun q => absurd q.symm e) id⟩
theorem keys_put {z : Str} {t : List Str} (h : z ∉ t) : putK (keysD t) (Sum.inr z) (V.bl true) = keysD (t ++ [z]) := by
  have e : valV (keysD t) (Sum.inr z) = none := by
    have := keys_in z t
    rw [decide_eq_false h] at this
    cases q : valV (keysD t) (Sum.inr z) with
    | none => rfl
    | some x => rw [q] at this; cases this
  rw [putK_new _ e]
  unfold keysD
  rw [List.map_append]
  rfl
section
variable {P : Program} {w : World} {K : PySem.W.Frag} {mg : Str → Option Value} {base : Heap} {CL : Addr}
def n_check_slots : List Str := ["parameter", "slots", "taken", "index", "slot", "name", "size"]
theorem sc_check_slots : FnScope n_check_slots ["parameter", "slots"] (defScope s_check_slots) := ⟨rfl, rfl, rfl, by decide +kernel, rfl, by decide +kernel, by decide +kernel⟩
def spSlots (K : PySem.W.Frag) (CL : Addr) : Sp := fun vs H Q E => ∃ (z : Str) (v : V), vs = [.str z, v] ∧ ((SlG K H z v ∧ ∀ G, Same H G → Q .non G) ∨ ∃ o, SlB K H z v o ∧ NoE CL "index" (iv o) H E)
theorem ox_check_slots (T : Txt mg) (D : Dfn K mg "check_slots" s_check_slots ["parameter", "slots"]) (c_L : ErE P w K mg base "InvalidSlots" CL "index") (c_nm : CalF P w K mg base 1 "is_name" ["value"] (spIsName K)) (c_sz : CalF P w K mg base 2 "is_size" ["value"] (spIsSize K)) : CalX P w K mg base 3 "check_slots" ["parameter", "slots"] (spSlots K CL) := by
  refine D.okX sc_check_slots (fun vs H Q E h => ?_) (fun f cdv A fr s H vs Q E hr h => ?_)
  · obtain ⟨z, v, rfl, _⟩ := h
    rfl
  · obtain ⟨z, v, rfl, out⟩ := h
    refine ⟨_, pss_cons (ps_if (PW.pt (pw_or (pt_not (pt_val (pe_callB call_isi rfl T.b_isinstance (by decide +kernel) (pa_cons (pv 1) (pa_cons (pe_bltn (v := .ty "tuple") (u := .type "tuple") rfl T.b_tuple (by decide +kernel) rfl) pa_nil))))) (pw_or1 (pt_cmpR op_gt (pe_callB call_len_seq rfl T.b_len (by decide +kernel) (pa_cons (pv 1) pa_nil)) (C8.pe_gc rfl T.g_MAX_SLOTS) (nomark _)))))
        (pss_one (ps_rsN c_L hr (by decide) rfl (L2N.takes_of rfl rfl rfl rfl) rfl pe_non)) (pss_nil))
      (pss_cons (ps_set (i := 2) sc_check_slots.nd rfl (.inl rfl) (pe_disp (pps_cons (pv 0) pe_bl pps_nil) (by rfl) (by rfl) (fun z => by cases z) (by decide)))
      (pss_one (ps_for (L2.passes_of rfl) rfl (pi_enumT rfl T.b_enumerate (pa_cons (pv 1) pa_nil)) (pg_tup rfl (pgs_cons (pg_name (i := 3) sc_check_slots.nd rfl (.inl rfl)) (pgs_cons (pg_name (i := 4) sc_check_slots.nd rfl (.inl rfl)) pgs_nil)))
        (pss_cons (ps_if (PW.pt (pw_or (pt_not (pt_val (pe_callB call_isi rfl T.b_isinstance (by decide +kernel) (pa_cons (pv 4) (pa_cons (pe_bltn (v := .ty "tuple") (u := .type "tuple") rfl T.b_tuple (by decide +kernel) rfl) pa_nil))))) (pw_or1 (pt_cmpR op_ne (pe_callB call_len_seq rfl T.b_len (by decide +kernel) (pa_cons (pv 4) pa_nil)) pe_int (nomark _)))))
            (pss_one (ps_rsN c_L hr (by decide) rfl (L2N.takes_of rfl rfl rfl rfl) rfl (pv 3))) (pss_nil))
        (pss_cons (ps_asg (pv 4) (pg_tup rfl (pgs_cons (pg_name (i := 5) sc_check_slots.nd rfl (.inl rfl)) (pgs_cons (pg_name (i := 6) sc_check_slots.nd rfl (.inl rfl)) pgs_nil))))
        (pss_cons (ps_if (PW.pt (pw_or (pt_not (pt_val (pe_cF c_nm hr (by decide) rfl (pa_cons (pv 5) pa_nil)))) (pw_or (pt_not (pt_val (pe_cF c_sz hr (by decide) rfl (pa_cons (pv 6) pa_nil)))) (pw_or1 (pt_cmp (pc_din (Nat.lt_of_le_of_lt (Nat.add_le_add_left (show 1 ≤ 64 by decide) _) hr.units) (pv 5) (pv 2)))))))
            (pss_one (ps_rsN c_L hr (by decide) rfl (L2N.takes_of rfl rfl rfl rfl) rfl (pv 3))) (pss_nil))
        (pss_one (ps_dput (Nat.lt_of_le_of_lt (Nat.add_le_add_left (show 1 ≤ 64 by decide) _) hr.units) (pv 2) (pv 5) pe_bl (by rfl))))))))), ?_⟩
    have cs : (SlB K H z v none ∧ NoE CL "index" .non H E) ∨ ∃ (q : Addr) (us : List V) (its : List It), v = .ref q ∧ SqT K H q us ∧ its.length ≤ 3 ∧ Paired (ItIs K H) its us ∧ (∀ k, badAt [z] its = some k → NoE CL "index" (.int (k : Int)) H E) ∧ (badAt [z] its = none → ∀ G, Same H G → Q .non G) := by
      rcases out with ⟨⟨q, us, its, e, h1, h2, h3, h4⟩, g⟩ | ⟨o, b, n⟩
      · exact .inr ⟨q, us, its, e, h1, h2, h3, fun k e2 => (by rw [h4] at e2; cases e2), fun _ => g⟩
      · cases o with
        | none => exact .inl ⟨b, n⟩
        | some k =>
          obtain ⟨q, us, its, e, h1, h2, h3, h4⟩ := b
          exact .inr ⟨q, us, its, e, h1, h2, h3, fun k2 e2 => (by rw [h4] at e2; cases e2; exact n), fun e2 => (by rw [h4] at e2; cases e2)⟩
    rcases cs with ⟨b, n⟩ | ⟨q, us, its, rfl, hq, l3, pr, bad, good⟩
    · rcases b with ⟨t, h1, h2⟩ | ⟨q, us, rfl, hq, l10, l4⟩
      · refine ⟨_, rfl, _, _, _, _, false, rfl, .ty "tuple", h2 H (.refl _), h1, false, rfl, iteT ?_⟩
        exact RsR.of (W := fun cls d _ H => E cls d H) (C := CL) (f := "index") (σ := [some (.str z), some v, none, none, none, none, none]) (y := .non) (H1 := H) fun d nd => n _ d (same_new nd) upd_same
      · obtain ⟨ty, ht, hk⟩ := seqT_ty hq
        refine ⟨_, rfl, _, _, ty, _, true, rfl, .ty "tuple", ht, hk, true, rfl, iteF ?_⟩
        refine ⟨_, rfl, q, us, rfl, .inr hq, _, _, rfl, rfl, _, rfl, ?_⟩
        rw [decide_eq_true (by omega)]
        exact iteT (RsR.of (W := fun cls d _ H => E cls d H) (C := CL) (f := "index") (σ := [some (.str z), some (.ref q), none, none, none, none, none]) (y := .non) (H1 := H) fun d nd => n _ d (same_new nd) upd_same)
    · have ul := pair_len pr
      obtain ⟨ty, ht, hk⟩ := seqT_ty hq
      refine ⟨_, rfl, _, _, ty, _, true, rfl, .ty "tuple", ht, hk, true, rfl, iteF ?_⟩
      refine ⟨_, rfl, q, us, rfl, .inr hq, _, _, rfl, rfl, _, rfl, ?_⟩
      rw [decide_eq_false (by omega)]
      refine iteF fun p np => ⟨_, rfl, upd_same, [(.inr z, .bl true)], rfl, (show 1 ≤ 15 by decide), ?_⟩
      have sd : Same H (upd (upd H p (.dK [])) p (.dK (mergeK [] [(Sum.inr z, V.bl true)]))) := fun b o hb => by
        have nb : b ≠ p := fun q => by rw [q, np] at hb; cases hb
        rw [upd_ne nb, upd_ne nb]
        exact hb
      have hd : upd (upd H p (.dK [])) p (.dK (mergeK [] [(Sum.inr z, V.bl true)])) p = some (.dK (keysD [z])) := upd_same
      generalize upd (upd H p (.dK [])) p (.dK (mergeK [] [(Sum.inr z, V.bl true)])) = H1 at sd hd
      refine ⟨_, rfl, q, _, rfl, seqT_same hq sd, for_it (walk_enumT (K := K) (a := q) (xs := us)) (fun i σ H2 => Same H H2 ∧ ∃ t : List Str, H2 p = some (.dK (keysD t)) ∧ t.length ≤ 1 + i ∧ badAt [z] its = (badAt t (its.drop i)).map (· + i) ∧ ∃ y3 y4 y5 y6 : Option V, σ = [some (.str z), some (.ref q), some (.ref p), y3, y4, y5, y6])
        ⟨sd, [z], hd, Nat.le_refl _, by rw [List.drop_zero]; cases badAt [z] its <;> rfl, none, none, none, none, rfl⟩ (fun i σ H2 _ hp => seqT_same hq hp.1) (fun i x σ H2 H3 hi hp hy => ?_) (fun σ H2 hp => ?_)⟩
      · obtain ⟨s2, t, hdt, tl, eb, y3, y4, y5, y6, rfl⟩ := hp
        obtain ⟨Tp, a, b2, rfl, hT, rfl, ea, eb2⟩ := hy
        have ea2 : a = V.int (i : Int) := (Option.some.inj ea).symm
        subst ea2
        have sT := same_new (o := .tup [V.int (i : Int), b2]) hT
        have s3 := s2.trans sT
        have hx : us[i]? = some b2 := eb2
        obtain ⟨it, hit, isI⟩ := pair_at pr hx
        have il : i < its.length := (List.getElem?_eq_some_iff.mp hit).1
        have dr : its.drop i = it :: its.drop (i + 1) := by
          rw [List.drop_eq_getElem_cons il]
          congr 1
          have := List.getElem?_eq_getElem il
          rw [hit] at this
          exact (Option.some.inj this).symm
        rw [dr] at eb
        refine ⟨Tp, _, rfl, .inl (.inl upd_same), rfl, _, _, rfl, _, _, rfl, rfl, ?_⟩
        have hdT := sT _ _ hdt
        have is3 := isI.same s3
        generalize upd H2 Tp (.tup [V.int (i : Int), b2]) = H3 at s3 hdT is3
        have raise : ∀ y5 y6 : Option V, badAt [z] its = some i → ∀ G, Same H G → RsR (fun cls d _ H => E cls d H) CL "index" [some (.str z), some (.ref q), some (.ref p), some (.int (i : Int)), some b2, y5, y6] (.int (i : Int)) G := fun y5 y6 e G sG => RsR.of (W := fun cls d _ H => E cls d H) (C := CL) (f := "index") (y := .int (i : Int)) (H1 := G) fun d nd => bad i e _ d (sG.trans (same_new nd)) upd_same
        match it, is3, eb with
        | none, is3, eb =>
          have e0 : badAt [z] its = some i := by
            rw [eb]
            show some (0 + i) = some i
            rw [Nat.zero_add]
          rcases is3 with ⟨t5, h1, h2⟩ | ⟨q5, xs, rfl, h1, h2, h3⟩
          · refine ⟨_, rfl, _, _, _, _, false, rfl, .ty "tuple", h2 _ (.refl _), h1, false, rfl, iteT ?_⟩
            exact ⟨_, rfl, raise _ _ e0 _ s3⟩
          · obtain ⟨ty5, ht5, hk5⟩ := seqT_ty h1
            refine ⟨_, rfl, _, _, ty5, _, true, rfl, .ty "tuple", ht5, hk5, true, rfl, iteF ?_⟩
            refine ⟨_, rfl, q5, xs, rfl, .inr h1, rfl, _, rfl, ?_⟩
            have ne : ¬ V.int ((xs.length : Nat) : Int) = V.int 2 := fun e => by
              injection e with e
              omega
            rw [decide_eq_false ne]
            exact iteT ⟨_, rfl, raise _ _ e0 _ s3⟩
        | some (o, b), is3, eb =>
          obtain ⟨q5, x5, y5', rfl, h1, hax, hay, hlx, hnm, hsz⟩ := is3
          obtain ⟨ty5, ht5, hk5⟩ := seqT_ty h1
          refine ⟨_, rfl, _, _, ty5, _, true, rfl, .ty "tuple", ht5, hk5, true, rfl, iteF ?_⟩
          refine ⟨_, rfl, q5, _, rfl, .inr h1, rfl, _, rfl, ?_⟩
          refine iteF ⟨_, rfl, q5, _, rfl, h1, rfl, _, _, rfl, _, _, rfl, rfl, ?_⟩
          refine ⟨_, rfl, x5, rfl, hax _ (.refl _), hlx, fun H4 s4 => ⟨isNm x5, rfl, ?_⟩⟩
          rw [hnm.is]
          cases o with
          | none =>
            have e0 : badAt [z] its = some i := by
              rw [eb]
              show some (0 + i) = some i
              rw [Nat.zero_add]
            exact iteT ⟨_, rfl, raise _ _ e0 _ (s3.trans s4)⟩
          | some zn =>
            obtain ⟨rfl, hzn⟩ := hnm
            refine iteF ⟨_, rfl, y5', rfl, hay _ s4, isSz y5', rfl, ?_⟩
            rw [hsz]
            cases b with
            | false =>
              have e0 : badAt [z] its = some i := by
                rw [eb]
                show some (0 + i) = some i
                rw [Nat.zero_add]
              exact iteT ⟨_, rfl, raise _ _ e0 _ (s3.trans s4)⟩
            | true =>
              have hd4 := s4 _ _ hdT
              refine iteF ⟨_, rfl, _, rfl, p, _, rfl, DGet.k (k := Sum.inr zn) hd4, _, rfl, ?_⟩
              rw [keys_in]
              by_cases m : zn ∈ t
              · have e0 : badAt [z] its = some i := by
                  rw [eb]
                  show Option.map _ (if zn ∈ t then some 0 else _) = some i
                  rw [if_pos m]
                  show some (0 + i) = some i
                  rw [Nat.zero_add]
                rw [decide_eq_true m]
                exact iteT ⟨_, rfl, raise _ _ e0 _ (s3.trans s4)⟩
              · rw [decide_eq_false m]
                refine iteF ⟨_, rfl, _, rfl, p, _, rfl, DPut.k (k := Sum.inr zn) hd4 ?_, ?_⟩
                · show (t.map _).length < sizeLine
                  rw [List.length_map]
                  exact small1000 (by omega)
                rw [keys_put m]
                refine ⟨fun a o ha => ?_, t ++ [zn], upd_same, by rw [List.length_append]; show t.length + 1 ≤ _; omega, ?_, _, _, _, _, rfl⟩
                · have na : a ≠ p := fun e => by rw [e, np] at ha; cases ha
                  rw [upd_ne na]
                  exact (s3.trans s4) _ _ ha
                · rw [eb]
                  show Option.map _ (if zn ∈ t then some 0 else (badAt (t ++ [zn]) (its.drop (i + 1))).map (· + 1)) = _
                  rw [if_neg m, Option.map_map]
                  congr 1
                  funext n
                  show n + 1 + i = n + (i + 1)
                  omega
      · obtain ⟨s2, t, hdt, tl, eb, y3, y4, y5, y6, rfl⟩ := hp
        rw [List.drop_of_length_le (by omega)] at eb
        exact good eb _ s2
end
end Jo

set_option Elab.async false
set_option linter.all false
set_option maxRecDepth 100000
set_option maxHeartbeats 1000000
namespace Jo
open PySem PySem.Spec PyProof.Rows L2 ClX
open L2H (RoomH roomH_of)
/-- y is shown as z: data -/
def ShK (K : PySem.W.Frag) (H : Hp) (y : V) (z : Str) : Prop := ∃ (d : PyData) (n : Nat), ShD K H n y d ∧ d.showable = true ∧ d.depth ≤ 60 ∧ d.shown.length ≤ sizeLine ∧ z = d.shown
/-- .. in every heap that goes on -/
def ShW (K : PySem.W.Frag) (H : Hp) (y : V) (z : Str) : Prop := ∀ G, Same H G → ShK K G y z
theorem ShW.same {K : PySem.W.Frag} {H G : Hp} {y : V} {z : Str} (h : ShW K H y z) (s : Same H G) : ShW K G y z := fun G2 s2 => h G2 (s.trans s2)
def rRepS (K : PySem.W.Frag) : List V → Hp → VK → Prop := fun xs H Q => ∃ (y : V) (z : Str), xs = [y] ∧ ShK K H y z ∧ Q (.str z) H
theorem cr_rep {X : Cx} (hr : RoomH 2 X.A) (hgd : X.A.guards = some []) : CallR X (.builtin "repr") (rRepS X.K) := by
  intro pins s σ H xs us Q I r h
  obtain ⟨y, z, rfl, ⟨d, n, h1, h2, h3, h4, rfl⟩, q⟩ := h
  exact call_reprA hgd (by have := hr.un; omega) pins s σ H _ us Q I r ⟨y, d, n, rfl, h1, h2, h3, h4, q⟩
def EK.word : EK → Str
  | .a => "name" | .s => "size" | .l => "slots" | .b => "body"
def EK.fld : EK → Str
  | .a => "value" | .s => "value" | .l => "index" | .b => "index"
def EK.cn : EK → Str
  | .a => "InvalidName" | .s => "InvalidSize" | .l => "InvalidSlots" | .b => "InvalidBody"
theorem ErC.er {K : PySem.W.Frag} {mg : Str → Option Value} {A : EK → Addr} {CR1 CR2 : Addr} (Ec : ErC K mg A CR1 CR2) : ∀ e : EK, Er1 K mg e.cn e.fld (A e) CR1 CR2
  | .a => Ec.a | .s => Ec.s | .l => Ec.l | .b => Ec.b
section
variable {P : Program} {w : World} {K : PySem.W.Frag} {mg : Str → Option Value} {base : Heap} {A : EK → Addr} {CR1 CR2 : Addr}
def n_told : List Str := ["_law_e", "_law_sorts", "_law_at"]
theorem sc_told : FnScope n_told ["_law_e"] (defScope s_told) := ⟨rfl, rfl, rfl, by decide +kernel, rfl, by decide +kernel, by decide +kernel⟩
def spTold (K : PySem.W.Frag) (A : EK → Addr) : Sp := fun vs H Q _ => ∃ a : Addr, vs = [.ref a] ∧ ∃ (e : EK) (y : V) (z : Str), ShW K H y z ∧ CauW H a (A e) e.fld y ∧ ∀ p G, G p = some (.tup [.str e.word, .str z]) → Same H G → Q (.ref p) G
def bitE (e : EK) : List V := [.bl (decide (e = .a)), .bl (decide (e = .s)), .bl (decide (e = .l)), .bl (decide (e = .b))]
theorem ok_told (T : Txt mg) (Ec : ErC K mg A CR1 CR2) (D : Dfn K mg "_law_told" s_told ["_law_e"]) : CalW true P w K mg base 3 "_law_told" ["_law_e"] (spTold K A) := by
  refine D.okW sc_told (fun vs H Q E h => ?_) (fun f cdv Ar fr s H vs Q E hr hgd h => ?_)
  · obtain ⟨a, rfl, _⟩ := h
    rfl
  · obtain ⟨a, rfl, h⟩ := h
    refine ⟨_, pss_cons (ps_set (i := 1) sc_told.nd rfl (.inl rfl) (pe_lst (pa_cons (pe_callB call_isW rfl T.b_isinstance (by decide +kernel) (pa_cons (pv 0) (pa_cons (pe_glob (v := .ref (A .a)) rfl Ec.a.g rfl) pa_nil))) (pa_cons (pe_callB call_isW rfl T.b_isinstance (by decide +kernel) (pa_cons (pv 0) (pa_cons (pe_glob (v := .ref (A .s)) rfl Ec.s.g rfl) pa_nil))) (pa_cons (pe_callB call_isW rfl T.b_isinstance (by decide +kernel) (pa_cons (pv 0) (pa_cons (pe_glob (v := .ref (A .l)) rfl Ec.l.g rfl) pa_nil))) pa_nil)))))
      (pss_cons (ps_expr (pe_bm PySem.F.plainAttrs_list PySem.F.slot_list_append PySem.F.type_list_append mt_append (pv 1) (pa_cons (pe_callB call_isW rfl T.b_isinstance (by decide +kernel) (pa_cons (pv 0) (pa_cons (pe_glob (v := .ref (A .b)) rfl Ec.b.g rfl) pa_nil))) pa_nil)))
      (pss_cons (ps_if (pt_cmpR op_ne (pe_bm PySem.F.plainAttrs_list PySem.F.slot_list_count PySem.F.type_list_count mt_countF (pv 1) (pa_cons pe_bl pa_nil)) pe_int (nomark _))
        (pss_one (ps_ret (pe_tup (pa_cons pe_str pa_nil))))
        (pss_nil))
      (pss_cons (ps_set (i := 2) sc_told.nd rfl (.inl rfl) (pe_bm PySem.F.plainAttrs_list PySem.F.slot_list_index PySem.F.type_list_index mt_index (pv 1) (pa_cons pe_bl pa_nil)))
      (pss_one (ps_ret (pe_tup (pa_cons (pe_ix ix_list (pe_lst (pa_cons pe_str (pa_cons pe_str (pa_cons pe_str (pa_cons pe_str pa_nil))))) (pv 2) (fun _ _ => rfl)) (pa_cons (pe_ifExp (pt_cmpR op_lt (pv 2) pe_int (nomark _)) (pe_callB (cr_rep hr (hgd rfl)) rfl T.b_repr (by decide +kernel) (pa_cons (pe_wf (pv 0) rfl) pa_nil)) (pe_callB (cr_rep hr (hgd rfl)) rfl T.b_repr (by decide +kernel) (pa_cons (pe_wf (pv 0) rfl) pa_nil))) pa_nil)))))))), ?_⟩
    obtain ⟨e, y, z, hz, hc, q⟩ := h
    obtain ⟨BT, bT, nT, iT, mT, eT, fT⟩ := (Ec.er e).T
    refine ⟨_, rfl, _, _, _, _, _, _, _, _, _, _, _, _, rfl, hc, eT, fT, Ec.cw, .own _, Ec.k e .a, _, rfl, _, _, _, _, _, _, _, _, _, _, _, _, rfl, hc, eT, fT, Ec.cw, .own _, Ec.k e .s, _, rfl, _, _, _, _, _, _, _, _, _, _, _, _, rfl, hc, eT, fT, Ec.cw, .own _, Ec.k e .l, (show 3 ≤ sizeLine by decide), fun l nl => ?_⟩
    have sl := same_new (o := .lst [.bl (decide (e = .a)), .bl (decide (e = .s)), .bl (decide (e = .l))]) nl
    have hl := upd_same (H := H) (a := l) (o := .lst [.bl (decide (e = .a)), .bl (decide (e = .s)), .bl (decide (e = .l))])
    have hc2 := hc.same sl
    refine ⟨_, rfl, .inl ⟨rfl, _, SqL.of hl⟩, _, rfl, _, _, _, _, _, _, _, _, _, _, _, _, rfl, hc2, eT, fT, Ec.cw, .own _, Ec.k e .b, l, _, .bl (decide (e = .b)), rfl, rfl, hl, (show 3 < sizeLine by decide), ?_⟩
    have s2 : Same H (upd (upd H l (.lst [.bl (decide (e = .a)), .bl (decide (e = .s)), .bl (decide (e = .l))])) l (.lst ([.bl (decide (e = .a)), .bl (decide (e = .s)), .bl (decide (e = .l))] ++ [.bl (decide (e = .b))]))) := fun b o hb => by
      have nb : b ≠ l := fun q => by rw [q, nl] at hb; cases hb
      rw [upd_ne nb, upd_ne nb]
      exact hb
    have hl2 : upd (upd H l (.lst [.bl (decide (e = .a)), .bl (decide (e = .s)), .bl (decide (e = .l))])) l (.lst ([.bl (decide (e = .a)), .bl (decide (e = .s)), .bl (decide (e = .l))] ++ [.bl (decide (e = .b))])) l = some (.lst (bitE e)) := upd_same
    have hc3 := hc.same s2
    generalize upd (upd H l (.lst [.bl (decide (e = .a)), .bl (decide (e = .s)), .bl (decide (e = .l))])) l (.lst ([.bl (decide (e = .a)), .bl (decide (e = .s)), .bl (decide (e = .l))] ++ [.bl (decide (e = .b))])) = H2 at s2 hl2 hc3
    clear hl hc2 sl
    match e, hc3, q, hl2, eT, fT with
    | .a, hc3, q, hl2, eT, fT =>
      have nf := (Ec.er .a).n
      refine ⟨_, rfl, .inl ⟨rfl, _, SqL.of hl2⟩, l, _, .bl true, rfl, rfl, SqL.of hl2, rfl, rfl, rfl, _, rfl, iteF ?_⟩
      refine ⟨_, rfl, .inl ⟨rfl, _, SqL.of hl2⟩, l, _, .bl true, 0, .bl true, rfl, rfl, SqL.of hl2, rfl, rfl, rfl, rfl, (fun m z' hm hz' => ?_), ?_⟩
      · match m, hm, hz' with
      | m + 0, hm, _ => omega
      refine ⟨(show 4 ≤ sizeLine by decide), fun l2 nl2 => ?_⟩
      have s3 := same_new (o := .lst [.str "name", .str "size", .str "slots", .str "body"]) nl2
      have hc4 := hc3.same s3
      refine ⟨_, rfl, l2, _, 0, _, rfl, rfl, SqL.of upd_same, atI_nat (j := 0) rfl, ?_⟩
      refine ⟨_, rfl, _, _, rfl, rfl, _, rfl, iteT ⟨_, rfl, _, _, _, _, _, _, _, _, rfl, hc4, eT, fT, nf, y, z, rfl, hz _ (s2.trans s3), (show 2 ≤ sizeLine by decide), fun p np => q p _ upd_same ((s2.trans s3).trans (same_new np))⟩⟩
    | .s, hc3, q, hl2, eT, fT =>
      have nf := (Ec.er .s).n
      refine ⟨_, rfl, .inl ⟨rfl, _, SqL.of hl2⟩, l, _, .bl true, rfl, rfl, SqL.of hl2, rfl, rfl, rfl, _, rfl, iteF ?_⟩
      refine ⟨_, rfl, .inl ⟨rfl, _, SqL.of hl2⟩, l, _, .bl true, 1, .bl true, rfl, rfl, SqL.of hl2, rfl, rfl, rfl, rfl, (fun m z' hm hz' => ?_), ?_⟩
      · match m, hm, hz' with
      | 0, _, hz' => cases hz'; rfl
      | m + 1, hm, _ => omega
      refine ⟨(show 4 ≤ sizeLine by decide), fun l2 nl2 => ?_⟩
      have s3 := same_new (o := .lst [.str "name", .str "size", .str "slots", .str "body"]) nl2
      have hc4 := hc3.same s3
      refine ⟨_, rfl, l2, _, 1, _, rfl, rfl, SqL.of upd_same, atI_nat (j := 1) rfl, ?_⟩
      refine ⟨_, rfl, _, _, rfl, rfl, _, rfl, iteT ⟨_, rfl, _, _, _, _, _, _, _, _, rfl, hc4, eT, fT, nf, y, z, rfl, hz _ (s2.trans s3), (show 2 ≤ sizeLine by decide), fun p np => q p _ upd_same ((s2.trans s3).trans (same_new np))⟩⟩
    | .l, hc3, q, hl2, eT, fT =>
      have nf := (Ec.er .l).n
      refine ⟨_, rfl, .inl ⟨rfl, _, SqL.of hl2⟩, l, _, .bl true, rfl, rfl, SqL.of hl2, rfl, rfl, rfl, _, rfl, iteF ?_⟩
      refine ⟨_, rfl, .inl ⟨rfl, _, SqL.of hl2⟩, l, _, .bl true, 2, .bl true, rfl, rfl, SqL.of hl2, rfl, rfl, rfl, rfl, (fun m z' hm hz' => ?_), ?_⟩
      · match m, hm, hz' with
      | 0, _, hz' => cases hz'; rfl
      | 1, _, hz' => cases hz'; rfl
      | m + 2, hm, _ => omega
      refine ⟨(show 4 ≤ sizeLine by decide), fun l2 nl2 => ?_⟩
      have s3 := same_new (o := .lst [.str "name", .str "size", .str "slots", .str "body"]) nl2
      have hc4 := hc3.same s3
      refine ⟨_, rfl, l2, _, 2, _, rfl, rfl, SqL.of upd_same, atI_nat (j := 2) rfl, ?_⟩
      refine ⟨_, rfl, _, _, rfl, rfl, _, rfl, iteF ⟨_, rfl, _, _, _, _, _, _, _, _, rfl, hc4, eT, fT, nf, y, z, rfl, hz _ (s2.trans s3), (show 2 ≤ sizeLine by decide), fun p np => q p _ upd_same ((s2.trans s3).trans (same_new np))⟩⟩
    | .b, hc3, q, hl2, eT, fT =>
      have nf := (Ec.er .b).n
      refine ⟨_, rfl, .inl ⟨rfl, _, SqL.of hl2⟩, l, _, .bl true, rfl, rfl, SqL.of hl2, rfl, rfl, rfl, _, rfl, iteF ?_⟩
      refine ⟨_, rfl, .inl ⟨rfl, _, SqL.of hl2⟩, l, _, .bl true, 3, .bl true, rfl, rfl, SqL.of hl2, rfl, rfl, rfl, rfl, (fun m z' hm hz' => ?_), ?_⟩
      · match m, hm, hz' with
      | 0, _, hz' => cases hz'; rfl
      | 1, _, hz' => cases hz'; rfl
      | 2, _, hz' => cases hz'; rfl
      | m + 3, hm, _ => omega
      refine ⟨(show 4 ≤ sizeLine by decide), fun l2 nl2 => ?_⟩
      have s3 := same_new (o := .lst [.str "name", .str "size", .str "slots", .str "body"]) nl2
      have hc4 := hc3.same s3
      refine ⟨_, rfl, l2, _, 3, _, rfl, rfl, SqL.of upd_same, atI_nat (j := 3) rfl, ?_⟩
      refine ⟨_, rfl, _, _, rfl, rfl, _, rfl, iteF ⟨_, rfl, _, _, _, _, _, _, _, _, rfl, hc4, eT, fT, nf, y, z, rfl, hz _ (s2.trans s3), (show 2 ≤ sizeLine by decide), fun p np => q p _ upd_same ((s2.trans s3).trans (same_new np))⟩⟩
end
end Jo

set_option Elab.async false
set_option linter.all false
set_option maxRecDepth 100000
set_option maxHeartbeats 1000000
namespace Jo
open PySem PySem.Spec PyProof.Rows L2 ClX
open L2H (RoomH roomH_of)
open LamX (Tabs TabS ExtN CodeO TabB lamS_by LamS lamCx lamEnv tLam pe_lamcall)
theorem small_len' {n : Nat} (h : n ≤ 4000) : n ≤ sizeLine := Nat.le_trans h (by decide)
theorem cut26 : cutS signs none (some 26) = letters := by decide +kernel
section
variable {P : Program} {w : World} {K : PySem.W.Frag} {mg : Str → Option Value} {base : Heap} {A : EK → Addr} {CR1 CR2 : Addr}
def n_lis_name : List Str := ["_law_thing", "_law_signs", "_law_sign"]
theorem sc_lis_name : FnScope n_lis_name ["_law_thing"] (defScope s_lis_name) := ⟨rfl, rfl, rfl, by decide +kernel, rfl, by decide +kernel, by decide +kernel⟩
theorem ok_lis_name (T : Txt mg) (D : Dfn K mg "_law_is_name" s_lis_name ["_law_thing"]) : CalG P w K mg base 1 "_law_is_name" ["_law_thing"] (spIsName K) := by
  refine D.ok sc_lis_name (fun vs H Q E h => ?_) (fun f cdv A fr s H vs Q E hr hgd h => ?_)
  · obtain ⟨z, rfl, _⟩ := h
    rfl
  · obtain ⟨x, rfl, ⟨t, i, b, z, ht, _, _, hz, _, e⟩, hlen, q⟩ := h
    refine ⟨_, pss_cons (ps_if (PW.pt (pw_or (pt_not (pt_val (pe_callB call_isi rfl T.b_isinstance (by decide +kernel) (pa_cons (pv 0) (pa_cons (pe_bltn (v := .ty "str") (u := .type "str") rfl T.b_str (by decide +kernel) rfl) pa_nil))))) (pw_or1 (pt_not (pt_chain op_lt op_lt pe_int (pe_callB call_len rfl T.b_len (by decide +kernel) (pa_cons (pv 0) pa_nil)) pe_int)))))
        (pss_one (ps_ret pe_bl))
        (pss_nil))
      (pss_cons (ps_set (i := 1) sc_lis_name.nd rfl (.inr rfl) pe_str)
      (pss_one (ps_ret (pe_and (pe_cmpR op_in_sign (pe_item_str (pv 0) pe_int (fun _ _ => rfl)) (pe_slice sl_str (pv 1) po_none (po_some pe_int)) rfl) (pe_one (pe_callB (cr_all rfl) rfl T.b_all (by decide +kernel) (pa_cons (pe_lc (own := [("_law_sign", 2)]) (g := gName 2) (tt := tYes) rfl sc_lis_name.nd (pi_str (pv 0)) (blkOk_by (N := n_lis_name) (sc := defScope s_lis_name) (by decide +kernel)) (fun _ _ _ _ _ => pg_name (i := 2) sc_lis_name.nd rfl (Or.inl rfl)) (fun _ _ _ _ _ => pts_nil) (fun _ _ _ _ _ => (pe_cmpR op_in_sign (pv 2) (pv 1) rfl))) pa_nil))))))), ?_⟩
    refine ⟨x, rfl, x, _, t, _, z, rfl, .ty "str", ht, hz, z, rfl, ?_⟩
    subst e
    cases x with
    | str y =>
      have hl := hlen y rfl
      have q' : ∀ H', Same H H' → Q (.bl (nmS y)) H' := q
      refine iteF ⟨_, rfl, .str y, y.length, rfl, ⟨Nat.le_trans hl (by decide), rfl⟩, _, _, rfl, rfl, _, rfl, ?_⟩
      by_cases h1 : (0 : Int) < (y.length : Int)
      · rw [decide_eq_true h1]
        have h1' : (1 : Int) ≤ (y.length : Int) := by omega
        refine iteT ⟨_, _, rfl, rfl, _, rfl, ?_⟩
        by_cases h2 : (y.length : Int) < 9
        · rw [decide_eq_true h2]
          have h2' : (y.length : Int) ≤ 8 := by omega
          refine iteF ?_
          have h0 : 0 < y.cps.size := by rw [← len_cps]; omega
          have c0 : y.cps[0]? = some (y.cps.getD 0 0) := by simp [Array.getD_eq_getD_getElem?, h0]
          refine ⟨_, rfl, y, 0, y.cps.getD 0 0, rfl, rfl, by decide, by decide, by omega, c0, _, rfl, _, rfl, signs, rfl, (show signs.length ≤ sizeLine from Nat.le_trans (show _ ≤ 100 by decide +kernel) (by decide)), _, letters, rfl, congrArg V.str cut26, _, rfl, ?_⟩
          by_cases h3 : y.cps.getD 0 0 ∈ letters.cps.toList
          · rw [decide_eq_true h3]
            refine iteT ⟨_, rfl, y, rfl, fun Dl hD => lc_fun walk_str (fun i => .bl (decide (y.cps.getD i 0 ∈ signs.cps.toList))) (by rw [← len_cps]; exact Nat.lt_of_le_of_lt hl (by decide)) (fun i x H0 H0' Q0 hi hy hq => ?_) ?_⟩
            · obtain ⟨rfl, c, hc, rfl⟩ := hy
              refine ⟨rfl, _, rfl, _, rfl, c, signs, rfl, rfl, ?_⟩
              rw [← cps_get hc]
              exact hq
            · refine ⟨Dl, (List.range y.cps.size).map fun i => decide (y.cps.getD i 0 ∈ signs.cps.toList), rfl, .of (by rw [upd_same, List.map_map]; rfl), ?_⟩
              have en : nmS y = ((List.range y.cps.size).map fun i => decide (y.cps.getD i 0 ∈ signs.cps.toList)).all id := by
                unfold nmS
                rw [decide_eq_true h1', decide_eq_true h2', decide_eq_true h3]
                rfl
              rw [← en]
              exact q' _ (same_new hD)
          · rw [decide_eq_false h3]
            have en : nmS y = false := by
              unfold nmS
              rw [decide_eq_false h3, Bool.false_and, Bool.and_false]
            refine iteF ?_
            rw [← en]
            exact q' _ (Same.refl _)
        · rw [decide_eq_false h2]
          have en : nmS y = false := by
            unfold nmS
            rw [decide_eq_false (show ¬ (y.length : Int) ≤ 8 by omega), Bool.and_false, Bool.false_and]
          refine iteT ?_
          show Q (.bl false) H
          rw [← en]
          exact q' _ (Same.refl _)
      · rw [decide_eq_false h1]
        have en : nmS y = false := by
          unfold nmS
          rw [decide_eq_false (show ¬ (1 : Int) ≤ (y.length : Int) by omega), Bool.false_and, Bool.false_and]
        refine iteF ⟨_, rfl, iteT ?_⟩
        show Q (.bl false) H
        rw [← en]
        exact q' _ (Same.refl _)
    | _ => exact iteT (q _ (Same.refl _))
theorem sc_lis_size : FnScope ["_law_thing"] ["_law_thing"] (defScope s_lis_size) := ⟨rfl, rfl, rfl, by decide +kernel, rfl, by decide +kernel, by decide +kernel⟩
theorem ok_lis_size (T : Txt mg) (D : Dfn K mg "_law_is_size" s_lis_size ["_law_thing"]) : CalG P w K mg base 1 "_law_is_size" ["_law_thing"] (spIsSize K) := by
  refine D.ok sc_lis_size (fun vs H Q E h => ?_) (fun f cdv A fr s H vs Q E hr hgd h => ?_)
  · obtain ⟨z, rfl, _⟩ := h
    rfl
  · obtain ⟨x, rfl, ⟨t, i, b, z, ht, hi, hb, hz, e, _⟩, q⟩ := h
    refine ⟨_, pss_one (ps_ret (pe_and (pe_callB call_isi rfl T.b_isinstance (by decide +kernel) (pa_cons (pv 0) (pa_cons (pe_bltn (v := .ty "int") (u := .type "int") rfl T.b_int (by decide +kernel) rfl) pa_nil))) (pe_and (pe_not (pe_callB call_isi rfl T.b_isinstance (by decide +kernel) (pa_cons (pv 0) (pa_cons (pe_bltn (v := .ty "bool") (u := .type "bool") rfl T.b_bool (by decide +kernel) rfl) pa_nil)))) (pe_one (pe_chain op_lt op_lt pe_int (pv 0) pe_int))))), ?_⟩
    refine ⟨x, rfl, x, _, t, _, i, rfl, .ty "int", ht, hi, i, rfl, ?_⟩
    cases i with
    | false =>
      have e2 : isI x = false := e.symm
      have e3 : isSz x = false := by cases x <;> first | rfl | cases e2
      rw [e3] at q
      exact iteF q
    | true =>
      refine iteT ⟨x, rfl, x, _, t, _, b, rfl, .ty "bool", ht, hb, _, rfl, ?_⟩
      cases b with
      | true =>
        have e2 : isI x = false := e.symm
        have e3 : isSz x = false := by cases x <;> first | rfl | cases e2
        rw [e3] at q
        exact ⟨_, rfl, iteF q⟩
      | false =>
        have e2 : isI x = true := e.symm
        cases x with
        | int n =>
          refine ⟨_, rfl, iteT ⟨_, rfl, _, _, rfl, rfl, _, rfl, ?_⟩⟩
          by_cases h1 : (0 : Int) < n
          · rw [decide_eq_true h1]
            refine iteT ⟨_, _, rfl, rfl, ?_⟩
            have e : isSz (.int n) = decide (n < 41) := by
              show (decide (1 ≤ n) && decide (n ≤ 40)) = _
              rw [decide_eq_true (show (1 : Int) ≤ n by omega), Bool.true_and]
              exact decide_eq_decide.mpr (by omega)
            rw [e] at q
            exact q
          · rw [decide_eq_false h1]
            have e : isSz (.int n) = false := by
              show (decide (1 ≤ n) && decide (n ≤ 40)) = _
              rw [decide_eq_false (show ¬ (1 : Int) ≤ n by omega)]
              rfl
            rw [e] at q
            exact iteF q
        | _ => cases e2
theorem sc_fault : FnScope ["_law_act", "_law_e"] ["_law_act"] (defScope s_fault) := ⟨rfl, rfl, rfl, by decide +kernel, rfl, by decide +kernel, by decide +kernel⟩
theorem pe_fault {X : Cx} {k : Nat} {c Pt : Addr} {T : List (Addr × Str)} {params : Arguments} {body : Expr} {scope : Scope} {t : XK → TE} {p lpos pos : Pos} (Ec : ErC X.K X.mg A CR1 CR2) (D : Dfn X.K X.mg "_law_fault" s_fault ["_law_act"])
    (c_told : CalW true X.prog X.w X.K X.mg X.base 3 "_law_told" ["_law_e"] (spTold X.K A)) (TB : TabB X.base X.mg c Pt) (hcode : X.env.code = .ref c) (hin : (Pt, X.env.qual ++ "<lambda>") ∈ T) (hun : ∀ q ∈ T, q.1 = Pt → q.2 = X.env.qual ++ "<lambda>") (hk : 3 ≤ k + 1) (hr : Room (k + 2) X.A) (hgd : X.A.guards = some []) (hg : Gl X "_law_fault")
    (L : LamX.LamS X.env.scope scope) (hdef : defaultsOf params X.env = ([], [])) (hbind : ∀ (q : Str) (cl : List (Str × Addr)) (pm cv ctv : Value), bindArgs (PySem.W.kla_fn "<lambda>" q params body scope cl pm cv ctv) ⟨[], []⟩ = pure [])
    (hbody : ∀ (A : Around) (outer : List Env) (s : Shared) (H : Hp) (E : XK) (f c' : Addr), Room k (A.deeper (lamEnv X scope s.heap.objs.size f c')) → PE (lamCx X A outer s H E scope f c') body (t E)) :
    PE X (.Call (.Name "_law_fault" p) [.Lambda params body scope lpos] [] pos) (tLam T (TFault X.K CR1 CR2 (spTold X.K A)) t) := by
  obtain ⟨g, fd, F, hm, hb, _⟩ := D.ex
  obtain ⟨oc, od, kV, doc, pm, an, cdv, ct, osl, rfl, lk, hcg⟩ := F.ex
  exact pe_lamcall (k := k) hg hm F.kp lk hcg hb sc_fault rfl (.inl rfl) (fault_gives (j := k + 1) sc_fault.nd (fun f => rfl) rfl rfl rfl rfl rfl rfl Ec.g1 Ec.g2 (by decide) (by decide) (by decide) (by decide) (by decide) c_told hr hk hgd)
    TB hcode hin hun hr L hdef hbind hbody
end
end Jo

set_option Elab.async false
set_option linter.all false
set_option maxRecDepth 100000
set_option maxHeartbeats 2000000
namespace Jo
open PySem PySem.Spec PyProof.Rows L2 ClX
/-! ### Entry's __init__ -/
def psY : List Str := ["self", "name", "arguments", "results", "parameter", "slots", "body"]
theorem sc_entry : FnScope psY psY (defScope m_Entry_init) := ⟨rfl, rfl, rfl, by decide +kernel, rfl, by decide +kernel, by decide +kernel⟩
/-- the class of entries -/
structure YT (K : PySem.W.Frag) (mg : Str → Option Value) (CY : Addr) : Prop where
  own : OwnC K CY
  na : ∀ f ∈ (["name", "arguments", "results", "parameter", "slots", "body"] : List Str), NoAttr K CY f
  mgY : mg "Entry" = some (.ref CY)
/-- a name; a size; slots beside a parameter; a body -/
inductive AK | nm | sz | sl (par : Str) | bd
def ArgG (K : PySem.W.Frag) (CK : Sk → Addr) (H : Hp) : AK → V → Prop
  | .nm, v => ∃ z : Str, v = .str z ∧ nmS z = true
  | .sz, v => ∃ n : Int, v = .int n ∧ 1 ≤ n ∧ n ≤ 40
  | .sl par, v => SlG K H par v
  | .bd, v => ∃ b : List SR, BIs K CK H b v ∧ Wide [b] ∧ amtS [b] ≤ 400
def ArgB (K : PySem.W.Frag) (CS : Addr) (CK : Sk → Addr) (H : Hp) : AK → V → EK → V → Prop
  | .nm, v, e, y => e = .a ∧ y = v ∧ BadNam K H v
  | .sz, v, e, y => e = .s ∧ y = v ∧ (∀ G, Same H G → AnyV K G v) ∧ isSz v = false
  | .sl par, v, e, y => e = .l ∧ ∃ o, y = iv o ∧ SlB K H par v o
  | .bd, v, e, y => e = .b ∧ ∃ o, y = iv o ∧ BadBd K CK CS H v o
section
variable {K : PySem.W.Frag} {CS : Addr} {CK : Sk → Addr} {A : EK → Addr} {H G : Hp} {E : XK} {v : V} {k : AK}
theorem ArgG.same (h : ArgG K CK H k v) (s : Same H G) : ArgG K CK G k v := by
  cases k with
  | nm => exact h
  | sz => exact h
  | sl par => exact SlG.same h s
  | bd => obtain ⟨b, h1, h2⟩ := h; exact ⟨b, h1.same s, h2⟩
theorem ArgB.same {e : EK} {y : V} (h : ArgB K CS CK H k v e y) (s : Same H G) : ArgB K CS CK G k v e y := by
  cases k with
  | nm => exact ⟨h.1, h.2.1, h.2.2.same s⟩
  | sz => exact ⟨h.1, h.2.1, fun G2 s2 => h.2.2.1 G2 (s.trans s2), h.2.2.2⟩
  | sl par => obtain ⟨h1, o, h2, h3⟩ := h; exact ⟨h1, o, h2, h3.same s⟩
  | bd => obtain ⟨h1, o, h2, h3⟩ := h; exact ⟨h1, o, h2, h3.same s⟩
/-- v is refused -/
def BadA (K : PySem.W.Frag) (CS : Addr) (CK : Sk → Addr) (A : EK → Addr) (H : Hp) (E : XK) (k : AK) (v : V) : Prop := ∃ e y, ArgB K CS CK H k v e y ∧ NoE (A e) e.fld y H E
theorem BadA.same (h : BadA K CS CK A H E k v) (s : Same H G) : BadA K CS CK A G E k v := let ⟨e, y, h1, h2⟩ := h; ⟨e, y, h1.same s, h2.go s⟩
end
/-- what stands in an entry -/
structure EntF (fs : List (Str × V)) (v1 v2 v3 v4 v5 v6 : V) : Prop where
  name : fs.lookup ("name" : Str) = some v1
  arguments : fs.lookup ("arguments" : Str) = some v2
  results : fs.lookup ("results" : Str) = some v3
  parameter : fs.lookup ("parameter" : Str) = some v4
  slots : fs.lookup ("slots" : Str) = some v5
  body : fs.lookup ("body" : Str) = some v6
def EntIs (CY : Addr) (H : Hp) (v1 v2 v3 v4 v5 v6 v : V) : Prop := ∃ (a dx : Addr) (fs : List (Str × V)), v = .ref a ∧ H a = some (.ins CY dx fs) ∧ EntF fs v1 v2 v3 v4 v5 v6
theorem EntIs.same {CY : Addr} {H G : Hp} {v1 v2 v3 v4 v5 v6 v : V} (h : EntIs CY H v1 v2 v3 v4 v5 v6 v) (s : Same H G) : EntIs CY G v1 v2 v3 v4 v5 v6 v := let ⟨a, dx, fs, e, h1, h2⟩ := h; ⟨a, dx, fs, e, s _ _ h1, h2⟩
section
variable {P : Program} {w : World} {K : PySem.W.Frag} {mg : Str → Option Value} {base : Heap} {C : Kd → Addr} {CE CS CY : Addr} {CK : Sk → Addr} {A : EK → Addr}
structure Chs (P : Program) (w : World) (K : PySem.W.Frag) (mg : Str → Option Value) (base : Heap) (CS : Addr) (CK : Sk → Addr) (A : EK → Addr) : Prop where
  nm : CalF P w K mg base 2 "check_name" ["value"] spCheckName
  nmX : CalX P w K mg base 3 "check_name" ["value"] (spNameX K (A .a))
  sz : CalF P w K mg base 3 "check_size" ["value"] (spCheckSize K)
  szX : CalX P w K mg base 3 "check_size" ["value"] (spSizeX K (A .s))
  sl : CalX P w K mg base 3 "check_slots" ["parameter", "slots"] (spSlots K (A .l))
  bd : CalF P w K mg base 1 "check_body" ["body"] (spCheckBody K CK)
  bdX : CalX P w K mg base 3 "check_body" ["body"] (spBodyX K CK CS (A .b))
  am : CalF P w K mg base 1 "amount_of" ["bodies"] (spBods K CK fun bs => .int ((amtS bs : Nat) : Int))
def spEnt (K : PySem.W.Frag) (CS : Addr) (CK : Sk → Addr) (A : EK → Addr) (CY : Addr) : Sp := fun vs H Q E => ∃ (a dx : Addr) (v1 v2 v3 v4 v5 v6 : V), vs = [.ref a, v1, v2, v3, v4, v5, v6] ∧ H a = some (.ins CY dx []) ∧
  (BadA K CS CK A H E .nm v1 ∨ (ArgG K CK H .nm v1 ∧ (BadA K CS CK A H E .sz v2 ∨ (ArgG K CK H .sz v2 ∧ (BadA K CS CK A H E .sz v3 ∨ (ArgG K CK H .sz v3 ∧ (BadA K CS CK A H E .nm v4 ∨
  ∃ z, v4 = .str z ∧ nmS z = true ∧ (BadA K CS CK A H E (.sl z) v5 ∨ (ArgG K CK H (.sl z) v5 ∧ (BadA K CS CK A H E .bd v6 ∨ (ArgG K CK H .bd v6 ∧
  ∀ G, Kp a H G → EntIs CY G v1 v2 v3 v4 v5 v6 (.ref a) → Q .non G)))))))))))
theorem ox_entry (T : Txt mg) (Y : YT K mg CY) (c : Chs P w K mg base CS CK A) {f : Addr} {fd : FuncData} {kws : List (Str × V)} (D : FunD K "__init__" "Entry.__init__" (defArgs m_Entry_init) (defBody m_Entry_init) (defScope m_Entry_init) [] kws f fd) : FnOk P w K mg base (L2N.CX P w) 5 f fd psY (spEnt K CS CK A CY) := by
  refine D.ok sc_entry (fun vs H Q E h => ?_) (fun cdv A fr s H vs Q E hr h => ?_)
  · obtain ⟨a, dx, v1, v2, v3, v4, v5, v6, rfl, _⟩ := h
    rfl
  · obtain ⟨a, dx, v1, v2, v3, v4, v5, v6, rfl, ha, h⟩ := h
    have tk := L2N.takes_of (X := cxOf (L2N.CX P w) P w K mg base psY "Entry.__init__" (defScope m_Entry_init) f cdv A fr s H E) rfl rfl rfl rfl
    refine ⟨_, pss_cons (ps_expr (pe_or (pe_cF c.nm hr (by decide) rfl (pa_cons (pv 1) pa_nil)) (pe_cX c.nmX hr (by decide) (passW tk) rfl (pa_cons (pv 1) pa_nil))))
      (pss_cons (ps_expr (pe_or (pe_cF c.sz hr (by decide) rfl (pa_cons (pv 2) pa_nil)) (pe_cX c.szX hr (by decide) (passW tk) rfl (pa_cons (pv 2) pa_nil))))
      (pss_cons (ps_expr (pe_or (pe_cF c.sz hr (by decide) rfl (pa_cons (pv 3) pa_nil)) (pe_cX c.szX hr (by decide) (passW tk) rfl (pa_cons (pv 3) pa_nil))))
      (pss_cons (ps_expr (pe_or (pe_cF c.nm hr (by decide) rfl (pa_cons (pv 4) pa_nil)) (pe_cX c.nmX hr (by decide) (passW tk) rfl (pa_cons (pv 4) pa_nil))))
      (pss_cons (ps_expr (pe_cX c.sl hr (by decide) (passW tk) rfl (pa_cons (pv 4) (pa_cons (pv 5) pa_nil))))
      (pss_cons (ps_expr (pe_or (pe_cF c.bd hr (by decide) rfl (pa_cons (pv 6) pa_nil)) (pe_cX c.bdX hr (by decide) (passW tk) rfl (pa_cons (pv 6) pa_nil))))
      (pss_cons (ps_if (pt_cmpR op_gt (pe_cF c.am hr (by decide) rfl (pa_cons (pe_tup (pa_cons (pv 6) pa_nil)) pa_nil)) (C8.pe_gc rfl T.g_MAX_STATEMENTS) (nomark _))
        (pss_one ps_never) (pss_nil))
      (pss_cons (ps_fld (pv 0) (pv 1) rfl)
      (pss_cons (ps_fld (pv 0) (pv 2) rfl)
      (pss_cons (ps_fld (pv 0) (pv 3) rfl)
      (pss_cons (ps_fld (pv 0) (pv 4) rfl)
      (pss_cons (ps_fld (pv 0) (pv 5) rfl)
      (pss_one (ps_fld (pv 0) (pv 6) rfl))))))))))))), ?_⟩
    rcases h with ⟨e, y, ⟨rfl, rfl, bad⟩, ne⟩ | ⟨⟨z1, rfl, nz1⟩, h⟩
    · exact .inr ⟨_, rfl, _, rfl, bad, ne⟩
    refine .inl ⟨_, rfl, z1, rfl, nz1, fun H1 s1 => ?_⟩
    rcases h with ⟨e, y, ⟨rfl, rfl, av, bad⟩, ne⟩ | ⟨⟨n2, rfl, a2, b2⟩, h⟩
    · exact .inr ⟨_, rfl, _, rfl, av _ s1, bad, ne.go s1⟩
    have sz : ∀ n : Int, 1 ≤ n → n ≤ 40 → isSz (.int n) = true := fun n h1 h2 => by
      show (decide (1 ≤ n) && decide (n ≤ 40)) = true
      rw [decide_eq_true h1, decide_eq_true h2]
      rfl
    refine .inl ⟨_, rfl, _, rfl, any_int _, sz _ a2 b2, ?_⟩
    rcases h with ⟨e, y, ⟨rfl, rfl, av, bad⟩, ne⟩ | ⟨⟨n3, rfl, a3, b3⟩, h⟩
    · exact .inr ⟨_, rfl, _, rfl, av _ s1, bad, ne.go s1⟩
    refine .inl ⟨_, rfl, _, rfl, any_int _, sz _ a3 b3, ?_⟩
    rcases h with ⟨e, y, ⟨rfl, rfl, bad⟩, ne⟩ | ⟨z4, rfl, nz4, h⟩
    · exact .inr ⟨_, rfl, _, rfl, bad.same s1, ne.go s1⟩
    refine .inl ⟨_, rfl, z4, rfl, nz4, fun H2 s2 => ?_⟩
    have s12 := s1.trans s2
    rcases h with ⟨e, y, ⟨rfl, o, rfl, bad⟩, ne⟩ | ⟨g5, h⟩
    · exact ⟨_, rfl, _, rfl, z4, v5, rfl, .inr ⟨o, bad.same s12, ne.go s12⟩⟩
    refine ⟨_, rfl, _, rfl, z4, v5, rfl, .inl ⟨SlG.same g5 s12, fun H3 s3 => ?_⟩⟩
    have s13 := s12.trans s3
    rcases h with ⟨e, y, ⟨rfl, o, rfl, bad⟩, ne⟩ | ⟨⟨b, ib, wb, le⟩, fin⟩
    · exact .inr ⟨_, rfl, _, o, rfl, bad.same s13, ne.go s13⟩
    refine .inl ⟨_, rfl, b, _, rfl, ib.same s13, fun H4 s4 => ?_⟩
    refine ⟨_, rfl, (show 1 ≤ sizeLine by decide), fun B nB => ?_⟩
    have s5 := s13.trans (s4.trans (same_new (o := .tup [v6]) nB))
    refine ⟨B, [b], [v6], rfl, .inl (.inl upd_same), .cons (ib.same s5) .nil, wb, fun H6 s6 => ⟨_, _, rfl, rfl, _, rfl, ?_⟩⟩
    rw [decide_eq_false (by omega)]
    have s7 := s5.trans s6
    have k7 := kp_of (p := a) s7
    have cl := Y.own.cl
    refine iteF ⟨_, rfl, _, rfl, a, _, dx, _, rfl, s7 _ _ ha, cl, Y.na _ (by decide +kernel), by decide, ?_⟩
    refine ⟨_, rfl, _, rfl, a, _, dx, _, rfl, upd_same, cl, Y.na _ (by decide +kernel), Nat.lt_of_le_of_lt (pf pf0) (by decide), ?_⟩
    refine ⟨_, rfl, _, rfl, a, _, dx, _, rfl, upd_same, cl, Y.na _ (by decide +kernel), Nat.lt_of_le_of_lt (pf (pf pf0)) (by decide), ?_⟩
    refine ⟨_, rfl, _, rfl, a, _, dx, _, rfl, upd_same, cl, Y.na _ (by decide +kernel), Nat.lt_of_le_of_lt (pf (pf (pf pf0))) (by decide), ?_⟩
    refine ⟨_, rfl, _, rfl, a, _, dx, _, rfl, upd_same, cl, Y.na _ (by decide +kernel), Nat.lt_of_le_of_lt (pf (pf (pf (pf pf0)))) (by decide), ?_⟩
    refine ⟨_, rfl, _, rfl, a, _, dx, _, rfl, upd_same, cl, Y.na _ (by decide +kernel), Nat.lt_of_le_of_lt (pf (pf (pf (pf (pf pf0))))) (by decide), ?_⟩
    refine fin _ (kp_put (kp_put (kp_put (kp_put (kp_put (kp_put k7)))))) ⟨a, dx, _, rfl, upd_same, ⟨?_, ?_, ?_, ?_, ?_, ?_⟩⟩
    · exact put_past (ne_S (by decide +kernel)) (put_past (ne_S (by decide +kernel)) (put_past (ne_S (by decide +kernel)) (put_past (ne_S (by decide +kernel)) (put_past (ne_S (by decide +kernel)) put_get))))
    · exact put_past (ne_S (by decide +kernel)) (put_past (ne_S (by decide +kernel)) (put_past (ne_S (by decide +kernel)) (put_past (ne_S (by decide +kernel)) put_get)))
    · exact put_past (ne_S (by decide +kernel)) (put_past (ne_S (by decide +kernel)) (put_past (ne_S (by decide +kernel)) put_get))
    · exact put_past (ne_S (by decide +kernel)) (put_past (ne_S (by decide +kernel)) put_get)
    · exact put_past (ne_S (by decide +kernel)) put_get
    · exact put_get
end
end Jo

set_option Elab.async false
set_option linter.all false
set_option maxRecDepth 100000
set_option maxHeartbeats 2000000
namespace Jo
open PySem PySem.Spec PyProof.Rows L2 ClX
theorem passN0 {X : Cx} (σ : L2.St) : PassesAt (L2N.CX X.prog X.w) X σ E0 := fun _ _ _ e s' I c => by
  obtain ⟨_, _, _, _, _, _, _, _, _, _, _, _, h⟩ := c
  exact h.elim
theorem passM0 {X : Cx} : Passes (L2N.CX X.prog X.w) X E0 := fun _ _ _ _ e s' I c => by
  obtain ⟨_, _, _, _, _, _, _, _, _, _, _, _, h⟩ := c
  exact h.elim
/-- Entry's __init__ as it stands; its two defaults -/
structure EnD (P : Program) (w : World) (K : PySem.W.Frag) (mg : Str → Option Value) (base : Heap) (CY : Addr) (sp : Sp) : Prop where
  ex : ∃ (f : Addr) (fd : FuncData) (e1 e2 : Addr) (mv : List Value) (ds : List Value), FnOk P w K mg base (L2N.CX P w) 5 f fd psY sp ∧ Meth K CY "__init__" f ∧ (∀ H, SqT K H e1 []) ∧ (∀ H, SqT K H e2 []) ∧
    KBn K fd psY 5 ["slots", "body"] (fun us ws => us ++ ws) (fun vs zs => vs ++ zs) ∧
    KBn K fd psY 5 ["body"] (fun us ws => us ++ (mv ++ ws)) (fun vs zs => vs ++ ([V.ref e1] ++ zs)) ∧
    (Vals [V.ref e1, V.ref e2] ds ∧ Binds K fd psY ds) ∧
    KBn K fd psY 1 ["body", "slots", "parameter", "results", "arguments", "name"] (fun us ws => us ++ ws.reverse) (fun vs zs => vs ++ zs.reverse)
section
variable {X : Cx} {j : Nat} {CY fi : Addr} {sp : Sp} {p pos : Pos} {e : Expr} {es : List Expr} {kws : List Keyword} {t tk : TA} {E : XK} {x : Str}
theorem pe_ent2 (M : Mk X.K CY fi) (c : EnD X.prog X.w X.K X.mg X.base CY sp) (hr : Room j X.A) (hk : 6 ≤ j) (hx : Passes (L2N.CX X.prog X.w) X E) (hg : Gl X x) (hm : X.mg x = some (.ref CY))
    (ha : PA X (e :: es) t) (hkw : PK X kws tk) (hall : (backToKw pos (keywordEach kws X.env)).all (·.1.isSome) = true := by rfl) (hks : (backToKw pos (keywordEach kws X.env)).filterMap (·.1) = (["slots", "body"] : List Str) := by rfl) (hdb : (x == ("__debug__" : Str)) = false := by decide)
    (he : starEach (e :: es) X.env = (false, eval e X.env) :: starEach es X.env := by rfl) (hpl : ((backTo pos (starEach (e :: es) X.env)).any (·.1) || (backToKw pos (keywordEach kws X.env)).any (·.1.isNone)) = false := by rfl) :
    PE X (.Call (.Name x p) (e :: es) kws pos) (tMakeK CY 4 2 sp (fun vs zs => vs ++ zs) E t tk) := by
  obtain ⟨f, fd, e1, e2, mv, ds, F, mt, h1, h2, b, _⟩ := c.ex
  have ef : fi = f := by
    have e1 := M.init.symm.trans mt.at_
    cases e1
    rfl
  subst ef
  exact pe_makeK (n := 4) M F (hr.mono hk) hg hm b hx ha hkw hall hks hdb he hpl
theorem pe_ent1 (M : Mk X.K CY fi) (c : EnD X.prog X.w X.K X.mg X.base CY sp) (hr : Room j X.A) (hk : 6 ≤ j) (hx : Passes (L2N.CX X.prog X.w) X E) (hg : Gl X x) (hm : X.mg x = some (.ref CY))
    (ha : PA X (e :: es) t) (hkw : PK X kws tk) (hall : (backToKw pos (keywordEach kws X.env)).all (·.1.isSome) = true := by rfl) (hks : (backToKw pos (keywordEach kws X.env)).filterMap (·.1) = (["body"] : List Str) := by rfl) (hdb : (x == ("__debug__" : Str)) = false := by decide)
    (he : starEach (e :: es) X.env = (false, eval e X.env) :: starEach es X.env := by rfl) (hpl : ((backTo pos (starEach (e :: es) X.env)).any (·.1) || (backToKw pos (keywordEach kws X.env)).any (·.1.isNone)) = false := by rfl) :
    PE X (.Call (.Name x p) (e :: es) kws pos) (fun σ H Q => ∀ e0 : Addr, (∀ H, SqT X.K H e0 []) → tMakeK CY 4 1 sp (fun vs zs => vs ++ ([V.ref e0] ++ zs)) E t tk σ H Q) := by
  obtain ⟨f, fd, e1, e2, mv, ds, F, mt, h1, h2, _, b, _⟩ := c.ex
  have ef : fi = f := by
    have e1 := M.init.symm.trans mt.at_
    cases e1
    rfl
  subst ef
  exact ⟨fun pins s σ H Q I h => (pe_makeK (n := 4) M F (hr.mono hk) hg hm b hx ha hkw hall hks hdb he hpl).run pins s σ H Q I (h e1 h1)⟩
theorem pe_ent0 (M : Mk X.K CY fi) (c : EnD X.prog X.w X.K X.mg X.base CY sp) (hr : Room j X.A) (hk : 6 ≤ j) (hx : Passes (L2N.CX X.prog X.w) X E) (hg : Gl X x) (hm : X.mg x = some (.ref CY))
    (ha : PA X (e :: es) t) (hdb : (x == ("__debug__" : Str)) = false := by decide) (he : starEach (e :: es) X.env = (false, eval e X.env) :: starEach es X.env := by rfl) (hpl : (backTo pos (starEach es X.env)).any (·.1) = false := by rfl) :
    PE X (.Call (.Name x p) (e :: es) [] pos) (fun σ H Q => ∀ e1 e2 : Addr, (∀ H, SqT X.K H e1 []) → (∀ H, SqT X.K H e2 []) → tMake CY sp [V.ref e1, V.ref e2] E t σ H Q) := by
  obtain ⟨f, fd, e1, e2, mv, ds, F, mt, h1, h2, _, _, ⟨rv, b⟩, _⟩ := c.ex
  have ef : fi = f := by
    have e1 := M.init.symm.trans mt.at_
    cases e1
    rfl
  subst ef
  exact ⟨fun pins s σ H Q I h => (pe_make M F (hr.mono hk) hg hm b rv hx ha hdb he hpl).run pins s σ H Q I (h e1 e2 h1 h2)⟩
theorem pe_entK (M : Mk X.K CY fi) (c : EnD X.prog X.w X.K X.mg X.base CY sp) (hr : Room j X.A) (hk : 6 ≤ j) (hx : Passes (L2N.CX X.prog X.w) X E) (hg : Gl X x) (hm : X.mg x = some (.ref CY))
    (hkw : PK X kws tk) (hall : (backToKw pos (keywordEach kws X.env)).all (·.1.isSome) = true := by rfl) (hks : (backToKw pos (keywordEach kws X.env)).filterMap (·.1) = (["body", "slots", "parameter", "results", "arguments", "name"] : List Str) := by rfl) (hdb : (x == ("__debug__" : Str)) = false := by decide)
    (hpl : ((backTo pos (starEach [] X.env)).any (·.1) || (backToKw pos (keywordEach kws X.env)).any (·.1.isNone)) = false := by rfl) :
    PE X (.Call (.Name x p) [] kws pos) (tMakeK CY 0 6 sp (fun vs zs => vs ++ zs.reverse) E tNil tk) := by
  obtain ⟨f, fd, e1, e2, mv, ds, F, mt, h1, h2, _, _, _, b⟩ := c.ex
  have ef : fi = f := by
    have e1 := M.init.symm.trans mt.at_
    cases e1
    rfl
  subst ef
  exact pe_makeK0 M F (hr.mono hk) hg hm b hx hkw hall hks hdb hpl
end
/-- what a call with these comes to -/
def OutE (K : PySem.W.Frag) (CS : Addr) (CK : Sk → Addr) (A : EK → Addr) (CY : Addr) (H : Hp) (E : XK) (v1 v2 v3 v4 v5 v6 : V) (Q : VK) : Prop :=
  BadA K CS CK A H E .nm v1 ∨ (ArgG K CK H .nm v1 ∧ (BadA K CS CK A H E .sz v2 ∨ (ArgG K CK H .sz v2 ∧ (BadA K CS CK A H E .sz v3 ∨ (ArgG K CK H .sz v3 ∧ (BadA K CS CK A H E .nm v4 ∨
  ∃ z, v4 = .str z ∧ nmS z = true ∧ (BadA K CS CK A H E (.sl z) v5 ∨ (ArgG K CK H (.sl z) v5 ∧ (BadA K CS CK A H E .bd v6 ∨ (ArgG K CK H .bd v6 ∧
  ∀ x G, Same H G → EntIs CY G v1 v2 v3 v4 v5 v6 (.ref x) → Q (.ref x) G))))))))))
section
variable {P : Program} {w : World} {K : PySem.W.Frag} {mg : Str → Option Value} {base : Heap} {CS CY : Addr} {CK : Sk → Addr} {A : EK → Addr}
theorem out_make {H : Hp} {E : XK} {v1 v2 v3 v4 v5 v6 : V} {Q : VK} (h : OutE K CS CK A CY H E v1 v2 v3 v4 v5 v6 Q) (x dx : Addr) (hx : H x = none) (hd : H dx = none) : spEnt K CS CK A CY [.ref x, v1, v2, v3, v4, v5, v6] (upd (upd H dx (.own x)) x (.ins CY dx [])) (fun v H2 => v = .non ∧ Q (.ref x) H2) E := by
  have s : Same H (upd (upd H dx (.own x)) x (.ins CY dx [])) := same_in hx hd
  refine ⟨x, dx, v1, v2, v3, v4, v5, v6, rfl, upd_same, ?_⟩
  refine h.imp (fun b => b.same s) fun h => ⟨ArgG.same h.1 s, h.2.imp (fun b => b.same s) fun h => ⟨ArgG.same h.1 s, h.2.imp (fun b => b.same s) fun h => ⟨ArgG.same h.1 s, h.2.imp (fun b => b.same s) fun ⟨z, e, nz, h⟩ => ⟨z, e, nz, h.imp (fun b => b.same s) fun h => ⟨ArgG.same h.1 s, h.2.imp (fun b => b.same s) fun h => ⟨ArgG.same h.1 s, fun G k i => ⟨rfl, h.2 x G (same_mk hx hd k) i⟩⟩⟩⟩⟩⟩⟩
def spBuilt (K : PySem.W.Frag) (CS : Addr) (CK : Sk → Addr) (A : EK → Addr) (CY : Addr) : Sp := fun vs H Q E => ∃ (r : Addr) (v1 v2 v3 v4 v5 v6 : V), vs = [.ref r] ∧ H r = some (.lst [v1, v2, v3, v4, v5, v6]) ∧ OutE K CS CK A CY H E v1 v2 v3 v4 v5 v6 Q
theorem sc_built : FnScope ["_law_row"] ["_law_row"] (defScope s_built) := ⟨rfl, rfl, rfl, by decide +kernel, rfl, by decide +kernel, by decide +kernel⟩
theorem sc_named : FnScope ["_law_row"] ["_law_row"] (defScope s_named) := ⟨rfl, rfl, rfl, by decide +kernel, rfl, by decide +kernel, by decide +kernel⟩
theorem ok_built {fi : Addr} (M : Mk K CY fi) (yG : mg "Entry" = some (.ref CY)) (c : EnD P w K mg base CY (spEnt K CS CK A CY)) (D : Dfn K mg "_law_built" s_built ["_law_row"]) : CalX P w K mg base 7 "_law_built" ["_law_row"] (spBuilt K CS CK A CY) := by
  refine D.okX sc_built (fun vs H Q E h => ?_) (fun f cdv Ar fr s H vs Q E hr h => ?_)
  · obtain ⟨r, v1, v2, v3, v4, v5, v6, rfl, _⟩ := h
    rfl
  · obtain ⟨r, v1, v2, v3, v4, v5, v6, rfl, hR, out⟩ := h
    have tk := L2N.takes_of (X := cxOf (L2N.CX P w) P w K mg base ["_law_row"] "_law_built" (defScope s_built) f cdv Ar fr s H E) rfl rfl rfl rfl
    refine ⟨_, pss_one (ps_ret (pe_ent2 M c hr (by decide) (L2N.passes_call tk (fun _ _ _ _ h => h)) rfl yG (pa_cons (pe_ix ix_list (pv 0) pe_int (fun _ _ => rfl)) (pa_cons (pe_ix ix_list (pv 0) pe_int (fun _ _ => rfl)) (pa_cons (pe_ix ix_list (pv 0) pe_int (fun _ _ => rfl)) (pa_cons (pe_ix ix_list (pv 0) pe_int (fun _ _ => rfl)) pa_nil)))) (pk_cons (pe_ix ix_list (pv 0) pe_int (fun _ _ => rfl)) (pk_cons (pe_ix ix_list (pv 0) pe_int (fun _ _ => rfl)) pk_nil)))), ?_⟩
    have hs := SqL.of (K := K) hR
    refine ⟨_, rfl, r, _, 0, _, rfl, rfl, hs, atI_nat (j := 0) rfl, _, rfl, r, _, 1, _, rfl, rfl, hs, atI_nat (j := 1) rfl, _, rfl, r, _, 2, _, rfl, rfl, hs, atI_nat (j := 2) rfl, _, rfl, r, _, 3, _, rfl, rfl, hs, atI_nat (j := 3) rfl, _, rfl, r, _, 4, _, rfl, rfl, hs, atI_nat (j := 4) rfl, _, rfl, r, _, 5, _, rfl, rfl, hs, atI_nat (j := 5) rfl, rfl, rfl, fun x dx hx hd _ => ?_⟩
    exact out_make out x dx hx hd
theorem ok_named {fi : Addr} (M : Mk K CY fi) (yG : mg "Entry" = some (.ref CY)) (c : EnD P w K mg base CY (spEnt K CS CK A CY)) (D : Dfn K mg "_law_named" s_named ["_law_row"]) : CalX P w K mg base 7 "_law_named" ["_law_row"] (spBuilt K CS CK A CY) := by
  refine D.okX sc_named (fun vs H Q E h => ?_) (fun f cdv Ar fr s H vs Q E hr h => ?_)
  · obtain ⟨r, v1, v2, v3, v4, v5, v6, rfl, _⟩ := h
    rfl
  · obtain ⟨r, v1, v2, v3, v4, v5, v6, rfl, hR, out⟩ := h
    have tk := L2N.takes_of (X := cxOf (L2N.CX P w) P w K mg base ["_law_row"] "_law_named" (defScope s_named) f cdv Ar fr s H E) rfl rfl rfl rfl
    refine ⟨_, pss_one (ps_ret (pe_entK M c hr (by decide) (L2N.passes_call tk (fun _ _ _ _ h => h)) rfl yG (pk_cons (pe_ix ix_list (pv 0) pe_int (fun _ _ => rfl)) (pk_cons (pe_ix ix_list (pv 0) pe_int (fun _ _ => rfl)) (pk_cons (pe_ix ix_list (pv 0) pe_int (fun _ _ => rfl)) (pk_cons (pe_ix ix_list (pv 0) pe_int (fun _ _ => rfl)) (pk_cons (pe_ix ix_list (pv 0) pe_int (fun _ _ => rfl)) (pk_cons (pe_ix ix_list (pv 0) pe_int (fun _ _ => rfl)) pk_nil)))))))), ?_⟩
    have hs := SqL.of (K := K) hR
    refine ⟨_, rfl, r, _, 5, _, rfl, rfl, hs, atI_nat (j := 5) rfl, _, rfl, r, _, 4, _, rfl, rfl, hs, atI_nat (j := 4) rfl, _, rfl, r, _, 3, _, rfl, rfl, hs, atI_nat (j := 3) rfl, _, rfl, r, _, 2, _, rfl, rfl, hs, atI_nat (j := 2) rfl, _, rfl, r, _, 1, _, rfl, rfl, hs, atI_nat (j := 1) rfl, _, rfl, r, _, 0, _, rfl, rfl, hs, atI_nat (j := 0) rfl, rfl, rfl, fun x dx hx hd _ => ?_⟩
    exact out_make out x dx hx hd
end
end Jo

set_option Elab.async false
set_option linter.all false
set_option maxRecDepth 100000
set_option maxHeartbeats 2000000
/-! What repr shows of a text is a text that may stand. -/
namespace Jo
open PySem PySem.Spec PyProof.Rows L2
theorem char_uni (c : Char) : c.toNat < 1114112 := by
  have h := c.valid
  rcases h with h | ⟨_, h⟩
  · exact Nat.lt_trans h (by decide)
  · exact h
theorem char_uni2 {q c : Nat} (hq : q < 1114112) (hc : c < 1114112) : ∀ x ∈ Builtin.Str.reprChar q c, x < 1114112 := by
  intro x hx
  have dg : ∀ {w : Nat}, x ∈ List.replicate (w - ((Nat.toDigits 16 c).map Char.toNat).length) 48 ++ (Nat.toDigits 16 c).map Char.toNat → x < 1114112 := fun {w} h => by
    rcases List.mem_append.mp h with h | h
    · rw [(List.mem_replicate.mp h).2]; decide
    · obtain ⟨y, _, rfl⟩ := List.mem_map.mp h
      exact char_uni y
  unfold Builtin.Str.reprChar at hx
  dsimp only at hx
  have two : ∀ {a b : Nat}, a < 1114112 → b < 1114112 → x ∈ [a, b] → x < 1114112 := fun {a b} h1 h2 h => by
    rcases List.mem_cons.mp h with rfl | h
    · exact h1
    · rw [List.mem_singleton.mp h]; exact h2
  repeat' split at hx
  · exact two (by decide) hc hx
  · exact two (by decide) (by decide) hx
  · exact two (by decide) (by decide) hx
  · exact two (by decide) (by decide) hx
  · rw [List.mem_singleton.mp hx]; exact hc
  · rcases List.mem_append.mp hx with h | h
    · exact two (by decide) (by decide) h
    · exact dg h
  · rcases List.mem_append.mp hx with h | h
    · exact two (by decide) (by decide) h
    · exact dg h
  · rcases List.mem_append.mp hx with h | h
    · exact two (by decide) (by decide) h
    · exact dg h
theorem fold_uni {q : Nat} (hq : q < 1114112) : ∀ (l : List Nat) (acc : Array Nat), (∀ c ∈ l, c < 1114112) → (∀ c ∈ acc.toList, c < 1114112) → ∀ c ∈ (l.foldl (fun out c => out ++ (Builtin.Str.reprChar q c).toArray) acc).toList, c < 1114112
  | [], acc, _, ha => ha
  | y :: r, acc, h, ha => by
    rw [List.foldl_cons]
    refine fold_uni hq r _ (fun c hc => h c (List.mem_cons_of_mem _ hc)) fun c hc => ?_
    rw [Array.toList_append] at hc
    rcases List.mem_append.mp hc with hc | hc
    · exact ha c hc
    · exact char_uni2 hq (h y List.mem_cons_self) c (by simpa using hc)
theorem uni_repr {z : Str} (h : ∀ c ∈ z.cps.toList, c < 1114112) : ∀ c ∈ (reprText z).cps.toList, c < 1114112 := by
  have hq : reprQuote z < 1114112 := by unfold reprQuote; split <;> decide
  intro c hc
  unfold reprText at hc
  have hc2 : c ∈ (z.cps.foldl (fun out c => out ++ (Builtin.Str.reprChar (reprQuote z) c).toArray) #[reprQuote z]).toList ++ [reprQuote z] := by simpa using hc
  rw [← Array.foldl_toList] at hc2
  rcases List.mem_append.mp hc2 with h2 | h2
  · exact fold_uni hq _ _ h (fun c hc => by rw [show c = reprQuote z by simpa using hc]; exact hq) c h2
  · rw [List.mem_singleton.mp h2]; exact hq
end Jo

set_option Elab.async false
set_option linter.all false
set_option maxRecDepth 100000
set_option maxHeartbeats 1000000
namespace Jo
open PySem PySem.Spec PyProof.Rows L2 ClX
open L2H (RoomH roomH_of)
open LamX (Tabs TabS ExtN CodeO TabB lamS_by)
theorem extN_ins {H G : Hp} {a C dx : Addr} {fs : List (Str × V)} (e : ExtN H G) (h : H a = some (.ins C dx fs)) : G a = some (.ins C dx fs) := e _ _ h fun _ z => by cases z
theorem extN_tup' {H G : Hp} {q : Addr} {xs : List V} (e : ExtN H G) (h : H q = some (.tup xs)) : G q = some (.tup xs) := e _ _ h fun _ z => by cases z
theorem extN_lst2 {H G : Hp} {q : Addr} {xs : List V} (e : ExtN H G) (h : H q = some (.lst xs)) : G q = some (.lst xs) := e _ _ h fun _ z => by cases z
/-! ### what goes on of the heap: all but purses and tables -/
def Goes (H G : Hp) : Prop := ∀ b o, H b = some o → (∀ ps, o ≠ .tbl ps) → (∀ x y z : Int, o ≠ .lst [.int x, .int y, .int z]) → G b = some o
theorem Goes.of {H G : Hp} (s : Same H G) : Goes H G := fun b o e _ _ => s b o e
theorem Goes.refl (H : Hp) : Goes H H := .of (Same.refl _)
theorem Goes.trans {H G G2 : Hp} (a : Goes H G) (b : Goes G G2) : Goes H G2 := fun q o e n1 n2 => b q o (a q o e n1 n2) n1 n2
theorem Goes.kp {H G : Hp} {p : Addr} (hp : PurseAt H p) (k : Kp p H G) : Goes H G := fun b o e _ n3 => k b o e fun z => by
  obtain ⟨x, y, q, hh⟩ := hp
  rw [z, hh] at e
  cases e
  exact n3 _ _ _ rfl
theorem ext_goes {H G : Hp} (e : ExtN H G) : Goes H G := fun b o h n _ => e b o h n
theorem Goes.ins {H G : Hp} (k : Goes H G) {a C dx : Addr} {fs : List (Str × V)} (h : H a = some (.ins C dx fs)) : G a = some (.ins C dx fs) := k _ _ h (fun _ z => by cases z) (fun _ _ _ z => by cases z)
theorem Goes.tup {H G : Hp} (k : Goes H G) {a : Addr} {xs : List V} (h : H a = some (.tup xs)) : G a = some (.tup xs) := k _ _ h (fun _ z => by cases z) (fun _ _ _ z => by cases z)
theorem Goes.lst {H G : Hp} (k : Goes H G) {a : Addr} {xs : List V} (h : H a = some (.lst xs)) (n : ∀ x y z : Int, xs ≠ [.int x, .int y, .int z]) : G a = some (.lst xs) := k _ _ h (fun _ z => by cases z) (fun x y z e => n x y z (by cases e; rfl))
theorem Is.go {C : Kd → Addr} {H G : Hp} {t : Tr} {v : V} (h : Is C H t v) (k : Goes H G) : Is C G t v := h.only (fun a Cc dx fs e => k.ins e) (fun a xs e => k.tup e)
theorem SIs.go {CK : Sk → Addr} {H G : Hp} {s : SR} {v : V} (h : SIs CK H s v) (k : Goes H G) : SIs CK G s v :=
  let ⟨a, dx, q, fs, e, h1, h2, h3, h4, h5⟩ := h
  ⟨a, dx, q, fs, e, k.ins h1, h2, h3, h4, k.tup h5⟩
/-! ### all but the purse and the tables -/
def KN (p : Addr) (H G : Hp) : Prop := ∀ b o, H b = some o → b ≠ p → (∀ ps, o ≠ .tbl ps) → G b = some o
theorem KN.refl (p : Addr) (H : Hp) : KN p H H := fun _ _ h _ _ => h
theorem KN.trans {p : Addr} {H G G2 : Hp} (a : KN p H G) (b : KN p G G2) : KN p H G2 := fun c o h n t => b c o (a c o h n t) n t
theorem Kp.kn {p : Addr} {H G : Hp} (k : Kp p H G) : KN p H G := fun b o h n _ => k b o h n
theorem kn_of {p : Addr} {H G : Hp} (e : ExtN H G) : KN p H G := fun b o h _ t => e b o h t
theorem KN.goes {p : Addr} {H G : Hp} (hp : PurseAt H p) (k : KN p H G) : Goes H G := fun b o e n1 n3 => k b o e (fun z => by
  obtain ⟨x, y, q, hh⟩ := hp
  rw [z, hh] at e
  cases e
  exact n3 _ _ _ rfl) n1
theorem tabs_kp {T : List (Addr × Str)} {p : Addr} {H G : Hp} (hp : PurseAt H p) (k : Kp p H G) (t : Tabs T H) : Tabs T G := fun q hq => by
  obtain ⟨x, y, z, h⟩ := hp
  obtain ⟨ps, h1, h2, h3⟩ := t q hq
  refine ⟨ps, k _ _ h1 (fun e => by rw [e, h] at h1; cases h1), h2, fun pos cv hc => ?_⟩
  obtain ⟨c, e1, e2⟩ := h3 pos cv hc
  exact ⟨c, e1, k _ _ e2 (fun e => by rw [e, h] at e2; unfold CodeO at e2; cases e2)⟩
theorem PurseAt.ext {p : Addr} {H G : Hp} (h : PurseAt H p) (e : ExtN H G) : PurseAt G p := let ⟨x, y, z, q⟩ := h; ⟨x, y, z, extN_lst2 e q⟩
/-- a heap in which the law goes on -/
structure On (T : List (Addr × Str)) (p : Addr) (H G : Hp) : Prop where
  pu : PurseAt G p
  kn : KN p H G
  tb : Tabs T G
section
variable {T : List (Addr × Str)} {p a : Addr} {H G G2 : Hp} {o : HO}
theorem On.kp (h : On T p H G) (pu : PurseAt G2 p) (k : Kp p G G2) : On T p H G2 := ⟨pu, h.kn.trans k.kn, tabs_kp h.pu k h.tb⟩
theorem On.ext (h : On T p H G) (e : ExtN G G2) (t : Tabs T G2) : On T p H G2 := ⟨h.pu.ext e, h.kn.trans (kn_of e), t⟩
theorem On.same (h : On T p H G) (s : Same G G2) : On T p H G2 := h.kp (h.pu.same s) (kp_of s)
theorem On.new (h : On T p H G) (na : G a = none) : On T p H (upd G a o) := h.same (same_new na)
theorem On.go {T : List (Addr × Str)} {p : Addr} {H G G2 : Hp} (a : On T p H G) (b : On T p G G2) : On T p H G2 := ⟨b.pu, a.kn.trans b.kn, b.tb⟩
theorem On.here {T : List (Addr × Str)} {p : Addr} {H G : Hp} (a : On T p H G) : On T p G G := ⟨a.pu, .refl _ _, a.tb⟩
end
/-! ### texts -/
theorem good_of {z : Str} (h : nmS z = true) : Good z := by
  unfold nmS at h
  rw [Bool.and_eq_true, Bool.and_eq_true, Bool.and_eq_true, decide_eq_true_eq, decide_eq_true_eq, decide_eq_true_eq] at h
  refine ⟨by omega, h.2.1, fun c hc => ?_⟩
  obtain ⟨i, hi, rfl⟩ := List.getElem_of_mem hc
  have h2 := List.all_eq_true.mp h.2.2 (decide (z.cps.getD i 0 ∈ signs.cps.toList)) (List.mem_map.mpr ⟨i, List.mem_range.mpr (by simpa using hi), rfl⟩)
  have hi2 : i < z.cps.size := by simpa using hi
  have e : z.cps.getD i 0 = z.cps.toList[i] := by simp [Array.getD_eq_getD_getElem?, hi2]
  rw [← e]
  simpa using h2
def Asc (z : Str) : Prop := ∀ c ∈ z.cps.toList, c < 128
theorem sign_asc : ∀ c ∈ signs.cps.toList, c < 128 := by decide +kernel
theorem Good.asc {z : Str} (h : Good z) : Asc z := fun c hc => sign_asc c (h.all c hc)
theorem Asc.add {a b : Str} (ha : Asc a) (hb : Asc b) : Asc (a ++ b) := fun c hc => by
  rw [cps_add] at hc
  rcases List.mem_append.mp hc with h | h
  · exact ha c h
  · exact hb c h
theorem no_sign {z : Str} {c : Nat} (hc : c ∈ z.cps.toList) (hn : c ∉ signs.cps.toList) : nmS z = false := by
  cases e : nmS z with
  | false => rfl
  | true => exact absurd ((good_of e).all c hc) hn
theorem mem_r {a b : Str} {c : Nat} (h : c ∈ b.cps.toList) : c ∈ (a ++ b).cps.toList := by
  rw [cps_add]
  exact List.mem_append.mpr (.inr h)
theorem asc_lit (b : Str) (h : (b.cps.toList.all fun c => decide (c < 128)) = true) : Asc b := fun c hc => of_decide_eq_true (List.all_eq_true.mp h c hc)
theorem ok_cps {z : Str} (h : ∀ c ∈ z.cps.toList, c < 1114112) : PyData.strOk z = true := by
  unfold PyData.strOk
  rw [← Array.all_toList, List.all_eq_true]
  exact fun c hc => decide_eq_true (h c hc)
theorem Asc.repr {z : Str} (h : Asc z) : PyData.strOk (reprText z) = true := ok_cps (uni_repr fun c hc => Nat.lt_trans (h c hc) (by decide))
theorem Asc.lo {z : Str} (h : Asc z) : Lo z := fun c hc => Nat.lt_trans (h c hc) (by decide)
theorem under_ok {z : Str} (h : nmS z = true) : nmS (z ++ "_") = false ∧ Asc (z ++ "_") ∧ (z ++ "_").length ≤ 100 := by
  have g := good_of h
  have h8 := nm_len h
  exact ⟨no_sign (c := 95) (mem_r (by decide +kernel)) (by decide +kernel), g.asc.add (asc_lit _ (by decide +kernel)), by rw [Str.length_append, show ("_" : Str).length = 1 by decide +kernel]; omega⟩
section
variable {K : PySem.W.Frag}
/-! ### what is shown, in every heap that goes on -/
theorem shk_non {G : Hp} : ShK K G .non "None" := ⟨.none, 1, .inl ⟨rfl, rfl⟩, rfl, by decide, by decide +kernel, by decide +kernel⟩
theorem shk_bl {G : Hp} (b : Bool) : ShK K G (.bl b) (PyData.bool b).shown := ⟨.bool b, 1, .inr (.inl ⟨_, rfl, rfl⟩), rfl, (show 0 ≤ 60 by decide), by cases b <;> decide +kernel, rfl⟩
theorem shk_int {G : Hp} {n : Int} (h : n.natAbs ≤ 999) : ShK K G (.int n) (PyData.int n).shown :=
  have s := Sz.int (i := n) (Nat.lt_of_le_of_lt (Nat.log2_le_self _) (by omega))
  ⟨.int n, 1, .inr (.inr (.inl ⟨_, rfl, rfl⟩)), s.ok, Nat.le_trans s.dp (by decide), Nat.le_trans s.len (by decide), rfl⟩
theorem shk_str {G : Hp} {z : Str} (h : Asc z) (hl : z.length ≤ 100) : ShK K G (.str z) (reprText z) := ⟨.str z, 1, .inr (.inr (.inr (.inl ⟨_, rfl, rfl⟩))), rfl, (show 0 ≤ 60 by decide), Nat.le_trans (Sz.str h.lo hl (Nat.le_refl _)).len (by decide), rfl⟩
theorem shk_lst {G : Hp} {a : Addr} {z : Str} (ha : G a = some (.lst [.str z])) (sm : (a == sysModules) = false) (h : Asc z) (hl : z.length ≤ 100) : ShK K G (.ref a) (PyData.list [.str z]).shown :=
  have s : Sz (.list [.str z]) 5000 1 := Sz.lst (k := 0) (.cons (k := 0) (j := 0) (Sz.str h.lo hl (Nat.le_refl _)) .nil) (by decide) (by decide)
  ⟨.list [.str z], 2, .inr (.inr (.inr (.inr (.inl ⟨a, [.str z], [.str z], rfl, rfl, sm, SqL.of ha, .cons (.inr (.inr (.inr (.inl ⟨_, rfl, rfl⟩)))) .nil⟩)))), s.ok, Nat.le_trans s.dp (by decide), Nat.le_trans s.len (by decide), rfl⟩
theorem lst_ok {z : Str} (h : Asc z) : PyData.strOk (PyData.list [.str z]).shown = true := by
  show PyData.strOk (listText [reprText z]) = true
  unfold listText textFrom textFrom
  exact strOk_cat (strOk_cat (strOk_cat (strOk_of _) (strOk_of _)) h.repr) (strOk_of _)
theorem shk_one {G : Hp} {a : Addr} {n : Int} (ha : G a = some (.lst [.int n])) (sm : (a == sysModules) = false) (h : n.natAbs ≤ 999) : ShK K G (.ref a) (PyData.list [.int n]).shown :=
  have s : Sz (.list [.int n]) 5000 1 := Sz.lst (k := 0) (.cons (k := 0) (j := 0) (Sz.int (i := n) (Nat.lt_of_le_of_lt (Nat.log2_le_self _) (by omega))) .nil) (by decide) (by decide)
  ⟨.list [.int n], 2, .inr (.inr (.inr (.inr (.inl ⟨a, [.int n], [.int n], rfl, rfl, sm, SqL.of ha, .cons (.inr (.inr (.inl ⟨_, rfl, rfl⟩))) .nil⟩)))), s.ok, Nat.le_trans s.dp (by decide), Nat.le_trans s.len (by decide), rfl⟩
theorem shk_big {G : Hp} {n : Int} (h : n.natAbs.log2 < 1920) : ShK K G (.int n) (PyData.int n).shown :=
  have s := Sz.int (i := n) h
  ⟨.int n, 1, .inr (.inr (.inl ⟨_, rfl, rfl⟩)), s.ok, Nat.le_trans s.dp (by decide), Nat.le_trans s.len (by decide), rfl⟩
end
/-- a thing that is drawn, and how it is shown -/
structure Th (K : PySem.W.Frag) (H : Hp) (v : V) (z : Str) : Prop where
  any : ∀ G, Goes H G → AnyV K G v
  sm : ∀ y, v = .str y → y.length ≤ 1000
  sh : ∀ G, Goes H G → ShK K G v z
  ok : PyData.strOk z = true
theorem Th.go {K : PySem.W.Frag} {H G : Hp} {v : V} {z : Str} (h : Th K H v z) (g : Goes H G) : Th K G v z := ⟨fun G2 g2 => h.any G2 (g.trans g2), h.sm, fun G2 g2 => h.sh G2 (g.trans g2), h.ok⟩
theorem Th.same {K : PySem.W.Frag} {H G : Hp} {v : V} {z : Str} (h : Th K H v z) (s : Same H G) : Th K G v z := h.go (.of s)
theorem th_str {K : PySem.W.Frag} {H : Hp} {z : Str} (h : Asc z) (hl : z.length ≤ 100) : Th K H (.str z) (reprText z) := ⟨fun _ _ => any_str z, (fun y e => by cases e; omega), fun _ _ => shk_str h hl, h.repr⟩
theorem th_int {K : PySem.W.Frag} {H : Hp} {n : Int} (h : n.natAbs.log2 < 1920) (o : PyData.strOk (PyData.int n).shown = true) : Th K H (.int n) (PyData.int n).shown := ⟨fun _ _ => any_int n, (fun y e => by cases e), fun _ _ => shk_big h, o⟩
theorem th_non {K : PySem.W.Frag} {H : Hp} : Th K H .non "None" := ⟨fun _ _ => any_non, (fun y e => by cases e), fun _ _ => shk_non, strOk_of _⟩
theorem th_bl {K : PySem.W.Frag} {H : Hp} (b : Bool) : Th K H (.bl b) (PyData.bool b).shown := ⟨fun _ _ => any_bl b, (fun y e => by cases e), fun _ _ => shk_bl b, by cases b <;> decide +kernel⟩
theorem nmO (x : V) : NmO x (match x with | .str z => if nmS z = true then some z else none | _ => none) := by
  cases x with
  | str z =>
    by_cases h : nmS z = true
    · show NmO (.str z) (if nmS z = true then some z else none)
      rw [if_pos h]
      exact ⟨rfl, h⟩
    · show NmO (.str z) (if nmS z = true then some z else none)
      rw [if_neg h]
      exact Bool.eq_false_iff.mpr h
  | _ => rfl
end Jo

set_option Elab.async false
set_option linter.all false
set_option maxRecDepth 100000
set_option maxHeartbeats 1000000
namespace Jo
open PySem PySem.Spec PyProof.Rows L2 ClX
open L2H (RoomH roomH_of)
open LamX (Tabs TabS ExtN CodeO TabB lamS_by)
section
variable {P : Program} {w : World} {K : PySem.W.Frag} {mg : Str → Option Value} {base : Heap}
/-- a thing is drawn -/
def spThing (K : PySem.W.Frag) : Sp := fun vs H Q _ => ∃ p : Addr, vs = [.ref p] ∧ PurseAt H p ∧ ∀ (v : V) (z : Str) (G : Hp), PurseAt G p → Kp p H G → Th K G v z → Q v G
def n_title : List Str := ["_law_purse_here", "_law_good", "_law_way"]
theorem sc_title : FnScope n_title ["_law_purse_here"] (defScope s_title) := ⟨rfl, rfl, rfl, by decide +kernel, rfl, by decide +kernel, by decide +kernel⟩
theorem ok_title (T : Txt mg) (D : Dfn K mg "_law_title" s_title ["_law_purse_here"]) (c_name : CalG P w K mg base 2 "_law_name" ["_law_purse_here"] spName) (c_draw : CalG P w K mg base 1 "_law_draw" ["_law_purse_here", "_law_many"] spDraw) :
    CalG P w K mg base 3 "_law_title" ["_law_purse_here"] (spThing K) := by
  refine D.ok sc_title (fun vs H Q E h => ?_) (fun f cdv A fr s H vs Q E hr hgd h => ?_)
  · obtain ⟨p, rfl, _⟩ := h
    rfl
  · obtain ⟨p, rfl, hp, fin⟩ := h
    refine ⟨_, pss_cons (ps_par (i := 1) (j := 2) rfl sc_title.nd rfl rfl (by decide) rfl rfl (pa_cons (pe_cG c_name hr (by decide) hgd rfl (pa_cons (pv 0) pa_nil)) (pa_cons (pe_cG c_draw hr (by decide) hgd rfl (pa_cons (pv 0) (pa_cons pe_int pa_nil))) pa_nil)) (by rfl))
      (pss_one (ps_ret (pe_ifExp (pt_cmpR op_lt (pv 2) pe_int (nomark _)) (pe_ix ix_list (pe_lst (pa_cons pe_non (pa_cons pe_bl (pa_cons (pe_op op_add_str (pv 1) pe_str) (pa_cons (pe_lstN (pa_cons (pv 1) pa_nil)) pa_nil))))) (pv 2) (fun _ _ => rfl)) (pv 1)))), ?_⟩
    refine ⟨_, rfl, p, rfl, hp, fun z G1 nz p1 k1 => ?_⟩
    refine dr rfl p1 (by decide) (by decide) fun n G2 hn p2 k2 => ?_
    have k12 := k1.trans k2
    have az := (good_of nz).asc
    have lz := nm_len nz
    refine ⟨_, _, rfl, ?_⟩
    change (_ : L2.St → Hp → Prop) [some (.ref p), some (.str z), some (.int (n : Int))] G2
    refine ⟨_, rfl, _, _, rfl, rfl, _, rfl, ite2 (fun e => ?_) (fun e => ?_)⟩
    · have n4 : n < 4 := by have := of_decide_eq_true e; omega
      obtain ⟨u1, u2, u3⟩ := under_ok nz
      refine ⟨_, rfl, _, _, rfl, rfl, Nat.le_trans (by rw [← Str.length_append]; exact u3) (show 100 ≤ sizeLine by decide), _, rfl, (show 1 ≤ sizeLine by decide), fun l1 n1 sm => ⟨(show 4 ≤ sizeLine by decide), fun l2 n2 => ?_⟩⟩
      have s1 := same_new (o := .lst [.str z]) n1
      have s2 := same_new (o := .lst [.non, .bl true, .str (z ++ "_"), .ref l1]) n2
      have h1 := s2 _ _ (upd_same (H := G2) (a := l1) (o := .lst [.str z]))
      have h2 := upd_same (H := upd G2 l1 (.lst [.str z])) (a := l2) (o := .lst [.non, .bl true, .str (z ++ "_"), .ref l1])
      have p3 := p2.same (s1.trans s2)
      have k3 := k12.trans (kp_of (s1.trans s2))
      generalize upd (upd G2 l1 (.lst [.str z])) l2 (.lst [.non, .bl true, .str (z ++ "_"), .ref l1]) = G3 at h1 h2 p3 k3
      have hy : ∃ y ws, ([.non, .bl true, .str (z ++ "_"), .ref l1] : List V)[n]? = some y ∧ Th K G3 y ws := by
        have hl : ∀ G, Goes G3 G → G l1 = some (.lst [.str z]) := fun G g => g.lst h1 fun _ _ _ e => by cases e
        match n, n4 with
        | 0, _ => exact ⟨_, _, rfl, th_non⟩
        | 1, _ => exact ⟨_, _, rfl, th_bl true⟩
        | 2, _ => exact ⟨_, _, rfl, th_str u2 u3⟩
        | 3, _ => exact ⟨_, _, rfl, ⟨fun G g => any_lst (hl G g), (fun y e => by cases e), fun G g => shk_lst (hl G g) sm az (by omega), lst_ok az⟩⟩
      obtain ⟨y, ws, hy, th⟩ := hy
      exact ⟨_, rfl, l2, _, n, y, rfl, rfl, SqL.of h2, atI_nat hy, fin y ws G3 p3 k3 th⟩
    · exact ⟨_, rfl, fin _ _ G2 p2 k12 (th_str az (by omega))⟩
def n_size : List Str := ["_law_purse_here", "_law_way"]
theorem sc_size : FnScope n_size ["_law_purse_here"] (defScope s_size) := ⟨rfl, rfl, rfl, by decide +kernel, rfl, by decide +kernel, by decide +kernel⟩
theorem ok_size (T : Txt mg) (D : Dfn K mg "_law_size" s_size ["_law_purse_here"]) (c_draw : CalG P w K mg base 1 "_law_draw" ["_law_purse_here", "_law_many"] spDraw) :
    CalG P w K mg base 2 "_law_size" ["_law_purse_here"] (spThing K) := by
  refine D.ok sc_size (fun vs H Q E h => ?_) (fun f cdv A fr s H vs Q E hr hgd h => ?_)
  · obtain ⟨p, rfl, _⟩ := h
    rfl
  · obtain ⟨p, rfl, hp, fin⟩ := h
    refine ⟨_, pss_cons (ps_set (i := 1) sc_size.nd rfl (.inl rfl) (pe_cG c_draw hr (by decide) hgd rfl (pa_cons (pv 0) (pa_cons pe_int pa_nil))))
      (pss_cons (ps_if (pt_cmpR op_lt (pv 1) pe_int (nomark _))
        (pss_one (ps_ret (pe_ix ix_list (pe_lst (pa_cons pe_int (pa_cons pe_int (pa_cons pe_bl (pa_cons pe_non (pa_cons pe_str (pa_cons (L2.pe_un un_neg pe_int) (pa_cons (pe_op op_pow pe_int pe_int) (pa_cons (pe_lstN (pa_cons pe_int pa_nil)) pa_nil))))))))) (pv 1) (fun _ _ => rfl))))
        (pss_nil))
      (pss_one (ps_ret (pe_ix ix_list (pe_lst (pa_cons (pe_op op_add pe_int (pe_cG c_draw hr (by decide) hgd rfl (pa_cons (pv 0) (pa_cons pe_int pa_nil)))) (pa_cons pe_int (pa_cons pe_int pa_nil)))) (pe_op op_mod (pe_callTy call_int1 rfl T.b_int (by decide +kernel) (pa_cons (pv 1) pa_nil)) pe_int) (fun _ _ => rfl))))), ?_⟩
    refine dr rfl hp (by decide) (by decide) fun n G1 hn p1 k1 => ?_
    refine ⟨_, rfl, _, _, rfl, rfl, _, rfl, ite2 (fun e => ?_) (fun e => ?_)⟩
    · have n8 : n < 8 := by have := of_decide_eq_true e; omega
      refine ⟨_, rfl, _, _, rfl, rfl, ⟨by decide, by decide, by decide⟩, (show 1 ≤ sizeLine by decide), fun l1 n1 sm => ⟨(show 8 ≤ sizeLine by decide), fun l2 n2 => ?_⟩⟩
      have s1 := same_new (o := .lst [.int 2]) n1
      have s2 := same_new (o := .lst [.int 0, .int 41, .bl true, .non, .str "3", .int (-1), .int ((10 : Int) ^ (30 : Int).toNat), .ref l1]) n2
      have h1 := s2 _ _ (upd_same (H := G1) (a := l1) (o := .lst [.int 2]))
      have h2 := upd_same (H := upd G1 l1 (.lst [.int 2])) (a := l2) (o := .lst [.int 0, .int 41, .bl true, .non, .str "3", .int (-1), .int ((10 : Int) ^ (30 : Int).toNat), .ref l1])
      have p3 := p1.same (s1.trans s2)
      have k3 := k1.trans (kp_of (s1.trans s2))
      have hy : ∃ y ws, ([.int 0, .int 41, .bl true, .non, .str "3", .int (-1), .int ((10 : Int) ^ (30 : Int).toNat), .ref l1] : List V)[n]? = some y ∧ Th K (upd (upd G1 l1 (.lst [.int 2])) l2 (.lst [.int 0, .int 41, .bl true, .non, .str "3", .int (-1), .int ((10 : Int) ^ (30 : Int).toNat), .ref l1])) y ws := by
        have hl : ∀ G, Goes (upd (upd G1 l1 (.lst [.int 2])) l2 (.lst [.int 0, .int 41, .bl true, .non, .str "3", .int (-1), .int ((10 : Int) ^ (30 : Int).toNat), .ref l1])) G → G l1 = some (.lst [.int 2]) := fun G g => g.lst h1 fun _ _ _ e => by cases e
        have sm9 : ∀ i : Int, i.natAbs ≤ 999 → i.natAbs.log2 < 1920 := fun i h => Nat.lt_of_le_of_lt (Nat.log2_le_self _) (by omega)
        match n, n8 with
        | 0, _ => exact ⟨_, _, rfl, th_int (sm9 _ (by decide)) (strOk_of _)⟩
        | 1, _ => exact ⟨_, _, rfl, th_int (sm9 _ (by decide)) (strOk_of _)⟩
        | 2, _ => exact ⟨_, _, rfl, th_bl true⟩
        | 3, _ => exact ⟨_, _, rfl, th_non⟩
        | 4, _ => exact ⟨_, _, rfl, th_str (asc_lit _ (by decide +kernel)) (by decide +kernel)⟩
        | 5, _ => exact ⟨_, _, rfl, th_int (sm9 _ (by decide)) (strOk_of _)⟩
        | 6, _ => exact ⟨_, _, rfl, th_int (by decide +kernel) (strOk_of _)⟩
        | 7, _ => exact ⟨_, _, rfl, ⟨fun G g => any_lst (hl G g), (fun y e => by cases e), fun G g => shk_one (hl G g) sm (by decide), by decide +kernel⟩⟩
      obtain ⟨y, ws, hy, th⟩ := hy
      exact ⟨_, rfl, l2, _, n, y, rfl, rfl, SqL.of h2, atI_nat hy, fin y ws _ p3 k3 th⟩
    · refine dr rfl p1 (by decide) (by decide) fun d G2 hd p2 k2 => ?_
      refine ⟨_, _, rfl, rfl, (show 3 ≤ sizeLine by decide), fun l nl => ?_⟩
      have s1 := same_new (o := .lst [.int ((1 : Int) + (d : Int)), .int 40, .int 1]) nl
      have hy : ∃ y : Int, ([.int ((1 : Int) + (d : Int)), .int 40, .int 1] : List V)[n % 3]? = some (.int y) ∧ y.natAbs ≤ 999 := by
        have : n % 3 = 0 ∨ n % 3 = 1 ∨ n % 3 = 2 := by omega
        rcases this with e | e | e <;> rw [e]
        · exact ⟨_, rfl, by omega⟩
        · exact ⟨_, rfl, by decide⟩
        · exact ⟨_, rfl, by decide⟩
      obtain ⟨y, hy, ys⟩ := hy
      refine ⟨_, rfl, .inl ⟨_, rfl, _, _, rfl, rfl, (show (0 : Int) < 3 by decide), l, _, ((n % 3 : Nat) : Int), _, rfl, rfl, SqL.of upd_same, atI_nat hy, ?_⟩⟩
      exact fin _ _ _ (p2.same s1) ((k1.trans k2).trans (kp_of s1)) (th_int (Nat.lt_of_le_of_lt (Nat.log2_le_self _) (by omega)) (strOk_of _))
end
end Jo

set_option Elab.async false
set_option linter.all false
set_option maxRecDepth 100000
set_option maxHeartbeats 1000000
namespace Jo
open PySem PySem.Spec PyProof.Rows L2 ClX
open LamX (Tabs TabS ExtN CodeO TabB lamS_by LamS lamCx lamEnv)
/-- a method whose last parameter has a default -/
structure MtD (P : Program) (w : World) (K : PySem.W.Frag) (mg : Str → Option Value) (base : Heap) (k : Nat) (C : Addr) (m : Str) (ps : List Str) (sp : Sp) (d : V → Prop) : Prop where
  ex : ∃ (f : Addr) (fd : FuncData) (v : V), FnOk P w K mg base CX0 k f fd ps sp ∧ Meth K C m f ∧ Binds K fd ps [] ∧ d v ∧ (∃ ds, Vals [v] ds ∧ Binds K fd ps ds) ∧
    ∀ (s : Shared) (u : Value) (us : List Value), K.In s.heap → (u :: us).length = ps.length → BindsTo s fd ⟨[u], (ps.drop 1).reverse.zip us.reverse⟩ (ps.zip (u :: us))
/-- the base class's parts of a made statement -/
structure MakesS (P : Program) (w : World) (K : PySem.W.Frag) (mg : Str → Option Value) (base : Heap) (C : Kd → Addr) (CK : Sk → Addr) : Prop where
  cls : ∀ k : Sk, k.has = true → ∃ fi, Mk K (CK k) fi
  assign : MtF P w K mg base 4 (CK .assign) "__init__" ["self", "name", "expression"] (spAssign C CK)
  ifs : MtD P w K mg base 4 (CK .ifs) "__init__" ["self", "test", "body", "otherwise"] (spIf K C CK) (fun v => ∃ e, v = .ref e ∧ ∀ H, SqT K H e [])
  call : MtD P w K mg base 4 (CK .call) "__init__" ["self", "name", "expression", "into"] (spCall C CK) (fun v => v = .non)
  ret : MtF P w K mg base 4 (CK .ret) "__init__" ["self", "expression"] (spReturn C CK)
  fail : MtF P w K mg base 4 (CK .fail) "__init__" ["self"] (spFail CK)
section
variable {C : Kd → Addr} {CK : Sk → Addr} {K : PySem.W.Frag} {H : Hp} {Q : VK}
theorem mks_assign {z : Str} {t : Tr} {v : V} (nz : nmS z = true) (i : Is C H t v) (l : Lim t) (q : ∀ x G, Same H G → SIs CK G (mkS (.assign z t) []) (.ref x) → Q (.ref x) G) (x dx : Addr) (hx : H x = none) (hd : H dx = none) (ne : dx ≠ x) :
    spAssign C CK [.ref x, .str z, v] (upd (upd H dx (.own x)) x (.ins (CK .assign) dx [])) (fun v H2 => v = .non ∧ Q (.ref x) H2) E0 := ⟨x, dx, z, t, v, rfl, upd_same, nz, i.same (same_in hx hd), l, fun G k i => ⟨rfl, q x G (same_mk hx hd k) i⟩⟩
theorem mks_ret {t : Tr} {v : V} (i : Is C H t v) (l : Lim t) (q : ∀ x G, Same H G → SIs CK G (mkS (.ret t) []) (.ref x) → Q (.ref x) G) (x dx : Addr) (hx : H x = none) (hd : H dx = none) (ne : dx ≠ x) :
    spReturn C CK [.ref x, v] (upd (upd H dx (.own x)) x (.ins (CK .ret) dx [])) (fun v H2 => v = .non ∧ Q (.ref x) H2) E0 := ⟨x, dx, t, v, rfl, upd_same, i.same (same_in hx hd), l, fun G k i => ⟨rfl, q x G (same_mk hx hd k) i⟩⟩
theorem mks_fail (q : ∀ x G, Same H G → SIs CK G (mkS .fail []) (.ref x) → Q (.ref x) G) (x dx : Addr) (hx : H x = none) (hd : H dx = none) (ne : dx ≠ x) :
    spFail CK [.ref x] (upd (upd H dx (.own x)) x (.ins (CK .fail) dx [])) (fun v H2 => v = .non ∧ Q (.ref x) H2) E0 := ⟨x, dx, rfl, upd_same, fun G k i => ⟨rfl, q x G (same_mk hx hd k) i⟩⟩
theorem mks_if {t : Tr} {v v1 v2 : V} {b1 b2 : List SR} (i : Is C H t v) (l : Lim t) (i1 : BIs K CK H b1 v1) (i2 : BIs K CK H b2 v2) (ft : Fits [b1, b2]) (q : ∀ x G, Same H G → SIs CK G (mkS (.ifs t) [b1, b2]) (.ref x) → Q (.ref x) G) (x dx : Addr) (hx : H x = none) (hd : H dx = none) (ne : dx ≠ x) :
    spIf K C CK [.ref x, v, v1, v2] (upd (upd H dx (.own x)) x (.ins (CK .ifs) dx [])) (fun v H2 => v = .non ∧ Q (.ref x) H2) E0 := ⟨x, dx, t, v, v1, v2, b1, b2, rfl, upd_same, i.same (same_in hx hd), l, i1.same (same_in hx hd), i2.same (same_in hx hd), ft, fun G k i => ⟨rfl, q x G (same_mk hx hd k) i⟩⟩
end
section
variable {X : Cx} {j k : Nat} {ps : List Str} {sp : Sp} {x : Str} {p pos : Pos} {e : Expr} {es : List Expr} {t : TA} {C : Addr} {d : V → Prop}
/-- C(a, ..), the last parameter by its default -/
theorem pe_mkD {fi : Addr} (M : Mk X.K C fi) (c : MtD X.prog X.w X.K X.mg X.base k C "__init__" ps sp d) (hr : Room j X.A) (hk : k + 1 ≤ j) (hg : Gl X x) (hm : X.mg x = some (.ref C))
    (ha : PA X (e :: es) t) (hdb : (x == ("__debug__" : Str)) = false := by decide)
    (he : starEach (e :: es) X.env = (false, eval e X.env) :: starEach es X.env := by rfl) (hpl : (backTo pos (starEach es X.env)).any (·.1) = false := by rfl) :
    PE X (.Call (.Name x p) (e :: es) [] pos) (fun σ H Q => ∀ v, d v → tMake C sp [v] E0 t σ H Q) := by
  obtain ⟨f, fd, v, F, mt, _, dv, ⟨ds, rv, b⟩, _⟩ := c.ex
  have ef : fi = f := by
    have e1 := M.init.symm.trans mt.at_
    cases e1
    rfl
  subst ef
  exact ⟨fun pins s σ H Q I h => (pe_make M F (hr.mono hk) hg hm b rv pass0 ha hdb he hpl).run pins s σ H Q I (h v dv)⟩
/-- C(a, ..), every parameter -/
theorem pe_mkDE {fi : Addr} (M : Mk X.K C fi) (c : MtD X.prog X.w X.K X.mg X.base k C "__init__" ps sp d) (hr : Room j X.A) (hk : k + 1 ≤ j) (hg : Gl X x) (hm : X.mg x = some (.ref C))
    (ha : PA X (e :: es) t) (hdb : (x == ("__debug__" : Str)) = false := by decide)
    (he : starEach (e :: es) X.env = (false, eval e X.env) :: starEach es X.env := by rfl) (hpl : (backTo pos (starEach es X.env)).any (·.1) = false := by rfl) :
    PE X (.Call (.Name x p) (e :: es) [] pos) (tMake C sp [] E0 t) := by
  obtain ⟨f, fd, v, F, mt, b, _⟩ := c.ex
  have ef : fi = f := by
    have e1 := M.init.symm.trans mt.at_
    cases e1
    rfl
  subst ef
  exact pe_make M F (hr.mono hk) hg hm b .nil pass0 ha hdb he hpl
/-- C(b=.., a=..): the parameters by name, the last ahead -/
theorem pe_mkKD {fi : Addr} {kws : List Keyword} (M : Mk X.K C fi) (c : MtD X.prog X.w X.K X.mg X.base k C "__init__" ps sp d) (hr : Room j X.A) (hk : k + 1 ≤ j) (hg : Gl X x) (hm : X.mg x = some (.ref C)) {n : Nat} (hn : ps.length = n + 1)
    (hkw : PK X kws t) (hall : (backToKw pos (keywordEach kws X.env)).all (·.1.isSome) = true := by rfl)
    (hks : (backToKw pos (keywordEach kws X.env)).filterMap (·.1) = (ps.drop 1).reverse := by rfl)
    (hdb : (x == ("__debug__" : Str)) = false := by decide)
    (hpl : ((backTo pos (starEach [] X.env)).any (·.1) || (backToKw pos (keywordEach kws X.env)).any (·.1.isNone)) = false := by rfl) :
    PE X (.Call (.Name x p) [] kws pos) (tMakeK C 0 (ps.drop 1).reverse.length sp (fun vs zs => vs ++ zs.reverse) E0 tNil t) := by
  obtain ⟨f, fd, _, F, mt, _, _, _, b⟩ := c.ex
  have ef : fi = f := by
    have e1 := M.init.symm.trans mt.at_
    cases e1
    rfl
  subst ef
  refine pe_makeK0 (g := fun us ws => us ++ ws.reverse) M F (hr.mono hk) hg hm ⟨fun s us ws X l1 l2 => ?_, fun r1 r2 => r1.append r2.reverse⟩ pass0 hkw hall hks hdb hpl
  match us, l1 with
  | [u], _ =>
    have h3 : (u :: ws.reverse).length = ps.length := by
      rw [List.length_reverse, List.length_drop] at l2
      rw [List.length_cons, List.length_reverse]
      omega
    have bb := b s u ws.reverse X h3
    rw [List.reverse_reverse] at bb
    exact bb
end
/-- C() -/
theorem pe_mkF0 {X : Cx} {j k : Nat} {C fi : Addr} {ps : List Str} {sp : Sp} {x : Str} {p pos : Pos} (M : Mk X.K C fi) (c : MtF X.prog X.w X.K X.mg X.base k C "__init__" ps sp) (hr : Room j X.A) (hk : k + 1 ≤ j) (hg : Gl X x) (hm : X.mg x = some (.ref C)) (hdb : (x == ("__debug__" : Str)) = false := by decide) :
    PE X (.Call (.Name x p) [] [] pos) (tMake C sp [] E0 tNil) := by
  obtain ⟨f, fd, F, mt, b, _⟩ := c.ex
  have ef : fi = f := by
    have e1 := M.init.symm.trans mt.at_
    cases e1
    rfl
  subst ef
  exact pe_make0 M F (hr.mono hk) hg hm b .nil pass0 hdb
theorem sis_put {CK : Sk → Addr} {H : Hp} {D : Addr} {xs : List V} {o : HO} (hD : H D = some (.lst xs)) {s : SR} {v : V} (h : SIs CK H s v) : SIs CK (upd H D o) s v := by
  obtain ⟨a, dx, q, fs, e, h1, h2, h3, h4, h5⟩ := h
  exact ⟨a, dx, q, fs, e, by rw [upd_ne (fun q => by rw [q, hD] at h1; cases h1)]; exact h1, h2, h3, h4, by rw [upd_ne (fun q => by rw [q, hD] at h5; cases h5)]; exact h5⟩
/-- of new places, sp leads to the new instance -/
def New (Cc : Addr) (sp : Sp) (E : XK) (vs : List V) (H : Hp) (Q : VK) : Prop := ∀ x dx, H x = none → H dx = none → dx ≠ x → sp (.ref x :: vs) (upd (upd H dx (.own x)) x (.ins Cc dx [])) (fun v H2 => v = .non ∧ Q (.ref x) H2) E
def GivesN (ta : TA) (σ : L2.St) (H : Hp) (F : List V → Hp → Prop) : Prop := ∀ Pq : List V → Hp → Prop, (∀ vs G, Same H G → F vs G → Pq vs G) → ta σ H Pq
theorem lim_num {n : Int} (a : 0 ≤ n) (b : n ≤ 999) : Lim (.num n) := ⟨⟨a, b⟩, (show 1 ≤ 40 by decide), (show 1 ≤ 6 by decide)⟩
theorem lim_var {z : Str} (h : nmS z = true) : Lim (.var z) := ⟨h, (show 1 ≤ 40 by decide), (show 1 ≤ 6 by decide)⟩
theorem make_of {Cc : Addr} {sp : Sp} {E : XK} {ta : TA} {σ : L2.St} {H : Hp} {Q : VK} {F : List V → Hp → Prop} (h : GivesN ta σ H F) (o : ∀ vs G, Same H G → F vs G → New Cc sp E vs G Q) : tMake Cc sp [] E ta σ H Q := h _ fun vs G s f => by
  rw [List.append_nil]
  exact o vs G s f
section
variable {C : Kd → Addr} {CK : Sk → Addr} {K : PySem.W.Frag} {H : Hp} {Q : VK}
theorem new_if {t : Tr} {v v1 v2 : V} {b1 b2 : List SR} (i : Is C H t v) (l : Lim t) (i1 : BIs K CK H b1 v1) (i2 : BIs K CK H b2 v2) (ft : Fits [b1, b2]) (q : ∀ x G, Same H G → SIs CK G (mkS (.ifs t) [b1, b2]) (.ref x) → Q (.ref x) G) : New (CK .ifs) (spIf K C CK) E0 [v, v1, v2] H Q := mks_if i l i1 i2 ft q
theorem new_fail (q : ∀ x G, Same H G → SIs CK G (mkS .fail []) (.ref x) → Q (.ref x) G) : New (CK .fail) (spFail CK) E0 [] H Q := mks_fail q
theorem new_num {n : Int} (h0 : 0 ≤ n) (h1 : n ≤ 999) (q : ∀ x G, Same H G → Is C G (.num n) (.ref x) → Q (.ref x) G) : New (C .num) (spNum C) E0 [.int n] H Q := mk_num h0 h1 q
theorem new_var {z : Str} (h : nmS z = true) (q : ∀ x G, Same H G → Is C G (.var z) (.ref x) → Q (.ref x) G) : New (C .var) (spVar C) E0 [.str z] H Q := mk_var h q
theorem new_ret {t : Tr} {v : V} (i : Is C H t v) (l : Lim t) (q : ∀ x G, Same H G → SIs CK G (mkS (.ret t) []) (.ref x) → Q (.ref x) G) : New (CK .ret) (spReturn C CK) E0 [v] H Q := mks_ret i l q
theorem new_assign {z : Str} {t : Tr} {v : V} (nz : nmS z = true) (i : Is C H t v) (l : Lim t) (q : ∀ x G, Same H G → SIs CK G (mkS (.assign z t) []) (.ref x) → Q (.ref x) G) : New (CK .assign) (spAssign C CK) E0 [.str z, v] H Q := mks_assign nz i l q
theorem make0 {Cc : Addr} {sp : Sp} {E : XK} {σ : L2.St} (o : New Cc sp E [] H Q) : tMake Cc sp [] E tNil σ H Q := o
theorem make1 {Cc : Addr} {sp : Sp} {E : XK} {σ : L2.St} {v : V} (o : New Cc sp E [v] H Q) : tMake Cc sp [] E (tCons (tC v) tNil) σ H Q := o
theorem new_bi {k : Bk} {t1 t2 : Tr} {v1 v2 : V} (i1 : Is C H t1 v1) (i2 : Is C H t2 v2) (l : Lim (.bi k t1 t2)) (q : ∀ x G, Same H G → Is C G (.bi k t1 t2) (.ref x) → Q (.ref x) G) : New (C (.bi k)) (spBi C k) E0 [v1, v2] H Q := mk_bi i1 i2 l q
end
end Jo

set_option Elab.async false
set_option linter.all false
set_option maxRecDepth 100000
set_option maxHeartbeats 2000000
namespace Jo
open PySem PySem.Spec PyProof.Rows L2 ClX
open L2H (RoomH roomH_of)
open LamX (Tabs TabS ExtN CodeO TabB lamS_by)
theorem cut_take (xs : List V) {j : Nat} (h : j ≤ xs.length) : cutV xs none (some (j : Int)) = xs.take j := by
  unfold cutV
  rw [HT.sIx_nat, HT.sIx_none, List.drop_zero, Nat.min_eq_left h]
  rfl
theorem cut_drop (xs : List V) {j : Nat} (h : j ≤ xs.length) : cutV xs (some (j : Int)) none = xs.drop j := by
  unfold cutV
  rw [HT.sIx_nat, HT.sIx_none, Nat.min_eq_left h, List.take_of_length_le]
  rw [List.length_drop]
  exact Nat.le_refl _
theorem ids_ne {CK : Sk → Addr} {H : Hp} {b : List SR} {us : List V} (h : Paired (SIs CK H) b us) : ∀ x y z : Int, us ≠ [.int x, .int y, .int z] := by
  rintro x y z rfl
  cases h with
  | cons i _ =>
    obtain ⟨a, dx, q, fs, e, _⟩ := i
    cases e
theorem pair_take {α β : Type} {F : α → β → Prop} {xs : List α} {ys : List β} (p : Paired F xs ys) : ∀ n, Paired F (xs.take n) (ys.take n) := by
  induction p with
  | nil => intro n; rw [List.take_nil, List.take_nil]; exact .nil
  | cons h _ ih =>
    intro n
    cases n with
    | zero => exact .nil
    | succ n => exact .cons h (ih n)
/-- the kinds beside the others -/
structure OD (K : PySem.W.Frag) (C : Kd → Addr) (CS : Addr) (CK : Sk → Addr) : Prop where
  ty : ∀ t ∈ [Value.type "NoneType", .type "str", .type "list"], PySem.W.kitOne K t (.ref CS) = some false ∧ ∀ k : Sk, PySem.W.kitOne K t (.ref (CK k)) = some false
  tp : ∀ k : Sk, PySem.W.kitOne K (.ref (CK k)) (.type "tuple") = some false
  nm : ∀ k : Sk, PySem.W.kitOne K (.ref (C .num)) (.ref (CK k)) = some false
/-- the law's three statements -/
def three (d : Nat) : List SR := [mkS (.assign "n" (.num (d : Int))) [], mkS (.ret (.bi .plus (.var "n") (.num 1))) [], mkS .fail []]
/-- no statement of any kind, in every heap that goes on -/
def OdS (K : PySem.W.Frag) (CS : Addr) (CK : Sk → Addr) (H : Hp) (y : V) : Prop := ∃ t, PySem.W.kitOne K t (.ref CS) = some false ∧ (∀ k : Sk, PySem.W.kitOne K t (.ref (CK k)) = some false) ∧ ∀ G, Goes H G → TyX K G y t
theorem OdS.go {K : PySem.W.Frag} {CS : Addr} {CK : Sk → Addr} {H G : Hp} {y : V} (h : OdS K CS CK H y) (k : Goes H G) : OdS K CS CK G y := let ⟨t, h1, h3, h2⟩ := h; ⟨t, h1, h3, fun G2 g2 => h2 G2 (k.trans g2)⟩
theorem OdS.odd {K : PySem.W.Frag} {CS : Addr} {CK : Sk → Addr} {H : Hp} {y : V} (h : OdS K CS CK H y) : OddO K (.ref CS) H y := let ⟨t, h1, _, h2⟩ := h; ⟨t, h1, fun G s => h2 G (.of s)⟩
def LotG (CK : Sk → Addr) (H : Hp) (d k : Nat) (v : V) : Prop := k ≤ 3 ∧ d ≤ 8 ∧ ∃ (q : Addr) (us : List V), v = .ref q ∧ H q = some (.tup us) ∧ Paired (SIs CK H) ((three d).take k) us
def LotB (K : PySem.W.Frag) (CS : Addr) (CK : Sk → Addr) (H : Hp) (v : V) : Option Nat → Prop
  | none => ∃ t, PySem.W.kitOne K t (.type "tuple") = some false ∧ ∀ G, Goes H G → TyX K G v t
  | some m => m = 2 ∧ ∃ (d : Nat) (q : Addr) (us : List V) (y : V), v = .ref q ∧ H q = some (.tup (us ++ [y])) ∧ Paired (SIs CK H) ((three d).take 2) us ∧ OdS K CS CK H y
theorem LotG.go {CK : Sk → Addr} {H G : Hp} {d k : Nat} {v : V} (h : LotG CK H d k v) (g : Goes H G) : LotG CK G d k v :=
  let ⟨h1, h2, q, us, e, h3, h4⟩ := h
  ⟨h1, h2, q, us, e, g.tup h3, pair_mem h4 fun x y i => i.go g⟩
theorem LotB.go {K : PySem.W.Frag} {CS : Addr} {CK : Sk → Addr} {H G : Hp} {v : V} : ∀ {o : Option Nat}, LotB K CS CK H v o → Goes H G → LotB K CS CK G v o
  | none, ⟨t, h1, h2⟩, g => ⟨t, h1, fun G2 g2 => h2 G2 (g.trans g2)⟩
  | some m, ⟨e, d, q, us, y, e2, h1, h2, h3⟩, g => ⟨e, d, q, us, y, e2, g.tup h1, pair_mem h2 fun x y i => i.go g, h3.go g⟩
section
variable {P : Program} {w : World} {K : PySem.W.Frag} {mg : Str → Option Value} {base : Heap} {C : Kd → Addr} {CE CS : Addr} {CK : Sk → Addr}
def n_lot : List Str := ["_law_purse_here", "_law_good", "_law_way", "_law_many"]
theorem sc_lot : FnScope n_lot ["_law_purse_here"] (defScope s_lot) := ⟨rfl, rfl, rfl, by decide +kernel, rfl, by decide +kernel, by decide +kernel⟩
def spLot (K : PySem.W.Frag) (CS : Addr) (CK : Sk → Addr) : Sp := fun vs H Q _ => ∃ p : Addr, vs = [.ref p] ∧ PurseAt H p ∧ ∀ (v : V) (G : Hp), PurseAt G p → Kp p H G → ((∃ d k, LotG CK G d k v) ∨ ∃ o, LotB K CS CK G v o) → Q v G
theorem ok_lot (T : Txt mg) (X : XT K mg C CE) (S : ST2 K mg C CE CS CK) (O : OD K C CS CK) (M : Makes P w K mg base C) (MS : MakesS P w K mg base C CK) (D : Dfn K mg "_law_lot" s_lot ["_law_purse_here"]) (c_draw : CalG P w K mg base 1 "_law_draw" ["_law_purse_here", "_law_many"] spDraw) :
    CalG P w K mg base 8 "_law_lot" ["_law_purse_here"] (spLot K CS CK) := by
  obtain ⟨fN, mN⟩ := M.cls .num rfl
  obtain ⟨fV, mV⟩ := M.cls .var rfl
  obtain ⟨fP, mP⟩ := M.cls (.bi .plus) rfl
  obtain ⟨fF, mF⟩ := MS.cls .fail rfl
  obtain ⟨fR, mR⟩ := MS.cls .ret rfl
  obtain ⟨fA, mA⟩ := MS.cls .assign rfl
  refine D.ok sc_lot (fun vs H Q E h => ?_) (fun f cdv A fr s H vs Q E hr hgd h => ?_)
  · obtain ⟨p, rfl, _⟩ := h
    rfl
  · obtain ⟨p, rfl, hp, fin⟩ := h
    refine ⟨_, pss_cons (ps_set (i := 1) sc_lot.nd rfl (.inl rfl) (pe_lst (pa_cons (pe_mkF mA MS.assign hr (by decide) rfl (S.mgK .assign rfl) (pa_cons pe_str (pa_cons (pe_mkF mN M.num hr (by decide) rfl (X.mgC .num rfl) (pa_cons (pe_cG c_draw hr (by decide) hgd rfl (pa_cons (pv 0) (pa_cons pe_int pa_nil))) pa_nil)) pa_nil)))
          (pa_cons (pe_mkF mR MS.ret hr (by decide) rfl (S.mgK .ret rfl) (pa_cons (pe_mkF mP (M.bi .plus rfl) hr (by decide) rfl (X.mgC (.bi .plus) rfl) (pa_cons (pe_mkF mV M.var hr (by decide) rfl (X.mgC .var rfl) (pa_cons pe_str pa_nil)) (pa_cons (pe_mkF mN M.num hr (by decide) rfl (X.mgC .num rfl) (pa_cons pe_int pa_nil)) pa_nil))) pa_nil))
          (pa_cons (pe_mkF0 mF MS.fail hr (by decide) rfl (S.mgK .fail rfl)) pa_nil)))))
      (pss_cons (ps_par (i := 2) (j := 3) rfl sc_lot.nd rfl rfl (by decide) rfl rfl (pa_cons (pe_cG c_draw hr (by decide) hgd rfl (pa_cons (pv 0) (pa_cons pe_int pa_nil))) (pa_cons (pe_cG c_draw hr (by decide) hgd rfl (pa_cons (pv 0) (pa_cons pe_int pa_nil))) pa_nil)) (by rfl))
      (pss_cons (ps_if (pt_cmpR op_gt (pv 2) pe_int (nomark _))
        (pss_one (ps_ret (pe_callTy call_tuple_of rfl T.b_tuple (by decide +kernel) (pa_cons (pe_slice sl_list (pv 1) po_none (po_some (pv 3))) pa_nil))))
        (pss_nil))
      (pss_one (ps_ret (pe_ix ix_list (pe_lst (pa_cons (pv 1) (pa_cons (pe_mkF0 mF MS.fail hr (by decide) rfl (S.mgK .fail rfl)) (pa_cons (pe_callTy call_tuple_of rfl T.b_tuple (by decide +kernel) (pa_cons (pe_op op_cat (pe_slice sl_list (pv 1) po_none (po_some pe_int)) (pe_lst (pa_cons (pe_ix ix_list (pe_lst (pa_cons pe_non (pa_cons (pe_mkF mN M.num hr (by decide) rfl (X.mgC .num rfl) (pa_cons pe_int pa_nil)) (pa_cons pe_str pa_nil)))) (pe_cG c_draw hr (by decide) hgd rfl (pa_cons (pv 0) (pa_cons pe_int pa_nil))) (fun _ _ => rfl)) pa_nil))) pa_nil)) pa_nil)))) (pv 2) (fun _ _ => rfl)))))), ?_⟩
    refine dr rfl hp (by decide) (by decide) fun d G0 hd p0 k0 => ?_
    refine fun x1 d1 hx1 hd1 _ => ⟨x1, d1, (d : Int), rfl, upd_same, by omega, by omega, fun G1 k1 i1 => ⟨rfl, ?_⟩⟩
    have s1 := same_mk hx1 hd1 k1
    refine fun x2 d2 hx2 hd2 _ => ⟨x2, d2, "n", .num (d : Int), _, rfl, upd_same, by decide +kernel, i1.same (same_in hx2 hd2), lim_num (by omega) (by omega), fun G2 k2 i2 => ⟨rfl, ?_⟩⟩
    have s2 := same_mk hx2 hd2 k2
    refine fun x3 d3 hx3 hd3 _ => ⟨x3, d3, "n", rfl, upd_same, by decide +kernel, fun G3 k3 i3 => ⟨rfl, ?_⟩⟩
    have s3 := same_mk hx3 hd3 k3
    refine fun x4 d4 hx4 hd4 _ => ⟨x4, d4, 1, rfl, upd_same, by decide, by decide, fun G4 k4 i4 => ⟨rfl, ?_⟩⟩
    have s4 := same_mk hx4 hd4 k4
    have lb : Lim (.bi .plus (.var "n") (.num 1)) := ⟨⟨(lim_var (by decide +kernel)).ok, (lim_num (by decide) (by decide)).ok⟩, (show 3 ≤ 40 by decide), (show 2 ≤ 6 by decide)⟩
    refine fun x5 d5 hx5 hd5 _ => ⟨x5, d5, _, _, _, _, rfl, upd_same, (i3.same s4).same (same_in hx5 hd5), i4.same (same_in hx5 hd5), lb, fun G5 k5 i5 => ⟨rfl, ?_⟩⟩
    have s5 := same_mk hx5 hd5 k5
    refine fun x6 d6 hx6 hd6 _ => ⟨x6, d6, _, _, rfl, upd_same, i5.same (same_in hx6 hd6), lb, fun G6 k6 i6 => ⟨rfl, ?_⟩⟩
    have s6 := same_mk hx6 hd6 k6
    refine fun x7 d7 hx7 hd7 _ => ⟨x7, d7, rfl, upd_same, fun G7 k7 i7 => ⟨rfl, ?_⟩⟩
    have s7 := same_mk hx7 hd7 k7
    refine ⟨(show 3 ≤ sizeLine by decide), fun l nl => ?_⟩
    have s8 := same_new (o := .lst [.ref x2, .ref x6, .ref x7]) nl
    have pr : Paired (SIs CK (upd G7 l (.lst [.ref x2, .ref x6, .ref x7]))) (three d) [.ref x2, .ref x6, .ref x7] := .cons (i2.same (s3.trans (s4.trans (s5.trans (s6.trans (s7.trans s8)))))) (.cons (i6.same (s7.trans s8)) (.cons (i7.same s8) .nil))
    have hl := upd_same (H := G7) (a := l) (o := .lst [.ref x2, .ref x6, .ref x7])
    have sA := s1.trans (s2.trans (s3.trans (s4.trans (s5.trans (s6.trans (s7.trans s8))))))
    have p8 := p0.same sA
    have k8 := k0.trans (kp_of sA)
    generalize upd G7 l (.lst [.ref x2, .ref x6, .ref x7]) = G8 at pr hl p8 k8
    clear s1 s2 s3 s4 s5 s6 s7 s8 sA i1 i2 i3 i4 i5 i6 i7 k1 k2 k3 k4 k5 k6 k7 nl
    have ne3 : ∀ x y z : Int, ([.ref x2, .ref x6, .ref x7] : List V) ≠ [.int x, .int y, .int z] := fun _ _ _ e => by cases e
    refine dr rfl p8 (by decide) (by decide) fun wy G9 hw p9 k9 => ?_
    refine dr rfl p9 (by decide) (by decide) fun m G10 hm p10 k10 => ?_
    have g10 := (Goes.kp p8 k9).trans (Goes.kp p9 k10)
    have hl10 := g10.lst hl ne3
    have pr10 := pair_mem pr fun x y i => i.go g10
    have kA := (k8.trans k9).trans k10
    refine ⟨_, _, rfl, ?_⟩
    change (_ : L2.St → Hp → Prop) [some (.ref p), some (.ref l), some (.int (wy : Int)), some (.int (m : Int))] G10
    refine ⟨_, rfl, _, _, rfl, rfl, _, rfl, ite2 (fun e => ?_) (fun e => ?_)⟩
    · refine ⟨_, rfl, _, rfl, _, rfl, l, _, rfl, SqL.of hl10, fun a1 na1 => ?_⟩
      rw [cut_take _ (show m ≤ 3 by omega)]
      have t1 := same_new (o := .lst (([.ref x2, .ref x6, .ref x7] : List V).take m)) na1
      refine ⟨a1, _, rfl, .inl ⟨SqL.of upd_same, fun a2 na2 => ?_⟩⟩
      have t2 := same_new (o := .tup (([.ref x2, .ref x6, .ref x7] : List V).take m)) na2
      exact fin _ _ (p10.same (t1.trans t2)) (kA.trans (kp_of (t1.trans t2))) (.inl ⟨d, m, by omega, by omega, a2, _, rfl, upd_same, pair_take (pair_mem pr10 fun x y i => i.same (t1.trans t2)) m⟩)
    · have w3 : wy < 3 := by have := of_decide_eq_false (Bool.eq_false_iff.mpr e); omega
      refine ⟨_, rfl, fun x8 d8 hx8 hd8 _ => ⟨x8, d8, rfl, upd_same, fun G11 k11 i11 => ⟨rfl, ?_⟩⟩⟩
      have t1 := same_mk hx8 hd8 k11
      have p11 := p10.same t1
      have hl11 := t1 _ _ hl10
      have pr11 := pair_mem pr10 fun x y i => i.same t1
      refine ⟨_, rfl, _, rfl, l, _, rfl, SqL.of hl11, fun a1 na1 => ?_⟩
      rw [show cutV [V.ref x2, .ref x6, .ref x7] none (some (2 : Int)) = [V.ref x2, .ref x6] from cut_take [V.ref x2, .ref x6, .ref x7] (j := 2) (show 2 ≤ 3 by decide)]
      have t2 := same_new (o := .lst [V.ref x2, .ref x6]) na1
      have ha1 := upd_same (H := G11) (a := a1) (o := .lst [V.ref x2, .ref x6])
      have p12 := p11.same t2
      have hl12 := t2 _ _ hl11
      have pr12 := pair_mem pr11 fun x y i => i.same t2
      have i12 := i11.same t2
      have na1p := purse_ne p11 na1
      have kB := kA.trans (kp_of (t1.trans t2))
      generalize upd G11 a1 (.lst [V.ref x2, .ref x6]) = G12 at ha1 p12 hl12 pr12 i12 kB
      clear t1 t2 na1 p11 hl11 pr11 i11
      refine fun x9 d9 hx9 hd9 _ => ⟨x9, d9, 1, rfl, upd_same, by decide, by decide, fun G13 k13 i13 => ⟨rfl, (show 3 ≤ sizeLine by decide), fun l2 nl2 => ?_⟩⟩
      have t1 := same_mk hx9 hd9 k13
      have t2 := same_new (o := .lst [.non, .ref x9, .str "fail"]) nl2
      have t12 := t1.trans t2
      have j13 := i13.same t2
      have hl2 := upd_same (H := G13) (a := l2) (o := .lst [.non, .ref x9, .str "fail"])
      refine dr rfl (p12.same t12) (by decide) (by decide) fun e1 G14 he1 p14 k14 => ?_
      have g14 := (Goes.of t12).trans (Goes.kp (p12.same t12) k14)
      have hl2' := (Goes.kp (p12.same t12) k14).lst hl2 (fun _ _ _ e => by cases e)
      have j14 := j13.go (Goes.kp (p12.same t12) k14)
      have hy : ∃ y, ([.non, .ref x9, .str "fail"] : List V)[e1]? = some y ∧ OdS K CS CK G14 y := by
        have : e1 = 0 ∨ e1 = 1 ∨ e1 = 2 := by omega
        rcases this with e | e | e <;> subst e
        · exact ⟨_, rfl, _, (O.ty (.type "NoneType") (by decide)).1, (O.ty (.type "NoneType") (by decide)).2, fun G _ => .base .non⟩
        · obtain ⟨a, fs, e0, hh⟩ := j14.has
          obtain ⟨dx, ha⟩ := hh.at_
          cases e0
          exact ⟨_, rfl, _, S.kitC .num, O.nm, fun G g => (X.own _).ty (g.ins ha)⟩
        · exact ⟨_, rfl, _, (O.ty (.type "str") (by decide)).1, (O.ty (.type "str") (by decide)).2, fun G _ => .base (.str _)⟩
      obtain ⟨y, hy, oy⟩ := hy
      refine ⟨l2, _, e1, y, rfl, rfl, SqL.of hl2', atI_nat hy, (show 1 ≤ sizeLine by decide), fun a2 na2 => ?_⟩
      have ha14 : G14 a1 = some (.lst [V.ref x2, .ref x6]) := g14.lst ha1 (fun _ _ _ e => by cases e)
      have t3 := same_new (o := .lst [y]) na2
      refine ⟨a1, a2, _, _, rfl, rfl, t3 _ _ ha14, upd_same, (show 3 ≤ sizeLine by decide), fun a3 na3 => ?_⟩
      have t4 := same_new (o := .lst ([V.ref x2, .ref x6] ++ [y])) na3
      refine ⟨a3, _, rfl, .inl ⟨SqL.of upd_same, fun a4 na4 => ?_⟩⟩
      have t5 := same_new (o := .tup ([V.ref x2, .ref x6] ++ [y])) na4
      refine ⟨(show 3 ≤ sizeLine by decide), fun a5 na5 => ?_⟩
      have t6 := same_new (o := .lst [.ref l, .ref x8, .ref a4]) na5
      have tA := t3.trans (t4.trans (t5.trans t6))
      have ht4 := t6 _ _ (upd_same (H := upd (upd G14 a2 (.lst [y])) a3 (.lst ([V.ref x2, .ref x6] ++ [y]))) (a := a4) (o := .tup ([V.ref x2, .ref x6] ++ [y])))
      have h5 := upd_same (H := upd (upd (upd G14 a2 (.lst [y])) a3 (.lst ([V.ref x2, .ref x6] ++ [y]))) a4 (.tup ([V.ref x2, .ref x6] ++ [y]))) (a := a5) (o := .lst [.ref l, .ref x8, .ref a4])
      have gE := g14.trans (.of tA)
      have pE := p14.same tA
      have kE : Kp p H _ := ((kB.trans (kp_of t12)).trans k14).trans (kp_of tA)
      have prE := pair_mem pr12 fun x y i => i.go gE
      have iE := i12.go gE
      have hlE := gE.lst hl12 ne3
      have oyE := oy.go (.of tA)
      generalize upd (upd (upd (upd G14 a2 (.lst [y])) a3 (.lst ([V.ref x2, .ref x6] ++ [y]))) a4 (.tup ([V.ref x2, .ref x6] ++ [y]))) a5 (.lst [.ref l, .ref x8, .ref a4]) = GE at ht4 h5 gE pE kE prE iE hlE oyE
      have hz : ∃ z, ([.ref l, .ref x8, .ref a4] : List V)[wy]? = some z ∧ ∃ o, LotB K CS CK GE z o := by
        have : wy = 0 ∨ wy = 1 ∨ wy = 2 := by omega
        rcases this with e | e | e <;> subst e
        · exact ⟨_, rfl, none, _, kit_ty (by decide +kernel), fun G g => .base (.lst (g.lst hlE ne3))⟩
        · obtain ⟨a, dx, q, fs, e0, e1, _⟩ := id iE
          cases e0
          exact ⟨_, rfl, none, _, O.tp .fail, fun G g => (S.own .fail).ty (g.ins e1)⟩
        · exact ⟨_, rfl, some 2, rfl, d, a4, [V.ref x2, .ref x6], y, rfl, ht4, pair_take prE 2, oyE⟩
      obtain ⟨z, hz, lz⟩ := hz
      exact ⟨_, rfl, a5, _, wy, z, rfl, rfl, SqL.of h5, atI_nat hz, fin z GE pE kE (.inr lz)⟩
end
end Jo

set_option Elab.async false
set_option linter.all false
set_option maxRecDepth 100000
set_option maxHeartbeats 1000000
namespace Jo
open PySem PySem.Spec PyProof.Rows L2

section
variable {P : Program} {w : World} {K : PySem.W.Frag} {mg : Str → Option Value} {base : Heap}
def n_fresh : List Str := ["_law_purse_here", "_law_taken", "_law_text", "_law_others", "_law_k", "_law_other"]
theorem sc_fresh : FnScope n_fresh ["_law_purse_here", "_law_taken"] (defScope s_fresh) := ⟨rfl, rfl, rfl, by decide +kernel, rfl, by decide +kernel, by decide +kernel⟩
def spFresh : Sp := fun vs H Q _ => ∃ (p T : Addr) (xs : List Str), vs = [.ref p, .ref T] ∧ PurseAt H p ∧ T ≠ p ∧ H T = some (.lst (xs.map V.str)) ∧ xs.length < 20 ∧
  ∀ (z : Str) (H' : Hp), nmS z = true → z ∉ xs → PurseAt H' p → Kp p H H' → Q (.str z) H'
theorem ok_fresh (T : Txt mg) (D : Dfn K mg "_law_fresh" s_fresh ["_law_purse_here", "_law_taken"]) (c_name : CalG P w K mg base 2 "_law_name" ["_law_purse_here"] spName) :
    CalG P w K mg base 3 "_law_fresh" ["_law_purse_here", "_law_taken"] spFresh := by
  refine D.ok sc_fresh (fun vs H Q E h => ?_) (fun f cdv A fr s H vs Q E hr hgd h => ?_)
  · obtain ⟨p, T, xs, rfl, _⟩ := h
    rfl
  · obtain ⟨p, Ta, xs, rfl, hp, hne, hT, hlen, q⟩ := h
    refine ⟨_, pss_cons (ps_set (i := 2) sc_fresh.nd rfl (.inl rfl) (pe_cG c_name hr (by decide) hgd rfl (pa_cons (pv 0) pa_nil)))
      (pss_cons (ps_if (pt_cmpR op_notIn_seq (pv 2) (pv 1) rfl)
        (pss_one (ps_ret (pv 2)))
        (pss_nil))
      (pss_cons (ps_setLc (i := 3) (own := [("_law_k", 4)]) (g := gName 4) (tt := tYes) rfl sc_fresh.nd rfl rfl (sw_true rfl rfl rfl (by decide +kernel)) (pi_range1 rfl T.b_range (pa_cons (pe_op op_add (pe_callB call_len rfl T.b_len (by decide +kernel) (pa_cons (pv 1) pa_nil)) pe_int) pa_nil)) (blkOk_by (N := n_fresh) (sc := defScope s_fresh) (by decide +kernel)) (fun _ _ _ _ _ => pg_name (i := 4) sc_fresh.nd rfl (Or.inl rfl)) (fun _ _ _ _ _ => pts_nil) (fun _ _ _ _ _ => (pe_op op_add_str pe_str (pe_callTy call_str_int rfl T.b_str (by decide +kernel) (pa_cons (pv 4) pa_nil)))))
      (pss_one (ps_ret (pe_ix ix_list (pe_lc (own := [("_law_other", 5)]) (g := gName 5) rfl sc_fresh.nd (pi_list (pv 3)) (blkOk_by (N := n_fresh) (sc := defScope s_fresh) (by decide +kernel)) (fun _ _ _ _ _ => pg_name (i := 5) sc_fresh.nd rfl (Or.inl rfl)) (fun _ _ _ _ _ => (pts_one (pt_cmpR (r := rIn K true) op_notIn_seq (pv 5) (pv 1) rfl))) (fun _ _ _ _ _ => (pv 5))) pe_int (fun _ _ => rfl)))))), ?_⟩
    refine ⟨_, rfl, p, rfl, hp, fun z H1 hz p1 k1 => ?_⟩
    have hT1 := k1 Ta _ hT hne
    refine ⟨_, rfl, _, rfl, Ta, _, rfl, .inl (SqL.of hT1), rfl, flat_strs _, _, rfl, ?_⟩
    rw [inV_str]
    by_cases hm : z ∈ xs
    · rw [decide_eq_true hm]
      refine iteF ?_
      refine ⟨_, rfl, _, xs.length, rfl, .inl ⟨_, SqL.of hT1, by rw [List.length_map]⟩, _, _, rfl, rfl, _, rfl, by omega, by omega, fun D1 n1 => ?_⟩
      have e : ((xs.length : Int) + 1).toNat = xs.length + 1 := by omega
      rw [e]
      refine lc_range (lo := 0) (n := xs.length + 1) (fun i G => i ≤ xs.length + 1 ∧ G = upd H1 D1 (.lst (((List.range i).map qk).map V.str))) ⟨Nat.zero_le _, rfl⟩ (fun i G hi ⟨h1, eG⟩ => ?_) (fun G ⟨_, eG⟩ => ?_)
      · subst eG
        have hi24 : i < 24 := by omega
        have l3 : ((toString (0 + (i : Int)) : String) : Str).length ≤ 3 := PyProof.Rows.toString_length_le (by omega) (by decide) (by show 0 + (i : Int) < (10 : Int) ^ 3; omega)
        have z0 : (0 + (i : Int)) = (i : Int) := by omega
        rw [z0] at l3
        rw [z0]
        refine ⟨rfl, _, rfl, _, rfl, log_s (by omega), _, _, rfl, rfl, ?_, _, upd_same, ?_, by omega, ?_⟩
        · show 1 + _ ≤ sizeLine
          exact Nat.le_of_lt (small1000 (by omega))
        · rw [List.length_map, List.length_map, List.length_range]
          exact small1000 (by omega)
        · rw [upd_upd, List.range_succ, List.map_append, List.map_append]
          rfl
      · subst eG
        have neT : Ta ≠ D1 := fun z => by rw [z, n1] at hT1; cases hT1
        refine ⟨_, rfl, D1, rfl, ⟨_, SqL.of upd_same⟩, fun D2 n2 => ?_⟩
        have ne2 : D1 ≠ D2 := fun z => by rw [← z, upd_same] at n2; cases n2
        have neT2 : Ta ≠ D2 := fun z => by rw [← z, upd_ne neT, hT1] at n2; cases n2
        refine lc_list (K := K) (xs := ((List.range (xs.length + 1)).map qk).map V.str)
          (fun i G => G = upd (upd H1 D1 (.lst (((List.range (xs.length + 1)).map qk).map V.str))) D2 (.lst ((((List.range i).map qk).filter fun z => decide (z ∉ xs)).map V.str))) rfl (fun i G hi eG => ?_) (fun i x G hx eG => ?_) (fun G eG => ?_)
        · subst eG
          exact SqL.of (by rw [upd_ne ne2, upd_same])
        · have hi : i < xs.length + 1 := by
            have := (List.getElem?_eq_some_iff.mp hx).1
            simpa using this
          have ex : x = .str (qk i) := by
            rw [List.getElem?_map, List.getElem?_map, List.getElem?_range hi] at hx
            exact (Option.some.inj hx).symm
          subst ex eG
          have hTb : upd (upd H1 D1 (.lst (((List.range (xs.length + 1)).map qk).map V.str))) D2 (.lst ((((List.range i).map qk).filter fun z => decide (z ∉ xs)).map V.str)) Ta = some (.lst (xs.map V.str)) := by rw [upd_ne neT2, upd_ne neT]; exact hT1
          refine ⟨rfl, _, rfl, _, rfl, Ta, _, rfl, .inl (SqL.of hTb), rfl, flat_strs _, _, rfl, ?_⟩
          have hst : ((List.range (i + 1)).map qk).filter (fun z => decide (z ∉ xs)) = ((List.range i).map qk).filter (fun z => decide (z ∉ xs)) ++ [qk i].filter (fun z => decide (z ∉ xs)) := by
            rw [List.range_succ, List.map_append, List.filter_append]
            rfl
          rw [inV_str, hst, List.map_append]
          by_cases hm2 : qk i ∈ xs
          · rw [decide_eq_true hm2]
            refine iteF ?_
            have e1 : [qk i].filter (fun z => decide (z ∉ xs)) = [] := by simp [hm2]
            rw [e1]
            simp
          · rw [decide_eq_false hm2]
            refine iteT ⟨_, rfl, _, upd_same, ?_, ?_⟩
            · rw [List.length_map]
              refine small1000 (Nat.le_trans (List.length_filter_le _ _) ?_)
              rw [List.length_map, List.length_range]
              omega
            · have e1 : [qk i].filter (fun z => decide (z ∉ xs)) = [qk i] := by simp [hm2]
              rw [e1, upd_upd]
              rfl
        · subst eG
          obtain ⟨i, hi, hf⟩ := qk_free (xs := xs) (by omega)
          have hmem : qk i ∈ ((List.range (xs.length + 1)).map qk).filter (fun z => decide (z ∉ xs)) := List.mem_filter.mpr ⟨List.mem_map.mpr ⟨i, List.mem_range.mpr (by omega), rfl⟩, decide_eq_true hf⟩
          generalize hL : ((List.range (xs.length + 1)).map qk).filter (fun z => decide (z ∉ xs)) = L at hmem
          match L, hmem, hL with
          | z2 :: r, _, hL =>
            have m2 : z2 ∈ ((List.range (xs.length + 1)).map qk).filter (fun z => decide (z ∉ xs)) := by rw [hL]; exact List.mem_cons_self
            obtain ⟨m3, m4⟩ := List.mem_filter.mp m2
            obtain ⟨j, hj, e⟩ := List.mem_map.mp m3
            have s1 := (same_new n1 : Same H1 (upd H1 D1 (.lst (((List.range (xs.length + 1)).map qk).map V.str))))
            have s2 : ∀ o, Same H1 (upd (upd H1 D1 (.lst (((List.range (xs.length + 1)).map qk).map V.str))) D2 o) := fun o => s1.trans (same_new n2)
            refine ⟨D2, _, 0, _, rfl, rfl, SqL.of upd_same, atI_nat (j := 0) (by rw [List.length_map, List.length_map, List.length_range, hL]; rfl), q z2 _ ?_ (of_decide_eq_true m4) (p1.same (s2 _)) (k1.trans (kp_of (s2 _)))⟩
            rw [← e]
            exact qk_ok j (List.mem_range.mpr (by have := List.mem_range.mp hj; omega))
    · rw [decide_eq_false hm]
      exact iteT ⟨_, rfl, q z H1 hz hm p1 k1⟩
def n_names : List Str := ["_law_purse_here", "_law_many", "_law_taken", "_law_found", "_law_turn"]
theorem sc_names : FnScope n_names ["_law_purse_here", "_law_many", "_law_taken"] (defScope s_names) := ⟨rfl, rfl, rfl, by decide +kernel, rfl, by decide +kernel, by decide +kernel⟩
/-- many different names that are not taken, in a new list -/
def spNames : Sp := fun vs H Q _ => ∃ (p T : Addr) (m : Nat) (xs : List Str), vs = [.ref p, .int (m : Int), .ref T] ∧ PurseAt H p ∧ T ≠ p ∧ H T = some (.lst (xs.map V.str)) ∧ xs.length + m ≤ 20 ∧
  ∀ (l : Addr) (ys : List Str) (H' : Hp), ys.length = m → (∀ z ∈ ys, nmS z = true ∧ z ∉ xs) → ys.Nodup → PurseAt H' p → Kp p H H' → l ≠ p → H l = none → H' l = some (.lst (ys.map V.str)) → Q (.ref l) H'
theorem ok_names (T : Txt mg) (D : Dfn K mg "_law_names" s_names ["_law_purse_here", "_law_many", "_law_taken"]) (c_fresh : CalG P w K mg base 3 "_law_fresh" ["_law_purse_here", "_law_taken"] spFresh) :
    CalG P w K mg base 4 "_law_names" ["_law_purse_here", "_law_many", "_law_taken"] spNames := by
  refine D.ok sc_names (fun vs H Q E h => ?_) (fun f cdv A fr s H vs Q E hr hgd h => ?_)
  · obtain ⟨p, T, m, xs, rfl, _⟩ := h
    rfl
  · obtain ⟨p, Ta, m, xs, rfl, hp, hne, hT, hlen, q⟩ := h
    refine ⟨_, pss_cons (ps_set (i := 3) sc_names.nd rfl (.inl rfl) (pe_lst pa_nil))
      (pss_cons (ps_for PassesOwn.never rfl (pi_range1 rfl T.b_range (pa_cons (pv 1) pa_nil)) (pg_name (i := 4) sc_names.nd rfl (.inl rfl))
        (pss_one (ps_expr (pe_bm PySem.F.plainAttrs_list PySem.F.slot_list_append PySem.F.type_list_append mt_append (pv 3) (pa_cons (pe_cG c_fresh hr (by decide) hgd rfl (pa_cons (pv 0) (pa_cons (pe_op op_cat (pv 2) (pv 3)) pa_nil))) pa_nil)))))
      (pss_one (ps_ret (pv 3)))), ?_⟩
    refine ⟨(show 0 ≤ sizeLine by decide), fun l nl => ?_⟩
    have nlp := purse_ne hp nl
    refine ⟨_, rfl, (m : Int), rfl, by omega, by omega, ?_⟩
    have e : ((m : Int)).toNat = m := by omega
    rw [e]
    refine for_range (lo := 0) (n := m) (fun i σ G => PurseAt G p ∧ Kp p H G ∧ ∃ (ys : List Str) (y : Option V), ys.length = i ∧ (∀ z ∈ ys, nmS z = true ∧ z ∉ xs) ∧ ys.Nodup ∧ G l = some (.lst (ys.map V.str)) ∧
      σ = [some (.ref p), some (.int (m : Int)), some (.ref Ta), some (.ref l), y])
      ⟨hp.new nl, kp_of (same_new nl), [], _, rfl, (fun z h => by cases h), List.nodup_nil, upd_same, rfl⟩ (fun i σ G hi hG => ?_) (fun σ G hG => ?_)
    · obtain ⟨p1, k1, ys, y, hl, hz, nd, hl2, rfl⟩ := hG
      have hT1 := k1 Ta _ hT hne
      refine ⟨_, rfl, .inl ⟨rfl, _, SqL.of hl2⟩, _, rfl, _, rfl, _, rfl, Ta, l, _, _, rfl, rfl, hT1, hl2, ?_, fun c nc => ?_⟩
      · rw [List.length_map, List.length_map]
        exact Nat.le_of_lt (small1000 (by omega))
      · have hc : upd G c (.lst (xs.map V.str ++ ys.map V.str)) c = some (.lst ((xs ++ ys).map V.str)) := by rw [upd_same, List.map_append]
        refine ⟨p, c, xs ++ ys, rfl, p1.new nc, purse_ne p1 nc, hc, ?_, fun z G2 nz mz p2 k2 => ?_⟩
        · rw [List.length_append]
          omega
        · have nlc : l ≠ c := fun q => by rw [← q, hl2] at nc; cases nc
          have hl3 : G2 l = some (.lst (ys.map V.str)) := k2 l _ (by rw [upd_ne nlc]; exact hl2) nlp
          have mz2 : z ∉ xs ∧ z ∉ ys := ⟨fun h => mz (List.mem_append_left _ h), fun h => mz (List.mem_append_right _ h)⟩
          refine ⟨l, _, _, rfl, rfl, hl3, ?_, ?_⟩
          · rw [List.length_map]
            exact small1000 (by omega)
          · have p3 : PurseAt (upd G2 l (.lst (ys.map V.str ++ [V.str z]))) p := by
              obtain ⟨a, b, d, h⟩ := p2
              exact ⟨a, b, d, by rw [upd_ne (fun q => nlp q.symm)]; exact h⟩
            refine ⟨p3, fun b o hb nb => ?_, ys ++ [z], _, by rw [List.length_append, hl]; rfl, fun x hx => ?_, ?_, by rw [upd_same, List.map_append]; rfl, rfl⟩
            · have nbl : b ≠ l := fun q => by rw [q, nl] at hb; cases hb
              rw [upd_ne nbl]
              have h1 := k1 b o hb nb
              have nbc : b ≠ c := fun q => by rw [q, nc] at h1; cases h1
              exact k2 b o (by rw [upd_ne nbc]; exact h1) nb
            · rcases List.mem_append.mp hx with h | h
              · exact hz x h
              · rw [List.mem_singleton.mp h]
                exact ⟨nz, mz2.1⟩
            · refine List.nodup_append.mpr ⟨nd, List.pairwise_singleton _ _, fun a ha b hb e => ?_⟩
              rw [List.mem_singleton.mp hb] at e
              rw [e] at ha
              exact mz2.2 ha
    · obtain ⟨p1, k1, ys, y, hl, hz, nd, hl2, rfl⟩ := hG
      exact ⟨_, rfl, q l ys G hl hz nd p1 k1 nlp nl hl2⟩
end
end Jo

set_option Elab.async false
set_option linter.all false
set_option maxRecDepth 100000
set_option maxHeartbeats 2000000
namespace Jo
open PySem PySem.Spec PyProof.Rows L2 ClX
open L2H (RoomH roomH_of)
open LamX (Tabs TabS ExtN CodeO TabB lamS_by)
/-- xs == [], whatever stands in xs -/
def rEqE (K : PySem.W.Frag) : R2 := fun x y H Q => ∃ (a b : Addr) (xs : List V), x = .ref a ∧ y = .ref b ∧ SqL K H a xs ∧ SqL K H b [] ∧ Q (.bl (xs.isEmpty)) H
theorem op_eqE {X : Cx} (hu : X.A.units + 64 < cLine) : OpR X (compareOp .Eq) (rEqE X.K) := by
  intro pins s σ H x y v u Q I rx ry h
  obtain ⟨a, b, xs, rfl, rfl, ha, hb, q⟩ := h
  cases xs with
  | nil => exact op_eqD hu pins s σ H _ _ v u Q I rx ry ⟨.list [], .list [], .lst ha .nil, .lst hb .nil, rfl, rfl, q⟩
  | cons x0 xr =>
    obtain rfl : v = Value.ref a := rx
    obtain rfl : u = Value.ref b := ry
    obtain ⟨its, rv, ⟨o, n, ho, hc, hdn, hd⟩, hlen⟩ := I.list ha
    obtain ⟨its2, rv2, ⟨o2, n2, ho2, hc2, hdn2, hd2⟩, hlen2⟩ := I.list hb
    have e1 := rv.length
    have e2 := rv2.length
    have ne : its.toArray.size ≠ its2.toArray.size := by
      rw [List.size_toArray, List.size_toArray, ← e1, ← e2]
      exact Nat.succ_ne_zero _
    exact PySem.SeqAt.eq_list_lengthsAt ⟨o, ho, hc, n, hd⟩ ⟨o2, ho2, hc2, n2, hd2⟩ (bne_iff_ne.mpr ne) (by omega) ⟨.bl false, H, I, rfl, q⟩
/-! ### the drawn slots -/
def ItG (K : PySem.W.Frag) (H : Hp) : It → V → Prop
  | none, v => (∃ t, PySem.W.kitOne K t (.type "tuple") = some false ∧ ∀ G, Goes H G → TyX K G v t) ∨ ∃ q xs, v = .ref q ∧ H q = some (.tup xs) ∧ xs.length ≤ 10 ∧ xs.length ≠ 2
  | some (o, b), v => ∃ q x y, v = .ref q ∧ H q = some (.tup [x, y]) ∧ (∀ G, Goes H G → AnyV K G x) ∧ (∀ G, Goes H G → AnyV K G y) ∧ (∀ z, x = .str z → z.length ≤ 1000) ∧ NmO x o ∧ isSz y = b
theorem ItG.go {K : PySem.W.Frag} {H G : Hp} {v : V} : ∀ {i : It}, ItG K H i v → Goes H G → ItG K G i v
  | none, h, g => by
    rcases h with ⟨t, h1, h2⟩ | ⟨q, xs, e, h1, h2⟩
    · exact .inl ⟨t, h1, fun G2 g2 => h2 G2 (g.trans g2)⟩
    · exact .inr ⟨q, xs, e, g.tup h1, h2⟩
  | some (o, b), ⟨q, x, y, e, h1, h2, h3, h4⟩, g => ⟨q, x, y, e, g.tup h1, fun G2 g2 => h2 G2 (g.trans g2), fun G2 g2 => h3 G2 (g.trans g2), h4⟩
theorem ItG.is {K : PySem.W.Frag} {H : Hp} {v : V} : ∀ {i : It}, ItG K H i v → ItIs K H i v
  | none, h => by
    rcases h with ⟨t, h1, h2⟩ | ⟨q, xs, e, h1, h2⟩
    · exact .inl ⟨t, h1, fun G s => h2 G (.of s)⟩
    · exact .inr ⟨q, xs, e, SqT.of h1, h2⟩
  | some (o, b), ⟨q, x, y, e, h1, h2, h3, h4⟩ => ⟨q, x, y, e, SqT.of h1, fun G s => h2 G (.of s), fun G s => h3 G (.of s), h4⟩
/-- what is drawn as slots -/
def ExG (K : PySem.W.Frag) (H : Hp) (v : V) : Option (List It) → Prop
  | none => (∃ t, PySem.W.kitOne K t (.type "tuple") = some false ∧ ∀ G, Goes H G → TyX K G v t) ∨ ∃ q us, v = .ref q ∧ H q = some (.tup us) ∧ us.length ≤ 10 ∧ 3 < us.length
  | some its => ∃ q us, v = .ref q ∧ H q = some (.tup us) ∧ its.length ≤ 3 ∧ Paired (ItG K H) its us
theorem ExG.go {K : PySem.W.Frag} {H G : Hp} {v : V} : ∀ {o : Option (List It)}, ExG K H v o → Goes H G → ExG K G v o
  | none, h, g => by
    rcases h with ⟨t, h1, h2⟩ | ⟨q, us, e, h1, h2⟩
    · exact .inl ⟨t, h1, fun G2 g2 => h2 G2 (g.trans g2)⟩
    · exact .inr ⟨q, us, e, g.tup h1, h2⟩
  | some its, ⟨q, us, e, h1, h2, h3⟩, g => ⟨q, us, e, g.tup h1, h2, pair_mem h3 fun x y i => i.go g⟩
/-- a pair that is a slot, but for its name's being taken -/
def Pr1 (G : Hp) (z : Str) (v : V) : Prop := ∃ (q : Addr) (n : Int), v = .ref q ∧ G q = some (.tup [.str z, .int n]) ∧ 1 ≤ n ∧ n ≤ 40
theorem Pr1.go {H G : Hp} {z : Str} {v : V} (h : Pr1 H z v) (g : Goes H G) : Pr1 G z v := let ⟨q, n, e, h1, h2⟩ := h; ⟨q, n, e, g.tup h1, h2⟩
theorem size_ok {n : Int} (h1 : 1 ≤ n) (h2 : n ≤ 40) : isSz (.int n) = true := by
  show (decide (1 ≤ n) && decide (n ≤ 40)) = true
  rw [decide_eq_true h1, decide_eq_true h2]
  rfl
theorem Pr1.it {K : PySem.W.Frag} {G : Hp} {z : Str} {v : V} (h : Pr1 G z v) (nz : nmS z = true) : ItG K G (some (some z, true)) v :=
  let ⟨q, n, e, h1, h2, h3⟩ := h
  ⟨q, _, _, e, h1, fun _ _ => any_str z, fun _ _ => any_int n, fun y e => by cases e; have := nm_len nz; omega, ⟨rfl, nz⟩, size_ok h2 h3⟩
theorem prs_ne {G : Hp} {ys : List Str} {us : List V} (h : Paired (Pr1 G) ys us) : ∀ x y z : Int, us ≠ [.int x, .int y, .int z] := by
  rintro x y z rfl
  cases h with
  | cons i _ =>
    obtain ⟨q, n, e, _⟩ := i
    cases e
/-- a thing in a pair that is given -/
theorem it_pair {K : PySem.W.Frag} {G : Hp} {q : Addr} {x y : V} (h : G q = some (.tup [x, y])) (hx : ∀ G2, Goes G G2 → AnyV K G2 x) (hy : ∀ G2, Goes G G2 → AnyV K G2 y) (hl : ∀ z, x = .str z → z.length ≤ 1000) : ∃ i, ItG K G i (.ref q) :=
  ⟨some (_, isSz y), q, x, y, rfl, h, hx, hy, hl, nmO x, rfl⟩
theorem its_all {K : PySem.W.Frag} {G : Hp} : ∀ {us : List V}, (∀ v ∈ us, ∃ i, ItG K G i v) → ∃ its : List It, Paired (ItG K G) its us
  | [], _ => ⟨[], .nil⟩
  | v :: us, h => by
    obtain ⟨i, hi⟩ := h v (List.mem_cons_self ..)
    obtain ⟨its, p⟩ := its_all fun x hx => h x (List.mem_cons_of_mem _ hx)
    exact ⟨i :: its, .cons hi p⟩
theorem prs_its {K : PySem.W.Frag} {G : Hp} {ys : List Str} {us : List V} (p : Paired (Pr1 G) ys us) (h : ∀ z ∈ ys, nmS z = true) : ∀ v ∈ us, ∃ i, ItG K G i v := by
  induction p with
  | nil => intro v hv; cases hv
  | cons i _ ih =>
    intro v hv
    rcases List.mem_cons.mp hv with rfl | hv
    · exact ⟨_, i.it (h _ (List.mem_cons_self ..))⟩
    · exact ih (fun z hz => h z (List.mem_cons_of_mem _ hz)) v hv
/-- a tuple of such things -/
theorem ex_tup {K : PySem.W.Frag} {G : Hp} {q : Addr} {us : List V} (hq : G q = some (.tup us)) (h : ∀ v ∈ us, ∃ i, ItG K G i v) (hl : us.length ≤ 10) : ∃ o, ExG K G (.ref q) o := by
  by_cases h3 : us.length ≤ 3
  · obtain ⟨its, p⟩ := its_all h
    exact ⟨some its, q, us, rfl, hq, by rw [pair_len p]; exact h3, p⟩
  · exact ⟨none, .inr ⟨q, us, rfl, hq, hl, by omega⟩⟩
theorem new_at {H : Hp} {p : Addr} {o : HO} (h : H p = none) : Same H (upd H p o) ∧ upd H p o p = some o := ⟨same_new h, upd_same⟩
theorem cut_mem {xs : List V} {hi : Option Int} {v : V} (h : v ∈ cutV xs none hi) : v ∈ xs := by
  unfold cutV at h
  exact List.mem_of_mem_drop (List.mem_of_mem_take h)
theorem cut_len {xs : List V} {hi : Option Int} : (cutV xs none hi).length ≤ xs.length := by
  unfold cutV
  rw [List.length_take, List.length_drop]
  omega
/-- a value that is flat -/
def FlV (x : V) : Prop := (∃ z : Str, x = .str z ∧ z.length ≤ 1000) ∨ (∃ n, x = .int n) ∨ ∃ b, x = .bl b
theorem FlV.any {K : PySem.W.Frag} {x : V} (h : FlV x) (G : Hp) : AnyV K G x := by
  rcases h with ⟨z, rfl, _⟩ | ⟨n, rfl⟩ | ⟨b, rfl⟩
  · exact any_str z
  · exact any_int n
  · exact any_bl b
theorem FlV.len {x : V} (h : FlV x) : ∀ z, x = .str z → z.length ≤ 1000 := fun z e => by
  rcases h with ⟨y, rfl, h⟩ | ⟨n, rfl⟩ | ⟨b, rfl⟩
  · cases e; exact h
  · cases e
  · cases e
/-- an item as it lies there, beside the list at D -/
def RawI (D : Addr) (G : Hp) (v : V) : Prop := (∃ q x y, v = .ref q ∧ G q = some (.tup [x, y]) ∧ FlV x ∧ FlV y) ∨ (∃ q xs, v = .ref q ∧ G q = some (.tup xs) ∧ xs.length ≤ 10 ∧ xs.length ≠ 2) ∨ (∃ a x y, v = .ref a ∧ a ≠ D ∧ G a = some (.lst [x, y])) ∨ (∃ z, v = .str z) ∨ v = .non
def KD (p D : Addr) (H G : Hp) : Prop := ∀ b o, H b = some o → b ≠ p → b ≠ D → G b = some o
theorem KD.of {p D : Addr} {H G : Hp} (k : Kp p H G) : KD p D H G := fun b o h n _ => k b o h n
theorem RawI.kd {p D : Addr} {H G : Hp} {v : V} {l : List V} (h : RawI D H v) (k : KD p D H G) (hp : PurseAt H p) (hD : H D = some (.lst l)) : RawI D G v := by
  have np : ∀ (q : Addr) (xs : List V), H q = some (.tup xs) → q ≠ p := fun q xs e => purse_ne2 hp e
  have nD : ∀ (q : Addr) (xs : List V), H q = some (.tup xs) → q ≠ D := fun q xs e z => by rw [z, hD] at e; cases e
  rcases h with ⟨q, x, y, e, h1, h2⟩ | ⟨q, xs, e, h1, h2⟩ | ⟨a, x, y, e, h1, h2⟩ | h | h
  · exact .inl ⟨q, x, y, e, k _ _ h1 (np _ _ h1) (nD _ _ h1), h2⟩
  · exact .inr (.inl ⟨q, xs, e, k _ _ h1 (np _ _ h1) (nD _ _ h1), h2⟩)
  · refine .inr (.inr (.inl ⟨a, x, y, e, h1, k _ _ h2 (fun z => ?_) h1⟩))
    obtain ⟨i, j, m, hh⟩ := hp
    rw [z, hh] at h2
    cases h2
  · exact .inr (.inr (.inr (.inl h)))
  · exact .inr (.inr (.inr (.inr h)))
theorem RawI.it {K : PySem.W.Frag} {D : Addr} {G : Hp} {v : V} (h : RawI D G v) : ∃ i, ItG K G i v := by
  rcases h with ⟨q, x, y, rfl, h1, h2, h3⟩ | ⟨q, xs, e, h1, h2⟩ | ⟨a, x, y, rfl, h1, h2⟩ | ⟨z, rfl⟩ | rfl
  · exact it_pair h1 (fun G2 _ => h2.any G2) (fun G2 _ => h3.any G2) h2.len
  · exact ⟨none, .inr ⟨q, xs, e, h1, h2⟩⟩
  · exact ⟨none, .inl ⟨_, kit_ty (by decide +kernel), fun G2 g => .base (.lst (g.lst h2 fun _ _ _ e => by cases e))⟩⟩
  · exact ⟨none, .inl ⟨_, kit_ty (by decide +kernel), fun G2 _ => .base (.str _)⟩⟩
  · exact ⟨none, .inl ⟨_, kit_ty (by decide +kernel), fun G2 _ => .base .non⟩⟩
theorem Pr1.raw {D : Addr} {G : Hp} {z : Str} {v : V} (h : Pr1 G z v) (nz : nmS z = true) : RawI D G v :=
  let ⟨q, n, e, h1, h2, h3⟩ := h
  .inl ⟨q, _, _, e, h1, .inl ⟨z, rfl, by have := nm_len nz; omega⟩, .inr (.inl ⟨n, rfl⟩)⟩
theorem prs_raw {D : Addr} {G : Hp} {ys : List Str} {us : List V} (p : Paired (Pr1 G) ys us) (h : ∀ z ∈ ys, nmS z = true) : ∀ v ∈ us, RawI D G v := by
  induction p with
  | nil => intro v hv; cases hv
  | cons i _ ih =>
    intro v hv
    rcases List.mem_cons.mp hv with rfl | hv
    · exact i.raw (h _ (List.mem_cons_self ..))
    · exact ih (fun z hz => h z (List.mem_cons_of_mem _ hz)) v hv
section
variable {P : Program} {w : World} {K : PySem.W.Frag} {mg : Str → Option Value} {base : Heap}
def n_extra : List Str := ["_law_purse_here", "_law_title_here", "_law_way", "_law_many", "_law_found", "_law_place", "_law_one", "_law_bads", "_law_each", "_law_k"]
theorem sc_extra : FnScope n_extra ["_law_purse_here", "_law_title_here"] (defScope s_extra) := ⟨rfl, rfl, rfl, by decide +kernel, rfl, by decide +kernel, by decide +kernel⟩
def spExtra (K : PySem.W.Frag) : Sp := fun vs H Q _ => ∃ (p : Addr) (t : Str), vs = [.ref p, .str t] ∧ PurseAt H p ∧ t.length ≤ 1000 ∧ ∀ (v : V) (G : Hp), PurseAt G p → Kp p H G → (∃ o, ExG K G v o) → Q v G
theorem ok_extra (T : Txt mg) (D : Dfn K mg "_law_extra" s_extra ["_law_purse_here", "_law_title_here"]) (c_draw : CalG P w K mg base 1 "_law_draw" ["_law_purse_here", "_law_many"] spDraw) (c_names : CalG P w K mg base 4 "_law_names" ["_law_purse_here", "_law_many", "_law_taken"] spNames) :
    CalG P w K mg base 5 "_law_extra" ["_law_purse_here", "_law_title_here"] (spExtra K) := by
  refine D.ok sc_extra (fun vs H Q E h => ?_) (fun f cdv A fr s H vs Q E hr hgd h => ?_)
  · obtain ⟨p, t, rfl, _⟩ := h
    rfl
  · obtain ⟨p, t, rfl, hp, tl, fin⟩ := h
    refine ⟨_, pss_cons (ps_par (i := 2) (j := 3) rfl sc_extra.nd rfl rfl (by decide) rfl rfl (pa_cons (pe_cG c_draw hr (by decide) hgd rfl (pa_cons (pv 0) (pa_cons pe_int pa_nil))) (pa_cons (pe_cG c_draw hr (by decide) hgd rfl (pa_cons (pv 0) (pa_cons pe_int pa_nil))) pa_nil)) (by rfl))
      (pss_cons (ps_setLc (i := 4) (own := [("_law_each", 8)]) (g := gName 8) (tt := tYes) rfl sc_extra.nd rfl rfl (sw_true rfl rfl rfl (by decide +kernel)) (pi_list (pe_cG c_names hr (by decide) hgd rfl (pa_cons (pv 0) (pa_cons (pv 3) (pa_cons (pe_lst (pa_cons (pv 1) pa_nil)) pa_nil))))) (blkOk_by (N := n_extra) (sc := defScope s_extra) (by decide +kernel)) (fun _ _ _ _ _ => pg_name (i := 8) sc_extra.nd rfl (Or.inl rfl)) (fun _ _ _ _ _ => pts_nil)
          (fun _ _ _ _ _ => (pe_tup (pa_cons (pv 8) (pa_cons (pe_op op_add pe_int (pe_cG c_draw hr (by decide) hgd rfl (pa_cons (pv 0) (pa_cons pe_int pa_nil)))) pa_nil)))))
      (pss_cons (ps_if (pt_cmpR op_eq (pv 2) pe_int (nomark _))
        (pss_one (ps_ret (pe_ix ix_list (pe_lst (pa_cons (pv 4) (pa_cons pe_non (pa_cons pe_str (pa_cons (pe_tup (pa_cons (pv 4) pa_nil)) pa_nil))))) (pe_cG c_draw hr (by decide) hgd rfl (pa_cons (pv 0) (pa_cons pe_int pa_nil))) (fun _ _ => rfl)))) (pss_nil))
      (pss_cons (ps_if (pt_cmpR op_eq (pv 2) pe_int (nomark _))
        (pss_one (ps_ret (pe_callTy call_tuple_of rfl T.b_tuple (by decide +kernel) (pa_cons (pe_op op_cat (pv 4) (pe_lc (own := [("_law_k", 9)]) (g := gName 9) (tt := tYes) rfl sc_extra.nd (pi_range1 rfl T.b_range (pa_cons pe_int pa_nil)) (blkOk_by (N := n_extra) (sc := defScope s_extra) (by decide +kernel)) (fun _ _ _ _ _ => pg_name (i := 9) sc_extra.nd rfl (Or.inl rfl)) (fun _ _ _ _ _ => pts_nil)
            (fun _ _ _ _ _ => (pe_tup (pa_cons (pe_op op_add_str pe_str (pe_callTy call_str_int rfl T.b_str (by decide +kernel) (pa_cons (pv 9) pa_nil))) (pa_cons pe_int pa_nil)))))) pa_nil)))) (pss_nil))
      (pss_cons (ps_if (PW.pt (pw_or (pt_cmpR op_gt (pv 2) pe_int (nomark _)) (pw_or1 (pt_cmpR (op_eqE hr.units) (pv 4) (pe_lst pa_nil) (nomark _)))))
        (pss_one (ps_ret (pe_callTy call_tuple_of rfl T.b_tuple (by decide +kernel) (pa_cons (pv 4) pa_nil)))) (pss_nil))
      (pss_cons (ps_set (i := 5) sc_extra.nd rfl (.inl rfl) (pe_cG c_draw hr (by decide) hgd rfl (pa_cons (pv 0) (pa_cons (pv 3) pa_nil))))
      (pss_cons (ps_set (i := 6) sc_extra.nd rfl (.inl rfl) (pe_ix ix_list (pv 4) (pv 5) (fun _ _ => rfl)))
      (pss_cons (ps_set (i := 7) sc_extra.nd rfl (.inl rfl) (pe_lst (pa_cons (pe_tup (pa_cons (pe_ix ix_tup (pv 6) pe_int (fun _ _ => rfl)) (pa_cons pe_int pa_nil))) (pa_cons (pe_tup (pa_cons (pe_ix ix_tup (pv 6) pe_int (fun _ _ => rfl)) (pa_cons pe_int pa_nil))) (pa_cons (pe_tup (pa_cons (pv 1) (pa_cons pe_int pa_nil))) (pa_cons (pe_ix ix_list (pv 4) pe_int (fun _ _ => rfl))
          (pa_cons (pe_tup (pa_cons (pe_ix ix_tup (pv 6) pe_int (fun _ _ => rfl)) pa_nil)) (pa_cons (pe_tup (pa_cons (pe_ix ix_tup (pv 6) pe_int (fun _ _ => rfl)) (pa_cons pe_int (pa_cons pe_int pa_nil)))) (pa_cons (pe_tup (pa_cons (pe_op op_add_str (pe_ix ix_tup (pv 6) pe_int (fun _ _ => rfl)) pe_str) (pa_cons pe_int pa_nil))) (pa_cons (pe_ix ix_tup (pv 6) pe_int (fun _ _ => rfl)) pa_nil))))))))))
      (pss_cons (ps_set (i := 7) sc_extra.nd rfl (.inl rfl) (pe_op op_cat (pv 7) (pe_lst (pa_cons (pe_lst (pa_cons (pe_ix ix_tup (pv 6) pe_int (fun _ _ => rfl)) (pa_cons pe_int pa_nil))) (pa_cons (pe_tup (pa_cons (pe_ix ix_tup (pv 6) pe_int (fun _ _ => rfl)) (pa_cons pe_bl pa_nil))) (pa_cons pe_non (pa_cons (pe_tup (pa_cons pe_int (pa_cons (pe_ix ix_tup (pv 6) pe_int (fun _ _ => rfl)) pa_nil))) pa_nil)))))))
      (pss_cons (ps_asg (pe_ix ix_list (pv 7) (pe_cG c_draw hr (by decide) hgd rfl (pa_cons (pv 0) (pa_cons pe_int pa_nil))) (fun _ _ => rfl)) (pg_sub (pv 4) (pv 5) set_list))
      (pss_cons (ps_if (pt_cmpR op_eq (pv 2) pe_int (nomark _))
        (pss_one (ps_expr (pe_bm PySem.F.plainAttrs_list PySem.F.slot_list_append PySem.F.type_list_append mt_append (pv 4) (pa_cons (pe_ix ix_list (pv 7) (pe_cG c_draw hr (by decide) hgd rfl (pa_cons (pv 0) (pa_cons pe_int pa_nil))) (fun _ _ => rfl)) pa_nil)))) (pss_nil))
      (pss_one (ps_ret (pe_callTy call_tuple_of rfl T.b_tuple (by decide +kernel) (pa_cons (pe_slice sl_list (pv 4) po_none (po_some pe_int)) pa_nil)))))))))))))), ?_⟩
    refine dr rfl hp (by decide) (by decide) fun wy G1 hw p1 k1 => ?_
    refine dr rfl p1 (by decide) (by decide) fun m G2 hm p2 k2 => ?_
    refine ⟨_, _, rfl, ?_⟩
    change (_ : L2.St → Hp → Prop) [some (.ref p), some (.str t), some (.int (wy : Int)), some (.int (m : Int)), none, none, none, none, none, none] G2
    refine ⟨_, rfl, _, rfl, _, rfl, (show 1 ≤ sizeLine by decide), fun T0 nT0 => ?_⟩
    have s3 := same_new (o := .lst [.str t]) nT0
    refine ⟨p, T0, m, [t], rfl, p2.same s3, purse_ne p2 nT0, upd_same, (by show 1 + m ≤ 20; omega), fun l ys G4 yl al nd p4 k4 nlp nl hl => ?_⟩
    have kA := ((k1.trans k2).trans (kp_of s3)).trans k4
    refine ⟨l, rfl, ⟨_, SqL.of hl⟩, fun D nD => ?_⟩
    have nDp := purse_ne p4 nD
    have nDH : H D = none := by
      cases e : H D with
      | none => rfl
      | some o =>
        have := kA _ _ e nDp
        rw [nD] at this
        cases this
    refine lc_it (walk_list (K := K) (a := l) (xs := ys.map V.str)) (fun i G => PurseAt G p ∧ Kp p G4 G ∧ ∃ us, G D = some (.lst us) ∧ Paired (Pr1 G) (ys.take i) us) ⟨p4.new nD, kp_new nD, [], upd_same, by rw [List.take_zero]; exact .nil⟩ (fun i G _ h => SqL.of (h.2.1 _ _ hl nlp)) (fun i x G G' hi h y => ?_) (fun G5 h => ?_)
    · obtain ⟨rfl, hx2⟩ := y
      obtain ⟨pG, kG, us, hD, pr⟩ := h
      rw [List.length_map] at hi
      have e1 : ys[i]? = some ys[i] := List.getElem?_eq_getElem hi
      rw [List.getElem?_map, e1] at hx2
      obtain rfl := Option.some.inj hx2
      refine ⟨rfl, _, rfl, dr rfl pG (by decide) (by decide) fun d G6 hd p6 k6 => ⟨_, _, rfl, rfl, (show 2 ≤ sizeLine by decide), fun t2 nt2 => ?_⟩⟩
      have s7 := same_new (o := .tup [.str ys[i], .int ((1 : Int) + (d : Int))]) nt2
      have g7 := (Goes.kp pG k6).trans (.of s7)
      have hD7 := s7 _ _ (k6 _ _ hD nDp)
      have ul := pair_len pr
      rw [List.length_take] at ul
      refine ⟨us, hD7, small1000 (by omega), ?_, fun b o hb nb => ?_, us ++ [.ref t2], upd_same, ?_⟩
      · obtain ⟨x, y, z, hh⟩ := p6.same s7
        exact ⟨x, y, z, by rw [upd_ne (fun q => nDp q.symm)]; exact hh⟩
      · have nbD : b ≠ D := fun e => by rw [e, nD] at hb; cases hb
        rw [upd_ne nbD]
        exact s7 _ _ (k6 _ _ (kG _ _ hb nb) nb)
      · have put : ∀ {z v}, Pr1 (upd G6 t2 (.tup [.str ys[i], .int ((1 : Int) + (d : Int))])) z v → Pr1 (upd (upd G6 t2 (.tup [.str ys[i], .int ((1 : Int) + (d : Int))])) D (.lst (us ++ [.ref t2]))) z v := fun {z v} ⟨q, n, e, h1, h2⟩ => ⟨q, n, e, by rw [upd_ne (fun z => by rw [z, hD7] at h1; cases h1)]; exact h1, h2⟩
        rw [List.take_succ, e1]
        exact pair_end (pair_mem pr fun x y i => put (i.go g7)) (put ⟨t2, _, rfl, upd_same, by omega, by omega⟩)
    obtain ⟨p5, k5, us, hD, pr⟩ := h
    rw [List.length_map, List.take_of_length_le (Nat.le_refl _)] at pr
    have ul := pair_len pr
    have ya : ∀ z ∈ ys, nmS z = true := fun z hz => (al z hz).1
    have kB := kA.trans k5
    have une := prs_ne pr
    clear hl nl nlp k4 k5 p4 s3 nT0 k1 k2 p1 p2
    have u3 : us.length ≤ 3 := by omega
    refine ⟨_, rfl, rfl, _, rfl, ite2 (fun e => ?_) (fun e => ?_)⟩
    · refine ⟨_, rfl, _, rfl, (show 1 ≤ sizeLine by decide), fun t1 nt1 => ⟨(show 4 ≤ sizeLine by decide), fun l2 nl2 => ?_⟩⟩
      have s1 := same_new (o := .tup [.ref D]) nt1
      have s2 := same_new (o := .lst [.ref D, .non, .str "", .ref t1]) nl2
      have s12 := s1.trans s2
      have ht1 := s2 _ _ (upd_same (H := G5) (a := t1) (o := .tup [.ref D]))
      refine dr rfl (p5.same s12) (by decide) (by decide) fun d G6 hd p6 k6 => ?_
      have g6 := Goes.kp (p5.same s12) k6
      have hD6 := g6.lst (s12 _ _ hD) une
      have hl6 := g6.lst (upd_same (H := upd G5 t1 (.tup [.ref D])) (a := l2) (o := .lst [.ref D, .non, .str "", .ref t1])) (fun _ _ _ e => by cases e)
      have hz : ∃ z, ([.ref D, .non, .str "", .ref t1] : List V)[d]? = some z ∧ ∃ o, ExG K G6 z o := by
        have : d = 0 ∨ d = 1 ∨ d = 2 ∨ d = 3 := by omega
        rcases this with e | e | e | e <;> subst e
        · exact ⟨_, rfl, none, .inl ⟨_, kit_ty (by decide +kernel), fun G g => .base (.lst (g.lst hD6 une))⟩⟩
        · exact ⟨_, rfl, none, .inl ⟨_, kit_ty (by decide +kernel), fun G _ => .base .non⟩⟩
        · exact ⟨_, rfl, none, .inl ⟨_, kit_ty (by decide +kernel), fun G _ => .base (.str _)⟩⟩
        · refine ⟨_, rfl, ex_tup (g6.tup ht1) (fun v hv => ?_) (show 1 ≤ 10 by decide)⟩
          rw [List.mem_singleton.mp hv]
          exact ⟨none, .inl ⟨_, kit_ty (by decide +kernel), fun G g => .base (.lst (g.lst hD6 une))⟩⟩
      obtain ⟨z, hz, ez⟩ := hz
      exact ⟨l2, _, d, z, rfl, rfl, SqL.of hl6, atI_nat hz, fin z G6 p6 ((kB.trans (kp_of s12)).trans k6) ez⟩
    refine ⟨_, rfl, rfl, _, rfl, ite2 (fun e => ?_) (fun e => ?_)⟩
    · have zz : ∀ i : Nat, i < 3 → (("zz" : Str) ++ Str.ofString (toString ((0 : Int) + (i : Int)))).length ≤ 10 ∧ ("zz" : Str).length + (Str.ofString (toString ((0 : Int) + (i : Int)))).length ≤ 10 := fun i hi => by
        have : i = 0 ∨ i = 1 ∨ i = 2 := by omega
        rcases this with e | e | e <;> subst e <;> decide +kernel
      refine ⟨_, rfl, 3, rfl, by decide, by decide, fun D2 nD2 => ?_⟩
      refine lc_range (lo := 0) (n := 3) (fun i G => Same G5 G ∧ ∃ us2, G D2 = some (.lst us2) ∧ us2.length = i ∧ ∀ v ∈ us2, ∃ q x y, v = .ref q ∧ G q = some (.tup [x, y]) ∧ FlV x ∧ FlV y) ⟨same_new nD2, [], upd_same, rfl, fun v h => by cases h⟩ (fun i G hi h => ?_) (fun G h => ?_)
      · obtain ⟨sG, us2, hD2, ul2, it2⟩ := h
        obtain ⟨z1, z2⟩ := zz i hi
        refine ⟨rfl, _, rfl, _, rfl, Nat.lt_of_le_of_lt (Nat.log2_le_self _) (by omega), _, _, rfl, rfl, Nat.le_trans z2 (by decide), (show 2 ≤ sizeLine by decide), fun t2 nt2 => ?_⟩
        have s7 := same_new (o := .tup [.str (("zz" : Str) ++ Str.ofString (toString ((0 : Int) + (i : Int)))), .int 2]) nt2
        have hD7 := s7 _ _ hD2
        refine ⟨us2, hD7, small1000 (by omega), fun b o hb => ?_, us2 ++ [.ref t2], upd_same, by rw [List.length_append, ul2]; rfl, fun v hv => ?_⟩
        · have nb : b ≠ D2 := fun e => by rw [e, nD2] at hb; cases hb
          rw [upd_ne nb]
          exact s7 _ _ (sG _ _ hb)
        · have put : ∀ {q : Addr} {xs : List V}, upd G t2 (.tup [.str (("zz" : Str) ++ Str.ofString (toString ((0 : Int) + (i : Int)))), .int 2]) q = some (.tup xs) → upd (upd G t2 (.tup [.str (("zz" : Str) ++ Str.ofString (toString ((0 : Int) + (i : Int)))), .int 2])) D2 (.lst (us2 ++ [.ref t2])) q = some (.tup xs) := fun {q xs} h1 => by rw [upd_ne (fun z => by rw [z, hD7] at h1; cases h1)]; exact h1
          rcases List.mem_append.mp hv with hv | hv
          · obtain ⟨q, x, y, e, h1, h2⟩ := it2 v hv
            exact ⟨q, x, y, e, put (s7 _ _ h1), h2⟩
          · rw [List.mem_singleton.mp hv]
            exact ⟨t2, _, _, rfl, put upd_same, .inl ⟨_, rfl, by omega⟩, .inr (.inl ⟨2, rfl⟩)⟩
      · obtain ⟨sG, us2, hD2, ul2, it2⟩ := h
        refine ⟨D, D2, us, us2, rfl, rfl, sG _ _ hD, hD2, Nat.le_trans (show us.length + us2.length ≤ 6 by omega) (by decide), fun a na => ?_⟩
        have s1 := same_new (o := .lst (us ++ us2)) na
        refine ⟨a, _, rfl, .inl ⟨SqL.of upd_same, fun q nq => ?_⟩⟩
        have s2 := same_new (o := .tup (us ++ us2)) nq
        have sE := sG.trans (s1.trans s2)
        refine fin _ _ (p5.same sE) (kB.trans (kp_of sE)) (ex_tup upd_same (fun v hv => ?_) (by rw [List.length_append]; omega))
        rcases List.mem_append.mp hv with hv | hv
        · exact ((prs_raw (D := D) (pair_mem pr fun x y i => i.go (.of sE)) ya v hv)).it
        · obtain ⟨q, x, y, e, h1, h2, h3⟩ := it2 v hv
          exact (show RawI D _ v from .inl ⟨q, x, y, e, (s1.trans s2) _ _ h1, h2, h3⟩).it
    have last : ∀ G : Hp, Same G5 G → ∀ q : Addr, G q = none → ∃ o, ExG K (upd G q (.tup us)) (.ref q) o := fun G sG q nq => ex_tup upd_same (fun v hv => (prs_raw (D := D) (pair_mem pr fun x y i => i.go (.of (sG.trans (same_new nq)))) ya v hv).it) (by omega)
    by_cases w7 : 7 < wy
    · refine ⟨_, rfl, _, _, rfl, rfl, _, rfl, ?_⟩
      rw [decide_eq_true (by omega)]
      refine iteT ⟨_, rfl, D, us, rfl, .inl ⟨SqL.of hD, fun q nq => ?_⟩⟩
      exact fin _ _ (p5.new nq) (kB.trans (kp_new nq)) (last G5 (.refl _) q nq)
    refine ⟨_, rfl, _, _, rfl, rfl, _, rfl, ?_⟩
    rw [decide_eq_false (by omega)]
    refine iteF ⟨_, rfl, (show 0 ≤ sizeLine by decide), fun le nle => ?_⟩
    have s1 := same_new (o := .lst []) nle
    refine ⟨D, le, us, rfl, rfl, SqL.of (s1 _ _ hD), SqL.of upd_same, _, rfl, ?_⟩
    have hD1 := s1 _ _ hD
    have p6 := p5.same s1
    have k6 := kB.trans (kp_of s1)
    have pr6 := pair_mem pr fun x y i => i.go (.of s1)
    have nDp6 := nDp
    have lastX := fun q nq => last _ s1 q nq
    generalize upd G5 le (.lst []) = G6 at hD1 p6 k6 pr6 lastX
    cases us with
    | nil =>
      refine iteT ⟨_, rfl, D, [], rfl, .inl ⟨SqL.of hD1, fun q nq => ?_⟩⟩
      exact fin _ _ (p6.new nq) (k6.trans (kp_new nq)) (lastX q nq)
    | cons u0 ur =>
      refine iteF ?_
      have m0 : 0 < m := by rw [← yl, ul]; exact Nat.succ_pos _
      refine rd_draw (m := (m : Int)) rfl p6 (by omega) (by omega) (fun R h => ⟨_, rfl, h⟩) fun c G7 hc p7 k7 => ?_
      have g7 := Goes.kp p6 k7
      have hD7 := g7.lst hD1 une
      have pr7 := pair_mem pr6 fun x y i => i.go g7
      have cl : c < (u0 :: ur).length := by rw [← ul]; omega
      have hv1 : (u0 :: ur)[c]? = some (u0 :: ur)[c] := List.getElem?_eq_getElem cl
      obtain ⟨z1, hz1, i1⟩ := pair_at pr7 hv1
      have nz1 := ya z1 (List.mem_of_getElem? hz1)
      generalize (u0 :: ur)[c] = v1 at hv1 i1
      obtain ⟨q1, n1, rfl, hq1, _, _⟩ := i1
      have lz := nm_len nz1
      have raw7 := prs_raw (D := D) pr7 ya
      have k70 := k6.trans k7
      refine ⟨_, rfl, _, rfl, D, _, c, _, rfl, rfl, SqL.of hD7, atI_nat hv1, ?_⟩
      refine ⟨_, rfl, q1, _, 0, _, rfl, rfl, SqT.of (hq1), atI_nat (j := 0) rfl, (show 2 ≤ sizeLine by decide), fun a1 na1 => ?_⟩
      have s_a1 := same_new (o := .tup [V.str z1, .int 0]) na1
      have hq_a1 := s_a1 _ _ hq1
      have hD_a1 := s_a1 _ _ hD7
      refine ⟨_, rfl, q1, _, 0, _, rfl, rfl, SqT.of (hq_a1), atI_nat (j := 0) rfl, (show 2 ≤ sizeLine by decide), fun a2 na2 => ?_⟩
      have s_a2 := same_new (o := .tup [V.str z1, .int 41]) na2
      have hq_a2 := s_a2 _ _ hq_a1
      have hD_a2 := s_a2 _ _ hD_a1
      refine ⟨_, rfl, (show 2 ≤ sizeLine by decide), fun a3 na3 => ?_⟩
      have s_a3 := same_new (o := .tup [V.str t, .int 2]) na3
      have hq_a3 := s_a3 _ _ hq_a2
      have hD_a3 := s_a3 _ _ hD_a2
      refine ⟨_, rfl, D, _, 0, _, rfl, rfl, SqL.of (hD_a3), atI_nat (j := 0) rfl, _, rfl, q1, _, 0, _, rfl, rfl, SqT.of (hq_a3), atI_nat (j := 0) rfl, (show 1 ≤ sizeLine by decide), fun a5 na5 => ?_⟩
      have s_a5 := same_new (o := .tup [V.str z1]) na5
      have hq_a5 := s_a5 _ _ hq_a3
      have hD_a5 := s_a5 _ _ hD_a3
      refine ⟨_, rfl, q1, _, 0, _, rfl, rfl, SqT.of (hq_a5), atI_nat (j := 0) rfl, (show 3 ≤ sizeLine by decide), fun a6 na6 => ?_⟩
      have s_a6 := same_new (o := .tup [V.str z1, .int 2, .int 0]) na6
      have hq_a6 := s_a6 _ _ hq_a5
      have hD_a6 := s_a6 _ _ hD_a5
      refine ⟨_, rfl, q1, _, 0, _, rfl, rfl, SqT.of (hq_a6), atI_nat (j := 0) rfl, _, _, rfl, rfl, Nat.le_trans (show z1.length + ("_" : Str).length ≤ 20 by rw [show ("_" : Str).length = 1 by decide +kernel]; omega) (by decide), (show 2 ≤ sizeLine by decide), fun a7 na7 => ?_⟩
      have s_a7 := same_new (o := .tup [V.str (z1 ++ "_"), .int 2]) na7
      have hq_a7 := s_a7 _ _ hq_a6
      have hD_a7 := s_a7 _ _ hD_a6
      refine ⟨_, rfl, q1, _, 0, _, rfl, rfl, SqT.of (hq_a7), atI_nat (j := 0) rfl, (show 8 ≤ sizeLine by decide), fun b1 nb1 => ?_⟩
      have s_b1 := same_new (o := .lst [V.ref a1, .ref a2, .ref a3, u0, .ref a5, .ref a6, .ref a7, .str z1]) nb1
      have hq_b1 := s_b1 _ _ hq_a7
      have hD_b1 := s_b1 _ _ hD_a7
      refine ⟨_, rfl, _, rfl, q1, _, 0, _, rfl, rfl, SqT.of (hq_b1), atI_nat (j := 0) rfl, (show 2 ≤ sizeLine by decide), fun l1 nl1 => ?_⟩
      have s_l1 := same_new (o := .lst [V.str z1, .int 2]) nl1
      have hq_l1 := s_l1 _ _ hq_b1
      have hD_l1 := s_l1 _ _ hD_b1
      refine ⟨_, rfl, q1, _, 0, _, rfl, rfl, SqT.of (hq_l1), atI_nat (j := 0) rfl, (show 2 ≤ sizeLine by decide), fun a8 na8 => ?_⟩
      have s_a8 := same_new (o := .tup [V.str z1, .bl true]) na8
      have hq_a8 := s_a8 _ _ hq_l1
      have hD_a8 := s_a8 _ _ hD_l1
      refine ⟨_, rfl, q1, _, 0, _, rfl, rfl, SqT.of (hq_a8), atI_nat (j := 0) rfl, (show 2 ≤ sizeLine by decide), fun a9 na9 => ?_⟩
      have s_a9 := same_new (o := .tup [V.int 2, .str z1]) na9
      have hq_a9 := s_a9 _ _ hq_a8
      have hD_a9 := s_a9 _ _ hD_a8
      refine ⟨(show 4 ≤ sizeLine by decide), fun b2 nb2 => ?_⟩
      have s_b2 := same_new (o := .lst [V.ref l1, .ref a8, .non, .ref a9]) nb2
      have hq_b2 := s_b2 _ _ hq_a9
      have hD_b2 := s_b2 _ _ hD_a9
      have hb1 : _ := (s_l1.trans (s_a8.trans (s_a9.trans s_b2))) _ _ (upd_same (a := b1) (o := .lst [V.ref a1, .ref a2, .ref a3, u0, .ref a5, .ref a6, .ref a7, .str z1]))
      refine ⟨b1, b2, _, _, rfl, rfl, hb1, upd_same, (show 12 ≤ sizeLine by decide), fun b3 nb3 => ?_⟩
      have n_b3 := new_at (o := .lst ([V.ref a1, .ref a2, .ref a3, u0, .ref a5, .ref a6, .ref a7, .str z1] ++ [V.ref l1, .ref a8, .non, .ref a9])) nb3
      have s_b3 := n_b3.1
      have sF := s_a1.trans (s_a2.trans (s_a3.trans (s_a5.trans (s_a6.trans (s_a7.trans (s_b1.trans (s_l1.trans (s_a8.trans (s_a9.trans (s_b2.trans (s_b3)))))))))))
      have nlD : l1 ≠ D := fun e => by rw [e, hD_b1] at nl1; cases nl1
      have raw20 : ∀ v ∈ (u0 :: ur), RawI D _ v := fun v hv => (raw7 v hv).kd (KD.of (kp_of (p := p) sF)) p7 hD7
      have hz_a1 := (s_a2.trans (s_a3.trans (s_a5.trans (s_a6.trans (s_a7.trans (s_b1.trans (s_l1.trans (s_a8.trans (s_a9.trans (s_b2.trans (s_b3))))))))))) _ _ (upd_same (a := a1) (o := .tup [V.str z1, .int 0]))
      have hz_a2 := (s_a3.trans (s_a5.trans (s_a6.trans (s_a7.trans (s_b1.trans (s_l1.trans (s_a8.trans (s_a9.trans (s_b2.trans (s_b3)))))))))) _ _ (upd_same (a := a2) (o := .tup [V.str z1, .int 41]))
      have hz_a3 := (s_a5.trans (s_a6.trans (s_a7.trans (s_b1.trans (s_l1.trans (s_a8.trans (s_a9.trans (s_b2.trans (s_b3))))))))) _ _ (upd_same (a := a3) (o := .tup [V.str t, .int 2]))
      have hz_a5 := (s_a6.trans (s_a7.trans (s_b1.trans (s_l1.trans (s_a8.trans (s_a9.trans (s_b2.trans (s_b3)))))))) _ _ (upd_same (a := a5) (o := .tup [V.str z1]))
      have hz_a6 := (s_a7.trans (s_b1.trans (s_l1.trans (s_a8.trans (s_a9.trans (s_b2.trans (s_b3))))))) _ _ (upd_same (a := a6) (o := .tup [V.str z1, .int 2, .int 0]))
      have hz_a7 := (s_b1.trans (s_l1.trans (s_a8.trans (s_a9.trans (s_b2.trans (s_b3)))))) _ _ (upd_same (a := a7) (o := .tup [V.str (z1 ++ "_"), .int 2]))
      have hz_l1 := (s_a8.trans (s_a9.trans (s_b2.trans (s_b3)))) _ _ (upd_same (a := l1) (o := .lst [V.str z1, .int 2]))
      have hz_a8 := (s_a9.trans (s_b2.trans (s_b3))) _ _ (upd_same (a := a8) (o := .tup [V.str z1, .bl true]))
      have hz_a9 := (s_b2.trans (s_b3)) _ _ (upd_same (a := a9) (o := .tup [V.int 2, .str z1]))
      have bad20 : ∀ v ∈ ([V.ref a1, .ref a2, .ref a3, u0, .ref a5, .ref a6, .ref a7, .str z1] ++ [V.ref l1, .ref a8, .non, .ref a9]), RawI D _ v := fun v hv => by
        simp only [List.cons_append, List.nil_append, List.mem_cons, List.not_mem_nil, or_false] at hv
        rcases hv with rfl | rfl | rfl | rfl | rfl | rfl | rfl | rfl | rfl | rfl | rfl | rfl
        · exact .inl ⟨a1, _, _, rfl, hz_a1, (.inl ⟨z1, rfl, by omega⟩), .inr (.inl ⟨0, rfl⟩)⟩
        · exact .inl ⟨a2, _, _, rfl, hz_a2, (.inl ⟨z1, rfl, by omega⟩), .inr (.inl ⟨41, rfl⟩)⟩
        · exact .inl ⟨a3, _, _, rfl, hz_a3, .inl ⟨t, rfl, by omega⟩, .inr (.inl ⟨2, rfl⟩)⟩
        · exact raw20 _ (List.mem_cons_self ..)
        · exact .inr (.inl ⟨a5, _, rfl, hz_a5, (show 1 ≤ 10 by decide), (show 1 ≠ 2 by decide)⟩)
        · exact .inr (.inl ⟨a6, _, rfl, hz_a6, (show 3 ≤ 10 by decide), (show 3 ≠ 2 by decide)⟩)
        · exact .inl ⟨a7, _, _, rfl, hz_a7, .inl ⟨_, rfl, by rw [Str.length_append, show ("_" : Str).length = 1 by decide +kernel]; omega⟩, .inr (.inl ⟨2, rfl⟩)⟩
        · exact .inr (.inr (.inr (.inl ⟨z1, rfl⟩)))
        · exact .inr (.inr (.inl ⟨l1, _, _, rfl, nlD, hz_l1⟩))
        · exact .inl ⟨a8, _, _, rfl, hz_a8, (.inl ⟨z1, rfl, by omega⟩), .inr (.inr ⟨true, rfl⟩)⟩
        · exact .inr (.inr (.inr (.inr rfl)))
        · exact .inl ⟨a9, _, _, rfl, hz_a9, .inr (.inl ⟨2, rfl⟩), (.inl ⟨z1, rfl, by omega⟩)⟩
      have hb20 := n_b3.2
      have hD20 := s_b3 _ _ hD_b2
      have p20 := p7.same sF
      have k20 := k70.trans (kp_of sF)
      generalize upd _ b3 _ = G20 at hb20 hD20 p20 k20 raw20 bad20
      have bl : ([V.ref a1, V.ref a2, V.ref a3, u0, V.ref a5, V.ref a6, V.ref a7, V.str z1] ++ [V.ref l1, V.ref a8, V.non, V.ref a9]).length = 12 := rfl
      generalize [V.ref a1, V.ref a2, V.ref a3, u0, V.ref a5, V.ref a6, V.ref a7, V.str z1] ++ [V.ref l1, V.ref a8, V.non, V.ref a9] = bs at hb20 bad20 bl
      have nb : ∀ x y z : Int, bs ≠ [.int x, .int y, .int z] := fun x y z e => by rw [e] at bl; cases bl
      have nb3D : b3 ≠ D := fun e => by
        rw [e, hD20] at hb20
        have e2 : u0 :: ur = bs := by cases hb20; rfl
        rw [← e2] at bl
        omega
      refine ⟨_, rfl, dr rfl p20 (by decide) (by decide) fun e1 G21 he1 p21 k21 => ?_⟩
      have hb21 := (Goes.kp p20 k21).lst hb20 nb
      have hD21 := (Goes.kp p20 k21).lst hD20 une
      have hy1 : bs[e1]? = some bs[e1] := List.getElem?_eq_getElem (by omega)
      refine ⟨b3, _, e1, _, rfl, rfl, SqL.of hb21, atI_nat hy1, _, rfl, _, rfl, D, _, c, c, rfl, rfl, hD21, ixN_nat (j := c) cl, ?_⟩
      have kd22 : KD p D G20 (upd G21 D (.lst ((u0 :: ur).set c bs[e1]))) := fun b o hb np nd => by rw [upd_ne nd]; exact k21 b o hb np
      have hD22 := upd_same (H := G21) (a := D) (o := .lst ((u0 :: ur).set c bs[e1]))
      have p22 : PurseAt (upd G21 D (.lst ((u0 :: ur).set c bs[e1]))) p := by
        obtain ⟨x, y, z, hh⟩ := p21
        exact ⟨x, y, z, by rw [upd_ne (fun q => nDp q.symm)]; exact hh⟩
      have k22 : Kp p H (upd G21 D (.lst ((u0 :: ur).set c bs[e1]))) := fun b o hb np => by
        rw [upd_ne (fun e => by rw [e, nDH] at hb; cases hb)]
        exact k21 b o (k20 b o hb np) np
      have hb22 : upd G21 D (.lst ((u0 :: ur).set c bs[e1])) b3 = some (.lst bs) := by rw [upd_ne nb3D]; exact hb21
      have bad22 : ∀ v ∈ bs, RawI D (upd G21 D (.lst ((u0 :: ur).set c bs[e1]))) v := fun v hv => (bad20 v hv).kd kd22 p20 hD20
      have raw22 : ∀ v ∈ (u0 :: ur).set c bs[e1], RawI D (upd G21 D (.lst ((u0 :: ur).set c bs[e1]))) v := fun v hv => by
        rcases List.mem_or_eq_of_mem_set hv with h | h
        · exact (raw20 v h).kd kd22 p20 hD20
        · rw [h]
          exact bad22 _ (List.getElem_mem _)
      have xl : ((u0 :: ur).set c bs[e1]).length ≤ 3 := by rw [List.length_set]; exact u3
      generalize upd G21 D (.lst ((u0 :: ur).set c bs[e1])) = G22 at hD22 p22 k22 hb22 bad22 raw22
      generalize (u0 :: ur).set c bs[e1] = xs at hD22 raw22 xl
      refine ⟨_, rfl, rfl, _, rfl, ite2 (fun e => ?_) (fun e => ?_)⟩
      · refine ⟨_, rfl, .inl ⟨rfl, _, SqL.of hD22⟩, _, rfl, dr rfl p22 (by decide) (by decide) fun e2 G23 he2 p23 k23 => ?_⟩
        have hb23 := (Goes.kp p22 k23).lst hb22 nb
        have hD23 := k23 _ _ hD22 nDp
        have hy2 : bs[e2]? = some bs[e2] := List.getElem?_eq_getElem (by omega)
        refine ⟨b3, _, e2, _, rfl, rfl, SqL.of hb23, atI_nat hy2, D, _, _, rfl, rfl, hD23, small1000 (by omega), ?_⟩
        have kd24 : KD p D G22 (upd G23 D (.lst (xs ++ [bs[e2]]))) := fun b o hb np nd => by rw [upd_ne nd]; exact k23 b o hb np
        have hD24 := upd_same (H := G23) (a := D) (o := .lst (xs ++ [bs[e2]]))
        have p24 : PurseAt (upd G23 D (.lst (xs ++ [bs[e2]]))) p := by
          obtain ⟨x, y, z, hh⟩ := p23
          exact ⟨x, y, z, by rw [upd_ne (fun q => nDp q.symm)]; exact hh⟩
        have k24 : Kp p H (upd G23 D (.lst (xs ++ [bs[e2]]))) := fun b o hb np => by
          rw [upd_ne (fun e => by rw [e, nDH] at hb; cases hb)]
          exact k23 b o (k22 b o hb np) np
        have raw24 : ∀ v ∈ xs ++ [bs[e2]], RawI D (upd G23 D (.lst (xs ++ [bs[e2]]))) v := fun v hv => by
          rcases List.mem_append.mp hv with h | h
          · exact (raw22 v h).kd kd24 p22 hD22
          · rw [List.mem_singleton.mp h]
            exact (bad22 _ (List.getElem_mem _)).kd kd24 p22 hD22
        generalize upd G23 D (.lst (xs ++ [bs[e2]])) = G24 at hD24 p24 k24 raw24
        refine ⟨_, rfl, _, rfl, D, _, rfl, SqL.of hD24, fun a1 na1 => ⟨a1, _, rfl, .inl ⟨SqL.of upd_same, fun q nq => ?_⟩⟩⟩
        have t1 := same_new (o := .lst (cutV (xs ++ [bs[e2]]) none (some 3))) na1
        have t2 := same_new (o := .tup (cutV (xs ++ [bs[e2]]) none (some 3))) nq
        have tt := t1.trans t2
        refine fin _ _ (p24.same tt) (k24.trans (kp_of tt)) (ex_tup upd_same (fun v hv => ((raw24 v (cut_mem hv)).kd (KD.of (kp_of (p := p) tt)) p24 hD24).it) (Nat.le_trans cut_len (by rw [List.length_append]; show xs.length + 1 ≤ 10; omega)))
      · refine ⟨_, rfl, _, rfl, D, _, rfl, SqL.of hD22, fun a1 na1 => ⟨a1, _, rfl, .inl ⟨SqL.of upd_same, fun q nq => ?_⟩⟩⟩
        have t1 := same_new (o := .lst (cutV xs none (some 3))) na1
        have t2 := same_new (o := .tup (cutV xs none (some 3))) nq
        have tt := t1.trans t2
        exact fin _ _ (p22.same tt) (k22.trans (kp_of tt)) (ex_tup upd_same (fun v hv => ((raw22 v (cut_mem hv)).kd (KD.of (kp_of (p := p) tt)) p22 hD22).it) (Nat.le_trans cut_len (by omega)))
end
end Jo

set_option Elab.async false
set_option linter.all false
set_option maxRecDepth 100000
set_option maxHeartbeats 2000000
namespace Jo
open PySem PySem.Spec PyProof.Rows L2 ClX
open L2H (RoomH roomH_of)
open LamX (Tabs TabS ExtN CodeO TabB lamS_by)
def txI (k : Nat) : Str := Str.ofString (toString (k : Int))
theorem txI_eq (k : Nat) : txI k = (PyData.int (k : Int)).shown := rfl
/-- what the law says of slots -/
def dueSl (par : Str) : Option (List It) → Str
  | none => "None"
  | some its => match badAt [par] its with
    | none => ""
    | some k => txI k
theorem dueSl_k {par : Str} {its : List It} {k : Nat} (e : badAt [par] its = some k) : dueSl par (some its) = txI k := by
  show (match badAt [par] its with | none => _ | some k => txI k) = _
  rw [e]
theorem dueSl_0 {par : Str} {its : List It} (e : badAt [par] its = none) : dueSl par (some its) = "" := by
  show (match badAt [par] its with | none => _ | some k => txI k) = _
  rw [e]
section
variable {P : Program} {w : World} {K : PySem.W.Frag} {mg : Str → Option Value} {base : Heap}
def n_exd : List Str := ["_law_extra_here", "_law_title_here", "_law_names_here", "_law_k", "_law_each"]
theorem sc_exd : FnScope n_exd ["_law_extra_here", "_law_title_here"] (defScope s_extra_due) := ⟨rfl, rfl, rfl, by decide +kernel, rfl, by decide +kernel, by decide +kernel⟩
def spExd (K : PySem.W.Frag) : Sp := fun vs H Q _ => ∃ (v : V) (par : Str) (o : Option (List It)), vs = [v, .str par] ∧ ExG K H v o ∧ ∀ G, Same H G → Q (.str (dueSl par o)) G
theorem ok_exd (T : Txt mg) (D : Dfn K mg "_law_extra_due" s_extra_due ["_law_extra_here", "_law_title_here"]) (c_nm : CalG P w K mg base 1 "_law_is_name" ["_law_thing"] (spIsName K)) (c_sz : CalG P w K mg base 1 "_law_is_size" ["_law_thing"] (spIsSize K)) :
    CalG P w K mg base 2 "_law_extra_due" ["_law_extra_here", "_law_title_here"] (spExd K) := by
  refine D.ok sc_exd (fun vs H Q E h => ?_) (fun f cdv A fr s H vs Q E hr hgd h => ?_)
  · obtain ⟨v, par, o, rfl, _⟩ := h
    rfl
  · obtain ⟨v, par, o, rfl, ex, fin⟩ := h
    refine ⟨_, pss_cons (ps_if (PW.pt (pw_or (pt_not (pt_val (pe_callB call_isi rfl T.b_isinstance (by decide +kernel) (pa_cons (pv 0) (pa_cons (pe_bltn (v := .ty "tuple") (u := .type "tuple") rfl T.b_tuple (by decide +kernel) rfl) pa_nil))))) (pw_or1 (pt_cmpR op_gt (pe_callB call_len_seq rfl T.b_len (by decide +kernel) (pa_cons (pv 0) pa_nil)) pe_int (nomark _)))))
        (pss_one (ps_ret pe_str)) (pss_nil))
      (pss_cons (ps_set (i := 2) sc_exd.nd rfl (.inl rfl) (pe_lst (pa_cons (pv 1) pa_nil)))
      (pss_cons (ps_for PassesOwn.never rfl (pi_range1 rfl T.b_range (pa_cons (pe_callB call_len_seq rfl T.b_len (by decide +kernel) (pa_cons (pv 0) pa_nil)) pa_nil)) (pg_name (i := 3) sc_exd.nd rfl (.inl rfl))
        (pss_cons (ps_set (i := 4) sc_exd.nd rfl (.inl rfl) (pe_ix ix_tup (pv 0) (pv 3) (fun _ _ => rfl)))
        (pss_cons (ps_if (PW.pt (pw_or (pt_not (pt_val (pe_callB call_isi rfl T.b_isinstance (by decide +kernel) (pa_cons (pv 4) (pa_cons (pe_bltn (v := .ty "tuple") (u := .type "tuple") rfl T.b_tuple (by decide +kernel) rfl) pa_nil))))) (pw_or1 (pt_cmpR op_ne (pe_callB call_len_seq rfl T.b_len (by decide +kernel) (pa_cons (pv 4) pa_nil)) pe_int (nomark _)))))
          (pss_one (ps_ret (pe_callB SkE.call_repr_int rfl T.b_repr (by decide +kernel) (pa_cons (pv 3) pa_nil)))) (pss_nil))
        (pss_cons (ps_if (PW.pt (pw_or (pt_not (pt_val (pe_cG c_nm hr (by decide) hgd rfl (pa_cons (pe_ix ix_tup (pv 4) pe_int (fun _ _ => rfl)) pa_nil)))) (pw_or (pt_not (pt_val (pe_cG c_sz hr (by decide) hgd rfl (pa_cons (pe_ix ix_tup (pv 4) pe_int (fun _ _ => rfl)) pa_nil)))) (pw_or1 (pt_cmpR (r := rIn K false) op_in_seq (pe_ix ix_tup (pv 4) pe_int (fun _ _ => rfl)) (pv 2) rfl)))))
          (pss_one (ps_ret (pe_callB SkE.call_repr_int rfl T.b_repr (by decide +kernel) (pa_cons (pv 3) pa_nil)))) (pss_nil))
        (pss_one (ps_expr (pe_bm PySem.F.plainAttrs_list PySem.F.slot_list_append PySem.F.type_list_append mt_append (pv 2) (pa_cons (pe_ix ix_tup (pv 4) pe_int (fun _ _ => rfl)) pa_nil))))))))
      (pss_one (ps_ret pe_str)))), ?_⟩
    cases o with
    | none =>
      rcases ex with ⟨t, h1, h2⟩ | ⟨q, us, rfl, hq, l10, l4⟩
      · exact ⟨_, rfl, _, _, _, _, false, rfl, .ty "tuple", h2 H (.refl _), h1, false, rfl, iteT (fin H (.refl _))⟩
      · have hq' := SqT.of (K := K) hq
        obtain ⟨ty, ht, hk⟩ := seqT_ty hq'
        refine ⟨_, rfl, _, _, ty, _, true, rfl, .ty "tuple", ht, hk, true, rfl, iteF ?_⟩
        refine ⟨_, rfl, q, us, rfl, .inr hq', _, _, rfl, rfl, _, rfl, ?_⟩
        rw [decide_eq_true (by omega)]
        exact iteT (fin H (.refl _))
    | some its =>
      obtain ⟨q, us, rfl, hq, l3, pr⟩ := ex
      have ul := pair_len pr
      have hq' := SqT.of (K := K) hq
      obtain ⟨ty, ht, hk⟩ := seqT_ty hq'
      refine ⟨_, rfl, _, _, ty, _, true, rfl, .ty "tuple", ht, hk, true, rfl, iteF ?_⟩
      refine ⟨_, rfl, q, us, rfl, .inr hq', _, _, rfl, rfl, _, rfl, ?_⟩
      rw [decide_eq_false (by omega)]
      refine iteF ⟨_, rfl, (show 1 ≤ sizeLine by decide), fun L nL => ?_⟩
      have s1 := same_new (o := .lst [.str par]) nL
      have hL := upd_same (H := H) (a := L) (o := .lst [.str par])
      refine ⟨_, rfl, q, us, rfl, .inr (SqT.of (s1 _ _ hq)), (us.length : Int), rfl, by omega, by omega, ?_⟩
      rw [Int.toNat_natCast]
      have retk : ∀ k : Nat, badAt [par] its = some k → k ≤ 3 → ∀ G, Same H G → Q (.str (Str.ofString (toString ((0 : Int) + (k : Int))))) G := fun k e hk G sG => by
        have := fin G sG
        rw [dueSl_k e] at this
        rw [Int.zero_add]
        exact this
      refine for_range (lo := 0) (n := us.length) (fun i σ G => Same H G ∧ ∃ t : List Str, G L = some (.lst (t.map V.str)) ∧ t.length ≤ 1 + i ∧ badAt [par] its = (badAt t (its.drop i)).map (· + i) ∧ ∃ y3 y4 : Option V, σ = [some (.ref q), some (.str par), some (.ref L), y3, y4])
        ⟨s1, [par], hL, Nat.le_refl _, by rw [List.drop_zero]; cases badAt [par] its <;> rfl, none, none, rfl⟩ (fun i σ G hi h => ?_) (fun σ G h => ?_)
      · obtain ⟨sG, t, hLt, tl, eb, y3, y4, rfl⟩ := h
        have hx : us[i]? = some us[i] := List.getElem?_eq_getElem hi
        obtain ⟨it, hit, isI⟩ := pair_at pr hx
        have il : i < its.length := (List.getElem?_eq_some_iff.mp hit).1
        have dr : its.drop i = it :: its.drop (i + 1) := by
          rw [List.drop_eq_getElem_cons il]
          congr 1
          have := List.getElem?_eq_getElem il
          rw [hit] at this
          exact (Option.some.inj this).symm
        rw [dr] at eb
        generalize us[i] = b2 at hx isI
        have ai : atI us ((0 : Int) + (i : Int)) = some b2 := by rw [Int.zero_add]; exact atI_nat hx
        refine ⟨_, rfl, _, rfl, q, us, _, b2, rfl, rfl, SqT.of (sG _ _ hq), ai, ?_⟩
        have is3 := isI.go (.of sG)
        have lg : ((0 : Int) + (i : Int)).natAbs.log2 < 1920 := Nat.lt_of_le_of_lt (Nat.log2_le_self _) (by omega)
        match it, is3, eb with
        | none, is3, eb =>
          have e0 : badAt [par] its = some i := by
            rw [eb]
            show some (0 + i) = some i
            rw [Nat.zero_add]
          rcases is3 with ⟨t5, h1, h2⟩ | ⟨q5, xs, rfl, h1, h2, h3⟩
          · refine ⟨_, rfl, _, _, _, _, false, rfl, .ty "tuple", h2 _ (.refl _), h1, false, rfl, iteT ?_⟩
            exact ⟨_, rfl, _, rfl, lg, retk i e0 (by omega) _ sG⟩
          · obtain ⟨ty5, ht5, hk5⟩ := seqT_ty (SqT.of (K := K) h1)
            refine ⟨_, rfl, _, _, ty5, _, true, rfl, .ty "tuple", ht5, hk5, true, rfl, iteF ?_⟩
            refine ⟨_, rfl, q5, xs, rfl, .inr (SqT.of h1), rfl, _, rfl, ?_⟩
            have ne : ¬ V.int ((xs.length : Nat) : Int) = V.int 2 := fun e => by
              injection e with e
              omega
            rw [decide_eq_false ne]
            exact iteT ⟨_, rfl, _, rfl, lg, retk i e0 (by omega) _ sG⟩
        | some (o, b), is3, eb =>
          obtain ⟨q5, x5, y5', rfl, h1, hax, hay, hlx, hnm, hsz⟩ := is3
          have h1' := SqT.of (K := K) h1
          obtain ⟨ty5, ht5, hk5⟩ := seqT_ty h1'
          refine ⟨_, rfl, _, _, ty5, _, true, rfl, .ty "tuple", ht5, hk5, true, rfl, iteF ?_⟩
          refine ⟨_, rfl, q5, _, rfl, .inr h1', rfl, _, rfl, ?_⟩
          refine iteF ⟨_, rfl, q5, _, 0, _, rfl, rfl, h1', atI_nat (j := 0) rfl, x5, rfl, hax _ (.refl _), hlx, fun H4 s4 => ⟨isNm x5, rfl, ?_⟩⟩
          rw [hnm.is]
          have h4 := SqT.of (K := K) (s4 _ _ h1)
          cases o with
          | none =>
            have e0 : badAt [par] its = some i := by
              rw [eb]
              show some (0 + i) = some i
              rw [Nat.zero_add]
            exact iteT ⟨_, rfl, _, rfl, lg, retk i e0 (by omega) _ (sG.trans s4)⟩
          | some zn =>
            obtain ⟨rfl, hzn⟩ := hnm
            refine iteF ⟨_, rfl, q5, _, 1, _, rfl, rfl, h4, atI_nat (j := 1) rfl, y5', rfl, hay _ (.of s4), isSz y5', rfl, ?_⟩
            rw [hsz]
            cases b with
            | false =>
              have e0 : badAt [par] its = some i := by
                rw [eb]
                show some (0 + i) = some i
                rw [Nat.zero_add]
              exact iteT ⟨_, rfl, _, rfl, lg, retk i e0 (by omega) _ (sG.trans s4)⟩
            | true =>
              have hL4 := s4 _ _ hLt
              refine iteF ⟨_, rfl, q5, _, 0, _, rfl, rfl, h4, atI_nat (j := 0) rfl, _, rfl, L, _, rfl, .inl (SqL.of hL4), rfl, flat_strs t, _, rfl, ?_⟩
              rw [if_neg (by decide), inV_str]
              by_cases m : zn ∈ t
              · have e0 : badAt [par] its = some i := by
                  rw [eb]
                  show Option.map _ (if zn ∈ t then some 0 else _) = some i
                  rw [if_pos m]
                  show some (0 + i) = some i
                  rw [Nat.zero_add]
                rw [decide_eq_true m]
                exact iteT ⟨_, rfl, _, rfl, lg, retk i e0 (by omega) _ (sG.trans s4)⟩
              · rw [decide_eq_false m]
                refine iteF ⟨_, rfl, .inl ⟨rfl, _, SqL.of hL4⟩, _, rfl, q5, _, 0, _, rfl, rfl, h4, atI_nat (j := 0) rfl, L, _, _, rfl, rfl, hL4, ?_, ?_⟩
                · rw [List.length_map]
                  exact small1000 (by omega)
                refine ⟨fun a o ha => ?_, t ++ [zn], by rw [upd_same, List.map_append]; rfl, by rw [List.length_append]; show t.length + 1 ≤ _; omega, ?_, _, _, rfl⟩
                · have na : a ≠ L := fun e => by rw [e, nL] at ha; cases ha
                  rw [upd_ne na]
                  exact (sG.trans s4) _ _ ha
                · rw [eb]
                  show Option.map _ (if zn ∈ t then some 0 else (badAt (t ++ [zn]) (its.drop (i + 1))).map (· + 1)) = _
                  rw [if_neg m, Option.map_map]
                  congr 1
                  funext n
                  show n + 1 + i = n + (i + 1)
                  omega
      · obtain ⟨sG, t, hLt, tl, eb, y3, y4, rfl⟩ := h
        rw [List.drop_of_length_le (by omega)] at eb
        have := fin G sG
        rw [dueSl_0 eb] at this
        exact this
end
end Jo

set_option Elab.async false
set_option linter.all false
set_option maxRecDepth 100000
set_option maxHeartbeats 2000000
namespace Jo
open PySem PySem.Spec PyProof.Rows L2 ClX
open L2H (RoomH roomH_of)
open LamX (Tabs TabS ExtN CodeO TabB lamS_by)
theorem badAt_lt : ∀ {its : List It} {t : List Str} {k : Nat}, badAt t its = some k → k < its.length
  | [], _, _, e => by cases e
  | none :: r, _, _, e => by cases e; exact Nat.succ_pos _
  | some (none, _) :: r, _, _, e => by cases e; exact Nat.succ_pos _
  | some (some _, false) :: r, _, _, e => by cases e; exact Nat.succ_pos _
  | some (some z, true) :: r, t, k, e => by
    have e2 : (if z ∈ t then some 0 else (badAt (t ++ [z]) r).map (· + 1)) = some k := e
    by_cases m : z ∈ t
    · rw [if_pos m] at e2; cases e2; exact Nat.succ_pos _
    · rw [if_neg m] at e2
      cases e3 : badAt (t ++ [z]) r with
      | none => rw [e3] at e2; cases e2
      | some j =>
        rw [e3] at e2
        cases e2
        exact Nat.succ_lt_succ (badAt_lt e3)
theorem txI_ne : ∀ k : Nat, k < 4 → txI k ≠ "" := by
  intro k hk
  have : k = 0 ∨ k = 1 ∨ k = 2 ∨ k = 3 := by omega
  rcases this with e | e | e | e <;> subst e <;> decide +kernel
/-- what is drawn as a body -/
def LotX (K : PySem.W.Frag) (CS : Addr) (CK : Sk → Addr) (H : Hp) (v : V) : Option (Option Nat) → Prop
  | none => ∃ d k, LotG CK H d k v
  | some o => LotB K CS CK H v o
theorem LotX.go {K : PySem.W.Frag} {CS : Addr} {CK : Sk → Addr} {H G : Hp} {v : V} {o : Option (Option Nat)} (h : LotX K CS CK H v o) (g : Goes H G) : LotX K CS CK G v o := by
  cases o with
  | none => obtain ⟨d, k, h⟩ := h; exact ⟨d, k, h.go g⟩
  | some o => exact LotB.go h g
def dueLo : Option (Option Nat) → Str
  | none => ""
  | some none => "None"
  | some (some m) => txI m
theorem three_kind {d k : Nat} : ∀ s ∈ (three d).take k, s.kind = .assign ∨ s.kind = .ret ∨ s.kind = .fail := fun s hs => by
  have := List.mem_of_mem_take hs
  simp only [three, List.mem_cons, List.not_mem_nil, or_false] at this
  rcases this with rfl | rfl | rfl
  · exact .inl rfl
  · exact .inr (.inl rfl)
  · exact .inr (.inr rfl)
section
variable {P : Program} {w : World} {K : PySem.W.Frag} {mg : Str → Option Value} {base : Heap} {C : Kd → Addr} {CE CS CY : Addr} {CK : Sk → Addr}
def n_lod : List Str := ["_law_steps", "_law_k", "_law_each"]
theorem sc_lod : FnScope n_lod ["_law_steps"] (defScope s_lot_due) := ⟨rfl, rfl, rfl, by decide +kernel, rfl, by decide +kernel, by decide +kernel⟩
def spLod (K : PySem.W.Frag) (CS : Addr) (CK : Sk → Addr) : Sp := fun vs H Q _ => ∃ (v : V) (o : Option (Option Nat)), vs = [v] ∧ LotX K CS CK H v o ∧ ∀ G, Same H G → Q (.str (dueLo o)) G
theorem ok_lod (T : Txt mg) (S : ST2 K mg C CE CS CK) (D : Dfn K mg "_law_lot_due" s_lot_due ["_law_steps"]) : CalG P w K mg base 1 "_law_lot_due" ["_law_steps"] (spLod K CS CK) := by
  refine D.ok sc_lod (fun vs H Q E h => ?_) (fun f cdv A fr s H vs Q E hr hgd h => ?_)
  · obtain ⟨v, o, rfl, _⟩ := h
    rfl
  · obtain ⟨v, o, rfl, lx, fin⟩ := h
    refine ⟨_, pss_cons (ps_if (pt_not (pt_val (pe_callB call_isi rfl T.b_isinstance (by decide +kernel) (pa_cons (pv 0) (pa_cons (pe_bltn (v := .ty "tuple") (u := .type "tuple") rfl T.b_tuple (by decide +kernel) rfl) pa_nil)))))
        (pss_one (ps_ret pe_str)) (pss_nil))
      (pss_cons (ps_for PassesOwn.never rfl (pi_range1 rfl T.b_range (pa_cons (pe_callB call_len_seq rfl T.b_len (by decide +kernel) (pa_cons (pv 0) pa_nil)) pa_nil)) (pg_name (i := 1) sc_lod.nd rfl (.inl rfl))
        (pss_cons (ps_set (i := 2) sc_lod.nd rfl (.inl rfl) (pe_ix ix_tup (pv 0) (pv 1) (fun _ _ => rfl)))
        (pss_one (ps_if (PW.pt (pw_and (pt_not (pt_val (pe_callB call_isi rfl T.b_isinstance (by decide +kernel) (pa_cons (pv 2) (pa_cons (pe_glob (v := .ref (CK .assign)) rfl (S.mgK .assign rfl) rfl) pa_nil))))) (pw_and (pt_not (pt_val (pe_callB call_isi rfl T.b_isinstance (by decide +kernel) (pa_cons (pv 2) (pa_cons (pe_glob (v := .ref (CK .ret)) rfl (S.mgK .ret rfl) rfl) pa_nil))))) (pw_and1 (pt_not (pt_val (pe_callB call_isi rfl T.b_isinstance (by decide +kernel) (pa_cons (pv 2) (pa_cons (pe_glob (v := .ref (CK .fail)) rfl (S.mgK .fail rfl) rfl) pa_nil)))))))))
          (pss_one (ps_ret (pe_callB SkE.call_repr_int rfl T.b_repr (by decide +kernel) (pa_cons (pv 1) pa_nil)))) (pss_nil)))))
      (pss_one (ps_ret pe_str))), ?_⟩
    have cs : (o = some none ∧ ∃ t, PySem.W.kitOne K t (.type "tuple") = some false ∧ ∀ G, Goes H G → TyX K G v t) ∨ ∃ (q : Addr) (us : List V) (bad : Option Nat), v = .ref q ∧ H q = some (.tup us) ∧ us.length ≤ 3 ∧ dueLo o = (match bad with | none => "" | some m => txI m) ∧ (∀ m, bad = some m → m < us.length) ∧ (∀ (i : Nat) (x : V), us[i]? = some x → bad ≠ some i → ∃ sr, SIs CK H sr x ∧ (sr.kind = .assign ∨ sr.kind = .ret ∨ sr.kind = .fail)) ∧ (∀ m, bad = some m → ∃ y, us[m]? = some y ∧ OdS K CS CK H y) := by
      cases o with
      | none =>
        obtain ⟨d, k, k3, d8, q, us, e, hq, pr⟩ := lx
        have ul := pair_len pr
        have tl : ((three d).take k).length ≤ 3 := by rw [List.length_take]; exact Nat.le_trans (Nat.min_le_right ..) (Nat.le_refl 3)
        exact .inr ⟨q, us, none, e, hq, by omega, rfl, (fun m e => by cases e), (fun i x hx _ => let ⟨sr, h1, h2⟩ := pair_at pr hx; ⟨sr, h2, three_kind sr (List.mem_of_getElem? h1)⟩), fun m e => by cases e⟩
      | some o =>
        cases o with
        | none => exact .inl ⟨rfl, lx⟩
        | some m =>
          obtain ⟨rfl, d, q, us, y, e, hq, pr, oy⟩ := lx
          have ul := pair_len pr
          have tl : ((three d).take 2).length = 2 := rfl
          have u2 : us.length = 2 := by omega
          refine .inr ⟨q, us ++ [y], some 2, e, hq, by rw [List.length_append, u2]; exact (show 2 + 1 ≤ 3 by decide), rfl, (fun m e => by cases e; rw [List.length_append, u2]; exact (show 2 < 2 + 1 by decide)), (fun i x hx ne => ?_), fun m e => ?_⟩
          · have hi : i < us.length := by
              have := (List.getElem?_eq_some_iff.mp hx).1
              rw [List.length_append] at this
              have : i ≠ 2 := fun e => ne (by rw [e])
              have h1 : ([y] : List V).length = 1 := rfl
              omega
            rw [List.getElem?_append_left hi] at hx
            obtain ⟨sr, h1, h2⟩ := pair_at pr hx
            exact ⟨sr, h2, three_kind sr (List.mem_of_getElem? h1)⟩
          · cases e
            refine ⟨y, ?_, oy⟩
            rw [List.getElem?_append_right (by omega), u2]
            rfl
    rcases cs with ⟨rfl, t, h1, h2⟩ | ⟨q, us, bad, rfl, hq, l3, ed, bl, good, od⟩
    · exact ⟨_, rfl, _, _, _, _, false, rfl, .ty "tuple", h2 H (.refl _), h1, false, rfl, iteT (fin H (.refl _))⟩
    · have hq' := SqT.of (K := K) hq
      obtain ⟨ty, ht, hk⟩ := seqT_ty hq'
      refine ⟨_, rfl, _, _, ty, _, true, rfl, .ty "tuple", ht, hk, true, rfl, iteF ?_⟩
      refine ⟨_, rfl, q, us, rfl, .inr hq', (us.length : Int), rfl, by omega, by omega, ?_⟩
      rw [Int.toNat_natCast]
      refine for_range (lo := 0) (n := us.length) (fun i σ G => G = H ∧ (∀ m, bad = some m → i ≤ m) ∧ ∃ y1 y2 : Option V, σ = [some (.ref q), y1, y2]) ⟨rfl, (fun m _ => Nat.zero_le _), none, none, rfl⟩ (fun i σ G hi h => ?_) (fun σ G h => ?_)
      · obtain ⟨rfl, im, y1, y2, rfl⟩ := h
        have hx : us[i]? = some us[i] := List.getElem?_eq_getElem hi
        generalize us[i] = x at hx
        have ai : atI us ((0 : Int) + (i : Int)) = some x := by rw [Int.zero_add]; exact atI_nat hx
        refine ⟨_, rfl, _, rfl, q, us, _, x, rfl, rfl, hq', ai, ?_⟩
        by_cases e : bad = some i
        · obtain ⟨y, hy, t, _, h2, h3⟩ := od i e
          rw [hx] at hy
          cases hy
          refine ⟨_, rfl, _, _, _, _, false, rfl, .own _, h3 _ (.refl _), h2 _, false, rfl, iteT ?_⟩
          refine ⟨_, rfl, _, _, _, _, false, rfl, .own _, h3 _ (.refl _), h2 _, false, rfl, iteT ?_⟩
          refine ⟨_, rfl, _, _, _, _, false, rfl, .own _, h3 _ (.refl _), h2 _, false, rfl, iteT ?_⟩
          refine ⟨_, rfl, _, rfl, Nat.lt_of_le_of_lt (Nat.log2_le_self _) (by omega), ?_⟩
          have := fin G (.refl _)
          rw [ed, e] at this
          rw [Int.zero_add]
          exact this
        · obtain ⟨sr, is, kd⟩ := good i x hx e
          obtain ⟨a, dx, fs, rfl, ha⟩ := is.ins
          have tyx := (S.own sr.kind).ty (K := K) ha
          have nx : ∀ m, bad = some m → i + 1 ≤ m := fun m hm => by
            have := im m hm
            have : i ≠ m := fun e2 => e (by rw [hm, e2])
            omega
          rcases kd with kd | kd | kd
          · rw [kd] at tyx
            exact ⟨_, rfl, _, _, _, _, true, rfl, .own _, tyx, S.kit .assign .assign rfl rfl, true, rfl, iteF ⟨rfl, nx, _, _, rfl⟩⟩
          · rw [kd] at tyx
            refine ⟨_, rfl, _, _, _, _, false, rfl, .own _, tyx, S.kit .ret .assign rfl rfl, false, rfl, iteT ?_⟩
            exact ⟨_, rfl, _, _, _, _, true, rfl, .own _, tyx, S.kit .ret .ret rfl rfl, true, rfl, iteF ⟨rfl, nx, _, _, rfl⟩⟩
          · rw [kd] at tyx
            refine ⟨_, rfl, _, _, _, _, false, rfl, .own _, tyx, S.kit .fail .assign rfl rfl, false, rfl, iteT ?_⟩
            refine ⟨_, rfl, _, _, _, _, false, rfl, .own _, tyx, S.kit .fail .ret rfl rfl, false, rfl, iteT ?_⟩
            exact ⟨_, rfl, _, _, _, _, true, rfl, .own _, tyx, S.kit .fail .fail rfl rfl, true, rfl, iteF ⟨rfl, nx, _, _, rfl⟩⟩
      · obtain ⟨rfl, im, y1, y2, rfl⟩ := h
        have nb : bad = none := by
          cases bad with
          | none => rfl
          | some m => have := im m rfl; have := bl m rfl; omega
        have := fin G (.refl _)
        rw [ed, nb] at this
        exact this
end
end Jo

set_option Elab.async false
set_option linter.all false
set_option maxRecDepth 100000
set_option maxHeartbeats 2000000
namespace Jo
open PySem PySem.Spec PyProof.Rows L2 ClX
open L2H (RoomH roomH_of)
open LamX (Tabs TabS ExtN CodeO TabB lamS_by)
def nmOf : V → Option Str
  | .str z => if nmS z = true then some z else none
  | _ => none
theorem nmOf_is (v : V) : NmO v (nmOf v) := by
  cases v with
  | str z =>
    show NmO (.str z) (if nmS z = true then some z else none)
    by_cases h : nmS z = true
    · rw [if_pos h]; exact ⟨rfl, h⟩
    · rw [if_neg h]; exact Bool.eq_false_iff.mpr h
  | _ => rfl
/-- what is due for a row: the first argument that is refused -/
def dueR (v1 v2 v3 v4 : V) (z1 z2 z3 z4 : Str) (o5 : Option (List It)) (o6 : Option (Option Nat)) : Option (EK × Str) :=
  if isNm v1 = false then some (.a, z1) else if isSz v2 = false then some (.s, z2) else if isSz v3 = false then some (.s, z3) else match nmOf v4 with
    | none => some (.a, z4)
    | some par => if dueSl par o5 = "" then (if dueLo o6 = "" then none else some (.b, dueLo o6)) else some (.l, dueSl par o5)
def wordsR : Option (EK × Str) → List Str
  | none => ["told"]
  | some (e, z) => [e.word, z]
/-- a row as it is drawn -/
structure RowIs (K : PySem.W.Frag) (CS : Addr) (CK : Sk → Addr) (H : Hp) (v1 v2 v3 v4 v5 v6 : V) (z1 z2 z3 z4 : Str) (o5 : Option (List It)) (o6 : Option (Option Nat)) : Prop where
  a : Th K H v1 z1
  b : Th K H v2 z2
  c : Th K H v3 z3
  d : Th K H v4 z4
  e : ExG K H v5 o5
  f : LotX K CS CK H v6 o6
theorem RowIs.go {K : PySem.W.Frag} {CS : Addr} {CK : Sk → Addr} {H G : Hp} {v1 v2 v3 v4 v5 v6 : V} {z1 z2 z3 z4 : Str} {o5 : Option (List It)} {o6 : Option (Option Nat)} (h : RowIs K CS CK H v1 v2 v3 v4 v5 v6 z1 z2 z3 z4 o5 o6) (g : Goes H G) : RowIs K CS CK G v1 v2 v3 v4 v5 v6 z1 z2 z3 z4 o5 o6 := ⟨h.a.go g, h.b.go g, h.c.go g, h.d.go g, h.e.go g, h.f.go g⟩
section
variable {P : Program} {w : World} {K : PySem.W.Frag} {mg : Str → Option Value} {base : Heap} {C : Kd → Addr} {CE CS CY : Addr} {CK : Sk → Addr}
def n_due : List Str := ["_law_row", "_law_title_here", "_law_passed", "_law_given", "_law_own", "_law_extra_here", "_law_steps", "_law_at", "_law_place"]
theorem sc_due : FnScope n_due ["_law_row"] (defScope s_due) := ⟨rfl, rfl, rfl, by decide +kernel, rfl, by decide +kernel, by decide +kernel⟩
def spDue (K : PySem.W.Frag) (CS : Addr) (CK : Sk → Addr) : Sp := fun vs H Q _ => ∃ (r : Addr) (v1 v2 v3 v4 v5 v6 : V) (z1 z2 z3 z4 : Str) (o5 : Option (List It)) (o6 : Option (Option Nat)), vs = [.ref r] ∧ H r = some (.lst [v1, v2, v3, v4, v5, v6]) ∧ RowIs K CS CK H v1 v2 v3 v4 v5 v6 z1 z2 z3 z4 o5 o6 ∧
  ∀ p G, Same H G → G p = some (.tup ((wordsR (dueR v1 v2 v3 v4 z1 z2 z3 z4 o5 o6)).map V.str)) → Q (.ref p) G
theorem ok_due (T : Txt mg) (D : Dfn K mg "_law_due" s_due ["_law_row"]) (c_nm : CalG P w K mg base 1 "_law_is_name" ["_law_thing"] (spIsName K)) (c_sz : CalG P w K mg base 1 "_law_is_size" ["_law_thing"] (spIsSize K))
    (c_exd : CalG P w K mg base 2 "_law_extra_due" ["_law_extra_here", "_law_title_here"] (spExd K)) (c_lod : CalG P w K mg base 1 "_law_lot_due" ["_law_steps"] (spLod K CS CK)) : CalG P w K mg base 3 "_law_due" ["_law_row"] (spDue K CS CK) := by
  refine D.ok sc_due (fun vs H Q E h => ?_) (fun f cdv A fr s H vs Q E hr hgd h => ?_)
  · obtain ⟨r, v1, v2, v3, v4, v5, v6, z1, z2, z3, z4, o5, o6, rfl, _⟩ := h
    rfl
  · obtain ⟨r, v1, v2, v3, v4, v5, v6, z1, z2, z3, z4, o5, o6, rfl, hR, ri, fin⟩ := h
    refine ⟨_, pss_cons (ps_asg (pv 0) (pg_lst rfl (pgs_cons (pg_name (i := 1) sc_due.nd rfl (.inl rfl)) (pgs_cons (pg_name (i := 2) sc_due.nd rfl (.inl rfl)) (pgs_cons (pg_name (i := 3) sc_due.nd rfl (.inl rfl)) (pgs_cons (pg_name (i := 4) sc_due.nd rfl (.inl rfl)) (pgs_cons (pg_name (i := 5) sc_due.nd rfl (.inl rfl)) (pgs_cons (pg_name (i := 6) sc_due.nd rfl (.inl rfl)) pgs_nil))))))))
      (pss_cons (ps_if (pt_not (pt_val (pe_cG c_nm hr (by decide) hgd rfl (pa_cons (pv 1) pa_nil)))) (pss_one (ps_ret (pe_tup (pa_cons pe_str (pa_cons (pe_callB (cr_rep (roomH_of hr) hgd) rfl T.b_repr (by decide +kernel) (pa_cons (pv 1) pa_nil)) pa_nil))))) (pss_nil))
      (pss_cons (ps_if (pt_not (pt_val (pe_cG c_sz hr (by decide) hgd rfl (pa_cons (pv 2) pa_nil)))) (pss_one (ps_ret (pe_tup (pa_cons pe_str (pa_cons (pe_callB (cr_rep (roomH_of hr) hgd) rfl T.b_repr (by decide +kernel) (pa_cons (pv 2) pa_nil)) pa_nil))))) (pss_nil))
      (pss_cons (ps_if (pt_not (pt_val (pe_cG c_sz hr (by decide) hgd rfl (pa_cons (pv 3) pa_nil)))) (pss_one (ps_ret (pe_tup (pa_cons pe_str (pa_cons (pe_callB (cr_rep (roomH_of hr) hgd) rfl T.b_repr (by decide +kernel) (pa_cons (pv 3) pa_nil)) pa_nil))))) (pss_nil))
      (pss_cons (ps_if (pt_not (pt_val (pe_cG c_nm hr (by decide) hgd rfl (pa_cons (pv 4) pa_nil)))) (pss_one (ps_ret (pe_tup (pa_cons pe_str (pa_cons (pe_callB (cr_rep (roomH_of hr) hgd) rfl T.b_repr (by decide +kernel) (pa_cons (pv 4) pa_nil)) pa_nil))))) (pss_nil))
      (pss_cons (ps_par (i := 7) (j := 8) rfl sc_due.nd rfl rfl (by decide) rfl rfl (pa_cons (pe_cG c_exd hr (by decide) hgd rfl (pa_cons (pv 5) (pa_cons (pv 4) pa_nil))) (pa_cons (pe_cG c_lod hr (by decide) hgd rfl (pa_cons (pv 6) pa_nil)) pa_nil)) (by rfl))
      (pss_cons (ps_if (pt_cmpR op_ne (pv 7) pe_str (nomark _)) (pss_one (ps_ret (pe_tup (pa_cons pe_str (pa_cons (pv 7) pa_nil))))) (pss_nil))
      (pss_one (ps_ret (pe_ifExp (pt_cmpR op_ne (pv 8) pe_str (nomark _)) (pe_tup (pa_cons pe_str (pa_cons (pv 8) pa_nil))) (pe_tup (pa_cons pe_str pa_nil))))))))))), ?_⟩
    refine ⟨_, rfl, r, _, rfl, SqL.of hR, rfl, _, _, rfl, _, _, rfl, _, _, rfl, _, _, rfl, _, _, rfl, _, _, rfl, rfl, ?_⟩
    have out : ∀ e z, dueR v1 v2 v3 v4 z1 z2 z3 z4 o5 o6 = some (e, z) → ∀ G, Same H G → ∀ p, G p = none → Q (.ref p) (upd G p (.tup [.str e.word, .str z])) := fun e z h G sG p np => fin p _ (sG.trans (same_new np)) (by rw [upd_same, h]; rfl)
    refine ⟨_, rfl, v1, rfl, ri.a.any _ (.refl _), ri.a.sm, fun G1 s1 => ⟨isNm v1, rfl, ?_⟩⟩
    cases e1 : isNm v1 with
    | false =>
      have ed : dueR v1 v2 v3 v4 z1 z2 z3 z4 o5 o6 = some (.a, z1) := by unfold dueR; rw [if_pos e1]
      exact iteT ⟨_, rfl, v1, z1, rfl, ri.a.sh _ (.of s1), (show 2 ≤ sizeLine by decide), fun p np => out _ _ ed _ s1 p np⟩
    | true =>
    refine iteF ⟨_, rfl, v2, rfl, ri.b.any _ (.of s1), isSz v2, rfl, ?_⟩
    cases e2 : isSz v2 with
    | false =>
      have ed : dueR v1 v2 v3 v4 z1 z2 z3 z4 o5 o6 = some (.s, z2) := by unfold dueR; rw [if_neg (by rw [e1]; decide), if_pos e2]
      exact iteT ⟨_, rfl, v2, z2, rfl, ri.b.sh _ (.of s1), (show 2 ≤ sizeLine by decide), fun p np => out _ _ ed _ s1 p np⟩
    | true =>
    refine iteF ⟨_, rfl, v3, rfl, ri.c.any _ (.of s1), isSz v3, rfl, ?_⟩
    cases e3 : isSz v3 with
    | false =>
      have ed : dueR v1 v2 v3 v4 z1 z2 z3 z4 o5 o6 = some (.s, z3) := by unfold dueR; rw [if_neg (by rw [e1]; decide), if_neg (by rw [e2]; decide), if_pos e3]
      exact iteT ⟨_, rfl, v3, z3, rfl, ri.c.sh _ (.of s1), (show 2 ≤ sizeLine by decide), fun p np => out _ _ ed _ s1 p np⟩
    | true =>
    have e123 : dueR v1 v2 v3 v4 z1 z2 z3 z4 o5 o6 = (match nmOf v4 with
      | none => some (.a, z4)
      | some par => if dueSl par o5 = "" then (if dueLo o6 = "" then none else some (.b, dueLo o6)) else some (.l, dueSl par o5)) := by
      unfold dueR
      rw [if_neg (by rw [e1]; decide), if_neg (by rw [e2]; decide), if_neg (by rw [e3]; decide)]
    refine iteF ⟨_, rfl, v4, rfl, ri.d.any _ (.of s1), ri.d.sm, fun G2 s2 => ⟨isNm v4, rfl, ?_⟩⟩
    have s12 := s1.trans s2
    have n4 := nmOf_is v4
    rw [n4.is]
    cases e4 : nmOf v4 with
    | none =>
      rw [e4] at e123
      exact iteT ⟨_, rfl, v4, z4, rfl, ri.d.sh _ (.of s12), (show 2 ≤ sizeLine by decide), fun p np => out _ _ e123 _ s12 p np⟩
    | some par =>
    rw [e4] at e123 n4
    obtain ⟨rfl, npar⟩ := n4
    refine iteF ⟨_, rfl, _, rfl, v5, par, o5, rfl, ri.e.go (.of s12), fun G3 s3 => ?_⟩
    have s13 := s12.trans s3
    refine ⟨_, rfl, v6, o6, rfl, ri.f.go (.of s13), fun G4 s4 => ?_⟩
    have s14 := s13.trans s4
    refine ⟨_, _, rfl, _, rfl, rfl, _, rfl, ?_⟩
    by_cases e5 : dueSl par o5 = ""
    · rw [show (!decide (V.str (dueSl par o5) = V.str "")) = false by rw [e5, decide_eq_true rfl]; rfl]
      refine iteF ⟨_, rfl, rfl, _, rfl, ?_⟩
      by_cases e6 : dueLo o6 = ""
      · rw [show (!decide (V.str (dueLo o6) = V.str "")) = false by rw [e6, decide_eq_true rfl]; rfl]
        refine iteF ⟨(show 1 ≤ sizeLine by decide), fun p np => fin p _ (s14.trans (same_new np)) ?_⟩
        rw [upd_same, e123]
        show _ = some (HO.tup ((wordsR (if dueSl par o5 = "" then (if dueLo o6 = "" then none else _) else _)).map V.str))
        rw [if_pos e5, if_pos e6]
        rfl
      · rw [show (!decide (V.str (dueLo o6) = V.str "")) = true by rw [decide_eq_false (fun q => e6 (V.str.inj q))]; rfl]
        have ed : dueR v1 v2 v3 (.str par) z1 z2 z3 z4 o5 o6 = some (.b, dueLo o6) := by
          rw [e123]
          show (if dueSl par o5 = "" then (if dueLo o6 = "" then none else _) else _) = _
          rw [if_pos e5, if_neg e6]
        exact iteT ⟨_, rfl, (show 2 ≤ sizeLine by decide), fun p np => out _ _ ed _ s14 p np⟩
    · rw [show (!decide (V.str (dueSl par o5) = V.str "")) = true by rw [decide_eq_false (fun q => e5 (V.str.inj q))]; rfl]
      have ed : dueR v1 v2 v3 (.str par) z1 z2 z3 z4 o5 o6 = some (.l, dueSl par o5) := by
        rw [e123]
        show (if dueSl par o5 = "" then _ else _) = _
        rw [if_neg e5]
      exact iteT ⟨_, rfl, (show 2 ≤ sizeLine by decide), fun p np => out _ _ ed _ s14 p np⟩
end
end Jo

set_option Elab.async false
set_option linter.all false
set_option maxRecDepth 100000
set_option maxHeartbeats 2000000
namespace Jo
open PySem PySem.Spec PyProof.Rows L2 ClX
open L2H (RoomH roomH_of)
open LamX (Tabs TabS ExtN CodeO TabB lamS_by LamS lamCx lamEnv tLam pe_lamcall)
theorem three_one : ∀ d ∈ List.range 9, ∀ s ∈ three d, s.amount = 1 ∧ s.height = 1 ∧ s.lines = [s.line] ∧ s.line.length ≤ 100 ∧ PyData.strOk s.line = true := by decide +kernel
theorem three_fine {d k : Nat} (hd : d ≤ 8) : ∀ s ∈ (three d).take k, s.Fine ∧ s.amount = 1 := fun s hs => by
  obtain ⟨h1, h2, h3, h4, h5⟩ := three_one d (List.mem_range.mpr (by omega)) s (List.mem_of_mem_take hs)
  refine ⟨⟨by omega, by omega, by omega, by rw [h3, h1]; exact (show 1 ≤ 2 * 1 by decide), fun l hl => ?_, ⟨_, h3⟩, fun l hl => ?_⟩, h1⟩
  · rw [h3] at hl
    rw [List.mem_singleton.mp hl]
    omega
  · rw [h3] at hl
    rw [List.mem_singleton.mp hl]
    exact h5
theorem sum_le : ∀ l : List SR, (∀ s ∈ l, s.amount = 1) → (l.map SR.amount).sum = l.length
  | [], _ => rfl
  | s :: l, h => by
    rw [List.map_cons, List.sum_cons, List.length_cons, h s (List.mem_cons_self ..), sum_le l fun x hx => h x (List.mem_cons_of_mem _ hx)]
    omega
theorem nm_str {v : V} (h : isNm v = true) : ∃ z, v = .str z ∧ nmS z = true := by
  cases v with
  | str z => exact ⟨z, rfl, h⟩
  | _ => cases h
theorem sz_int {v : V} (h : isSz v = true) : ∃ n : Int, v = .int n ∧ 1 ≤ n ∧ n ≤ 40 := by
  cases v with
  | int n =>
    have h2 : (decide (1 ≤ n) && decide (n ≤ 40)) = true := h
    rw [Bool.and_eq_true, decide_eq_true_eq, decide_eq_true_eq] at h2
    exact ⟨n, rfl, h2⟩
  | _ => cases h
theorem none_ne : ("None" : Str) ≠ "" := by decide +kernel
section
variable {K : PySem.W.Frag} {mg : Str → Option Value} {CS CY CR1 CR2 : Addr} {CK : Sk → Addr} {A : EK → Addr} {H : Hp} {E : XK} {Q : VK}
/-- what a row comes to -/
theorem outE_of {v1 v2 v3 v4 v5 v6 : V} {z1 z2 z3 z4 : Str} {o5 : Option (List It)} {o6 : Option (Option Nat)} (ri : RowIs K CS CK H v1 v2 v3 v4 v5 v6 z1 z2 z3 z4 o5 o6)
    (bad : ∀ e y z, dueR v1 v2 v3 v4 z1 z2 z3 z4 o5 o6 = some (e, z) → ShW K H y z → PyData.strOk z = true → NoE (A e) e.fld y H E) (good : dueR v1 v2 v3 v4 z1 z2 z3 z4 o5 o6 = none → ∀ x G, Same H G → EntIs CY G v1 v2 v3 v4 v5 v6 (.ref x) → Q (.ref x) G) : OutE K CS CK A CY H E v1 v2 v3 v4 v5 v6 Q := by
  have sh : ∀ {v z}, Th K H v z → ShW K H v z := fun {v z} t G s => t.sh G (.of s)
  cases e1 : isNm v1 with
  | false => exact .inl ⟨.a, v1, ⟨rfl, rfl, ⟨fun G s => ri.a.any G (.of s), e1, ri.a.sm⟩⟩, bad _ _ _ (by unfold dueR; rw [if_pos e1]) (sh ri.a) ri.a.ok⟩
  | true =>
  refine .inr ⟨nm_str e1, ?_⟩
  cases e2 : isSz v2 with
  | false => exact .inl ⟨.s, v2, ⟨rfl, rfl, fun G s => ri.b.any G (.of s), e2⟩, bad _ _ _ (by unfold dueR; rw [if_neg (by rw [e1]; decide), if_pos e2]) (sh ri.b) ri.b.ok⟩
  | true =>
  refine .inr ⟨sz_int e2, ?_⟩
  cases e3 : isSz v3 with
  | false => exact .inl ⟨.s, v3, ⟨rfl, rfl, fun G s => ri.c.any G (.of s), e3⟩, bad _ _ _ (by unfold dueR; rw [if_neg (by rw [e1]; decide), if_neg (by rw [e2]; decide), if_pos e3]) (sh ri.c) ri.c.ok⟩
  | true =>
  refine .inr ⟨sz_int e3, ?_⟩
  have e123 : dueR v1 v2 v3 v4 z1 z2 z3 z4 o5 o6 = (match nmOf v4 with
    | none => some (.a, z4)
    | some par => if dueSl par o5 = "" then (if dueLo o6 = "" then none else some (.b, dueLo o6)) else some (.l, dueSl par o5)) := by
    unfold dueR
    rw [if_neg (by rw [e1]; decide), if_neg (by rw [e2]; decide), if_neg (by rw [e3]; decide)]
    all_goals rfl
  have n4 := nmOf_is v4
  cases e4 : nmOf v4 with
  | none =>
    rw [e4] at e123 n4
    exact .inl ⟨.a, v4, ⟨rfl, rfl, ⟨fun G s => ri.d.any G (.of s), n4, ri.d.sm⟩⟩, bad _ _ _ e123 (sh ri.d) ri.d.ok⟩
  | some par =>
  rw [e4] at e123 n4
  obtain ⟨rfl, npar⟩ := n4
  refine .inr ⟨par, rfl, npar, ?_⟩
  have e5' : dueSl par o5 ≠ "" → dueR v1 v2 v3 (.str par) z1 z2 z3 z4 o5 o6 = some (.l, dueSl par o5) := fun ne => by
    rw [e123]
    show (if dueSl par o5 = "" then _ else _) = _
    rw [if_neg ne]
  have exh := ri.e
  cases o5 with
  | none =>
    refine .inl ⟨.l, .non, ⟨rfl, none, rfl, ?_⟩, bad _ _ _ (e5' none_ne) (fun G _ => shk_non) (strOk_of _)⟩
    rcases exh with ⟨t, h1, h2⟩ | ⟨q, us, e, h1, h2⟩
    · exact .inl ⟨t, h1, fun G s => h2 G (.of s)⟩
    · exact .inr ⟨q, us, e, SqT.of h1, h2⟩
  | some its =>
  obtain ⟨q, us, rfl, hq, l3, pr⟩ := exh
  have prI := pair_mem pr fun x y i => i.is
  cases e5 : badAt [par] its with
  | some k =>
    have kl := badAt_lt e5
    have ed := dueSl_k e5
    refine .inl ⟨.l, .int (k : Int), ⟨rfl, some k, rfl, q, us, its, rfl, SqT.of hq, l3, prI, e5⟩, bad _ _ _ (e5' (by rw [ed]; exact txI_ne k (by omega))) (fun G _ => ?_) (by rw [ed]; exact strOk_of _)⟩
    rw [ed, txI_eq]
    exact shk_int (by omega)
  | none =>
  refine .inr ⟨⟨q, us, its, rfl, SqT.of hq, l3, prI, e5⟩, ?_⟩
  have ed := dueSl_0 e5
  have e6' : dueR v1 v2 v3 (.str par) z1 z2 z3 z4 (some its) o6 = (if dueLo o6 = "" then none else some (.b, dueLo o6)) := by
    rw [e123]
    show (if dueSl par (some its) = "" then _ else _) = _
    rw [if_pos ed]
  have lx := ri.f
  cases o6 with
  | none =>
    obtain ⟨d, k, k3, d8, q6, us6, rfl, hq6, pr6⟩ := lx
    have tl : ((three d).take k).length ≤ 3 := by rw [List.length_take]; exact Nat.le_trans (Nat.min_le_right ..) (Nat.le_refl 3)
    have fl : ([(three d).take k] : List (List SR)).flatten = (three d).take k := by rw [List.flatten_cons, List.flatten_nil, List.append_nil]
    refine .inr ⟨⟨_, ⟨q6, us6, rfl, SqT.of hq6, pr6⟩, ⟨(show 1 ≤ 2 by decide), fun s hs => (three_fine d8 s (by rw [fl] at hs; exact hs)).1, by rw [fl]; omega⟩, ?_⟩, ?_⟩
    · show (([(three d).take k] : List (List SR)).flatten.map SR.amount).sum ≤ 400
      rw [fl, sum_le _ fun s hs => (three_fine d8 s hs).2]
      omega
    · exact good (by rw [e6']; exact if_pos rfl)
  | some o =>
    cases o with
    | none =>
      obtain ⟨t, h1, h2⟩ := lx
      exact .inl ⟨.b, .non, ⟨rfl, none, rfl, t, h1, fun G s => h2 G (.of s)⟩, bad _ _ _ (by rw [e6']; exact if_neg none_ne) (fun G _ => shk_non) (strOk_of _)⟩
    | some m =>
      obtain ⟨rfl, d, q6, us6, y, rfl, hq6, pr6, oy⟩ := lx
      have ul := pair_len pr6
      have tl : ((three d).take 2).length = 2 := rfl
      refine .inl ⟨.b, .int ((2 : Nat) : Int), ⟨rfl, some 2, rfl, q6, us6 ++ [y], rfl, SqT.of hq6, ⟨y, ?_, oy.odd⟩, fun j x hj hx => ?_⟩, bad _ _ _ (by rw [e6']; exact if_neg (txI_ne 2 (by decide))) (fun G _ => ?_) (strOk_of _)⟩
      · rw [List.getElem?_append_right (by omega), show us6.length = 2 by omega]
        rfl
      · rw [List.getElem?_append_left (by omega)] at hx
        obtain ⟨sr, _, h2⟩ := pair_at pr6 hx
        exact ⟨sr, h2⟩
      · exact shk_int (by decide)
end
end Jo

set_option Elab.async false
set_option linter.all false
set_option maxRecDepth 100000
set_option maxHeartbeats 2000000
namespace Jo
open PySem PySem.Spec PyProof.Rows L2 ClX
open L2H (RoomH roomH_of)
open LamX (Tabs TabS ExtN CodeO TabB lamS_by LamS lamCx lamEnv tLam pe_lamcall)
theorem num_ok (m : Nat) : PyData.strOk (txI m) = true := strOk_of _
section
variable {P : Program} {w : World} {K : PySem.W.Frag} {mg : Str → Option Value} {base : Heap} {CS CY CR1 CR2 : Addr} {CK : Sk → Addr} {A : EK → Addr}
/-- what is asked of a call: the error that is due is let out, or something is made -/
def OutM (K : PySem.W.Frag) (A : EK → Addr) (H : Hp) (E : XK) (R : VK) : Option (EK × Str) → Prop
  | none => ∀ G v, Same H G → R v G
  | some (e, z) => ∀ y, ShW K H y z → NoE (A e) e.fld y H E
theorem back {H0 H1 G G' : Hp} {T : List (Addr × Str)} {a p : Addr} {oe : Obj} {xs : List V} (e : ExtN H0 H1) (t : Tabs T H1) (sG : Same H1 G) (na : G a = none) (sG' : Same (upd G a (frq a oe)) G') (hp : G' p = some (.tup xs)) : ExtN H0 (del G' a) ∧ Tabs T (del G' a) ∧ del G' a p = some (.tup xs) := by
  have keep : Same G (del G' a) := fun b o hb => by
    have nb : b ≠ a := ne_of_none hb na
    rw [del_ne nb]
    exact sG' b o (by rw [upd_ne nb]; exact hb)
  have np : p ≠ a := fun z => by
    have h := sG' a _ upd_same
    rw [← z, hp] at h
    cases h
  exact ⟨e.trans (.of (sG.trans keep)), t.ext (sG.trans keep), by rw [del_ne np]; exact hp⟩
/-- one asking of the fault; o: what is due -/
theorem fault_ask {T : List (Addr × Str)} {tl : XK → TE} {σ : L2.St} {H : Hp} {Q : VK} (Ec : ErC K mg A CR1 CR2) (tb : Tabs T H) (o : Option (EK × Str)) (ho : ∀ E R G, ExtN H G → OutM K A G E R o → tl E σ G R) (fin : ∀ p G, ExtN H G → Tabs T G → G p = some (.tup ((wordsR o).map V.str)) → Q (.ref p) G) :
    tLam T (TFault K CR1 CR2 (spTold K A)) tl σ H Q := by
  refine ⟨tb, fun H1 e t => ?_⟩
  refine ho _ _ H1 e ?_
  cases o with
  | none => exact fun G v sG => ⟨(show 1 ≤ sizeLine by decide), fun p np => fin p _ (e.trans (.of (sG.trans (same_new np)))) (t.ext (sG.trans (same_new np))) upd_same⟩
  | some ez =>
    obtain ⟨ek, z⟩ := ez
    refine fun y hy G d sG hd => ⟨(Ec.er ek).x, fun a oe na e1 e2 => ⟨a, rfl, ek, y, z, hy.same (sG.trans (same_new na)), cau_of na hd e1 e2, fun p G' hp sG' => ?_⟩⟩
    obtain ⟨a1, a2, a3⟩ := back e t sG na sG' hp
    exact fin p _ a1 a2 a3
/-- a row is built where its due says so -/
theorem built_out {r : Addr} {v1 v2 v3 v4 v5 v6 : V} {z1 z2 z3 z4 : Str} {o5 : Option (List It)} {o6 : Option (Option Nat)} {G : Hp} {E : XK} {R : VK} (hR : G r = some (.lst [v1, v2, v3, v4, v5, v6])) (ri : RowIs K CS CK G v1 v2 v3 v4 v5 v6 z1 z2 z3 z4 o5 o6) (out : OutM K A G E R (dueR v1 v2 v3 v4 z1 z2 z3 z4 o5 o6)) :
    spBuilt K CS CK A CY [.ref r] G R E := by
  refine ⟨r, v1, v2, v3, v4, v5, v6, rfl, hR, outE_of ri (fun e y z h sh _ => ?_) (fun h x G2 s _ => ?_)⟩
  · rw [h] at out
    exact out y sh
  · rw [h] at out
    exact out G2 _ s
/-- .. and where nothing is refused -/
theorem built_good {r : Addr} {v1 v2 v3 v4 v5 v6 : V} {z1 z2 z3 z4 : Str} {o5 : Option (List It)} {o6 : Option (Option Nat)} {G : Hp} {R : VK} (hR : G r = some (.lst [v1, v2, v3, v4, v5, v6])) (ri : RowIs K CS CK G v1 v2 v3 v4 v5 v6 z1 z2 z3 z4 o5 o6) (h0 : dueR v1 v2 v3 v4 z1 z2 z3 z4 o5 o6 = none) (q : ∀ x G2, Same G G2 → EntIs CY G2 v1 v2 v3 v4 v5 v6 (.ref x) → R (.ref x) G2) :
    spBuilt K CS CK A CY [.ref r] G R E0 :=
  ⟨r, v1, v2, v3, v4, v5, v6, rfl, hR, outE_of ri (fun e y z h _ _ => by rw [h0] at h; cases h) (fun _ x G2 s i => q x G2 s i)⟩
end
/-- a call in a lambda that may let errors of known context out -/
theorem pe_cL {X : Cx} {j k : Nat} {x : Str} {p pos : Pos} {e : Expr} {es : List Expr} {ps : List Str} {sp : Sp} {t : TA} {E : XK} (c : CalX X.prog X.w X.K X.mg X.base k x ps sp) (hr : Room j X.A) (hk : k ≤ j) (tk : L2.Takes X (fun cls d _ H => E cls d H)) (hg : Gl X x)
    (ha : PA X (e :: es) t) (hdb : (x == ("__debug__" : Str)) = false := by decide)
    (he : starEach (e :: es) X.env = (false, eval e X.env) :: starEach es X.env := by rfl)
    (hpl : (backTo pos (starEach es X.env)).any (·.1) = false := by rfl) :
    PE X (.Call (.Name x p) (e :: es) [] pos) (tCallS sp (fun _ => E) t) := pe_cE c.e hr hk (fun σ => passAt tk σ) hg ha hdb he hpl
/-- a call that lets nothing out here -/
theorem pe_c0 {X : Cx} {j k : Nat} {x : Str} {p pos : Pos} {e : Expr} {es : List Expr} {ps : List Str} {sp : Sp} {t : TA} (c : CalX X.prog X.w X.K X.mg X.base k x ps sp) (hr : Room j X.A) (hk : k ≤ j) (hg : Gl X x)
    (ha : PA X (e :: es) t) (hdb : (x == ("__debug__" : Str)) = false := by decide)
    (he : starEach (e :: es) X.env = (false, eval e X.env) :: starEach es X.env := by rfl)
    (hpl : (backTo pos (starEach es X.env)).any (·.1) = false := by rfl) :
    PE X (.Call (.Name x p) (e :: es) [] pos) (tCallS sp (fun _ => E0) t) := pe_cX c hr hk (fun σ => passN0 σ) hg ha hdb he hpl
end Jo

set_option Elab.async false
set_option linter.all false
set_option maxRecDepth 100000
set_option maxHeartbeats 2000000
namespace Jo
open PySem PySem.Spec PyProof.Rows L2 ClX
open L2H (RoomH roomH_of)
open LamX (Tabs TabS ExtN CodeO TabB lamS_by)
/-! ### == of entries -/
/-- == of two fields, and what stands behind it -/
def eqThen (r : R2) (v w : V) (H : Hp) (Q : VK) (rest : Prop) : Prop := r v w H fun x H' => ∃ c, x = .bl c ∧ if c = true then H' = H ∧ rest else Q (.bl false) H'
def eqBody (K : PySem.W.Frag) (CS : Addr) (CK : Sk → Addr) (v w : V) (H : Hp) (Q : VK) : Prop := rEqG (DTup K DId) v w H Q ∨ rEqT1 K (IsS CK) (spStEq K CK CS) v w H Q ∨ rEqT0 K v w H Q
def spEntEq (K : PySem.W.Frag) (CS : Addr) (CK : Sk → Addr) (CY : Addr) : Sp := fun vs H Q _ => ∃ (x y v1 v2 v3 v4 v5 v6 : V), vs = [x, y] ∧ EntIs CY H v1 v2 v3 v4 v5 v6 x ∧
  ((∃ t, TyX K H y t ∧ PySem.W.kitOne K t (.ref CY) = some false ∧ Q (.bl false) H) ∨ ∃ w1 w2 w3 w4 w5 w6, EntIs CY H w1 w2 w3 w4 w5 w6 y ∧
    eqThen rEq v1 w1 H Q (eqThen rEq v2 w2 H Q (eqThen rEq v3 w3 H Q (eqThen rEq v4 w4 H Q (eqThen (rEqD K) v5 w5 H Q (eqBody K CS CK v6 w6 H Q))))))
section
variable {P : Program} {w : World} {K : PySem.W.Frag} {mg : Str → Option Value} {base : Heap} {C : Kd → Addr} {CE CS CY : Addr} {CK : Sk → Addr}
theorem sc_enteq : FnScope ["self", "other"] ["self", "other"] (defScope m_Entry_eq) := ⟨rfl, rfl, rfl, by decide +kernel, rfl, by decide +kernel, by decide +kernel⟩
theorem ok_enteq (T : Txt mg) (Y : YT K mg CY) (kY : PySem.W.kitOne K (.ref CY) (.ref CY) = some true) (O : Own P w K mg base 1 "__eq__" ["self", "other"] (IsS CK) (spStEq K CK CS)) (D : Mth K CY "__eq__" "Entry.__eq__" m_Entry_eq ["self", "other"]) : MtF P w K mg base 3 CY "__eq__" ["self", "other"] (spEntEq K CS CK CY) := by
  refine D.okF sc_enteq (fun vs H Q E h => ?_) (fun f cdv A fr s H vs Q E hr h => ?_)
  · obtain ⟨x, y, v1, v2, v3, v4, v5, v6, rfl, _⟩ := h
    rfl
  · obtain ⟨x, y, v1, v2, v3, v4, v5, v6, rfl, ⟨a, dx, fs, rfl, ha, ff⟩, h⟩ := h
    refine ⟨_, pss_one (ps_ret (pe_and (pe_callB call_isi rfl T.b_isinstance (by decide +kernel) (pa_cons (pv 1) (pa_cons (pe_glob (v := .ref CY) rfl Y.mgY rfl) pa_nil)))
      (pe_and (pe_cmpR op_eq (pe_fld (pv 0) rfl) (pe_fld (pv 1) rfl) (nomark _))
      (pe_and (pe_cmpR op_eq (pe_fld (pv 0) rfl) (pe_fld (pv 1) rfl) (nomark _))
      (pe_and (pe_cmpR op_eq (pe_fld (pv 0) rfl) (pe_fld (pv 1) rfl) (nomark _))
      (pe_and (pe_cmpR op_eq (pe_fld (pv 0) rfl) (pe_fld (pv 1) rfl) (nomark _))
      (pe_and (pe_cmpR (op_eqD hr.units) (pe_fld (pv 0) rfl) (pe_fld (pv 1) rfl) (nomark _))
      (pe_one (pe_or (pe_cmpR (op_eqId (hr.mono (by decide))) (pe_fld (pv 0) rfl) (pe_fld (pv 1) rfl) (nomark _)) (pe_or (pe_cmpR (op_eqT1 O (hr.mono (by decide))) (pe_fld (pv 0) rfl) (pe_fld (pv 1) rfl) (nomark _)) (pe_cmpR (op_eqT0 hr.units0) (pe_fld (pv 0) rfl) (pe_fld (pv 1) rfl) (nomark _)))))))))))), ?_⟩
    rcases h with ⟨t, ty, kt, q⟩ | ⟨w1, w2, w3, w4, w5, w6, ⟨b, dy, gs, rfl, hb, gf⟩, h⟩
    · exact ⟨_, rfl, _, _, _, _, false, rfl, .own CY, ty, kt, false, rfl, iteF q⟩
    have cl := Y.own.cl
    have n1 := Y.na "name" (by decide +kernel)
    have n2 := Y.na "arguments" (by decide +kernel)
    have n3 := Y.na "results" (by decide +kernel)
    have n4 := Y.na "parameter" (by decide +kernel)
    have n5 := Y.na "slots" (by decide +kernel)
    have n6 := Y.na "body" (by decide +kernel)
    refine ⟨_, rfl, _, _, _, _, true, rfl, .own CY, Y.own.ty hb, kY, true, rfl, iteT ?_⟩
    refine ⟨_, rfl, a, _, dx, fs, _, rfl, ha, cl, n1, ff.name, _, rfl, b, _, dy, gs, _, rfl, hb, cl, n1, gf.name, ?_⟩
    obtain ⟨sc1, c1, e1, h⟩ := h
    refine ⟨sc1, c1, e1, ?_⟩
    cases c1 with
    | false => exact h
    | true =>
    obtain ⟨_, h⟩ := h
    refine iteT ⟨_, rfl, a, _, dx, fs, _, rfl, ha, cl, n2, ff.arguments, _, rfl, b, _, dy, gs, _, rfl, hb, cl, n2, gf.arguments, ?_⟩
    obtain ⟨sc1, c1, e1, h⟩ := h
    refine ⟨sc1, c1, e1, ?_⟩
    cases c1 with
    | false => exact h
    | true =>
    obtain ⟨_, h⟩ := h
    refine iteT ⟨_, rfl, a, _, dx, fs, _, rfl, ha, cl, n3, ff.results, _, rfl, b, _, dy, gs, _, rfl, hb, cl, n3, gf.results, ?_⟩
    obtain ⟨sc1, c1, e1, h⟩ := h
    refine ⟨sc1, c1, e1, ?_⟩
    cases c1 with
    | false => exact h
    | true =>
    obtain ⟨_, h⟩ := h
    refine iteT ⟨_, rfl, a, _, dx, fs, _, rfl, ha, cl, n4, ff.parameter, _, rfl, b, _, dy, gs, _, rfl, hb, cl, n4, gf.parameter, ?_⟩
    obtain ⟨sc1, c1, e1, h⟩ := h
    refine ⟨sc1, c1, e1, ?_⟩
    cases c1 with
    | false => exact h
    | true =>
    obtain ⟨_, h⟩ := h
    refine iteT ⟨_, rfl, a, _, dx, fs, _, rfl, ha, cl, n5, ff.slots, _, rfl, b, _, dy, gs, _, rfl, hb, cl, n5, gf.slots, ?_⟩
    obtain ⟨d5, e5, hd5, he5, hs5, hs5', c1, e1, h⟩ := h
    refine ⟨d5, e5, hd5, he5, hs5, hs5', c1, e1, ?_⟩
    cases c1 with
    | false => exact h
    | true =>
    obtain ⟨_, h⟩ := h
    refine iteT ?_
    rcases h with h | h | h
    · exact .inl ⟨_, rfl, a, _, dx, fs, _, rfl, ha, cl, n6, ff.body, _, rfl, b, _, dy, gs, _, rfl, hb, cl, n6, gf.body, h⟩
    · exact .inr (.inl ⟨_, rfl, a, _, dx, fs, _, rfl, ha, cl, n6, ff.body, _, rfl, b, _, dy, gs, _, rfl, hb, cl, n6, gf.body, h⟩)
    · exact .inr (.inr ⟨_, rfl, a, _, dx, fs, _, rfl, ha, cl, n6, ff.body, _, rfl, b, _, dy, gs, _, rfl, hb, cl, n6, gf.body, h⟩)
end
end Jo

set_option Elab.async false
set_option linter.all false
set_option maxRecDepth 100000
set_option maxHeartbeats 2000000
namespace Jo
open PySem PySem.Spec PyProof.Rows L2 ClX
open L2H (RoomH roomH_of)
/-! ### slots that are good, as data -/
def PrI (H : Hp) (p : Str × Int) (u : V) : Prop := ∃ a, u = .ref a ∧ H a = some (.tup [.str p.1, .int p.2])
def prD (p : Str × Int) : PyData := .tuple [.str p.1, .int p.2]
def slD (ps : List (Str × Int)) : PyData := .tuple (ps.map prD)
structure PsOk (ps : List (Str × Int)) : Prop where
  few : ps.length ≤ 3
  all : ∀ p ∈ ps, nmS p.1 = true ∧ 1 ≤ p.2 ∧ p.2 ≤ 40
def SlD (H : Hp) (v : V) (ps : List (Str × Int)) : Prop := ∃ q us, v = .ref q ∧ H q = some (.tup us) ∧ Paired (PrI H) ps us
theorem SlD.go {H G : Hp} {v : V} {ps : List (Str × Int)} (h : SlD H v ps) (g : Goes H G) : SlD G v ps :=
  let ⟨q, us, e, h1, h2⟩ := h
  ⟨q, us, e, g.tup h1, pair_mem h2 fun p u ⟨a, e, h⟩ => ⟨a, e, g.tup h⟩⟩
theorem its_prs {K : PySem.W.Frag} {H : Hp} : ∀ {its : List It} {us : List V} {t : List Str}, Paired (ItG K H) its us → badAt t its = none → ∃ ps : List (Str × Int), Paired (PrI H) ps us ∧ ∀ p ∈ ps, nmS p.1 = true ∧ 1 ≤ p.2 ∧ p.2 ≤ 40
  | _, _, _, .nil, _ => ⟨[], .nil, fun p h => by cases h⟩
  | none :: its, _, _, .cons _ _, e => by cases e
  | some (none, _) :: its, _, _, .cons _ _, e => by cases e
  | some (some _, false) :: its, _, _, .cons _ _, e => by cases e
  | some (some z, true) :: its, u :: us, t, .cons i p, e => by
    have e2 : (if z ∈ t then some 0 else (badAt (t ++ [z]) its).map (· + 1)) = none := e
    by_cases m : z ∈ t
    · rw [if_pos m] at e2; cases e2
    · rw [if_neg m] at e2
      have e3 : badAt (t ++ [z]) its = none := by
        cases q : badAt (t ++ [z]) its with
        | none => rfl
        | some k => rw [q] at e2; cases e2
      obtain ⟨ps, h1, h2⟩ := its_prs p e3
      obtain ⟨q, x, y, e4, h3, _, _, _, ⟨rfl, nz⟩, sz⟩ := i
      obtain ⟨n, rfl, n1, n2⟩ := sz_int sz
      refine ⟨(z, n) :: ps, .cons ⟨q, e4, h3⟩ h1, fun p hp => ?_⟩
      rcases List.mem_cons.mp hp with rfl | hp
      · exact ⟨nz, n1, n2⟩
      · exact h2 p hp
theorem good_slots {K : PySem.W.Frag} {H : Hp} {v : V} {its : List It} {t : List Str} (h : ExG K H v (some its)) (e : badAt t its = none) : ∃ ps, SlD H v ps ∧ PsOk ps := by
  obtain ⟨q, us, rfl, hq, l3, p⟩ := h
  obtain ⟨ps, h1, h2⟩ := its_prs p e
  have a := pair_len h1
  have b := pair_len p
  exact ⟨ps, ⟨q, us, rfl, hq, h1⟩, by omega, h2⟩
theorem PrI.shD {K : PySem.W.Frag} {H : Hp} {p : Str × Int} {u : V} (h : PrI H p u) : ShD K H 2 u (prD p) :=
  let ⟨a, e, h⟩ := h
  .inr (.inr (.inr (.inr (.inr (.inl ⟨a, _, _, e, rfl, SqT.of h, .cons (.inr (.inr (.inr (.inl ⟨_, rfl, rfl⟩)))) (.cons (.inr (.inr (.inl ⟨_, rfl, rfl⟩))) .nil)⟩)))))
theorem paired_map {α β γ : Type} {F : α → β → Prop} {G : β → γ → Prop} {f : α → γ} {xs : List α} {ys : List β} (p : Paired F xs ys) (h : ∀ x y, F x y → G y (f x)) : Paired G ys (xs.map f) := by
  induction p with
  | nil => exact .nil
  | cons i _ ih => exact .cons (h _ _ i) ih
theorem SlD.shD {K : PySem.W.Frag} {H : Hp} {v : V} {ps : List (Str × Int)} (h : SlD H v ps) : ShD K H 3 v (slD ps) :=
  let ⟨q, us, e, h1, h2⟩ := h
  .inr (.inr (.inr (.inr (.inr (.inl ⟨q, us, _, e, rfl, SqT.of h1, paired_map h2 fun p u i => PrI.shD i⟩)))))
theorem PrI.dp {K : PySem.W.Frag} {H : Hp} {p : Str × Int} {u : V} (h : PrI H p u) : Dp K H u (prD p) := by
  obtain ⟨a, rfl, h⟩ := h
  exact .tup (SqT.of h) (.cons (.str _) (.cons (.int _) .nil))
theorem prs_dp {K : PySem.W.Frag} {H : Hp} {ps : List (Str × Int)} {us : List V} (p : Paired (PrI H) ps us) : DpAll K H us (ps.map prD) := by
  induction p with
  | nil => exact .nil
  | cons i _ ih => exact .cons i.dp ih
theorem SlD.dp {K : PySem.W.Frag} {H : Hp} {v : V} {ps : List (Str × Int)} (h : SlD H v ps) : Dp K H v (slD ps) := by
  obtain ⟨q, us, rfl, h1, h2⟩ := h
  exact .tup (SqT.of h1) (prs_dp h2)
theorem eqv_pr (p : Str × Int) : PyData.eqv (prD p) (prD p) = true := by
  show ((p.1 == p.1) && ((p.2 == p.2) && true)) = true
  simp
theorem eqv_all : ∀ ps : List (Str × Int), PyData.eqvAll (ps.map prD) (ps.map prD) = true
  | [] => rfl
  | p :: ps => by
    show (PyData.eqv (prD p) (prD p) && PyData.eqvAll (ps.map prD) (ps.map prD)) = true
    rw [eqv_pr, eqv_all ps]
    rfl
theorem eqv_sl (ps : List (Str × Int)) : PyData.eqv (slD ps) (slD ps) = true := eqv_all ps
theorem eqv_len : ∀ xs ys : List PyData, xs.length ≠ ys.length → PyData.eqvAll xs ys = false
  | [], [], h => absurd rfl h
  | [], _ :: _, _ => rfl
  | _ :: _, [], _ => rfl
  | x :: xs, y :: ys, h => by
    show (PyData.eqv x y && PyData.eqvAll xs ys) = false
    rw [eqv_len xs ys (fun e => h (by rw [List.length_cons, List.length_cons, e])), Bool.and_false]
theorem eqv_sl_ne {ps qs : List (Str × Int)} (h : ps.length ≠ qs.length) : PyData.eqv (slD ps) (slD qs) = false := eqv_len _ _ (by rw [List.length_map, List.length_map]; exact h)
theorem sz_pr {p : Str × Int} (h : nmS p.1 = true ∧ 1 ≤ p.2 ∧ p.2 ≤ 40) : Sz (prD p) 2100 1 := by
  have l := nm_len h.1
  exact Sz.tup (k := 0) (.cons (k := 0) (j := 0) (Sz.str (n := 8) (m := 82) (good_of h.1).asc.lo l (Nat.le_refl _)) (.cons (k := 0) (j := 0) (Sz.int (i := p.2) (Nat.lt_of_le_of_lt (Nat.log2_le_self _) (by omega))) .nil)) (by decide) (by decide)
theorem sz_prs : ∀ {ps : List (Str × Int)}, (∀ p ∈ ps, nmS p.1 = true ∧ 1 ≤ p.2 ∧ p.2 ≤ 40) → ∃ m, m = ps.length * 2102 ∧ SzAll (ps.map prD) m 1
  | [], _ => ⟨_, rfl, .nil⟩
  | p :: ps, h => by
    obtain ⟨m, e, s⟩ := sz_prs fun x hx => h x (List.mem_cons_of_mem _ hx)
    refine ⟨_, rfl, ?_⟩
    have := SzAll.cons (sz_pr (h p (List.mem_cons_self ..))) s
    rw [e] at this
    rw [show (p :: ps).length * 2102 = 2100 + 2 + ps.length * 2102 by rw [List.length_cons]; omega]
    exact this
theorem sz_sl {ps : List (Str × Int)} (h : PsOk ps) : Sz (slD ps) 7000 2 := by
  obtain ⟨m, e, s⟩ := sz_prs h.all
  have := h.few
  exact Sz.tup s (by omega) (by decide)
theorem lay_pr {p : Str × Int} (h : nmS p.1 = true) : PyData.canLay0 (prD p) = true := by
  show (PyData.strOk p.1 && (true && true)) = true
  rw [ok_cps fun c hc => Nat.lt_trans ((good_of h).asc c hc) (by decide)]
  rfl
theorem lay_prs : ∀ {ps : List (Str × Int)}, (∀ p ∈ ps, nmS p.1 = true ∧ 1 ≤ p.2 ∧ p.2 ≤ 40) → PyData.canLayAll0 (ps.map prD) = true
  | [], _ => rfl
  | p :: ps, h => by
    show (PyData.canLay0 (prD p) && PyData.canLayAll0 (ps.map prD)) = true
    rw [lay_pr (h p (List.mem_cons_self ..)).1, lay_prs fun x hx => h x (List.mem_cons_of_mem _ hx)]
    rfl
theorem shaped_sl {ps : List (Str × Int)} (h : PsOk ps) : SeqAt.shaped (slD ps) = true := by
  show (PyData.canLayAll0 (ps.map prD) && decide ((slD ps).depth ≤ 64)) = true
  rw [lay_prs h.all, decide_eq_true (Nat.le_trans (sz_sl h).dp (by decide))]
  rfl
/-- list(xs), at a place that is not the table of modules -/
theorem call_list_ofN {X : Cx} : CallR X (.type "list") (fun xs H Q => ∃ p ys, xs = [.ref p] ∧ (SqL X.K H p ys ∨ SqT X.K H p ys) ∧ ∀ l, H l = none → (l == sysModules) = false → Q (.ref l) (upd H l (.lst ys))) := by
  intro pins s σ H xs us Q I r h
  obtain ⟨p, ys, rfl, hq, q⟩ := h
  obtain ⟨u, rfl, rx⟩ := vals1 r
  cases rx
  have sm : (s.heap.objs.size == sysModules) = false := beq_eq_false_iff_ne.mpr (Nat.ne_of_gt I.big)
  have fin : ∀ (its : List Value), Vals ys its → ys.length ≤ sizeLine → ∀ (h' : Heap) (c' : Nat), (∀ b o', s.heap.get? b = some o' → h'.get? b = some o') →
      h'.get? s.heap.objs.size = some { cls := .type "list", dict := none, data := .seq its.toArray c', slots := #[] } → EP X pins σ Q (.ref s.heap.objs.size) { s with heap := h' } := fun its r' hz h' c' kp e =>
    ⟨.ref s.heap.objs.size, _, I.laid (t' := s.toks) kp (Nat.le_refl _) (show ObjOk X.prog X.w _ h' _ (.lst ys) from ⟨hz, its, c', r', e⟩), rfl, q _ (I.hok.fresh (Nat.le_refl _)) sm⟩
  rcases hq with hq | hq
  · obtain ⟨its, r', pl, hz⟩ := I.list hq
    have hlen := r'.length
    obtain ⟨o, ho, hc, n, hd⟩ := pl.isList
    exact call_list_seq p (.inl rfl) ho hc hd (fun h' c' kp e => fin its r' hz h' c' kp e) (by simp only [List.size_toArray] <;> omega)
  · obtain ⟨its, r', pl, hz⟩ := I.tuple hq
    have hlen := r'.length
    obtain ⟨o, ho, hc, n, hd⟩ := pl
    exact call_list_seq p (.inr rfl) ho hc hd (fun h' c' kp e => fin its r' hz h' c' kp e) (by simp only [List.size_toArray] <;> omega)
/-- what repr shows of the first five -/
def fiveD (z1 z4 : Str) (n2 n3 : Int) (ps : List (Str × Int)) : PyData := .list [.str z1, .int n2, .int n3, .str z4, slD ps]
theorem shk_five {K : PySem.W.Frag} {G : Hp} {l : Addr} {z1 z4 : Str} {n2 n3 : Int} {ps : List (Str × Int)} {v5 : V} (hl : G l = some (.lst [.str z1, .int n2, .int n3, .str z4, v5])) (sm : (l == sysModules) = false) (h5 : SlD G v5 ps) (o : PsOk ps) (a1 : nmS z1 = true) (a4 : nmS z4 = true) (b2 : 1 ≤ n2 ∧ n2 ≤ 40) (b3 : 1 ≤ n3 ∧ n3 ≤ 40) : ShK K G (.ref l) (fiveD z1 z4 n2 n3 ps).shown := by
  have st : ∀ z, nmS z = true → Sz (.str z) 82 0 := fun z h => Sz.str (n := 8) (good_of h).asc.lo (nm_len h) (Nat.le_refl _)
  have it : ∀ n : Int, 1 ≤ n ∧ n ≤ 40 → Sz (.int n) 1921 0 := fun n h => Sz.int (Nat.lt_of_le_of_lt (Nat.log2_le_self _) (by omega))
  have s : Sz (fiveD z1 z4 n2 n3 ps) 20000 3 := Sz.lst (k := 2) (.cons (st z1 a1) (.cons (it n2 b2) (.cons (it n3 b3) (.cons (st z4 a4) (.cons (j := 0) (sz_sl o) .nil))))) (by decide) (by decide)
  refine ⟨_, 4, .inr (.inr (.inr (.inr (.inl ⟨l, _, _, rfl, rfl, sm, SqL.of hl, .cons (.inr (.inr (.inr (.inl ⟨_, rfl, rfl⟩)))) (.cons (.inr (.inr (.inl ⟨_, rfl, rfl⟩))) (.cons (.inr (.inr (.inl ⟨_, rfl, rfl⟩))) (.cons (.inr (.inr (.inr (.inl ⟨_, rfl, rfl⟩)))) (.cons h5.shD .nil))))⟩)))), s.ok, Nat.le_trans s.dp (by decide), Nat.le_trans s.len (by decide), rfl⟩
end Jo

set_option Elab.async false
set_option linter.all false
set_option maxRecDepth 100000
set_option maxHeartbeats 2000000
namespace Jo
open PySem PySem.Spec PyProof.Rows L2 ClX
open L2H (RoomH roomH_of)
/-- a row of which nothing is refused -/
structure GoodR (CK : Sk → Addr) (H : Hp) (v1 v2 v3 v4 v5 v6 : V) (z1 : Str) (n2 n3 : Int) (z4 : Str) (ps : List (Str × Int)) (b : List SR) : Prop where
  e1 : v1 = .str z1
  a1 : nmS z1 = true
  e2 : v2 = .int n2
  b2 : 1 ≤ n2 ∧ n2 ≤ 40
  e3 : v3 = .int n3
  b3 : 1 ≤ n3 ∧ n3 ≤ 40
  e4 : v4 = .str z4
  a4 : nmS z4 = true
  sl : SlD H v5 ps
  ok : PsOk ps
  bd : ∃ q us, v6 = .ref q ∧ H q = some (.tup us) ∧ Paired (SIs CK H) b us
  fw : b.length ≤ 3
  fn : ∀ s ∈ b, s.Fine
theorem GoodR.go {CK : Sk → Addr} {H G : Hp} {v1 v2 v3 v4 v5 v6 : V} {z1 z4 : Str} {n2 n3 : Int} {ps : List (Str × Int)} {b : List SR} (h : GoodR CK H v1 v2 v3 v4 v5 v6 z1 n2 n3 z4 ps b) (s : Same H G) : GoodR CK G v1 v2 v3 v4 v5 v6 z1 n2 n3 z4 ps b :=
  { h with sl := h.sl.go (.of s), bd := let ⟨q, us, e, h1, h2⟩ := h.bd; ⟨q, us, e, s _ _ h1, pair_mem h2 fun x y i => i.same s⟩ }
theorem good_row {K : PySem.W.Frag} {CS : Addr} {CK : Sk → Addr} {H : Hp} {v1 v2 v3 v4 v5 v6 : V} {z1 z2 z3 z4 : Str} {o5 : Option (List It)} {o6 : Option (Option Nat)} (ri : RowIs K CS CK H v1 v2 v3 v4 v5 v6 z1 z2 z3 z4 o5 o6) (h : dueR v1 v2 v3 v4 z1 z2 z3 z4 o5 o6 = none) :
    ∃ y1 n2 n3 y4 ps b, GoodR CK H v1 v2 v3 v4 v5 v6 y1 n2 n3 y4 ps b := by
  unfold dueR at h
  by_cases e1 : isNm v1 = false
  · rw [if_pos e1] at h; cases h
  rw [if_neg e1] at h
  by_cases e2 : isSz v2 = false
  · rw [if_pos e2] at h; cases h
  rw [if_neg e2] at h
  by_cases e3 : isSz v3 = false
  · rw [if_pos e3] at h; cases h
  rw [if_neg e3] at h
  have n4 := nmOf_is v4
  cases e4 : nmOf v4 with
  | none => rw [e4] at h; cases h
  | some par =>
  rw [e4] at h n4
  obtain ⟨rfl, npar⟩ := n4
  have h : (if dueSl par o5 = "" then (if dueLo o6 = "" then none else some (EK.b, dueLo o6)) else some (EK.l, dueSl par o5)) = none := h
  have e5 : dueSl par o5 = "" := by
    by_cases e : dueSl par o5 = ""
    · exact e
    · rw [if_neg e] at h; cases h
  rw [if_pos e5] at h
  have e6 : dueLo o6 = "" := by
    by_cases e : dueLo o6 = ""
    · exact e
    · rw [if_neg e] at h; cases h
  obtain ⟨y1, rfl, a1⟩ := nm_str (Bool.not_eq_false _ ▸ e1)
  obtain ⟨n2, rfl, b2⟩ := sz_int (Bool.not_eq_false _ ▸ e2)
  obtain ⟨n3, rfl, b3⟩ := sz_int (Bool.not_eq_false _ ▸ e3)
  have exh := ri.e
  cases o5 with
  | none => exact (none_ne e5).elim
  | some its =>
  cases e7 : badAt [par] its with
  | some k =>
    have kl := badAt_lt e7
    have l3 : its.length ≤ 3 := let ⟨_, _, _, _, l3, _⟩ := exh; l3
    rw [dueSl_k e7] at e5
    exact (txI_ne k (by omega) e5).elim
  | none =>
  obtain ⟨ps, sl, ok⟩ := good_slots exh e7
  have lx := ri.f
  cases o6 with
  | some o =>
    cases o with
    | none => exact (none_ne e6).elim
    | some m =>
      obtain ⟨rfl, _⟩ := lx
      exact (txI_ne 2 (by decide) e6).elim
  | none =>
    obtain ⟨d, k, k3, d8, q6, us6, rfl, hq6, pr6⟩ := lx
    have tl : ((three d).take k).length ≤ 3 := by rw [List.length_take]; exact Nat.le_trans (Nat.min_le_right ..) (Nat.le_refl 3)
    exact ⟨y1, n2, n3, par, ps, (three d).take k, rfl, a1, rfl, b2, rfl, b3, rfl, npar, sl, ok, ⟨q6, us6, rfl, hq6, pr6⟩, tl, fun s hs => (three_fine d8 s hs).1⟩
section
variable {P : Program} {w : World} {K : PySem.W.Frag} {mg : Str → Option Value} {base : Heap} {C : Kd → Addr} {CE CS CY : Addr} {CK : Sk → Addr}
/-- [str(each) for each in ..] -/
theorem lc_strs {σ : L2.St} {H : Hp} {ti : TE} {b : List SR} {n : Nat} (hti : ∀ Pq : VK, (∀ q us, SqT K H q us → Paired (SIs CK H) b us → Pq (.ref q) H) → ti σ H Pq) (hb : b.length ≤ 3) (fn : ∀ s ∈ b, s.Fine)
    (hw : ∀ x : V, wipe ((wipe σ [n]).set n (some x)) [n] = wipe σ [n]) (hx : ∀ x : V, ((wipe σ [n]).set n (some x))[n]? = some (some x)) (Pq : VK) (q : ∀ D G, Same H G → G D = some (.lst (b.map fun u => V.str (textS u))) → Pq (.ref D) G) : tLc (iTup K ti) (gName n) tYes (tCB (rOwnS (IsS CK) (spStStr CK)) (tCons (tVar n) tNil)) [n] σ H Pq := by
  refine hti _ fun q1 us hq p => ⟨q1, rfl, ⟨_, hq⟩, fun D1 nD => ?_⟩
  refine lc_call (walk_tup (K := K) (a := q1) (xs := us)) nD (b.map fun u => V.str (textS u)) (by rw [List.length_map]; exact pair_len p) (by rw [← pair_len p]; omega) (fun G sG => ?_) (fun i x v G3 G' R hv sG hy hR => ?_) (fun Ga sa hDa => q D1 Ga sa hDa)
  · exact seqT_same hq sG
  · obtain ⟨rfl, hx2⟩ := hy
    obtain ⟨u, hu, iu⟩ := pair_at p hx2
    have ev : v = .str (textS u) := by
      rw [List.getElem?_map, hu] at hv
      exact (Option.some.inj hv).symm
    subst ev
    have is := iu.same sG
    obtain ⟨a, dx, fs, e, ha⟩ := is.ins
    subst e
    exact ⟨hw _, _, hx _, a, CK u.kind, dx, fs, rfl, ⟨_, rfl⟩, ha, u, _, rfl, is, fn u (List.mem_of_getElem? hu), ⟨_, rfl⟩, hR _ (.refl _)⟩
theorem shapedL_strs {xs : List Str} (h : ∀ x ∈ xs, PyData.strOk x = true) : SeqAt.shaped (.list (xs.map .str)) = true := shapedT_strs h
def n_shown : List Str := ["_law_row", "_law_mine", "_law_told_here", "_law_each"]
theorem sc_shown : FnScope n_shown ["_law_row", "_law_mine"] (defScope s_shown) := ⟨rfl, rfl, rfl, by decide +kernel, rfl, by decide +kernel, by decide +kernel⟩
def spShown (CY : Addr) (CK : Sk → Addr) : Sp := fun vs H Q _ => ∃ (r : Addr) (x v1 v2 v3 v4 v5 v6 : V) (z1 : Str) (n2 n3 : Int) (z4 : Str) (ps : List (Str × Int)) (b : List SR), vs = [.ref r, x] ∧ H r = some (.lst [v1, v2, v3, v4, v5, v6]) ∧ GoodR CK H v1 v2 v3 v4 v5 v6 z1 n2 n3 z4 ps b ∧ EntIs CY H v1 v2 v3 v4 v5 v6 x ∧ ∀ G, Same H G → Q (.bl true) G
theorem ok_shown (T : Txt mg) (Y : YT K mg CY) (O1 : Own P w K mg base 1 "__str__" ["self"] (IsS CK) (spStStr CK)) (D : Dfn K mg "_law_shown" s_shown ["_law_row", "_law_mine"]) : CalG P w K mg base 4 "_law_shown" ["_law_row", "_law_mine"] (spShown CY CK) := by
  refine D.ok sc_shown (fun vs H Q E h => ?_) (fun f cdv A fr s H vs Q E hr hgd h => ?_)
  · obtain ⟨r, x, v1, v2, v3, v4, v5, v6, z1, n2, n3, z4, ps, b, rfl, _⟩ := h
    rfl
  · obtain ⟨r, x, v1, v2, v3, v4, v5, v6, z1, n2, n3, z4, ps, b, rfl, hR, g, ⟨a, dx, fs, rfl, ha, ff⟩, fin⟩ := h
    refine ⟨_, pss_cons (ps_set (i := 2) sc_shown.nd rfl (.inl rfl) (pe_lstN (pa_cons (pe_fld (pv 1) rfl) (pa_cons (pe_fld (pv 1) rfl) (pa_cons (pe_fld (pv 1) rfl) (pa_cons (pe_fld (pv 1) rfl) (pa_cons (pe_fld (pv 1) rfl) pa_nil)))))))
      (pss_cons (ps_if (PW.pt (pw_or (pt_cmpR op_ne (pe_callB (cr_rep (roomH_of (hr.mono (by decide))) hgd) rfl T.b_repr (by decide +kernel) (pa_cons (pv 2) pa_nil)) (pe_callB (cr_rep (roomH_of (hr.mono (by decide))) hgd) rfl T.b_repr (by decide +kernel) (pa_cons (pe_callTy call_list_ofN rfl T.b_list (by decide +kernel) (pa_cons (pe_slice sl_list (pv 0) po_none (po_some pe_int)) pa_nil)) pa_nil)) (nomark _))
        (pw_or (pt_not (pt_val (pe_callB call_isi rfl T.b_isinstance (by decide +kernel) (pa_cons (pe_fld (pv 1) rfl) (pa_cons (pe_bltn (v := .ty "tuple") (u := .type "tuple") rfl T.b_tuple (by decide +kernel) rfl) pa_nil)))))
        (pw_or1 (pt_cmpR op_ne (pe_callB call_len_seq rfl T.b_len (by decide +kernel) (pa_cons (pe_fld (pv 1) rfl) pa_nil)) (pe_callB call_len_seq rfl T.b_len (by decide +kernel) (pa_cons (pe_ix ix_list (pv 0) pe_int (fun _ _ => rfl)) pa_nil)) (nomark _))))))
        (pss_one (ps_ret pe_bl)) (pss_nil))
      (pss_one (ps_ret (pe_cmpR (op_eqD hr.units) (pe_lc (own := [("_law_each", 3)]) (g := gName 3) (tt := tYes) rfl sc_shown.nd (pi_tup (pe_fld (pv 1) rfl)) (blkOk_by (N := n_shown) (sc := defScope s_shown) (by decide +kernel)) (fun _ _ _ _ _ => pg_name (i := 3) sc_shown.nd rfl (Or.inl rfl)) (fun _ _ _ _ _ => pts_nil) (fun _ _ _ _ _ => (pe_callTy (cr_strO O1 hr) rfl T.b_str (by decide +kernel) (pa_cons (pv 3) pa_nil))))
        (pe_lc (own := [("_law_each", 3)]) (g := gName 3) (tt := tYes) rfl sc_shown.nd (pi_tup (pe_ix ix_list (pv 0) pe_int (fun _ _ => rfl))) (blkOk_by (N := n_shown) (sc := defScope s_shown) (by decide +kernel)) (fun _ _ _ _ _ => pg_name (i := 3) sc_shown.nd rfl (Or.inl rfl)) (fun _ _ _ _ _ => pts_nil) (fun _ _ _ _ _ => (pe_callTy (cr_strO O1 hr) rfl T.b_str (by decide +kernel) (pa_cons (pv 3) pa_nil)))) (nomark _))))), ?_⟩
    have cl := Y.own.cl
    have n1 := Y.na "name" (by decide +kernel)
    have n2' := Y.na "arguments" (by decide +kernel)
    have n3' := Y.na "results" (by decide +kernel)
    have n4 := Y.na "parameter" (by decide +kernel)
    have n5 := Y.na "slots" (by decide +kernel)
    have n6 := Y.na "body" (by decide +kernel)
    refine ⟨_, rfl, a, _, dx, fs, _, rfl, ha, cl, n1, ff.name, _, rfl, a, _, dx, fs, _, rfl, ha, cl, n2', ff.arguments, _, rfl, a, _, dx, fs, _, rfl, ha, cl, n3', ff.results, _, rfl, a, _, dx, fs, _, rfl, ha, cl, n4, ff.parameter, _, rfl, a, _, dx, fs, _, rfl, ha, cl, n5, ff.slots, (show 5 ≤ sizeLine by decide), fun l nl sm => ?_⟩
    have s1 := same_new (o := .lst [v1, v2, v3, v4, v5]) nl
    have hl : upd H l (.lst [v1, v2, v3, v4, v5]) l = some (.lst [v1, v2, v3, v4, v5]) := upd_same
    generalize upd H l (.lst [v1, v2, v3, v4, v5]) = H1 at s1 hl
    have g1 := g.go s1
    obtain ⟨rfl, a1, rfl, b2, rfl, b3, rfl, a4, sl, ok, ⟨q6, us6, rfl, hq6, pr6⟩, fw, fn⟩ := g1
    have five : ∀ G m, Same H1 G → (m == sysModules) = false → G m = some (.lst [.str z1, .int n2, .int n3, .str z4, v5]) → ShK K G (.ref m) (fiveD z1 z4 n2 n3 ps).shown := fun G m s e h => shk_five h e (sl.go (.of s)) ok a1 a4 b2 b3
    refine ⟨_, rfl, ?_⟩
    refine ⟨_, _, rfl, five _ _ (.refl _) sm hl, ?_⟩
    refine ⟨_, rfl, _, rfl, r, _, rfl, SqL.of (s1 _ _ hR), fun m nm => ⟨m, _, rfl, .inl (SqL.of upd_same), fun l2 nl2 sm2 => ?_⟩⟩
    have s2 := (same_new (o := .lst (cutV [.str z1, .int n2, .int n3, .str z4, v5, .ref q6] none (some 5))) nm).trans (same_new (o := .lst (cutV [.str z1, .int n2, .int n3, .str z4, v5, .ref q6] none (some 5))) nl2)
    have hl2 := upd_same (H := upd H1 m (.lst (cutV [.str z1, .int n2, .int n3, .str z4, v5, .ref q6] none (some 5)))) (a := l2) (o := .lst (cutV [.str z1, .int n2, .int n3, .str z4, v5, .ref q6] none (some 5)))
    rw [show cutV [V.str z1, .int n2, .int n3, .str z4, v5, .ref q6] none (some (5 : Int)) = [.str z1, .int n2, .int n3, .str z4, v5] from cut_take [V.str z1, .int n2, .int n3, .str z4, v5, .ref q6] (j := 5) (show 5 ≤ 6 by decide)] at *
    refine ⟨_, _, rfl, five _ _ s2 sm2 hl2, ?_⟩
    generalize upd (upd H1 m (.lst [V.str z1, .int n2, .int n3, .str z4, v5])) l2 (.lst [V.str z1, .int n2, .int n3, .str z4, v5]) = H2 at s2 hl2
    have s12 := s1.trans s2
    have ha2 := s12 _ _ ha
    refine ⟨rfl, ?_⟩
    rw [show ∀ x : V, (!decide (x = x)) = false from fun x => by rw [decide_eq_true rfl]; rfl]
    obtain ⟨ty, ht, hk⟩ := seqT_ty (SqT.of (K := K) (s2 _ _ hq6))
    refine ⟨_, rfl, iteF ⟨_, rfl, a, _, dx, fs, _, rfl, ha2, cl, n6, ff.body, _, _, ty, _, true, rfl, .ty "tuple", ht, hk, true, rfl, iteF ?_⟩⟩
    refine ⟨_, rfl, a, _, dx, fs, _, rfl, ha2, cl, n6, ff.body, q6, us6, rfl, .inr (SqT.of (s2 _ _ hq6)), ?_⟩
    refine ⟨_, rfl, r, _, 5, _, rfl, rfl, SqL.of (s12 _ _ hR), atI_nat (j := 5) rfl, q6, us6, rfl, .inr (SqT.of (s2 _ _ hq6)), ?_⟩
    refine ⟨rfl, ?_⟩
    rw [show ∀ x : V, (!decide (x = x)) = false from fun x => by rw [decide_eq_true rfl]; rfl]
    refine ⟨_, rfl, iteF ?_⟩
    show tOp (rEqD K) (tLc (iTup K (tFld K (tVar 1) "body")) (gName 3) tYes (tCB (rOwnS (IsS CK) (spStStr CK)) (tCons (tVar 3) tNil)) [3]) (tLc (iTup K (tOp (rIxL K) (tVar 0) (tC (.int 5)))) (gName 3) tYes (tCB (rOwnS (IsS CK) (spStStr CK)) (tCons (tVar 3) tNil)) [3]) ((L2.start n_shown [V.ref r, V.ref a]).set 2 (some (V.ref l))) H2 Q
    refine lc_strs (σ := (L2.start n_shown [V.ref r, V.ref a]).set 2 (some (V.ref l))) (K := K) (CK := CK) (b := b) (n := 3) (ti := tFld K (tVar 1) "body") (fun Pq k => ⟨_, rfl, a, _, dx, fs, _, rfl, ha2, cl, n6, ff.body, k q6 us6 (SqT.of (s2 _ _ hq6)) (pair_mem pr6 fun x y i => i.same s2)⟩) fw fn (fun _ => rfl) (fun _ => rfl) _ fun D G sG hD => ?_
    refine lc_strs (σ := (L2.start n_shown [V.ref r, V.ref a]).set 2 (some (V.ref l))) (K := K) (CK := CK) (b := b) (n := 3) (ti := tOp (rIxL K) (tVar 0) (tC (.int 5))) (fun Pq k => ⟨_, rfl, r, _, 5, _, rfl, rfl, SqL.of (sG _ _ (s12 _ _ hR)), atI_nat (j := 5) rfl, k q6 us6 (SqT.of (sG _ _ (s2 _ _ hq6))) (pair_mem pr6 fun x y i => i.same (s2.trans sG))⟩) fw fn (fun _ => rfl) (fun _ => rfl) _ fun D2 G2 sG2 hD2 => ?_
    have eb : b.map (fun u => V.str (textS u)) = (b.map textS).map V.str := by rw [List.map_map]; rfl
    rw [eb] at hD hD2
    have so : ∀ z ∈ b.map textS, PyData.strOk z = true := fun z hz => by
      obtain ⟨u, hu, rfl⟩ := List.mem_map.mp hz
      show PyData.strOk (Txt.join "\n" u.lines) = true
      rw [TL.join_eq]
      exact strOk_join (strOk_of _) (fn u hu).ok
    refine ⟨.list ((b.map textS).map PyData.str), .list ((b.map textS).map PyData.str), .lst (SqL.of (sG2 _ _ hD)) (dp_strs _), .lst (SqL.of hD2) (dp_strs _), shapedL_strs so, shapedL_strs so, ?_⟩
    rw [show PyData.eqv (.list ((b.map textS).map PyData.str)) (.list ((b.map textS).map PyData.str)) = decide (b.map textS = b.map textS) from eqv_strs _ _, decide_eq_true rfl]
    exact fin _ ((s12.trans sG).trans sG2)
end
end Jo

set_option Elab.async false
set_option linter.all false
set_option maxRecDepth 100000
set_option maxHeartbeats 2000000
namespace Jo
open PySem PySem.Spec PyProof.Rows L2 ClX
/-! ### rows that are good, and what a change makes of them -/
def disj : List Str → List Str → Prop
  | _, [] => True
  | t, z :: r => z ∉ t ∧ disj (t ++ [z]) r
theorem disj_sub : ∀ {l t t2 : List Str}, (∀ z ∈ t2, z ∈ t) → disj t l → disj t2 l
  | [], _, _, _, _ => trivial
  | z :: r, t, t2, h, ⟨h1, h2⟩ => ⟨fun m => h1 (h z m), disj_sub (fun x hx => by
    rcases List.mem_append.mp hx with m | m
    · exact List.mem_append.mpr (.inl (h x m))
    · exact List.mem_append.mpr (.inr m)) h2⟩
theorem disj_add : ∀ {l t : List Str} {y : Str}, disj t l → y ∉ l → disj (y :: t) l
  | [], _, _, _, _ => trivial
  | z :: r, t, y, ⟨h1, h2⟩, n => ⟨fun m => by
    rcases List.mem_cons.mp m with e | m
    · exact n (by rw [e]; exact List.mem_cons_self ..)
    · exact h1 m, disj_add h2 fun m => n (List.mem_cons_of_mem _ m)⟩
theorem bad_disj : ∀ {ps : List (Str × Int)} {t : List Str}, disj t (ps.map (·.1)) → badAt t (ps.map fun p => some (some p.1, true)) = none
  | [], _, _ => rfl
  | p :: ps, t, ⟨h1, h2⟩ => by
    show (if p.1 ∈ t then some 0 else (badAt (t ++ [p.1]) (ps.map fun p => some (some p.1, true))).map (· + 1)) = none
    rw [if_neg h1, bad_disj h2]
    rfl
theorem its_disj {K : PySem.W.Frag} {H : Hp} : ∀ {its : List It} {us : List V} {t : List Str}, Paired (ItG K H) its us → badAt t its = none → ∃ ps : List (Str × Int), Paired (PrI H) ps us ∧ (∀ p ∈ ps, nmS p.1 = true ∧ 1 ≤ p.2 ∧ p.2 ≤ 40) ∧ disj t (ps.map (·.1))
  | _, _, _, .nil, _ => ⟨[], .nil, (fun p h => by cases h), trivial⟩
  | none :: its, _, _, .cons _ _, e => by cases e
  | some (none, _) :: its, _, _, .cons _ _, e => by cases e
  | some (some _, false) :: its, _, _, .cons _ _, e => by cases e
  | some (some z, true) :: its, u :: us, t, .cons i p, e => by
    have e2 : (if z ∈ t then some 0 else (badAt (t ++ [z]) its).map (· + 1)) = none := e
    by_cases m : z ∈ t
    · rw [if_pos m] at e2; cases e2
    · rw [if_neg m] at e2
      have e3 : badAt (t ++ [z]) its = none := by
        cases q : badAt (t ++ [z]) its with
        | none => rfl
        | some k => rw [q] at e2; cases e2
      obtain ⟨ps, h1, h2, h3⟩ := its_disj p e3
      obtain ⟨q, x, y, e4, h4, _, _, _, ⟨rfl, nz⟩, sz⟩ := i
      obtain ⟨n, rfl, n1, n2⟩ := sz_int sz
      refine ⟨(z, n) :: ps, .cons ⟨q, e4, h4⟩ h1, fun p hp => ?_, m, h3⟩
      rcases List.mem_cons.mp hp with rfl | hp
      · exact ⟨nz, n1, n2⟩
      · exact h2 p hp
theorem GoodR.goes {CK : Sk → Addr} {H G : Hp} {v1 v2 v3 v4 v5 v6 : V} {z1 z4 : Str} {n2 n3 : Int} {ps : List (Str × Int)} {b : List SR} (h : GoodR CK H v1 v2 v3 v4 v5 v6 z1 n2 n3 z4 ps b) (g : Goes H G) : GoodR CK G v1 v2 v3 v4 v5 v6 z1 n2 n3 z4 ps b :=
  { h with sl := h.sl.go g, bd := let ⟨q, us, e, h1, h2⟩ := h.bd; ⟨q, us, e, g.tup h1, pair_mem h2 fun x y i => i.go g⟩ }
/-- a row that is made as it should: its slots' names differ, each statement is one line -/
structure FullR (CK : Sk → Addr) (H : Hp) (v1 v2 v3 v4 v5 v6 : V) (z1 : Str) (n2 n3 : Int) (z4 : Str) (ps : List (Str × Int)) (b : List SR) : Prop where
  g : GoodR CK H v1 v2 v3 v4 v5 v6 z1 n2 n3 z4 ps b
  nd : disj [z4] (ps.map (·.1))
  am : ∀ s ∈ b, s.amount = 1
theorem FullR.goes {CK : Sk → Addr} {H G : Hp} {v1 v2 v3 v4 v5 v6 : V} {z1 z4 : Str} {n2 n3 : Int} {ps : List (Str × Int)} {b : List SR} (h : FullR CK H v1 v2 v3 v4 v5 v6 z1 n2 n3 z4 ps b) (g : Goes H G) : FullR CK G v1 v2 v3 v4 v5 v6 z1 n2 n3 z4 ps b := ⟨h.g.goes g, h.nd, h.am⟩
theorem full_row {K : PySem.W.Frag} {CS : Addr} {CK : Sk → Addr} {H : Hp} {v1 v2 v3 v4 v5 v6 : V} {z1 z2 z3 z4 : Str} {o5 : Option (List It)} {o6 : Option (Option Nat)} (ri : RowIs K CS CK H v1 v2 v3 v4 v5 v6 z1 z2 z3 z4 o5 o6) (h : dueR v1 v2 v3 v4 z1 z2 z3 z4 o5 o6 = none) :
    ∃ y1 n2 n3 y4 ps b, FullR CK H v1 v2 v3 v4 v5 v6 y1 n2 n3 y4 ps b ∧ ∃ d k, d ≤ 8 ∧ b = (three d).take k := by
  unfold dueR at h
  by_cases e1 : isNm v1 = false
  · rw [if_pos e1] at h; cases h
  rw [if_neg e1] at h
  by_cases e2 : isSz v2 = false
  · rw [if_pos e2] at h; cases h
  rw [if_neg e2] at h
  by_cases e3 : isSz v3 = false
  · rw [if_pos e3] at h; cases h
  rw [if_neg e3] at h
  have n4 := nmOf_is v4
  cases e4 : nmOf v4 with
  | none => rw [e4] at h; cases h
  | some par =>
  rw [e4] at h n4
  obtain ⟨rfl, npar⟩ := n4
  have h : (if dueSl par o5 = "" then (if dueLo o6 = "" then none else some (EK.b, dueLo o6)) else some (EK.l, dueSl par o5)) = none := h
  have e5 : dueSl par o5 = "" := by
    by_cases e : dueSl par o5 = ""
    · exact e
    · rw [if_neg e] at h; cases h
  rw [if_pos e5] at h
  have e6 : dueLo o6 = "" := by
    by_cases e : dueLo o6 = ""
    · exact e
    · rw [if_neg e] at h; cases h
  obtain ⟨y1, rfl, a1⟩ := nm_str (Bool.not_eq_false _ ▸ e1)
  obtain ⟨n2, rfl, b2⟩ := sz_int (Bool.not_eq_false _ ▸ e2)
  obtain ⟨n3, rfl, b3⟩ := sz_int (Bool.not_eq_false _ ▸ e3)
  have exh := ri.e
  cases o5 with
  | none => exact (none_ne e5).elim
  | some its =>
  cases e7 : badAt [par] its with
  | some k =>
    have kl := badAt_lt e7
    have l3 : its.length ≤ 3 := let ⟨_, _, _, _, l3, _⟩ := exh; l3
    rw [dueSl_k e7] at e5
    exact (txI_ne k (by omega) e5).elim
  | none =>
  obtain ⟨q, us, rfl, hq, l3, pr⟩ := exh
  obtain ⟨ps, h1, h2, h3⟩ := its_disj pr e7
  have pl1 := pair_len h1
  have pl2 := pair_len pr
  have lx := ri.f
  cases o6 with
  | some o =>
    cases o with
    | none => exact (none_ne e6).elim
    | some m =>
      obtain ⟨rfl, _⟩ := lx
      exact (txI_ne 2 (by decide) e6).elim
  | none =>
    obtain ⟨d, k, k3, d8, q6, us6, rfl, hq6, pr6⟩ := lx
    have tl : ((three d).take k).length ≤ 3 := by rw [List.length_take]; exact Nat.le_trans (Nat.min_le_right ..) (Nat.le_refl 3)
    exact ⟨y1, n2, n3, par, ps, (three d).take k, ⟨⟨rfl, a1, rfl, b2, rfl, b3, rfl, npar, ⟨q, us, rfl, hq, h1⟩, ⟨by omega, h2⟩, ⟨q6, us6, rfl, hq6, pr6⟩, tl, fun s hs => (three_fine d8 s hs).1⟩, h3, fun s hs => (three_fine d8 s hs).2⟩, d, k, d8, rfl⟩
theorem PrI.it {K : PySem.W.Frag} {H : Hp} {p : Str × Int} {u : V} (h : PrI H p u) (o : nmS p.1 = true ∧ 1 ≤ p.2 ∧ p.2 ≤ 40) : ItIs K H (some (some p.1, true)) u :=
  let ⟨q, e, h1⟩ := h
  ⟨q, _, _, e, SqT.of h1, fun _ _ => any_str _, fun _ _ => any_int _, (fun y e => by cases e; have := nm_len o.1; omega), ⟨rfl, o.1⟩, size_ok o.2.1 o.2.2⟩
theorem prs_it {K : PySem.W.Frag} {H : Hp} : ∀ {ps : List (Str × Int)} {us : List V}, Paired (PrI H) ps us → (∀ p ∈ ps, nmS p.1 = true ∧ 1 ≤ p.2 ∧ p.2 ≤ 40) → Paired (ItIs K H) (ps.map fun p => some (some p.1, true)) us
  | _, _, .nil, _ => .nil
  | p :: ps, _ :: _, .cons i r, h => .cons (i.it (h p (List.mem_cons_self ..))) (prs_it r fun x hx => h x (List.mem_cons_of_mem _ hx))
/-- an entry is made of it, whatever the errors lead to -/
theorem out_full {K : PySem.W.Frag} {CS CY : Addr} {CK : Sk → Addr} {A : EK → Addr} {H : Hp} {E : XK} {Q : VK} {v1 v2 v3 v4 v5 v6 : V} {z1 z4 : Str} {n2 n3 : Int} {ps : List (Str × Int)} {b : List SR} (h : FullR CK H v1 v2 v3 v4 v5 v6 z1 n2 n3 z4 ps b)
    (good : ∀ x G, Same H G → EntIs CY G v1 v2 v3 v4 v5 v6 (.ref x) → Q (.ref x) G) : OutE K CS CK A CY H E v1 v2 v3 v4 v5 v6 Q := by
  obtain ⟨⟨e1, a1, e2, b2, e3, b3, e4, a4, ⟨q, us, e5, hq, pr⟩, ok, ⟨q6, us6, e6, hq6, pr6⟩, fw, fn⟩, nd, am⟩ := h
  have fl : ([b] : List (List SR)).flatten = b := by rw [List.flatten_cons, List.flatten_nil, List.append_nil]
  have fe := ok.few
  refine .inr ⟨⟨z1, e1, a1⟩, .inr ⟨⟨n2, e2, b2⟩, .inr ⟨⟨n3, e3, b3⟩, .inr ⟨z4, e4, a4, .inr ⟨⟨q, us, ps.map fun p => some (some p.1, true), e5, SqT.of hq, by rw [List.length_map]; exact fe, prs_it pr ok.all, bad_disj nd⟩, .inr ⟨⟨b, ⟨q6, us6, e6, SqT.of hq6, pr6⟩, ⟨(show 1 ≤ 2 by decide), (fun s hs => fn s (by rw [fl] at hs; exact hs)), by rw [fl]; omega⟩, ?_⟩, good⟩⟩⟩⟩⟩⟩
  show (([b] : List (List SR)).flatten.map SR.amount).sum ≤ 400
  rw [fl, sum_le _ am]
  omega
/-! ### the six changes -/
section
variable {CK : Sk → Addr} {H : Hp} {v1 v2 v3 v4 v5 v6 : V} {z1 z4 : Str} {n2 n3 : Int} {ps : List (Str × Int)} {b : List SR}
theorem chg0 (h : FullR CK H v1 v2 v3 v4 v5 v6 z1 n2 n3 z4 ps b) {y : Str} (a : nmS y = true) : FullR CK H (.str y) v2 v3 v4 v5 v6 y n2 n3 z4 ps b := ⟨{ h.g with e1 := rfl, a1 := a }, h.nd, h.am⟩
theorem chg1 (h : FullR CK H v1 v2 v3 v4 v5 v6 z1 n2 n3 z4 ps b) {m : Int} (a : 1 ≤ m ∧ m ≤ 40) : FullR CK H v1 (.int m) v3 v4 v5 v6 z1 m n3 z4 ps b := ⟨{ h.g with e2 := rfl, b2 := a }, h.nd, h.am⟩
theorem chg2 (h : FullR CK H v1 v2 v3 v4 v5 v6 z1 n2 n3 z4 ps b) {m : Int} (a : 1 ≤ m ∧ m ≤ 40) : FullR CK H v1 v2 (.int m) v4 v5 v6 z1 n2 m z4 ps b := ⟨{ h.g with e3 := rfl, b3 := a }, h.nd, h.am⟩
theorem chg3 (h : FullR CK H v1 v2 v3 v4 v5 v6 z1 n2 n3 z4 ps b) {y : Str} (a : nmS y = true) (n : y ∉ ps.map (·.1)) : FullR CK H v1 v2 v3 (.str y) v5 v6 z1 n2 n3 y ps b :=
  ⟨{ h.g with e4 := rfl, a4 := a }, disj_add (disj_sub (fun _ m => by cases m) h.nd) n, h.am⟩
/-- other slots -/
theorem chg4 (h : FullR CK H v1 v2 v3 v4 v5 v6 z1 n2 n3 z4 ps b) {w : V} {qs : List (Str × Int)} (s : SlD H w qs) (o : PsOk qs) (n : disj [z4] (qs.map (·.1))) : FullR CK H v1 v2 v3 v4 w v6 z1 n2 n3 z4 qs b :=
  ⟨{ h.g with sl := s, ok := o }, n, h.am⟩
/-- another body -/
theorem chg5 (h : FullR CK H v1 v2 v3 v4 v5 v6 z1 n2 n3 z4 ps b) {q : Addr} {us : List V} {d : List SR} (hq : H q = some (.tup us)) (p : Paired (SIs CK H) d us) (l : d.length ≤ 3) (f : ∀ s ∈ d, s.Fine ∧ s.amount = 1) : FullR CK H v1 v2 v3 v4 v5 (.ref q) z1 n2 n3 z4 ps d :=
  ⟨{ h.g with bd := ⟨q, us, rfl, hq, p⟩, fw := l, fn := fun s hs => (f s hs).1 }, h.nd, fun s hs => (f s hs).2⟩
/-- the slots but the first -/
theorem tail_nd {p : Str × Int} {ps : List (Str × Int)} (h : disj [z4] ((p :: ps).map (·.1))) : disj [z4] (ps.map (·.1)) :=
  disj_sub (fun _ m => List.mem_append.mpr (.inl m)) h.2
theorem tail_ok {p : Str × Int} {ps : List (Str × Int)} (h : PsOk (p :: ps)) : PsOk ps := ⟨by have := h.few; rw [List.length_cons] at this; omega, fun x hx => h.all x (List.mem_cons_of_mem _ hx)⟩
/-- a size's neighbour: mod 40, and one more -/
theorem next_size {n : Int} (h : 1 ≤ n ∧ n ≤ 40) : (1 ≤ n % 40 + 1 ∧ n % 40 + 1 ≤ 40) ∧ n % 40 + 1 ≠ n := by omega
end
end Jo

set_option Elab.async false
set_option linter.all false
set_option maxRecDepth 100000
set_option maxHeartbeats 2000000
namespace Jo
open PySem PySem.Spec PyProof.Rows L2 ClX
/-! ### == of entries, part by part -/
section
variable {K : PySem.W.Frag} {H : Hp} {Q : VK} {rest : Prop}
theorem et_str {z w : Str} (y : z = w → rest) (n : z ≠ w → Q (.bl false) H) : eqThen rEq (.str z) (.str w) H Q rest := by
  refine ⟨rfl, decide (V.str z = V.str w), rfl, ?_⟩
  by_cases e : z = w
  · rw [if_pos (decide_eq_true (by rw [e]))]
    exact ⟨rfl, y e⟩
  · rw [if_neg (fun q => e (V.str.inj (of_decide_eq_true q)))]
    exact n e
theorem et_int {z w : Int} (y : z = w → rest) (n : z ≠ w → Q (.bl false) H) : eqThen rEq (.int z) (.int w) H Q rest := by
  refine ⟨rfl, decide (V.int z = V.int w), rfl, ?_⟩
  by_cases e : z = w
  · rw [if_pos (decide_eq_true (by rw [e]))]
    exact ⟨rfl, y e⟩
  · rw [if_neg (fun q => e (V.int.inj (of_decide_eq_true q)))]
    exact n e
theorem et_sl {v w : V} {ps : List (Str × Int)} (h : SlD H v ps) (h2 : SlD H w ps) (o : PsOk ps) (y : rest) : eqThen (rEqD K) v w H Q rest := by
  refine ⟨slD ps, slD ps, h.dp, h2.dp, shaped_sl o, shaped_sl o, true, by rw [eqv_sl], ?_⟩
  rw [if_pos rfl]
  exact ⟨rfl, y⟩
theorem et_slN {v w : V} {ps qs : List (Str × Int)} (h : SlD H v ps) (h2 : SlD H w qs) (o : PsOk ps) (o2 : PsOk qs) (ne : ps.length ≠ qs.length) (n : Q (.bl false) H) : eqThen (rEqD K) v w H Q rest := by
  refine ⟨slD ps, slD qs, h.dp, h2.dp, shaped_sl o, shaped_sl o2, false, by rw [eqv_sl_ne ne], ?_⟩
  rw [if_neg (by decide)]
  exact n
end
theorem str_inj : ∀ {xs ys : List Str}, xs.map V.str = ys.map V.str → xs = ys
  | [], [], _ => rfl
  | [], _ :: _, e => by cases e
  | _ :: _, [], e => by cases e
  | x :: xs, y :: ys, e => by
    rw [List.map_cons, List.map_cons] at e
    injection e with e1 e2
    rw [V.str.inj e1, str_inj e2]
theorem three_df : ∀ d ∈ List.range 9, ((three d)[0]?.map SR.lines) ≠ ((three d)[1]?.map SR.lines) := by decide +kernel
section
variable {K : PySem.W.Frag} {CS CY : Addr} {CK : Sk → Addr} {H : Hp} {Q : VK} {v1 v2 v3 v4 v5 v6 x y : V} {z1 z4 : Str} {n2 n3 : Int} {ps : List (Str × Int)} {b : List SR}
theorem SIs.isref {s : SR} {v : V} (h : SIs CK H s v) : ∃ a, v = .ref a := let ⟨a, _, _, e, _⟩ := h.ins; ⟨a, e⟩
theorem refs_of {us : List V} (p : Paired (SIs CK H) b us) : ∀ x ∈ us, ∃ a, x = .ref a := by
  induction p with
  | nil => exact fun x h => by cases h
  | cons i _ ih =>
    refine fun x h => ?_
    rcases List.mem_cons.mp h with rfl | h
    · exact i.isref
    · exact ih x h
theorem eb_same {q : Addr} {us : List V} (hq : H q = some (.tup us)) (p : Paired (SIs CK H) b us) (k : ∀ G, Ext H G → Q (.bl true) G) : eqBody K CS CK (.ref q) (.ref q) H Q :=
  .inl ⟨⟨q, q, us, us, rfl, rfl, SqT.of hq, SqT.of hq, prs_id (refs_of p)⟩, k⟩
theorem eb_zero {q q2 : Addr} {us ws : List V} (hq : H q = some (.tup us)) (hq2 : H q2 = some (.tup ws)) (z : us = [] ∨ ws = []) (ne : us.length ≠ ws.length) (k : Q (.bl false) H) : eqBody K CS CK (.ref q) (.ref q2) H Q :=
  .inr (.inr ⟨q, q2, us, ws, rfl, rfl, SqT.of hq, SqT.of hq2, z, by rw [decide_eq_false ne]; exact k⟩)
/-- two entries of one row -/
theorem ent_same (h : FullR CK H v1 v2 v3 v4 v5 v6 z1 n2 n3 z4 ps b) (ex : EntIs CY H v1 v2 v3 v4 v5 v6 x) (ey : EntIs CY H v1 v2 v3 v4 v5 v6 y) (k : ∀ G, Ext H G → Q (.bl true) G) : spEntEq K CS CK CY [x, y] H Q E0 := by
  obtain ⟨⟨rfl, a1, rfl, b2, rfl, b3, rfl, a4, sl, ok, ⟨q6, us6, rfl, hq6, pr6⟩, fw, fn⟩, nd, am⟩ := h
  exact ⟨x, y, _, _, _, _, _, _, rfl, ex, .inr ⟨_, _, _, _, _, _, ey, et_str (fun _ => et_int (fun _ => et_int (fun _ => et_str (fun _ => et_sl sl sl ok (eb_same hq6 pr6 k)) (fun e => (e rfl).elim)) (fun e => (e rfl).elim)) (fun e => (e rfl).elim)) (fun e => (e rfl).elim)⟩⟩
/-- two entries whose rows differ somewhere -/
theorem ent_diff {w1 w2 w3 w4 w5 w6 : V} {y1 y4 : Str} {m2 m3 : Int} {qs : List (Str × Int)} {c : List SR} (h : FullR CK H v1 v2 v3 v4 v5 v6 z1 n2 n3 z4 ps b) (g : FullR CK H w1 w2 w3 w4 w5 w6 y1 m2 m3 y4 qs c) (ex : EntIs CY H v1 v2 v3 v4 v5 v6 x) (ey : EntIs CY H w1 w2 w3 w4 w5 w6 y)
    (hs : ps = qs ∨ ps.length ≠ qs.length) (hb : z1 = y1 → n2 = m2 → n3 = m3 → z4 = y4 → ps = qs → eqBody K CS CK v6 w6 H Q) (n : Q (.bl false) H) : spEntEq K CS CK CY [x, y] H Q E0 := by
  obtain ⟨⟨rfl, a1, rfl, b2, rfl, b3, rfl, a4, sl, ok, ⟨q6, us6, rfl, hq6, pr6⟩, fw, fn⟩, nd, am⟩ := h
  obtain ⟨⟨rfl, a1', rfl, b2', rfl, b3', rfl, a4', sl', ok', ⟨q6', us6', rfl, hq6', pr6'⟩, fw', fn'⟩, nd', am'⟩ := g
  refine ⟨x, y, _, _, _, _, _, _, rfl, ex, .inr ⟨_, _, _, _, _, _, ey, et_str (fun e1 => et_int (fun e2 => et_int (fun e3 => et_str (fun e4 => ?_) fun _ => n) fun _ => n) fun _ => n) fun _ => n⟩⟩
  rcases hs with rfl | ne
  · exact et_sl sl sl' ok (hb e1 e2 e3 e4 rfl)
  · exact et_slN sl sl' ok ok' ne n
/-- .. where the first statements of their bodies differ -/
theorem eb_first {q q2 : Addr} {s s2 : SR} {u u2 : V} {us us2 : List V} (hq : H q = some (.tup (u :: us))) (hq2 : H q2 = some (.tup (u2 :: us2))) (i : SIs CK H s u) (i2 : SIs CK H s2 u2) (f : s.Fine) (f2 : s2.Fine) (ne : s.lines ≠ s2.lines)
    (nf : PySem.W.notFirst K (CK s.kind) (.ref (CK s2.kind)) = true) (k : Q (.bl false) H) : eqBody K CS CK (.ref q) (.ref q2) H Q := by
  have i0 := i
  have i20 := i2
  obtain ⟨a, dx, r, fs, rfl, h1, h2, h3, h4, h5⟩ := i
  obtain ⟨a2, dx2, r2, fs2, rfl, e1, e2, e3, e4, e5⟩ := i2
  have na : a ≠ a2 := fun e => by
    subst e
    have ei := Option.some.inj (h1.symm.trans e1)
    injection ei with _ _ ef
    subst ef
    have er := V.ref.inj (Option.some.inj (h4.symm.trans e4))
    subst er
    rw [h5] at e5
    have e6 : s.lines.map V.str = s2.lines.map V.str := by injection e5 with e5; injection e5
    exact ne (str_inj e6)
  exact .inr (.inl ⟨q, q2, a, a2, us, us2, CK s.kind, dx, fs, _, rfl, rfl, SqT.of hq, SqT.of hq2, na, ⟨_, rfl⟩, h1, .ins e1, nf, s, _, _, false, rfl, i0, f, .inl ⟨s2, i20, f2, by rw [decide_eq_false ne]⟩, rfl, k⟩)
end
end Jo

set_option Elab.async false
set_option linter.all false
set_option maxRecDepth 100000
set_option maxHeartbeats 2000000
namespace Jo
open PySem PySem.Spec PyProof.Rows L2 ClX
/-! ### all but lists and tables goes on -/
def Go2 (H G : Hp) : Prop := ∀ b o, H b = some o → (∀ xs, o ≠ .lst xs) → (∀ ps, o ≠ .tbl ps) → G b = some o
theorem Go2.refl (H : Hp) : Go2 H H := fun _ _ h _ _ => h
theorem Go2.trans {H G G2 : Hp} (a : Go2 H G) (b : Go2 G G2) : Go2 H G2 := fun q o e n1 n2 => b q o (a q o e n1 n2) n1 n2
theorem Go2.of {H G : Hp} (s : Same H G) : Go2 H G := fun b o e _ _ => s b o e
theorem Go2.put {H : Hp} {a : Addr} {xs : List V} {o : HO} (h : H a = some (.lst xs)) : Go2 H (upd H a o) := fun b u e n _ => by
  rw [upd_ne (fun z => by rw [z, h] at e; cases e; exact n _ rfl)]
  exact e
theorem Go2.kp {p : Addr} {H G : Hp} (hp : PurseAt H p) (k : Kp p H G) : Go2 H G := fun b o e n _ => k b o e fun z => by
  obtain ⟨x, y, q, hh⟩ := hp
  rw [z, hh] at e
  cases e
  exact n _ rfl
theorem Go2.ins {H G : Hp} (k : Go2 H G) {a C dx : Addr} {fs : List (Str × V)} (h : H a = some (.ins C dx fs)) : G a = some (.ins C dx fs) := k _ _ h (fun _ z => by cases z) (fun _ z => by cases z)
theorem Go2.tup {H G : Hp} (k : Go2 H G) {a : Addr} {xs : List V} (h : H a = some (.tup xs)) : G a = some (.tup xs) := k _ _ h (fun _ z => by cases z) (fun _ z => by cases z)
theorem SIs.go2 {CK : Sk → Addr} {H G : Hp} {s : SR} {v : V} (h : SIs CK H s v) (k : Go2 H G) : SIs CK G s v :=
  let ⟨a, dx, q, fs, e, h1, h2, h3, h4, h5⟩ := h
  ⟨a, dx, q, fs, e, k.ins h1, h2, h3, h4, k.tup h5⟩
theorem SlD.go2 {H G : Hp} {v : V} {ps : List (Str × Int)} (h : SlD H v ps) (g : Go2 H G) : SlD G v ps :=
  let ⟨q, us, e, h1, h2⟩ := h
  ⟨q, us, e, g.tup h1, pair_mem h2 fun p u ⟨a, e, h⟩ => ⟨a, e, g.tup h⟩⟩
theorem EntIs.go2 {CY : Addr} {H G : Hp} {v1 v2 v3 v4 v5 v6 v : V} (h : EntIs CY H v1 v2 v3 v4 v5 v6 v) (s : Go2 H G) : EntIs CY G v1 v2 v3 v4 v5 v6 v := let ⟨a, dx, fs, e, h1, h2⟩ := h; ⟨a, dx, fs, e, s.ins h1, h2⟩
theorem FullR.go2 {CK : Sk → Addr} {H G : Hp} {v1 v2 v3 v4 v5 v6 : V} {z1 z4 : Str} {n2 n3 : Int} {ps : List (Str × Int)} {b : List SR} (h : FullR CK H v1 v2 v3 v4 v5 v6 z1 n2 n3 z4 ps b) (g : Go2 H G) : FullR CK G v1 v2 v3 v4 v5 v6 z1 n2 n3 z4 ps b :=
  ⟨{ h.g with sl := h.g.sl.go2 g, bd := let ⟨q, us, e, h1, h2⟩ := h.g.bd; ⟨q, us, e, g.tup h1, pair_mem h2 fun x y i => i.go2 g⟩ }, h.nd, h.am⟩
/-! ### a row that differs -/
/-- two bodies whose first statements, if any, differ -/
def BodyNe (CK : Sk → Addr) (H : Hp) (v w : V) : Prop := ∃ (q q2 : Addr) (us ws : List V) (b d : List SR), v = .ref q ∧ w = .ref q2 ∧ H q = some (.tup us) ∧ H q2 = some (.tup ws) ∧ Paired (SIs CK H) b us ∧ Paired (SIs CK H) d ws ∧
  (∀ s ∈ b, s.Fine ∧ s.kind.has = true) ∧ (∀ s ∈ d, s.Fine ∧ s.kind.has = true) ∧ b.head?.map SR.lines ≠ d.head?.map SR.lines
theorem BodyNe.symm {CK : Sk → Addr} {H : Hp} {v w : V} (h : BodyNe CK H v w) : BodyNe CK H w v :=
  let ⟨q, q2, us, ws, b, d, e1, e2, h1, h2, p1, p2, f1, f2, n⟩ := h
  ⟨q2, q, ws, us, d, b, e2, e1, h2, h1, p2, p1, f2, f1, fun e => n e.symm⟩
theorem BodyNe.go {CK : Sk → Addr} {H G : Hp} {v w : V} (h : BodyNe CK H v w) (g : Go2 H G) : BodyNe CK G v w :=
  let ⟨q, q2, us, ws, b, d, e1, e2, h1, h2, p1, p2, f1, f2, n⟩ := h
  ⟨q, q2, us, ws, b, d, e1, e2, g.tup h1, g.tup h2, pair_mem p1 fun x y i => i.go2 g, pair_mem p2 fun x y i => i.go2 g, f1, f2, n⟩
section
variable {K : PySem.W.Frag} {CS CY : Addr} {CK : Sk → Addr} {H : Hp} {Q : VK}
theorem BodyNe.eb {v w : V} (nf : ∀ k l : Sk, k.has = true → l.has = true → PySem.W.notFirst K (CK k) (.ref (CK l)) = true) (h : BodyNe CK H v w) (k : Q (.bl false) H) : eqBody K CS CK v w H Q := by
  obtain ⟨q, q2, us, ws, b, d, rfl, rfl, h1, h2, p1, p2, f1, f2, n⟩ := h
  cases p1 with
  | nil => cases p2 with
    | nil => exact (n rfl).elim
    | cons i2 r2 => exact eb_zero h1 h2 (.inl rfl) (by rw [List.length_cons]; exact fun e => Nat.noConfusion e) k
  | cons i1 r1 => cases p2 with
    | nil => exact eb_zero h1 h2 (.inr rfl) (by rw [List.length_cons]; exact fun e => Nat.noConfusion e) k
    | cons i2 r2 =>
      have g1 := f1 _ (List.mem_cons_self ..)
      have g2 := f2 _ (List.mem_cons_self ..)
      exact eb_first h1 h2 i1 i2 g1.1 g2.1 (fun e => n (congrArg some e)) (nf _ _ g1.2 g2.2) k
end
/-- another row: an entry is made of it, and it is another one -/
structure Dif (K : PySem.W.Frag) (CS CY : Addr) (CK : Sk → Addr) (H : Hp) (v1 v2 v3 v4 v5 v6 w1 w2 w3 w4 w5 w6 : V) : Prop where
  out : ∀ (A : EK → Addr) (E : XK) (Q : VK) (G : Hp), Go2 H G → (∀ x G2, Same G G2 → EntIs CY G2 w1 w2 w3 w4 w5 w6 (.ref x) → Q (.ref x) G2) → OutE K CS CK A CY G E w1 w2 w3 w4 w5 w6 Q
  ne1 : ∀ (Q : VK) (G : Hp) (x y : V), Go2 H G → EntIs CY G v1 v2 v3 v4 v5 v6 x → EntIs CY G w1 w2 w3 w4 w5 w6 y → Q (.bl false) G → spEntEq K CS CK CY [x, y] G Q E0
  ne2 : ∀ (Q : VK) (G : Hp) (x y : V), Go2 H G → EntIs CY G v1 v2 v3 v4 v5 v6 x → EntIs CY G w1 w2 w3 w4 w5 w6 y → Q (.bl false) G → spEntEq K CS CK CY [y, x] G Q E0
section
variable {K : PySem.W.Frag} {CS CY : Addr} {CK : Sk → Addr} {H : Hp} {v1 v2 v3 v4 v5 v6 : V} {z1 z4 : Str} {n2 n3 : Int} {ps : List (Str × Int)} {b : List SR}
theorem dif_of {w1 w2 w3 w4 w5 w6 : V} {y1 y4 : Str} {m2 m3 : Int} {qs : List (Str × Int)} {c : List SR} (nf : ∀ k l : Sk, k.has = true → l.has = true → PySem.W.notFirst K (CK k) (.ref (CK l)) = true)
    (h : FullR CK H v1 v2 v3 v4 v5 v6 z1 n2 n3 z4 ps b) (g : FullR CK H w1 w2 w3 w4 w5 w6 y1 m2 m3 y4 qs c) (hs : ps = qs ∨ ps.length ≠ qs.length)
    (hb : z1 = y1 → n2 = m2 → n3 = m3 → z4 = y4 → ps = qs → BodyNe CK H v6 w6) : Dif K CS CY CK H v1 v2 v3 v4 v5 v6 w1 w2 w3 w4 w5 w6 :=
  ⟨fun A E Q G go q => out_full (g.go2 go) q,
   fun Q G x y go ex ey k => ent_diff (h.go2 go) (g.go2 go) ex ey hs (fun e1 e2 e3 e4 e5 => ((hb e1 e2 e3 e4 e5).go go).eb nf k) k,
   fun Q G x y go ex ey k => ent_diff (g.go2 go) (h.go2 go) ey ex (hs.elim (fun e => .inl e.symm) fun e => .inr fun z => e z.symm) (fun e1 e2 e3 e4 e5 => ((hb e1.symm e2.symm e3.symm e4.symm e5.symm).go go).symm.eb nf k) k⟩
/-- the six changes, as they stand in the list -/
structure Chg6 (CK : Sk → Addr) (H : Hp) (v6 : V) (z1 z4 : Str) (n2 n3 : Int) (ps : List (Str × Int)) (c0 c1 c2 c3 c4 c5 : V) : Prop where
  a : ∃ y, c0 = .str y ∧ nmS y = true ∧ z1 ≠ y
  b : c1 = .int (n2 % 40 + 1)
  c : c2 = .int (n3 % 40 + 1)
  d : ∃ y, c3 = .str y ∧ nmS y = true ∧ z4 ≠ y ∧ y ∉ ps.map (·.1)
  e : ∃ qs, SlD H c4 qs ∧ PsOk qs ∧ disj [z4] (qs.map (·.1)) ∧ ps.length ≠ qs.length
  f : BodyNe CK H v6 c5 ∧ ∃ q us d, c5 = .ref q ∧ H q = some (.tup us) ∧ Paired (SIs CK H) d us ∧ d.length ≤ 3 ∧ ∀ s ∈ d, s.Fine ∧ s.amount = 1
theorem Chg6.pick (nf : ∀ k l : Sk, k.has = true → l.has = true → PySem.W.notFirst K (CK k) (.ref (CK l)) = true) (h : FullR CK H v1 v2 v3 v4 v5 v6 z1 n2 n3 z4 ps b) {c0 c1 c2 c3 c4 c5 : V} (g : Chg6 CK H v6 z1 z4 n2 n3 ps c0 c1 c2 c3 c4 c5) : ∀ {i : Nat}, i < 6 →
    ∃ c w1 w2 w3 w4 w5 w6, ([c0, c1, c2, c3, c4, c5] : List V)[i]? = some c ∧ ([v1, v2, v3, v4, v5, v6] : List V).set i c = [w1, w2, w3, w4, w5, w6] ∧ Dif K CS CY CK H v1 v2 v3 v4 v5 v6 w1 w2 w3 w4 w5 w6
  | 0, _ => let ⟨y, e, ny, ne⟩ := g.a; ⟨_, _, _, _, _, _, _, rfl, rfl, by rw [e]; exact dif_of nf h (chg0 h ny) (.inl rfl) fun q => (ne q).elim⟩
  | 1, _ => ⟨_, _, _, _, _, _, _, rfl, rfl, by rw [g.b]; exact dif_of nf h (chg1 h (next_size h.g.b2).1) (.inl rfl) fun _ q => ((next_size h.g.b2).2 q.symm).elim⟩
  | 2, _ => ⟨_, _, _, _, _, _, _, rfl, rfl, by rw [g.c]; exact dif_of nf h (chg2 h (next_size h.g.b3).1) (.inl rfl) fun _ _ q => ((next_size h.g.b3).2 q.symm).elim⟩
  | 3, _ => let ⟨y, e, ny, ne, nn⟩ := g.d; ⟨_, _, _, _, _, _, _, rfl, rfl, by rw [e]; exact dif_of nf h (chg3 h ny nn) (.inl rfl) fun _ _ _ q => (ne q).elim⟩
  | 4, _ => let ⟨qs, s, o, n, ne⟩ := g.e; ⟨_, _, _, _, _, _, _, rfl, rfl, dif_of nf h (chg4 h s o n) (.inr ne) fun _ _ _ _ q => (ne (congrArg List.length q)).elim⟩
  | 5, _ => let ⟨bn, q, us, d, e, hq, p, l, f⟩ := g.f; ⟨_, _, _, _, _, _, _, rfl, rfl, by rw [e]; rw [e] at bn; exact dif_of nf h (chg5 h hq p l f) (.inl rfl) fun _ _ _ _ _ => bn⟩
  | n + 6, h => by omega
/-- the body but its first statement is another one; where there is none, a call is -/
theorem bne_tail {q q2 : Addr} {us : List V} {d k : Nat} (d8 : d ≤ 8) (hq : H q = some (.tup us)) (p : Paired (SIs CK H) ((three d).take k) us) (ne : us ≠ []) (hq2 : H q2 = some (.tup (us.drop 1))) : BodyNe CK H (.ref q) (.ref q2) ∧
    ∃ q us2 d2, V.ref q2 = .ref q ∧ H q = some (.tup us2) ∧ Paired (SIs CK H) d2 us2 ∧ d2.length ≤ 3 ∧ ∀ s ∈ d2, s.Fine ∧ s.amount = 1 := by
  have hd := d8
  have kinds : ∀ s ∈ three d, s.kind.has = true := fun s hs => by
    rcases List.mem_cons.mp hs with rfl | hs
    · rfl
    rcases List.mem_cons.mp hs with rfl | hs
    · rfl
    rcases List.mem_cons.mp hs with rfl | hs
    · rfl
    · cases hs
  have f1 : ∀ s ∈ (three d).take k, s.Fine ∧ s.kind.has = true := fun s hs => ⟨(three_fine d8 s hs).1, kinds s (List.mem_of_mem_take hs)⟩
  have p2 : Paired (SIs CK H) (((three d).take k).drop 1) (us.drop 1) := by
    revert p
    generalize (three d).take k = l
    intro p
    cases p with
    | nil => exact .nil
    | cons i r => exact r
  have sub : ∀ s ∈ ((three d).take k).drop 1, s ∈ (three d).take k := fun s hs => List.mem_of_mem_drop hs
  have ll : (three d).length = 3 := rfl
  refine ⟨⟨q, q2, us, us.drop 1, _, _, rfl, rfl, hq, hq2, p, p2, f1, fun s hs => f1 s (sub s hs), ?_⟩, q2, _, _, rfl, hq2, p2, by rw [List.length_drop, List.length_take, ll]; omega, fun s hs => three_fine d8 s (sub s hs)⟩
  have nk : 1 ≤ k := by
    rcases k with _ | k
    · cases p; exact (ne rfl).elim
    · omega
  have df := three_df d (List.mem_range.mpr (by omega))
  intro e
  rcases k with _ | _ | k
  · omega
  · cases e
  · exact df e
/-- .. where there is none, a call is -/
theorem call_fine : (mkS (.call "ask" (.num 0) none) []).Fine ∧ (mkS (.call "ask" (.num 0) none) []).amount = 1 := by
  have h : (mkS (.call "ask" (.num 0) none) []).amount = 1 ∧ (mkS (.call "ask" (.num 0) none) []).height = 1 ∧ (mkS (.call "ask" (.num 0) none) []).lines = [(mkS (.call "ask" (.num 0) none) []).line] ∧ (mkS (.call "ask" (.num 0) none) []).line.length ≤ 100 ∧ PyData.strOk (mkS (.call "ask" (.num 0) none) []).line = true := by decide +kernel
  obtain ⟨h1, h2, h3, h4, h5⟩ := h
  refine ⟨⟨by omega, by omega, by omega, by rw [h3, h1]; exact (show 1 ≤ 2 * 1 by decide), fun l hl => ?_, ⟨_, h3⟩, fun l hl => ?_⟩, h1⟩
  · rw [h3] at hl
    rw [List.mem_singleton.mp hl]
    omega
  · rw [h3] at hl
    rw [List.mem_singleton.mp hl]
    exact h5
theorem bne_call {q q2 : Addr} {u : V} (hq : H q = some (.tup [])) (hq2 : H q2 = some (.tup [u])) (i : SIs CK H (mkS (.call "ask" (.num 0) none) []) u) : BodyNe CK H (.ref q) (.ref q2) ∧
    ∃ q us2 d2, V.ref q2 = .ref q ∧ H q = some (.tup us2) ∧ Paired (SIs CK H) d2 us2 ∧ d2.length ≤ 3 ∧ ∀ s ∈ d2, s.Fine ∧ s.amount = 1 :=
  have f : ∀ s ∈ [mkS (.call "ask" (.num 0) none) []], s.Fine ∧ s.amount = 1 := fun s hs => by
    rw [List.mem_singleton.mp hs]
    exact call_fine
  ⟨⟨q, q2, [], [u], [], _, rfl, rfl, hq, hq2, .nil, .cons i .nil, (fun s hs => by cases hs), (fun s hs => ⟨(f s hs).1, by rw [List.mem_singleton.mp hs]; rfl⟩), fun e => by cases e⟩, q2, [u], _, rfl, hq2, .cons i .nil, (show 1 ≤ 3 by decide), f⟩
end
end Jo

set_option Elab.async false
set_option linter.all false
set_option maxRecDepth 100000
set_option maxHeartbeats 2000000
namespace Jo
open PySem PySem.Spec PyProof.Rows L2 ClX
open L2H (RoomH roomH_of)
section
variable {P : Program} {w : World} {K : PySem.W.Frag} {mg : Str → Option Value} {base : Heap} {C : Kd → Addr} {CE CS CY : Addr} {CK : Sk → Addr} {A : EK → Addr}
def n_equal : List Str := ["_law_purse_here", "_law_row", "_law_mine", "_law_at", "_law_other", "_law_changes", "_law_told_here", "_law_each"]
theorem sc_equal : FnScope n_equal ["_law_purse_here", "_law_row"] (defScope s_equal_right) := ⟨rfl, rfl, rfl, by decide +kernel, rfl, by decide +kernel, by decide +kernel⟩
def spEqual (CK : Sk → Addr) : Sp := fun vs H Q _ => ∃ (p r : Addr) (v1 v2 v3 v4 v5 v6 : V) (z1 : Str) (n2 n3 : Int) (z4 : Str) (ps : List (Str × Int)) (d k : Nat), vs = [.ref p, .ref r] ∧ PurseAt H p ∧ H r = some (.lst [v1, v2, v3, v4, v5, v6]) ∧ d ≤ 8 ∧ FullR CK H v1 v2 v3 v4 v5 v6 z1 n2 n3 z4 ps ((three d).take k) ∧
  ∀ G, PurseAt G p → Kp p H G → Q (.bl true) G
/-- what the head knows of classes beside each other -/
structure NfY (K : PySem.W.Frag) (CY : Addr) (CK : Sk → Addr) : Prop where
  nf : ∀ k l : Sk, k.has = true → l.has = true → PySem.W.notFirst K (CK k) (.ref (CK l)) = true
  yy : PySem.W.notFirst K CY (.ref CY) = true
  ys : PySem.W.notFirst K CY (.type "str") = true
  ks : PySem.W.kitOne K (.type "str") (.ref CY) = some false
theorem ps_le {X : Cx} {st : Stmt} {t t' : TS} (h : PS X st t) (le : ∀ D σ H, t' D σ H → t D σ H) : PS X st t' := ⟨fun pins s σ H D I hq => h.run pins s σ H D I (le D σ H hq)⟩
/-- == of an entry and an entry; and a text -/
theorem rd_eqE (N : NfY K CY CK) {H : Hp} {Q : VK} {v1 v2 v3 v4 v5 v6 w1 w2 w3 w4 w5 w6 x y : V} (ex : EntIs CY H v1 v2 v3 v4 v5 v6 x) (ey : EntIs CY H w1 w2 w3 w4 w5 w6 y) (h : spEntEq K CS CK CY [x, y] H (fun v G => (∃ b, v = .bl b) ∧ Q v G) E0) : rEqO K (fun c => c = CY) (spEntEq K CS CK CY) x y H Q :=
  let ⟨a, dx, fs, e, ha, _⟩ := ex
  let ⟨b, dy, gs, e2, hb, _⟩ := ey
  ⟨a, CY, dx, fs, .ref CY, e, rfl, ha, by rw [e2]; exact .ins hb, N.yy, h⟩
theorem rd_eqS (N : NfY K CY CK) {H : Hp} {Q : VK} {v1 v2 v3 v4 v5 v6 x : V} {z : Str} (ex : EntIs CY H v1 v2 v3 v4 v5 v6 x) (q : Q (.bl false) H) : rEqO K (fun c => c = CY) (spEntEq K CS CK CY) x (.str z) H Q :=
  have e0 := ex
  let ⟨a, dx, fs, e, ha, _⟩ := ex
  ⟨a, CY, dx, fs, .type "str", e, rfl, ha, .str z, N.ys, x, .str z, _, _, _, _, _, _, rfl, e0, .inl ⟨.type "str", .base (.str z), N.ks, ⟨_, rfl⟩, q⟩⟩
theorem shk_four {G : Hp} {l : Addr} {a b c d : Bool} (hl : G l = some (.lst [.bl a, .bl b, .bl c, .bl d])) (sm : (l == sysModules) = false) : ShK K G (.ref l) (PyData.list [.bool a, .bool b, .bool c, .bool d]).shown :=
  ⟨.list [.bool a, .bool b, .bool c, .bool d], 2, .inr (.inr (.inr (.inr (.inl ⟨l, _, _, rfl, rfl, sm, SqL.of hl, .cons (.inr (.inl ⟨_, rfl, rfl⟩)) (.cons (.inr (.inl ⟨_, rfl, rfl⟩)) (.cons (.inr (.inl ⟨_, rfl, rfl⟩)) (.cons (.inr (.inl ⟨_, rfl, rfl⟩)) .nil)))⟩)))), rfl, (show 1 ≤ 60 by decide), by cases a <;> cases b <;> cases c <;> cases d <;> decide +kernel, rfl⟩
theorem none_back {p l : Addr} {H G : Hp} (k : Kp p H G) (pu : PurseAt G p) (n : G l = none) : H l = none := by
  cases e : H l with
  | none => rfl
  | some o =>
    by_cases q : l = p
    · obtain ⟨x, y, z, h⟩ := pu
      rw [q, h] at n
      cases n
    · rw [k l o e q] at n
      cases n
/-- other slots are put behind -/
def tC4 (p r : Addr) (z4 : Str) (ps : List (Str × Int)) : TS := fun D σ G => ∃ (l5 : Addr) (v1 v2 v3 v5 v6 : V) (xs : List V), σ[0]? = some (some (.ref p)) ∧ σ[1]? = some (some (.ref r)) ∧ σ[5]? = some (some (.ref l5)) ∧ PurseAt G p ∧ G r = some (.lst [v1, v2, v3, .str z4, v5, v6]) ∧ SlD G v5 ps ∧ PsOk ps ∧ disj [z4] (ps.map (·.1)) ∧ G l5 = some (.lst xs) ∧ xs.length ≤ 10 ∧ l5 ≠ p ∧ r ≠ p ∧
  ∀ (l : Addr) (c4 : V) (G2 : Hp), PurseAt G2 p → Kp p G G2 → G l = none → G2 l = some (.lst (xs ++ [c4])) → (∃ qs, SlD G2 c4 qs ∧ PsOk qs ∧ disj [z4] (qs.map (·.1)) ∧ ps.length ≠ qs.length) → D.nx (σ.set 5 (some (.ref l))) G2
/-- another body is put behind -/
def tC5 (CK : Sk → Addr) (p r : Addr) (d k : Nat) : TS := fun D σ G => ∃ (l5 : Addr) (v1 v2 v3 v4 v5 : V) (q : Addr) (us xs : List V), σ[0]? = some (some (.ref p)) ∧ σ[1]? = some (some (.ref r)) ∧ σ[5]? = some (some (.ref l5)) ∧ PurseAt G p ∧ G r = some (.lst [v1, v2, v3, v4, v5, .ref q]) ∧ d ≤ 8 ∧ G q = some (.tup us) ∧ Paired (SIs CK G) ((three d).take k) us ∧ G l5 = some (.lst xs) ∧ xs.length ≤ 10 ∧ l5 ≠ p ∧
  ∀ (c5 : V) (G2 : Hp), Go2 G G2 → (∀ b o, G b = some o → b ≠ l5 → G2 b = some o) → G2 l5 = some (.lst (xs ++ [c5])) → (BodyNe CK G2 (.ref q) c5 ∧ ∃ q us d, c5 = .ref q ∧ G2 q = some (.tup us) ∧ Paired (SIs CK G2) d us ∧ d.length ≤ 3 ∧ ∀ s ∈ d, s.Fine ∧ s.amount = 1) → D.nx σ G2
theorem ok_equal (T : Txt mg) (X : XT K mg C CE) (S : ST2 K mg C CE CS CK) (Mm : Makes P w K mg base C) (MS : MakesS P w K mg base C CK) (N : NfY K CY CK) (OE : Own P w K mg base 3 "__eq__" ["self", "other"] (fun c => c = CY) (spEntEq K CS CK CY)) (D : Dfn K mg "_law_equal_right" s_equal_right ["_law_purse_here", "_law_row"])
    (c_draw : CalG P w K mg base 1 "_law_draw" ["_law_purse_here", "_law_many"] spDraw) (c_fresh : CalG P w K mg base 3 "_law_fresh" ["_law_purse_here", "_law_taken"] spFresh) (c_built : CalX P w K mg base 7 "_law_built" ["_law_row"] (spBuilt K CS CK A CY)) (c_named : CalX P w K mg base 7 "_law_named" ["_law_row"] (spBuilt K CS CK A CY)) :
    CalG P w K mg base 8 "_law_equal_right" ["_law_purse_here", "_law_row"] (spEqual CK) := by
  obtain ⟨fN, mN⟩ := Mm.cls .num rfl
  obtain ⟨fC, mC⟩ := MS.cls .call rfl
  refine D.ok sc_equal (fun vs H Q E h => ?_) (fun f cdv AA fr s H vs Q E hr hgd h => ?_)
  · obtain ⟨p, r, v1, v2, v3, v4, v5, v6, z1, n2, n3, z4, ps, d, k, rfl, _⟩ := h
    rfl
  · obtain ⟨p, r, v1, v2, v3, v4, v5, v6, z1, n2, n3, z4, ps, d, k, rfl, hp, hR, d8, fu, fin⟩ := h
    have r3 := hr.mono (show 3 ≤ 7 by decide)
    refine ⟨_, pss_cons (ps_par (i := 2) (j := 3) rfl sc_equal.nd rfl rfl (by decide) rfl rfl (pa_cons (pe_c0 c_built hr (by decide) rfl (pa_cons (pv 1) pa_nil)) (pa_cons (pe_cG c_draw hr (by decide) hgd rfl (pa_cons (pv 0) (pa_cons pe_int pa_nil))) pa_nil)) (by rfl))
      (pss_cons (ps_set (i := 4) sc_equal.nd rfl (.inl rfl) (pe_callTy call_list_of rfl T.b_list (by decide +kernel) (pa_cons (pv 1) pa_nil)))
      (pss_cons (ps_set (i := 5) sc_equal.nd rfl (.inl rfl) (pe_lst (pa_cons (pe_cG c_fresh hr (by decide) hgd rfl (pa_cons (pv 0) (pa_cons (pe_lst (pa_cons (pe_ix ix_list (pv 1) pe_int (fun _ _ => rfl)) pa_nil)) pa_nil))) (pa_cons (pe_op op_add (pe_op op_mod (pe_callTy call_int1 rfl T.b_int (by decide +kernel) (pa_cons (pe_ix ix_list (pv 1) pe_int (fun _ _ => rfl)) pa_nil)) pe_int) pe_int) (pa_cons (pe_op op_add (pe_op op_mod (pe_callTy call_int1 rfl T.b_int (by decide +kernel) (pa_cons (pe_ix ix_list (pv 1) pe_int (fun _ _ => rfl)) pa_nil)) pe_int) pe_int) pa_nil)))))
      (pss_cons (ps_expr (pe_bm PySem.F.plainAttrs_list PySem.F.slot_list_append PySem.F.type_list_append mt_append (pv 5) (pa_cons (pe_cG c_fresh hr (by decide) hgd rfl (pa_cons (pv 0) (pa_cons (pe_op op_cat (pe_lst (pa_cons (pe_ix ix_list (pv 1) pe_int (fun _ _ => rfl)) pa_nil)) (pe_lc (own := [("_law_each", 7)]) (g := gName 7) (tt := tYes) rfl sc_equal.nd (pi_tup (pe_ix ix_list (pv 1) pe_int (fun _ _ => rfl))) (blkOk_by (N := n_equal) (sc := defScope s_equal_right) (by decide +kernel)) (fun _ _ _ _ _ => pg_name (i := 7) sc_equal.nd rfl (Or.inl rfl)) (fun _ _ _ _ _ => pts_nil) (fun _ _ _ _ _ => (pe_ix (r := rIxT K) ix_tup (pv 7) pe_int (fun _ _ => rfl))))) pa_nil))) pa_nil)))
      (pss_cons (ps_le (t' := tC4 p r z4 ps) (ps_set (i := 5) sc_equal.nd rfl (.inl rfl) (pe_op op_cat (pv 5) (pe_lst (pa_cons (pe_ifExp (pt_cmpR (op_neT0 hr.units0) (pe_ix ix_list (pv 1) pe_int (fun _ _ => rfl)) (pe_tup pa_nil) (nomark _)) (pe_slice sl_tup (pe_ix ix_list (pv 1) pe_int (fun _ _ => rfl)) (po_some pe_int) po_none) (pe_tup (pa_cons (pe_tup (pa_cons (pe_cG c_fresh hr (by decide) hgd rfl (pa_cons (pv 0) (pa_cons (pe_lst (pa_cons (pe_ix ix_list (pv 1) pe_int (fun _ _ => rfl)) pa_nil)) pa_nil))) (pa_cons pe_int pa_nil))) pa_nil))) pa_nil)))) ?_)
      (pss_cons (ps_le (t' := tC5 CK p r d k) (ps_expr (pe_bm PySem.F.plainAttrs_list PySem.F.slot_list_append PySem.F.type_list_append mt_append (pv 5) (pa_cons (pe_ifExp (pt_cmpR (op_neT0 hr.units0) (pe_ix ix_list (pv 1) pe_int (fun _ _ => rfl)) (pe_tup pa_nil) (nomark _)) (pe_slice sl_tup (pe_ix ix_list (pv 1) pe_int (fun _ _ => rfl)) (po_some pe_int) po_none) (pe_tup (pa_cons (pe_mkD mC MS.call hr (by decide) rfl (S.mgK .call rfl) (pa_cons pe_str (pa_cons (pe_mkF mN Mm.num hr (by decide) rfl (X.mgC .num rfl) (pa_cons pe_int pa_nil)) pa_nil))) pa_nil))) pa_nil))) ?_)
      (pss_cons (ps_asg (pe_ix ix_list (pv 5) (pv 3) (fun _ _ => rfl)) (pg_sub (pv 4) (pv 3) set_list))
      (pss_cons (ps_set (i := 6) sc_equal.nd rfl (.inl rfl) (pe_lstN (pa_cons (pe_cmpR (op_eqO OE r3) (pv 2) (pe_c0 c_named hr (by decide) rfl (pa_cons (pv 1) pa_nil)) (nomark _)) (pa_cons (pe_cmpR (op_eqO OE r3) (pv 2) (pe_c0 c_built hr (by decide) rfl (pa_cons (pv 4) pa_nil)) (nomark _)) (pa_cons (pe_cmpR (op_eqO OE r3) (pe_c0 c_built hr (by decide) rfl (pa_cons (pv 4) pa_nil)) (pv 2) (nomark _)) (pa_cons (pe_cmpR (op_eqO OE r3) (pv 2) (pe_ix ix_list (pv 1) pe_int (fun _ _ => rfl)) (nomark _)) pa_nil))))))
      (pss_one (ps_ret (pe_cmpR op_eq (pe_callB (cr_rep (roomH_of (hr.mono (by decide))) hgd) rfl T.b_repr (by decide +kernel) (pa_cons (pv 6) pa_nil)) (pe_callB (cr_rep (roomH_of (hr.mono (by decide))) hgd) rfl T.b_repr (by decide +kernel) (pa_cons (pe_lstN (pa_cons pe_bl (pa_cons pe_bl (pa_cons pe_bl (pa_cons pe_bl pa_nil))))) pa_nil)) (nomark _))))))))))), ?_⟩
    · intro D σ G ⟨l5, w1, w2, w3, w5, w6, xs, h0, h1, h5, pu, hRG, sl, ok, nd, hl5, l10, np5, npr, nx⟩
      obtain ⟨q, us, rfl, hq, pr⟩ := sl
      refine ⟨_, h5, ?_⟩
      refine ⟨_, h1, r, _, 4, _, rfl, rfl, SqL.of hRG, atI_nat (j := 4) rfl, (show 0 ≤ sizeLine by decide), fun t0 nt0 => ⟨q, t0, us, [], rfl, rfl, SqT.of (same_new nt0 _ _ hq), SqT.of upd_same, .inr rfl, ?_⟩⟩
      have s1 := same_new (o := .tup []) nt0
      have hR1 := s1 _ _ hRG
      have hl1 := s1 _ _ hl5
      have hq1 := s1 _ _ hq
      have pu1 := pu.same s1
      have tail : ∀ (c4 : V) (G2 : Hp) (m : Addr), PurseAt G2 p → Kp p G G2 → G2 m = none → (∃ qs, SlD G2 c4 qs ∧ PsOk qs ∧ disj [z4] (qs.map (·.1)) ∧ ps.length ≠ qs.length) → rCat (.ref l5) (.ref m) (upd G2 m (.lst [c4])) (fun x H1 => gName 5 x σ H1 D.nx) := fun c4 G2 m p2 k2 nm h4 => by
        have s2 := same_new (o := .lst [c4]) nm
        have k3 := k2.trans (kp_of s2)
        have p3 := p2.same s2
        refine ⟨l5, m, xs, [c4], rfl, rfl, k3 _ _ hl5 np5, upd_same, small_len' (show xs.length + 1 ≤ 4000 by omega), fun l nl => ?_⟩
        have s4 := same_new (o := .lst (xs ++ [c4])) nl
        obtain ⟨qs, sq, oq, dq, nq⟩ := h4
        exact nx l c4 _ (p3.same s4) (k3.trans (kp_of s4)) (none_back k3 p3 nl) upd_same ⟨qs, (sq.go2 (.of s2)).go2 (.of s4), oq, dq, nq⟩
      rcases us with _ | ⟨u0, us0⟩
      · cases pr
        refine ⟨_, rfl, iteF ?_⟩
        refine ⟨_, h0, _, h1, r, _, 3, _, rfl, rfl, SqL.of hR1, atI_nat (j := 3) rfl, (show 1 ≤ sizeLine by decide), fun lt nt => ⟨p, lt, [z4], rfl, pu1.new nt, purse_ne pu1 nt, upd_same, (show 1 < 20 by decide), fun y G2 ny nn p2 k2 => ?_⟩⟩
        refine ⟨(show 2 ≤ sizeLine by decide), fun ta na => ⟨(show 1 ≤ sizeLine by decide), fun tb nb => ⟨(show 1 ≤ sizeLine by decide), fun m nm => ?_⟩⟩⟩
        have s3 := same_new (o := .tup [.str y, .int 3]) na
        have s4 := same_new (o := .tup [.ref ta]) nb
        have s34 := s3.trans s4
        refine tail (.ref tb) _ m (p2.same s34) ((((kp_of s1).trans (kp_of (same_new nt))).trans k2).trans (kp_of s34)) nm ⟨[(y, 3)], ⟨tb, [.ref ta], rfl, upd_same, .cons ⟨ta, rfl, s4 _ _ upd_same⟩ .nil⟩, ⟨(show 1 ≤ 3 by decide), fun x hx => ?_⟩, ⟨nn, trivial⟩, (show 0 ≠ 1 by decide)⟩
        rw [List.mem_singleton.mp hx]
        exact ⟨ny, (show (1 : Int) ≤ 3 by decide), (show (3 : Int) ≤ 40 by decide)⟩
      · rcases pr with _ | ⟨i, r1⟩
        refine ⟨_, rfl, iteT ?_⟩
        refine ⟨_, h1, r, _, 4, _, rfl, rfl, SqL.of hR1, atI_nat (j := 4) rfl, _, rfl, q, _, rfl, SqT.of hq1, ?_, fun tb nb => ⟨(show 1 ≤ sizeLine by decide), fun m nm => ?_⟩⟩
        · exact fun e => by
            have e1 : HT.sIx (u0 :: us0 : List V).length 0 (some ((1 : Nat) : Int)) = 0 := e.1
            rw [HT.sIx_nat] at e1
            simp only [List.length_cons] at e1
            omega
        · have ec : cutV (u0 :: us0) (some (1 : Int)) none = us0 := cut_drop (u0 :: us0) (j := 1) (Nat.le_add_left 1 _)
          rw [ec] at nm ⊢
          have s3 := same_new (o := .tup (us0)) nb
          refine tail (.ref tb) _ m (pu1.same s3) ((kp_of s1).trans (kp_of s3)) nm ⟨_, ⟨tb, _, rfl, upd_same, pair_mem r1 fun x y ⟨a, e, h⟩ => ⟨a, e, s3 _ _ (s1 _ _ h)⟩⟩, tail_ok ok, tail_nd nd, by rw [List.length_cons]; omega⟩
    · intro D σ G ⟨l5, w1, w2, w3, w4, w5, q, us, xs, h0, h1, h5, pu, hRG, d8', hq, pr, hl5, l10, np5, nx⟩
      refine ⟨_, h5, .inl ⟨rfl, _, SqL.of hl5⟩, ?_⟩
      refine ⟨_, h1, r, _, 5, _, rfl, rfl, SqL.of hRG, atI_nat (j := 5) rfl, (show 0 ≤ sizeLine by decide), fun t0 nt0 => ⟨q, t0, us, [], rfl, rfl, SqT.of (same_new nt0 _ _ hq), SqT.of upd_same, .inr rfl, ?_⟩⟩
      have s1 := same_new (o := .tup []) nt0
      have hR1 := s1 _ _ hRG
      have hl1 := s1 _ _ hl5
      have hq1 := s1 _ _ hq
      have pr1 : Paired (SIs CK (upd G t0 (.tup []))) ((three d).take k) us := pair_mem pr fun x y i => i.same s1
      rcases us with _ | ⟨u0, us0⟩
      · refine ⟨_, rfl, iteF ?_⟩
        refine fun v hv => ?_
        subst hv
        refine fun xn dn hxn hdn _ => ⟨xn, dn, 0, rfl, upd_same, by decide, by decide, fun G3 k3 i3 => ⟨rfl, fun xw dw hxw hdw _ => ?_⟩⟩
        have t3 : Same _ G3 := same_mk hxn hdn k3
        refine ⟨xw, dw, "ask", .num 0, _, none, rfl, upd_same, by decide +kernel, (fun y e => by cases e), i3.same (same_in hxw hdw), lim_num (by decide) (by decide), fun G4 k4 i4 => ⟨rfl, (show 1 ≤ sizeLine by decide), fun tb nb => ?_⟩⟩
        have t4 : Same G3 G4 := same_mk hxw hdw k4
        have s2 := (t3.trans t4).trans (same_new (o := .tup [V.ref xw]) nb)
        have hl2 := s2 _ _ hl1
        refine ⟨l5, _, _, rfl, rfl, hl2, Nat.lt_of_le_of_lt l10 (by decide), ?_⟩
        have g2 := Go2.put (o := .lst (xs ++ [.ref tb])) hl2
        exact nx (.ref tb) _ ((Go2.of (s1.trans s2)).trans g2) (fun b o hb nb5 => by rw [upd_ne nb5]; exact s2 _ _ (s1 _ _ hb)) upd_same (bne_call (g2.tup (s2 _ _ hq1)) (g2.tup upd_same) ((i4.same (same_new nb)).go2 g2))
      · refine ⟨_, rfl, iteT ?_⟩
        refine ⟨_, h1, r, _, 5, _, rfl, rfl, SqL.of hR1, atI_nat (j := 5) rfl, _, rfl, q, _, rfl, SqT.of hq1, ?_, fun tb nb => ⟨l5, _, _, rfl, rfl, same_new nb _ _ hl1, Nat.lt_of_le_of_lt l10 (by decide), ?_⟩⟩
        · exact fun e => by
            have e1 : HT.sIx (u0 :: us0 : List V).length 0 (some ((1 : Nat) : Int)) = 0 := e.1
            rw [HT.sIx_nat] at e1
            simp only [List.length_cons] at e1
            omega
        · have ec : cutV (u0 :: us0) (some (1 : Int)) none = us0 := cut_drop (u0 :: us0) (j := 1) (Nat.le_add_left 1 _)
          rw [ec]
          have s2 := same_new (o := .tup us0) nb
          have hl2 := s2 _ _ hl1
          have g2 := Go2.put (o := .lst (xs ++ [.ref tb])) hl2
          refine nx (.ref tb) _ ((Go2.of (s1.trans s2)).trans g2) (fun b o hb nb5 => by rw [upd_ne nb5]; exact s2 _ _ (s1 _ _ hb)) upd_same (bne_tail (us := u0 :: us0) d8 (g2.tup (s2 _ _ hq1)) (pair_mem pr1 fun x y i => (i.same s2).go2 g2) (fun e => by cases e) (g2.tup upd_same))
    refine ⟨_, rfl, r, v1, v2, v3, v4, v5, v6, rfl, hR, out_full fu fun x G1 s1 ex1 => ?_⟩
    refine dr rfl (hp.same s1) (by decide) (by decide) fun at6 G2 hat p2 k2 => ?_
    refine ⟨_, _, rfl, ?_⟩
    change (_ : L2.St → Hp → Prop) [some (.ref p), some (.ref r), some (.ref x), some (.int (at6 : Int)), none, none, none, none] G2
    have k02 : Kp p H G2 := (kp_of s1).trans k2
    have hRp : r ≠ p := fun e => by
      obtain ⟨x, y, z, hh⟩ := hp
      rw [e, hh] at hR
      cases hR
    have hR2 := k02 _ _ hR hRp
    have fu2 := fu.go2 (Go2.kp hp k02)
    have ex2 := ex1.go2 (Go2.kp (hp.same s1) k2)
    obtain rfl := fu.g.e1
    obtain rfl := fu.g.e2
    obtain rfl := fu.g.e3
    obtain rfl := fu.g.e4
    clear fu ex1 hR
    refine ⟨_, rfl, r, _, rfl, .inl (SqL.of hR2), fun l4 n4 => ?_⟩
    have s3 := same_new (o := .lst [.str z1, .int n2, .int n3, .str z4, v5, v6]) n4
    have h43 := upd_same (H := G2) (a := l4) (o := .lst [.str z1, .int n2, .int n3, .str z4, v5, v6])
    have n4p := purse_ne p2 n4
    have p3 := p2.same s3
    generalize upd G2 l4 (.lst [.str z1, .int n2, .int n3, .str z4, v5, v6]) = G3 at s3 h43 p3
    refine ⟨_, rfl, _, rfl, r, _, 0, _, rfl, rfl, SqL.of (s3 _ _ hR2), atI_nat (j := 0) rfl, (show 1 ≤ sizeLine by decide), fun lt nt => ⟨p, lt, [z1], rfl, p3.new nt, purse_ne p3 nt, upd_same, (show 1 < 20 by decide), fun y0 G4 ny0 nn0 p4 k4 => ?_⟩⟩
    have k34 : Kp p G3 G4 := (kp_of (same_new nt)).trans k4
    have k24 : Kp p G2 G4 := (kp_of s3).trans k34
    have hR4 := k24 _ _ hR2 hRp
    refine ⟨_, rfl, r, _, 1, _, rfl, rfl, SqL.of hR4, atI_nat (j := 1) rfl, .inl ⟨_, rfl, _, _, rfl, rfl, (show (0 : Int) < 40 by decide), _, _, rfl, rfl, _, rfl, r, _, 2, _, rfl, rfl, SqL.of hR4, atI_nat (j := 2) rfl, .inl ⟨_, rfl, _, _, rfl, rfl, (show (0 : Int) < 40 by decide), _, _, rfl, rfl, (show 3 ≤ sizeLine by decide), fun l5 n5 => ?_⟩⟩⟩
    have s45 := same_new (o := .lst [.str y0, .int (n2 % 40 + 1), .int (n3 % 40 + 1)]) n5
    have h55 := upd_same (H := G4) (a := l5) (o := .lst [.str y0, .int (n2 % 40 + 1), .int (n3 % 40 + 1)])
    have n5p := purse_ne p4 n5
    have n52 : G2 l5 = none := none_back k24 p4 n5
    have p5 := p4.same s45
    have k25 := k24.trans (kp_of s45)
    have n45 : l4 ≠ l5 := ne_of_none (k34 _ _ h43 n4p) n5
    have h45 := (k34.trans (kp_of s45)) _ _ h43 n4p
    generalize upd G4 l5 (.lst [.str y0, .int (n2 % 40 + 1), .int (n3 % 40 + 1)]) = G5 at h55 p5 k25 h45
    clear s45 hR4 k34 k24 k4 p4 n5 nt s3 p3 h43 G4 G3
    obtain ⟨q5, us5, e5, hq5, pr5⟩ := fu2.g.sl
    subst e5
    have hR5 := k25 _ _ hR2 hRp
    refine ⟨_, rfl, .inl ⟨rfl, _, SqL.of h55⟩, _, rfl, _, rfl, r, _, 3, _, rfl, rfl, SqL.of hR5, atI_nat (j := 3) rfl, (show 1 ≤ sizeLine by decide), fun lu nu => ?_⟩
    have s56 := same_new (o := .lst [V.str z4]) nu
    have hu6 := upd_same (H := G5) (a := lu) (o := .lst [V.str z4])
    generalize upd G5 lu (.lst [V.str z4]) = G6 at s56 hu6
    have s2q := k25.trans (kp_of s56)
    have fu6 := fu2.go2 ((Go2.kp p2 k25).trans (.of s56))
    obtain ⟨q5', us5', e5, hq6, pr6⟩ := fu6.g.sl
    obtain rfl := V.ref.inj e5
    have nm6 : (ps.map fun s => V.str s.1).length = us5'.length := by rw [List.length_map]; exact pair_len pr6
    have few := fu2.g.ok.few
    refine ⟨_, rfl, r, _, 4, _, rfl, rfl, SqL.of (s56 _ _ hR5), atI_nat (j := 4) rfl, q5, rfl, ⟨_, SqT.of hq6⟩, fun D1 nD => ?_⟩
    refine lc_call (walk_tup (K := K) (a := q5) (xs := us5')) nD (ps.map fun s => V.str s.1) nm6 (by rw [← nm6, List.length_map]; omega) (fun G sG => seqT_same (SqT.of hq6) sG) (fun i x v G3 G' R hv sG hy hR => ?_) (fun G7 s7 hD => ?_)
    · obtain ⟨rfl, hx2⟩ := hy
      obtain ⟨u, hu, a, ea, ha⟩ := pair_at pr6 hx2
      subst ea
      have ev : v = .str u.1 := by
        rw [List.getElem?_map, hu] at hv
        exact (Option.some.inj hv).symm
      subst ev
      exact ⟨rfl, _, rfl, a, _, 0, _, rfl, rfl, SqT.of (sG _ _ ha), atI_nat (j := 0) rfl, hR _ (.refl _)⟩
    · have en : (ps.map fun s => V.str s.1) = (ps.map (·.1)).map V.str := by rw [List.map_map]; rfl
      rw [en] at hD
      refine ⟨lu, D1, [.str z4], (ps.map (·.1)).map V.str, rfl, rfl, s7 _ _ hu6, hD, small_len' (by rw [List.length_map, List.length_map]; show 1 + _ ≤ _; omega), fun lc nc => ?_⟩
      have s57 := s56.trans s7
      have p7 := p5.same s57
      refine ⟨p, lc, z4 :: ps.map (·.1), rfl, p7.new nc, purse_ne p7 nc, by rw [upd_same]; rfl, by rw [List.length_cons, List.length_map]; omega, fun y3 G8 ny3 nn3 p8 k8 => ?_⟩
      have k58 := ((kp_of (p := p) s57).trans (kp_of (same_new nc))).trans k8
      have h58 := k58 _ _ h55 n5p
      refine ⟨l5, _, _, rfl, rfl, h58, (show 3 < sizeLine by decide), ?_⟩
      have p9 : PurseAt (upd G8 l5 (.lst ([.str y0, .int (n2 % 40 + 1), .int (n3 % 40 + 1)] ++ [V.str y3]))) p := by
        obtain ⟨a, b, c, hh⟩ := p8
        exact ⟨a, b, c, by rw [upd_ne (fun e => n5p e.symm)]; exact hh⟩
      have k29 : Kp p G2 (upd G8 l5 (.lst ([.str y0, .int (n2 % 40 + 1), .int (n3 % 40 + 1)] ++ [V.str y3]))) := fun b o hb nb => by
        rw [upd_ne (ne_of_none hb n52)]
        exact (k25.trans k58) b o hb nb
      have h49 : upd G8 l5 (.lst ([.str y0, .int (n2 % 40 + 1), .int (n3 % 40 + 1)] ++ [V.str y3])) l4 = some (.lst [.str z1, .int n2, .int n3, .str z4, .ref q5, v6]) := by
        rw [upd_ne n45]
        exact k58 _ _ h45 n4p
      have h59 := upd_same (H := G8) (a := l5) (o := .lst ([.str y0, .int (n2 % 40 + 1), .int (n3 % 40 + 1)] ++ [V.str y3]))
      generalize upd G8 l5 (.lst ([.str y0, .int (n2 % 40 + 1), .int (n3 % 40 + 1)] ++ [V.str y3])) = G9 at p9 k29 h49 h59
      have hR9 := k29 _ _ hR2 hRp
      have fu9 := fu2.go2 (Go2.kp p2 k29)
      refine ⟨l5, _, _, _, _, _, _, rfl, rfl, rfl, p9, hR9, fu9.g.sl, fu9.g.ok, fu9.nd, h59, (show 4 ≤ 10 by decide), n5p, hRp, fun l6 c4 G11 p11 k11 n11 h11 hc4 => ?_⟩
      have k2b := k29.trans k11
      have hRb := k2b _ _ hR2 hRp
      have fub := fu2.go2 (Go2.kp p2 k2b)
      obtain ⟨q6, us6, e6, hq6b, pr6b⟩ := fub.g.bd
      subst e6
      have n6p : l6 ≠ p := purse_ne p9 n11
      refine ⟨l6, _, _, _, _, _, q6, us6, _, rfl, rfl, rfl, p11, hRb, d8, hq6b, pr6b, h11, (show 5 ≤ 10 by decide), n6p, fun c5 G12 g12 k12 h12 hf => ?_⟩
      have ch : Chg6 CK G12 (.ref q6) z1 z4 n2 n3 ps (.str y0) (.int (n2 % 40 + 1)) (.int (n3 % 40 + 1)) (.str y3) c4 c5 :=
        ⟨⟨y0, rfl, ny0, fun e => nn0 (List.mem_singleton.mpr e.symm)⟩, rfl, rfl, ⟨y3, rfl, ny3, fun e => nn3 (by rw [← e]; exact List.mem_cons_self ..), fun e => nn3 (List.mem_cons_of_mem _ e)⟩,
          (let ⟨qs, h1, h2, h3, h4⟩ := hc4; ⟨qs, h1.go2 g12, h2, h3, h4⟩), hf⟩
      have g2c := (Go2.kp p2 k2b).trans g12
      have fuc := fu2.go2 g2c
      have exc := ex2.go2 g2c
      have n46 : l4 ≠ l6 := ne_of_none h49 n11
      have h4c := k12 _ _ (k11 _ _ h49 n4p) n46
      have hRc := k12 _ _ hRb (fun e => by rw [e, none_back k29 p9 n11] at hR2; cases hR2)
      obtain ⟨c, w1, w2, w3, w4, w5, w6, hc, hset, df⟩ := ch.pick (K := K) (CS := CS) (CY := CY) N.nf fuc (i := at6) (by omega)
      refine ⟨_, rfl, _, rfl, l6, _, at6, c, rfl, rfl, SqL.of h12, atI_nat hc, _, rfl, _, rfl, l4, _, at6, at6, rfl, rfl, h4c, ixN_nat (j := at6) (show at6 < 6 by omega), ?_⟩
      rw [hset]
      have gcd := Go2.put (o := .lst [w1, w2, w3, w4, w5, w6]) h4c
      have h4d := upd_same (H := G12) (a := l4) (o := .lst [w1, w2, w3, w4, w5, w6])
      have hRd : upd G12 l4 (.lst [w1, w2, w3, w4, w5, w6]) r = some (.lst [.str z1, .int n2, .int n3, .str z4, .ref q5, .ref q6]) := by
        rw [upd_ne (ne_of_none hR2 n4)]
        exact hRc
      have pud : PurseAt (upd G12 l4 (.lst [w1, w2, w3, w4, w5, w6])) p := by
        obtain ⟨a, b, e, hh⟩ := p11
        exact ⟨a, b, e, by rw [upd_ne (fun e => n4p e.symm)]; exact k12 _ _ hh (fun e => n6p e.symm)⟩
      have k2d : Kp p G2 (upd G12 l4 (.lst [w1, w2, w3, w4, w5, w6])) := fun b o hb nb => by
        rw [upd_ne (ne_of_none hb n4)]
        exact k12 _ _ (k2b _ _ hb nb) (ne_of_none hb (none_back k29 p9 n11))
      have fud := fuc.go2 gcd
      have exd := exc.go2 gcd
      generalize upd G12 l4 (.lst [w1, w2, w3, w4, w5, w6]) = G13 at gcd h4d hRd pud k2d fud exd
      clear ch hf hc4 h12 k12 g12 h11 k11 p11 hset hc h4c hRc hq6b pr6b
      refine ⟨_, rfl, _, rfl, r, _, _, _, _, _, _, rfl, hRd, out_full fud fun x2 G14 s14 ex14 => ?_⟩
      refine rd_eqE N (exd.same s14) ex14 (ent_same (fud.go2 (.of s14)) (exd.same s14) ex14 fun G15 e15 => ⟨⟨_, rfl⟩, ?_⟩)
      have s15 : Same G13 G15 := s14.trans e15
      refine ⟨_, rfl, _, rfl, l4, _, _, _, _, _, _, rfl, s15 _ _ h4d, df.out A E0 _ G15 (gcd.trans (.of s15)) fun x3 G16 s16 ex16 => ?_⟩
      have s16' := s15.trans s16
      refine rd_eqE N (exd.same s16') ex16 (df.ne1 _ G16 _ _ (gcd.trans (.of s16')) (exd.same s16') ex16 ⟨⟨_, rfl⟩, ?_⟩)
      refine ⟨_, rfl, l4, _, _, _, _, _, _, rfl, s16' _ _ h4d, df.out A E0 _ G16 (gcd.trans (.of s16')) fun x4 G17 s17 ex17 => ?_⟩
      have s17' := s16'.trans s17
      refine ⟨_, rfl, rd_eqE N ex17 (exd.same s17') (df.ne2 _ G17 _ _ (gcd.trans (.of s17')) (exd.same s17') ex17 ⟨⟨_, rfl⟩, ?_⟩)⟩
      refine ⟨_, rfl, _, rfl, r, _, 0, _, rfl, rfl, SqL.of (s17' _ _ hRd), atI_nat (j := 0) rfl, rd_eqS N (exd.same s17') ?_⟩
      refine ⟨(show 4 ≤ sizeLine by decide), fun la na sma => ?_⟩
      have t1 := same_new (o := .lst [.bl true, .bl false, .bl false, .bl false]) na
      refine ⟨_, rfl, _, _, rfl, shk_four upd_same sma, (show 4 ≤ sizeLine by decide), fun lb nb smb => ?_⟩
      refine ⟨_, _, rfl, shk_four upd_same smb, ?_⟩
      have t2 := same_new (o := .lst [.bl true, .bl false, .bl false, .bl false]) nb
      refine ⟨rfl, ?_⟩
      rw [decide_eq_true rfl]
      have sF := s17'.trans (t1.trans t2)
      exact fin _ (pud.same sF) ((k02.trans k2d).trans (kp_of sF))

end
end Jo

set_option Elab.async false
set_option linter.all false
set_option maxRecDepth 100000
set_option maxHeartbeats 2000000
namespace Jo
open PySem PySem.Spec PyProof.Rows L2 ClX
open L2H (RoomH roomH_of)
open LamX (Tabs TabS ExtN CodeO TabB lamS_by LamS lamCx lamEnv tLam pe_lamcall)
section
variable {K : PySem.W.Frag} {G : Hp} {Q : VK} {ws ys : List Str} {p q : Addr}
theorem ne_tups (hp : G p = some (.tup (ws.map V.str))) (hq : G q = some (.tup (ys.map V.str))) (ok : ∀ x ∈ ws, PyData.strOk x = true) (ok2 : ∀ x ∈ ys, PyData.strOk x = true) (h : Q (.bl (!decide (ws = ys))) G) : rNeD K (.ref p) (.ref q) G Q :=
  ⟨.tuple (ws.map .str), .tuple (ys.map .str), .tup (.inl (.inl hp)) (dp_strs _), .tup (.inl (.inl hq)) (dp_strs _), shapedT_strs ok, shapedT_strs ok2, by rw [eqv_tup_strs]; exact h⟩
end
theorem dueSl_ok {par : Str} {o : Option (List It)} : PyData.strOk (dueSl par o) = true := by
  unfold dueSl
  split
  all_goals first | exact strOk_of _ | (split <;> exact strOk_of _)
theorem dueLo_ok {o : Option (Option Nat)} : PyData.strOk (dueLo o) = true := by
  unfold dueLo
  split
  all_goals exact strOk_of _
theorem words_told (o : Option (EK × Str)) : decide (wordsR o = ([("told" : Str)] : List Str)) = decide (o = none) := by
  cases o with
  | none => rfl
  | some x =>
    obtain ⟨e, z⟩ := x
    rw [decide_eq_false (p := wordsR (some (e, z)) = [("told" : Str)]) (fun q => by have := congrArg List.length q; cases this), decide_eq_false (fun q => by cases q)]
theorem words_ok {K : PySem.W.Frag} {CS : Addr} {CK : Sk → Addr} {H : Hp} {v1 v2 v3 v4 v5 v6 : V} {z1 z2 z3 z4 : Str} {o5 : Option (List It)} {o6 : Option (Option Nat)} (ri : RowIs K CS CK H v1 v2 v3 v4 v5 v6 z1 z2 z3 z4 o5 o6) : ∀ x ∈ wordsR (dueR v1 v2 v3 v4 z1 z2 z3 z4 o5 o6), PyData.strOk x = true := by
  have two : ∀ (e : EK) (z : Str), PyData.strOk z = true → ∀ x ∈ wordsR (some (e, z)), PyData.strOk x = true := fun e z hz x hx => by
    rcases List.mem_cons.mp hx with rfl | hx
    · cases e <;> exact strOk_of _
    · rw [List.mem_singleton.mp hx]
      exact hz
  unfold dueR
  split
  · exact two _ _ ri.a.ok
  split
  · exact two _ _ ri.b.ok
  split
  · exact two _ _ ri.c.ok
  split
  · exact two _ _ ri.d.ok
  split
  · split
    · intro x hx
      rw [List.mem_singleton.mp hx]
      exact strOk_of _
    · exact two _ _ dueLo_ok
  · exact two _ _ dueSl_ok
def lamQof (x : Str) (st : Stmt) : Str := (envOfC x (defScope st) 0 0 (.ref 0)).qual ++ "<lambda>"
abbrev TbS (P1 : Addr) : List (Addr × Str) := [(P1, lamQof "_law_row_right" s_row_right)]
theorem dis1 {P1 : Addr} : ∀ q ∈ TbS P1, q.1 = P1 → q.2 = lamQof "_law_row_right" s_row_right := fun q hq _ => by
  rw [List.mem_singleton.mp hq]
def spGo (T : List (Addr × Str)) : Sp := fun vs H Q _ => ∃ p : Addr, vs = [.ref p] ∧ PurseAt H p ∧ Tabs T H ∧ ∀ G, On T p H G → Q (.bl true) G
section
variable {P : Program} {w : World} {K : PySem.W.Frag} {mg : Str → Option Value} {base : Heap} {C : Kd → Addr} {CE CS CY CR1 CR2 : Addr} {CK : Sk → Addr} {A : EK → Addr}
def n_row : List Str := ["_law_purse_here", "_law_row", "_law_due_here"]
theorem sc_row : FnScope n_row ["_law_purse_here", "_law_row"] (defScope s_row_right) := ⟨rfl, rfl, rfl, by decide +kernel, rfl, by decide +kernel, by decide +kernel⟩
def spRow (K : PySem.W.Frag) (CS : Addr) (CK : Sk → Addr) (Tb : List (Addr × Str)) : Sp := fun vs H Q _ => ∃ (p r : Addr) (v1 v2 v3 v4 v5 v6 : V) (z1 z2 z3 z4 : Str) (o5 : Option (List It)) (o6 : Option (Option Nat)), vs = [.ref p, .ref r] ∧ PurseAt H p ∧ H r = some (.lst [v1, v2, v3, v4, v5, v6]) ∧ RowIs K CS CK H v1 v2 v3 v4 v5 v6 z1 z2 z3 z4 o5 o6 ∧ Tabs Tb H ∧ ∀ G, On Tb p H G → Q (.bl true) G
theorem ok_row {c1 P1 : Addr} (T : Txt mg) (Ec : ErC K mg A CR1 CR2) (TB : TabB base mg c1 P1) (D : DfnT K mg "_law_row_right" s_row_right ["_law_purse_here", "_law_row"] c1) (Df : Dfn K mg "_law_fault" s_fault ["_law_act"])
    (c_told : CalW true P w K mg base 3 "_law_told" ["_law_e"] (spTold K A)) (c_due : CalG P w K mg base 3 "_law_due" ["_law_row"] (spDue K CS CK)) (c_built : CalX P w K mg base 7 "_law_built" ["_law_row"] (spBuilt K CS CK A CY)) (c_named : CalX P w K mg base 7 "_law_named" ["_law_row"] (spBuilt K CS CK A CY))
    (c_shown : CalG P w K mg base 4 "_law_shown" ["_law_row", "_law_mine"] (spShown CY CK)) (c_equal : CalG P w K mg base 8 "_law_equal_right" ["_law_purse_here", "_law_row"] (spEqual CK)) :
    CalG P w K mg base 10 "_law_row_right" ["_law_purse_here", "_law_row"] (spRow K CS CK (TbS P1)) := by
  refine D.ok sc_row (fun vs H Q E h => ?_) (fun f AA fr s H vs Q E hr hgd h => ?_)
  · obtain ⟨p, r, v1, v2, v3, v4, v5, v6, z1, z2, z3, z4, o5, o6, rfl, _⟩ := h
    rfl
  · obtain ⟨p, r, v1, v2, v3, v4, v5, v6, z1, z2, z3, z4, o5, o6, rfl, hp, hR, ri, tb, fin⟩ := h
    refine ⟨_, pss_cons (ps_set (i := 2) sc_row.nd rfl (.inl rfl) (pe_cG c_due hr (by decide) hgd rfl (pa_cons (pv 1) pa_nil)))
      (pss_cons (ps_if (pt_cmpR (op_neD hr.units) (pe_fault (T := TbS P1) (k := 7) (t := fun E => tCallS (spBuilt K CS CK A CY) (fun _ => E) (tCons (tVar 1) tNil)) Ec Df c_told TB rfl List.mem_cons_self dis1 (by decide) hr hgd rfl (lamS_by (sc := defScope s_row_right) (by decide +kernel)) rfl (fun _ _ _ _ _ => rfl)
          (fun A outer s H E f c' hrL => pe_cL c_built hrL (by decide) (L2.takes_of rfl rfl rfl rfl) rfl (pa_cons (pv 1) pa_nil))) (pv 2) (nomark _))
        (pss_one (ps_ret pe_bl))
        (pss_nil))
      (pss_cons (ps_if (pt_cmpR (op_neD hr.units) (pe_fault (T := TbS P1) (k := 7) (t := fun E => tCallS (spBuilt K CS CK A CY) (fun _ => E) (tCons (tVar 1) tNil)) Ec Df c_told TB rfl List.mem_cons_self dis1 (by decide) hr hgd rfl (lamS_by (sc := defScope s_row_right) (by decide +kernel)) rfl (fun _ _ _ _ _ => rfl)
          (fun A outer s H E f c' hrL => pe_cL c_named hrL (by decide) (L2.takes_of rfl rfl rfl rfl) rfl (pa_cons (pv 1) pa_nil))) (pv 2) (nomark _))
        (pss_one (ps_ret pe_bl))
        (pss_nil))
      (pss_cons (ps_if (pt_cmpR (op_neD hr.units) (pv 2) (pe_tup (pa_cons pe_str pa_nil)) (nomark _))
        (pss_one (ps_ret pe_bl))
        (pss_nil))
      (pss_cons (ps_if (PW.pt (pw_or (pt_not (pt_val (pe_cG c_shown hr (by decide) hgd rfl (pa_cons (pv 1) (pa_cons (pe_c0 c_built hr (by decide) rfl (pa_cons (pv 1) pa_nil)) pa_nil))))) (pw_or1 (pt_not (pt_val (pe_cG c_shown hr (by decide) hgd rfl (pa_cons (pv 1) (pa_cons (pe_c0 c_named hr (by decide) rfl (pa_cons (pv 1) pa_nil)) pa_nil))))))))
        (pss_one (ps_ret pe_bl))
        (pss_nil))
      (pss_one (ps_ret (pe_cG c_equal hr (by decide) hgd rfl (pa_cons (pv 0) (pa_cons (pv 1) pa_nil))))))))), ?_⟩
    have onH : On (TbS P1) p H H := ⟨hp, .refl _ _, tb⟩
    have hRp : ∀ x y z : Int, [v1, v2, v3, v4, v5, v6] ≠ [.int x, .int y, .int z] := fun _ _ _ e => by cases e
    have wok := words_ok ri
    refine ⟨_, rfl, r, v1, v2, v3, v4, v5, v6, z1, z2, z3, z4, o5, o6, rfl, hR, ri, fun pd G1 s1 hd => ?_⟩
    have on1 := onH.same s1
    have g1 := Goes.of s1
    have hR1 := s1 _ _ hR
    refine fault_ask Ec on1.tb (dueR v1 v2 v3 v4 z1 z2 z3 z4 o5 o6) (fun E R G e out => ⟨_, rfl, built_out (extN_lst2 e hR1) ((ri.go g1).go (ext_goes e)) out⟩) fun p2 G2 e2 t2 h2 => ?_
    have hd2 := extN_tup' e2 hd
    have on2 := on1.ext e2 t2
    refine ⟨_, rfl, ne_tups h2 hd2 wok wok ?_⟩
    rw [decide_eq_true rfl]
    refine ⟨_, rfl, iteF ?_⟩
    have g2 := g1.trans (ext_goes e2)
    have hR2 := extN_lst2 e2 hR1
    refine fault_ask Ec t2 (dueR v1 v2 v3 v4 z1 z2 z3 z4 o5 o6) (fun E R G e out => ⟨_, rfl, built_out (extN_lst2 e hR2) ((ri.go g2).go (ext_goes e)) out⟩) fun p3 G3 e3 t3 h3 => ?_
    have hd3 := extN_tup' e3 hd2
    have on3 := on2.ext e3 t3
    have g3 := g2.trans (ext_goes e3)
    have hR3 := extN_lst2 e3 hR2
    refine ⟨_, rfl, ne_tups h3 hd3 wok wok ?_⟩
    rw [decide_eq_true rfl]
    refine ⟨_, rfl, iteF ?_⟩
    refine ⟨_, rfl, (show 1 ≤ sizeLine by decide), fun p4 n4 => ?_⟩
    have s4 := same_new (o := .tup [V.str "told"]) n4
    refine ne_tups (ws := wordsR (dueR v1 v2 v3 v4 z1 z2 z3 z4 o5 o6)) (ys := ["told"]) (s4 _ _ hd3) upd_same wok (fun x hx => by rw [List.mem_singleton.mp hx]; exact strOk_of _) ?_
    have on4 := on3.same s4
    have g4 := g3.trans (.of s4)
    have hR4 := s4 _ _ hR3
    generalize upd G3 p4 (.tup [V.str "told"]) = G4 at on4 g4 hR4
    rw [words_told]
    by_cases ed : dueR v1 v2 v3 v4 z1 z2 z3 z4 o5 o6 = none
    · rw [decide_eq_true ed]
      refine ⟨_, rfl, iteF ?_⟩
      obtain ⟨y1, n2, n3, y4, ps, b, fu, d, k, d8, rfl⟩ := full_row (ri.go g4) ed
      refine ⟨_, rfl, _, rfl, r, v1, v2, v3, v4, v5, v6, rfl, hR4, out_full fu fun x5 G5 s5 ex5 => ?_⟩
      refine ⟨r, .ref x5, v1, v2, v3, v4, v5, v6, y1, n2, n3, y4, ps, _, rfl, s5 _ _ hR4, (fu.go2 (.of s5)).g, ex5, fun G6 s6 => ⟨true, rfl, iteF ?_⟩⟩
      have s56 := s5.trans s6
      refine ⟨_, rfl, _, rfl, r, v1, v2, v3, v4, v5, v6, rfl, s56 _ _ hR4, out_full (fu.go2 (.of s56)) fun x7 G7 s7 ex7 => ?_⟩
      have s57 := s56.trans s7
      refine ⟨r, .ref x7, v1, v2, v3, v4, v5, v6, y1, n2, n3, y4, ps, _, rfl, s57 _ _ hR4, (fu.go2 (.of s57)).g, ex7, fun G8 s8 => ⟨true, rfl, iteF ?_⟩⟩
      have s58 := s57.trans s8
      have on8 := on4.same s58
      exact ⟨_, rfl, _, rfl, p, r, v1, v2, v3, v4, v5, v6, y1, n2, n3, y4, ps, d, k, rfl, on8.pu, s58 _ _ hR4, d8, fu.go2 (.of s58), fun G9 p9 k9 => fin _ (on8.kp p9 k9)⟩
    · rw [decide_eq_false ed]
      exact ⟨_, rfl, iteT (fin _ on4)⟩
end
end Jo

set_option Elab.async false
set_option linter.all false
set_option maxRecDepth 100000
set_option maxHeartbeats 2000000
namespace Jo
open PySem PySem.Spec PyProof.Rows L2 ClX
open L2H (RoomH roomH_of)
open LamX (Tabs TabS ExtN CodeO TabB lamS_by LamS lamCx lamEnv tLam pe_lamcall)
/-- the text that is drawn, else n -/
def tOwn (K : PySem.W.Frag) : TS := fun D σ G => ∃ v, σ[2]? = some (some v) ∧ AnyV K G v ∧ (∀ y, v = .str y → y.length ≤ 1000) ∧ ∀ t : Str, t.length ≤ 1000 → D.nx (σ.set 3 (some (.str t))) G
def goodIf : SR := mkS (.ifs (.var "n")) [[mkS .fail []], []]
theorem good_if : goodIf.Fine ∧ goodIf.amount = 2 ∧ textS goodIf = "if n\n  fail" := by
  have h : goodIf.amount = 2 ∧ goodIf.height = 2 ∧ goodIf.lines = [goodIf.line, "  fail"] ∧ goodIf.line.length ≤ 100 ∧ PyData.strOk goodIf.line = true := by decide +kernel
  obtain ⟨h1, h2, h3, h4, h5⟩ := h
  refine ⟨⟨by omega, by omega, by omega, by rw [h3, h1]; exact (show 2 ≤ 2 * 2 by decide), fun l hl => ?_, ⟨_, h3⟩, fun l hl => ?_⟩, h1, by decide +kernel⟩
  · rw [h3] at hl
    rcases List.mem_cons.mp hl with rfl | hl
    · omega
    · rw [List.mem_singleton.mp hl]
      exact Nat.le_trans (show _ ≤ 1000 by decide +kernel) (Nat.le_add_right ..)
  · rw [h3] at hl
    rcases List.mem_cons.mp hl with rfl | hl
    · exact h5
    · rw [List.mem_singleton.mp hl]
      exact strOk_of _
section
variable {P : Program} {w : World} {K : PySem.W.Frag} {mg : Str → Option Value} {base : Heap} {C : Kd → Addr} {CE CS CY CR1 CR2 : Addr} {CK : Sk → Addr} {A : EK → Addr}
/-- an entry without slots is made -/
theorem out_def {H : Hp} {E : XK} {Q : VK} {z1 z4 : Str} {n2 n3 : Int} {e1 : Addr} {v6 : V} {b : List SR} (a1 : nmS z1 = true) (b2 : 1 ≤ n2 ∧ n2 ≤ 40) (b3 : 1 ≤ n3 ∧ n3 ≤ 40) (a4 : nmS z4 = true) (h1 : ∀ H, SqT K H e1 []) (h6 : BIs K CK H b v6) (wd : Wide [b]) (am : amtS [b] ≤ 400)
    (good : ∀ x G, Same H G → EntIs CY G (.str z1) (.int n2) (.int n3) (.str z4) (.ref e1) v6 (.ref x) → Q (.ref x) G) : OutE K CS CK A CY H E (.str z1) (.int n2) (.int n3) (.str z4) (.ref e1) v6 Q :=
  .inr ⟨⟨z1, rfl, a1⟩, .inr ⟨⟨n2, rfl, b2⟩, .inr ⟨⟨n3, rfl, b3⟩, .inr ⟨z4, rfl, a4, .inr ⟨⟨e1, [], [], rfl, h1 _, (show 0 ≤ 3 by decide), .nil, rfl⟩, .inr ⟨⟨b, h6, wd, am⟩, good⟩⟩⟩⟩⟩⟩
def n_right : List Str := ["_law_purse_here", "_law_turn", "_law_own", "_law_title_here", "_law_row", "_law_mine", "_law_good"]
theorem sc_right : FnScope n_right ["_law_purse_here"] (defScope s_right) := ⟨rfl, rfl, rfl, by decide +kernel, rfl, by decide +kernel, by decide +kernel⟩
theorem ok_right {fY : Addr} {Tb : List (Addr × Str)} (T : Txt mg) (X : XT K mg C CE) (S : ST2 K mg C CE CS CK) (Y : YT K mg CY) (Mm : Makes P w K mg base C) (MS : MakesS P w K mg base C CK) (MY : Mk K CY fY) (cE : EnD P w K mg base CY (spEnt K CS CK A CY)) (O1 : Own P w K mg base 1 "__str__" ["self"] (IsS CK) (spStStr CK)) (D : Dfn K mg "_law_right" s_right ["_law_purse_here"])
    (c_draw : CalG P w K mg base 1 "_law_draw" ["_law_purse_here", "_law_many"] spDraw) (c_fresh : CalG P w K mg base 3 "_law_fresh" ["_law_purse_here", "_law_taken"] spFresh) (c_title : CalG P w K mg base 3 "_law_title" ["_law_purse_here"] (spThing K)) (c_size : CalG P w K mg base 2 "_law_size" ["_law_purse_here"] (spThing K))
    (c_extra : CalG P w K mg base 5 "_law_extra" ["_law_purse_here", "_law_title_here"] (spExtra K)) (c_lot : CalG P w K mg base 8 "_law_lot" ["_law_purse_here"] (spLot K CS CK)) (c_row : CalG P w K mg base 10 "_law_row_right" ["_law_purse_here", "_law_row"] (spRow K CS CK Tb)) :
    CalG P w K mg base 11 "_law_right" ["_law_purse_here"] (spGo Tb) := by
  obtain ⟨fV, mV⟩ := Mm.cls .var rfl
  obtain ⟨fI, mI⟩ := MS.cls .ifs rfl
  obtain ⟨fF, mF⟩ := MS.cls .fail rfl
  refine D.ok sc_right (fun vs H Q E h => ?_) (fun f cdv AA fr s H vs Q E hr hgd h => ?_)
  · obtain ⟨p, rfl, _⟩ := h
    rfl
  · obtain ⟨p, rfl, hp, tb, fin⟩ := h
    have r3 := hr.mono (show 3 ≤ 10 by decide)
    refine ⟨_, pss_cons (ps_for PassesOwn.never rfl (pi_range1 rfl T.b_range (pa_cons pe_int pa_nil)) (pg_name (i := 1) sc_right.nd rfl (.inl rfl))
        (pss_cons (ps_set (i := 2) sc_right.nd rfl (.inl rfl) (pe_cG c_title hr (by decide) hgd rfl (pa_cons (pv 0) pa_nil)))
          (pss_cons (ps_le (t' := tOwn K) (ps_set (i := 3) sc_right.nd rfl (.inl rfl) (pe_ifExp (pt_val (pe_callB call_isi rfl T.b_isinstance (by decide +kernel) (pa_cons (pv 2) (pa_cons (pe_bltn (v := .ty "str") (u := .type "str") rfl T.b_str (by decide +kernel) rfl) pa_nil)))) (pv 2) pe_str)) ?_)
          (pss_cons (ps_set (i := 4) sc_right.nd rfl (.inl rfl) (pe_lst (pa_cons (pe_cG c_title hr (by decide) hgd rfl (pa_cons (pv 0) pa_nil)) (pa_cons (pe_cG c_size hr (by decide) hgd rfl (pa_cons (pv 0) pa_nil)) (pa_cons (pe_cG c_size hr (by decide) hgd rfl (pa_cons (pv 0) pa_nil)) (pa_cons (pv 2) pa_nil))))))
          (pss_cons (ps_set (i := 4) sc_right.nd rfl (.inl rfl) (pe_op op_cat (pv 4) (pe_lst (pa_cons (pe_cG c_extra hr (by decide) hgd rfl (pa_cons (pv 0) (pa_cons (pv 3) pa_nil))) (pa_cons (pe_cG c_lot hr (by decide) hgd rfl (pa_cons (pv 0) pa_nil)) pa_nil)))))
          (pss_one (ps_if (pt_not (pt_val (pe_cG c_row hr (by decide) hgd rfl (pa_cons (pv 0) (pa_cons (pv 4) pa_nil)))))
            (pss_one (ps_ret pe_bl))
            (pss_nil))))))))
      (pss_cons (ps_set (i := 5) sc_right.nd rfl (.inl rfl) (pe_ent0 MY cE hr (by decide) passM0 rfl Y.mgY (pa_cons (pe_cG c_fresh hr (by decide) hgd rfl (pa_cons (pv 0) (pa_cons (pe_lst pa_nil) pa_nil))) (pa_cons (pe_op op_add pe_int (pe_cG c_draw hr (by decide) hgd rfl (pa_cons (pv 0) (pa_cons pe_int pa_nil)))) (pa_cons pe_int (pa_cons pe_str pa_nil))))))
      (pss_cons (ps_if (pt_cmpR op_ne (pe_callB (cr_rep (roomH_of (hr.mono (by decide))) hgd) rfl T.b_repr (by decide +kernel) (pa_cons (pe_lstN (pa_cons (pe_fld (pv 5) rfl) (pa_cons (pe_fld (pv 5) rfl) (pa_cons (pe_fld (pv 5) rfl) (pa_cons (pe_fld (pv 5) rfl) pa_nil))))) pa_nil)) pe_str (nomark _))
        (pss_one (ps_ret pe_bl))
        (pss_nil))
      (pss_cons (ps_set (i := 6) sc_right.nd rfl (.inl rfl) (pe_mkD mI MS.ifs hr (by decide) rfl (S.mgK .ifs rfl) (pa_cons (pe_mkF mV Mm.var hr (by decide) rfl (X.mgC .var rfl) (pa_cons pe_str pa_nil)) (pa_cons (pe_tup (pa_cons (pe_mkF0 mF MS.fail hr (by decide) rfl (S.mgK .fail rfl)) pa_nil)) pa_nil))))
      (pss_one (ps_ret (pe_and (pe_cmpR op_eq (pe_callTy (cr_strO O1 r3) rfl T.b_str (by decide +kernel) (pa_cons (pe_ix ix_tup (pe_fld (pe_ent1 MY cE hr (by decide) passM0 rfl Y.mgY (pa_cons pe_str (pa_cons pe_int (pa_cons pe_int (pa_cons pe_str pa_nil)))) (pk_cons (pe_tup (pa_cons (pv 6) pa_nil)) pk_nil)) rfl) pe_int (fun _ _ => rfl)) pa_nil)) pe_str (nomark _)) (pe_one (pe_cmpR op_eq (pe_callTy (cr_strO O1 r3) rfl T.b_str (by decide +kernel) (pa_cons (pv 6) pa_nil)) pe_str (nomark _))))))))), ?_⟩
    · intro D σ G ⟨v, h2, ⟨t, i, b, z, ht, _, _, hz, _, e⟩, lv, nx⟩
      refine ⟨v, h2, v, _, t, _, z, rfl, .ty "str", ht, hz, z, rfl, ?_⟩
      subst e
      cases v with
      | str y => exact iteT ⟨_, h2, nx y (lv y rfl)⟩
      | _ => exact iteF (nx "n" (Nat.le_trans (show _ ≤ 10 by decide +kernel) (by decide)))
    have on0 : On Tb p H H := ⟨hp, .refl _ _, tb⟩
    refine ⟨6, rfl, by decide, by decide, ?_⟩
    refine for_range (lo := 0) (n := 6) (fun i σ G => On Tb p H G ∧ ∃ x1 x2 x3 x4 : Option V, σ = [some (.ref p), x1, x2, x3, x4, none, none]) ⟨on0, none, none, none, none, rfl⟩ (fun i σ G hi h => ?_) (fun σ G h => ?_)
    · obtain ⟨on1, x1, x2, x3, x4, rfl⟩ := h
      refine ⟨_, rfl, p, rfl, on1.pu, fun v4 z4 G1 p1 k1 t4 => ?_⟩
      refine ⟨v4, rfl, t4.any _ (.refl _), t4.sm, fun t tl => ?_⟩
      have on2 := on1.kp p1 k1
      refine ⟨_, rfl, p, rfl, p1, fun v1 z1 G2 p2 k2 t1 => ?_⟩
      have on3 := on2.kp p2 k2
      have t4 := t4.go (Goes.kp p1 k2)
      refine ⟨_, rfl, p, rfl, p2, fun v2 z2 G3 p3 k3 t2 => ?_⟩
      have on4 := on3.kp p3 k3
      have t4 := t4.go (Goes.kp p2 k3)
      have t1 := t1.go (Goes.kp p2 k3)
      refine ⟨_, rfl, p, rfl, p3, fun v3 z3 G4 p4 k4 t3 => ?_⟩
      have on5 := on4.kp p4 k4
      have t4 := t4.go (Goes.kp p3 k4)
      have t1 := t1.go (Goes.kp p3 k4)
      have t2 := t2.go (Goes.kp p3 k4)
      refine ⟨_, rfl, (show 4 ≤ sizeLine by decide), fun la na => ?_⟩
      have s5 := same_new (o := .lst [v1, v2, v3, v4]) na
      have h5 := upd_same (H := G4) (a := la) (o := .lst [v1, v2, v3, v4])
      have p5 := p4.same s5
      have nap := purse_ne p4 na
      have on6 := on5.same s5
      have t4 := t4.same s5
      have t1 := t1.same s5
      have t2 := t2.same s5
      have t3 := t3.same s5
      generalize upd G4 la (.lst [v1, v2, v3, v4]) = G5 at s5 h5 p5 on6 t1 t2 t3 t4
      refine ⟨_, rfl, _, rfl, _, rfl, p, t, rfl, p5, tl, fun v5 G6 p6 k6 ⟨o5, e5⟩ => ?_⟩
      have on7 := on6.kp p6 k6
      refine ⟨_, rfl, p, rfl, p6, fun v6 G7 p7 k7 lx => ?_⟩
      have on8 := on7.kp p7 k7
      have g57 := (Goes.kp p5 k6).trans (Goes.kp p6 k7)
      have h7 := (k6.trans k7) _ _ h5 nap
      refine ⟨(show 2 ≤ sizeLine by decide), fun lb nb => ?_⟩
      have s8 := same_new (o := .lst [v5, v6]) nb
      refine ⟨la, lb, _, _, rfl, rfl, s8 _ _ h7, upd_same, (show 4 + 2 ≤ sizeLine by decide), fun lc nc => ?_⟩
      have s9 := same_new (o := .lst ([v1, v2, v3, v4] ++ [v5, v6])) nc
      have s89 := s8.trans s9
      have on9 := on8.same s89
      have g59 := g57.trans (.of s89)
      obtain ⟨o6, lx⟩ : ∃ o6, LotX K CS CK G7 v6 o6 := by
        rcases lx with h | ⟨o, h⟩
        · exact ⟨none, h⟩
        · exact ⟨some o, h⟩
      have ri : RowIs K CS CK _ v1 v2 v3 v4 v5 v6 z1 z2 z3 z4 o5 o6 := ⟨t1.go g59, t2.go g59, t3.go g59, t4.go g59, (e5.go (Goes.kp p6 k7)).go (.of s89), lx.go (.of s89)⟩
      refine ⟨_, rfl, _, rfl, p, lc, v1, v2, v3, v4, v5, v6, z1, z2, z3, z4, o5, o6, rfl, on9.pu, upd_same, ri, on9.tb, fun G10 on10 => ?_⟩
      exact ⟨true, rfl, iteF ⟨on9.go on10, _, _, _, _, rfl⟩⟩
    · obtain ⟨on1, x1, x2, x3, x4, rfl⟩ := h
      have emp : ∀ (e : Addr), (∀ H, SqT K H e []) → ∀ G, BIs K CK G [] (.ref e) := fun e he G => ⟨e, [], rfl, he G, .nil⟩
      refine fun e1 e2 (h1 : ∀ H, SqT K H e1 []) (h2 : ∀ H, SqT K H e2 []) => ?_
      refine ⟨_, rfl, (show 0 ≤ sizeLine by decide), fun lt nt => ⟨p, lt, [], rfl, on1.pu.new nt, purse_ne on1.pu nt, upd_same, (show 0 < 20 by decide), fun y G2 ny nn p2 k2 => ?_⟩⟩
      have on2 := (on1.same (same_new (o := .lst ([] : List V)) nt)).kp p2 k2
      refine dr rfl p2 (by decide) (by decide) fun n G3 hn p3 k3 => ⟨_, _, rfl, rfl, ?_⟩
      have on3 := on2.kp p3 k3
      refine fun x dx hx hd _ => ?_
      refine ⟨x, dx, .str y, .int ((1 : Int) + (n : Int)), .int 40, .str "n", .ref e1, .ref e2, rfl, upd_same, .inr ⟨⟨y, rfl, ny⟩, .inr ⟨⟨(1 : Int) + (n : Int), rfl, by omega⟩, .inr ⟨⟨40, rfl, by decide⟩, .inr ⟨"n", rfl, by decide +kernel, .inr ⟨⟨e1, [], [], rfl, h1 _, (show 0 ≤ 3 by decide), .nil, rfl⟩, .inr ⟨⟨[], emp e2 h2 _, ⟨(show 1 ≤ 2 by decide), (fun s hs => by cases hs), (show 0 ≤ 2000 by decide)⟩, (show 0 ≤ 400 by decide)⟩, fun G4 k4 ex => ⟨rfl, ?_⟩⟩⟩⟩⟩⟩⟩⟩
      have s4 : Same G3 G4 := same_mk hx hd k4
      have on4 := on3.same s4
      obtain ⟨x4, d4, fs, e4, ha, ff⟩ := ex
      cases e4
      have cl := Y.own.cl
      have nm2 := Y.na "results" (by decide +kernel)
      have nm3 := Y.na "parameter" (by decide +kernel)
      have nm4 := Y.na "slots" (by decide +kernel)
      have nm5 := Y.na "body" (by decide +kernel)
      refine ⟨_, rfl, x, _, d4, fs, _, rfl, ha, cl, nm2, ff.results, _, rfl, x, _, d4, fs, _, rfl, ha, cl, nm3, ff.parameter, _, rfl, x, _, d4, fs, _, rfl, ha, cl, nm4, ff.slots, _, rfl, x, _, d4, fs, _, rfl, ha, cl, nm5, ff.body, (show 4 ≤ sizeLine by decide), fun l nl sm => ?_⟩
      have s5 := same_new (o := .lst [V.int 40, .str "n", .ref e1, .ref e2]) nl
      have on5 := on4.same s5
      have shE : ∀ e : Addr, (∀ H, SqT K H e []) → ∀ G, ShD K G 2 (.ref e) (.tuple []) := fun e he G => .inr (.inr (.inr (.inr (.inr (.inl ⟨e, [], [], rfl, rfl, he G, .nil⟩)))))
      refine ⟨.ref l, "[40, 'n', (), ()]", rfl, ⟨.list [.int 40, .str "n", .tuple [], .tuple []], 3, .inr (.inr (.inr (.inr (.inl ⟨l, _, _, rfl, rfl, sm, SqL.of upd_same, .cons (.inr (.inr (.inl ⟨_, rfl, rfl⟩))) (.cons (.inr (.inr (.inr (.inl ⟨_, rfl, rfl⟩)))) (.cons (shE e1 h1 _) (.cons (shE e2 h2 _) .nil)))⟩)))), by decide +kernel, by decide +kernel, by decide +kernel, by decide +kernel⟩, rfl, ?_⟩
      rw [show ∀ x : V, (!decide (x = x)) = false from fun x => by rw [decide_eq_true rfl]; rfl]
      refine ⟨_, rfl, iteF ?_⟩
      generalize upd G4 l _ = G5 at on5
      clear ha s5 sm nl
      rintro v ⟨e3, rfl, h3⟩
      have h3 : ∀ H, SqT K H e3 [] := h3
      refine fun xv dv hxv hdv _ => ⟨xv, dv, "n", rfl, upd_same, by decide +kernel, fun G6 k6 i6 => ⟨rfl, ?_⟩⟩
      have s6 : Same G5 G6 := same_mk hxv hdv k6
      refine fun xf df hxf hdf _ => ⟨xf, df, rfl, upd_same, fun G7 k7 i7 => ⟨rfl, (show 1 ≤ sizeLine by decide), fun tb nb => ?_⟩⟩
      have s7 : Same G6 G7 := same_mk hxf hdf k7
      have s8 := same_new (o := .tup [V.ref xf]) nb
      refine fun xi di hxi hdi _ => ?_
      have s9 := same_in (o1 := HO.own xi) (o2 := HO.ins (CK .ifs) di []) hxi hdi
      refine ⟨xi, di, .var "n", _, _, _, [mkS .fail []], [], rfl, upd_same, ((i6.same s7).same s8).same s9, lim_var (by decide +kernel), BIs.same (H := upd G7 tb (.tup [V.ref xf])) ⟨tb, _, rfl, SqT.of upd_same, .cons (i7.same s8) .nil⟩ s9, emp e3 h3 _, ?_, fun G10 k10 i10 => ⟨rfl, ?_⟩⟩
      · refine ⟨(show 2 ≤ 2 by decide), fun s hs => ?_, (show 1 ≤ 399 by decide), by decide +kernel⟩
        have e : ([[mkS .fail []], []] : List (List SR)).flatten = [mkS .fail []] := rfl
        rw [e] at hs
        rw [List.mem_singleton.mp hs]
        exact (three_fine (d := 0) (k := 3) (by decide) _ (List.mem_cons_of_mem _ (List.mem_cons_of_mem _ (List.mem_cons_self ..)))).1
      have s10 : Same _ G10 := same_mk hxi hdi k10
      have on10 := on5.same (s6.trans (s7.trans (s8.trans s10)))
      have i10 : SIs CK G10 goodIf (.ref xi) := i10
      obtain ⟨gf, ga, gt⟩ := good_if
      refine fun e0 (he0 : ∀ H, SqT K H e0 []) => ?_
      refine ⟨_, rfl, (show 1 ≤ sizeLine by decide), fun tk ntk => ⟨rfl, rfl, fun x2 d2 hx2 hd2 _ => ?_⟩⟩
      have t1 := same_new (o := .tup [V.ref xi]) ntk
      have t2 := same_in (o1 := HO.own x2) (o2 := HO.ins CY d2 []) hx2 hd2
      refine ⟨x2, d2, .str "go", .int 2, .int 1, .str "n", .ref e0, .ref tk, rfl, upd_same, .inr ⟨⟨"go", rfl, by decide +kernel⟩, .inr ⟨⟨2, rfl, by decide⟩, .inr ⟨⟨1, rfl, by decide⟩, .inr ⟨"n", rfl, by decide +kernel, .inr ⟨⟨e0, [], [], rfl, he0 _, (show 0 ≤ 3 by decide), .nil, rfl⟩, .inr ⟨⟨[goodIf], BIs.same ⟨tk, _, rfl, SqT.of upd_same, .cons (i10.same t1) .nil⟩ t2, ⟨(show 1 ≤ 2 by decide), (fun s hs => by rw [List.mem_singleton.mp hs]; exact gf), (show 1 ≤ 2000 by decide)⟩, (show goodIf.amount + 0 ≤ 400 by omega)⟩, fun G12 k12 ex2 => ⟨rfl, ?_⟩⟩⟩⟩⟩⟩⟩⟩
      have t3 : Same _ G12 := same_mk hx2 hd2 k12
      have t13 := t1.trans t3
      obtain ⟨x5, d5, gs, e5, hb, gf2⟩ := ex2
      cases e5
      have i12 := i10.same t13
      obtain ⟨ai, di2, fi2, ei, hi⟩ := i12.ins
      cases ei
      refine ⟨x2, _, d5, gs, _, rfl, hb, cl, nm5, gf2.body, tk, _, 0, _, rfl, rfl, SqT.of (t3 _ _ upd_same), atI_nat (j := 0) rfl, ?_⟩
      refine ⟨xi, _, di2, fi2, rfl, ⟨_, rfl⟩, hi, goodIf, _, rfl, i12, gf, ⟨_, rfl⟩, ?_⟩
      refine ⟨rfl, _, rfl, ?_⟩
      rw [gt, decide_eq_true rfl]
      refine iteT ⟨_, rfl, xi, _, di2, fi2, rfl, ⟨_, rfl⟩, hi, goodIf, _, rfl, i12, gf, ⟨_, rfl⟩, ?_⟩
      refine ⟨rfl, ?_⟩
      rw [gt, decide_eq_true rfl]
      exact fin _ (on10.same t13)
end
end Jo

set_option Elab.async false
set_option linter.all false
set_option maxRecDepth 100000
set_option maxHeartbeats 2000000
namespace Jo
open PySem PySem.Spec PyProof.Rows L2 ClX
open L2H (RoomH roomH_of)
open LamX (Tabs TabS ExtN CodeO TabB lamS_by LamS lamCx lamEnv tLam pe_lamcall)
/-! ### the law -/
theorem turns6 {L : Int} (h0 : 0 ≤ L) : -(2 ^ 62) ≤ (if (if (6 : Int) < L then (6 : Int) else L) > 2 then (if (6 : Int) < L then (6 : Int) else L) else 2) ∧
    (if (if (6 : Int) < L then (6 : Int) else L) > 2 then (if (6 : Int) < L then (6 : Int) else L) else 2) < 2 ^ 62 ∧
    (if (if (6 : Int) < L then (6 : Int) else L) > 2 then (if (6 : Int) < L then (6 : Int) else L) else 2) ≤ 6 := by
  by_cases a : (6 : Int) < L
  · rw [if_pos a, if_pos (by decide)]
    decide
  · rw [if_neg a]
    by_cases b : L > 2
    · rw [if_pos b]
      omega
    · rw [if_neg b]
      decide
theorem all_bl (n : Nat) : (List.replicate n true).all id = true := by
  rw [List.all_eq_true]
  intro x hx
  rw [List.eq_of_mem_replicate hx] <;> rfl
section
variable {P : Program} {w : World} {K : PySem.W.Frag} {mg : Str → Option Value} {base : Heap}
def n_law : List Str := ["_law_script", "_law_k"]
theorem sc_law : FnScope n_law ["_law_script"] (defScope s_law) := ⟨rfl, rfl, rfl, by decide +kernel, rfl, by decide +kernel, by decide +kernel⟩
def spLaw (K : PySem.W.Frag) (Ps : List Addr) : Sp := fun vs H Q _ => ∃ (a : Addr) (ns : List Int), vs = [.ref a] ∧ SqL K H a (ns.map V.int) ∧ ns.length ≤ 63 ∧ (∀ q ∈ Ps, H q = some (.tbl #[])) ∧ ∀ H', Q (.bl true) H'
theorem ok_law {fl : Addr} {fd : FuncData} {Tb : List (Addr × Str)} (F : Fun K "law" "law" s_law fl fd) (T : Txt mg) (c_cell : CalG P w K mg base 1 "_law_cell" ["_law_script", "_law_k"] (spCell K)) (c_purse : CalG P w K mg base 1 "_law_purse" ["_law_cell_here"] spPurse)
    (c_right : CalG P w K mg base 11 "_law_right" ["_law_purse_here"] (spGo Tb)) : FnG P w K mg base 12 fl fd ["_law_script"] (spLaw K (Tb.map Prod.fst)) := by
  refine fun_okG F sc_law (fun vs H Q E h => ?_) (fun cdv A fr s H vs Q E hr hgd h => ?_)
  · obtain ⟨a, ns, rfl, _⟩ := h
    rfl
  · obtain ⟨a, ns, rfl, hS, hl, hP, fin⟩ := h
    refine ⟨_, pss_one (ps_ret (pe_callB (cr_all rfl) rfl T.b_all (by decide +kernel) (pa_cons (pe_lc (own := [("_law_k", 1)]) (g := gName 1) (tt := tYes) rfl sc_law.nd (pi_range1 rfl T.b_range (pa_cons (pe_callB (call_max2 rfl) rfl T.b_max (by decide +kernel) (pa_cons pe_int (pa_cons (pe_callB (call_min2 rfl) rfl T.b_min (by decide +kernel) (pa_cons (pe_callB call_len rfl T.b_len (by decide +kernel) (pa_cons (pv 0) pa_nil)) (pa_cons pe_int pa_nil))) pa_nil))) pa_nil)) (blkOk_by (N := n_law) (sc := defScope s_law) (by decide +kernel)) (fun _ _ _ _ _ => pg_name (i := 1) sc_law.nd rfl (Or.inl rfl)) (fun _ _ _ _ _ => pts_nil) (fun _ _ _ _ _ => (pe_cG c_right hr (by decide) hgd rfl (pa_cons (pe_cG c_purse hr (by decide) hgd rfl (pa_cons (pe_cG c_cell hr (by decide) hgd rfl (pa_cons (pv 0) (pa_cons (pv 1) pa_nil))) pa_nil)) pa_nil)))) pa_nil))), ?_⟩
    have tb : Tabs Tb H := fun q hq => TabS.nil (hP _ (List.mem_map.mpr ⟨q, hq, rfl⟩))
    obtain ⟨u1, u2, u3⟩ := turns6 (L := ((ns.map V.int).length : Int)) (by omega)
    refine ⟨_, rfl, _, _, rfl, .inl ⟨_, hS, rfl⟩, _, _, rfl, _, _, rfl, _, rfl, u1, u2, fun D3 hD5 => ?_⟩
    refine lc_callN (T := Tb) walk_range hD5 tb ((List.replicate _ true).map V.bl) (by rw [List.length_map, List.length_replicate]) (by omega) (fun _ _ => trivial) (fun i x v G G' R hv eG tG hy hR => ?_) (fun G eG tG hD => ?_)
    · obtain ⟨rfl, hx⟩ := hy
      have hx2 : x = V.int (i : Int) := by
        rw [hx]
        show V.int (0 + (i : Int)) = _
        rw [Int.zero_add]
      subst hx2
      rw [List.map_replicate] at hv
      have hv2 : v = .bl true := List.eq_of_mem_replicate (List.mem_of_getElem? hv)
      have hi : i < _ := (List.getElem?_eq_some_iff.mp hv).1
      rw [List.length_replicate] at hi
      subst hv2
      refine ⟨rfl, _, rfl, _, rfl, a, ns, i, rfl, sql_N hS eG, hl, by omega, fun c H5 s5 => ?_⟩
      refine ⟨c, rfl, fun p H6 s6 hp p6 => ?_⟩
      refine ⟨p, rfl, p6, tG.ext (s5.trans s6), fun H7 on7 => hR H7 (fun b o e ht => ?_) on7.tb⟩
      exact on7.kn _ _ (s6 _ _ (s5 _ _ e)) (fun z => by rw [z] at e; rw [s5 _ _ e] at hp; cases hp) ht
    · refine ⟨D3, _, rfl, SqL.of hD, ?_⟩
      rw [all_bl]
      exact fin _
end
end Jo

set_option Elab.async false
set_option linter.all false
set_option maxRecDepth 100000
set_option maxHeartbeats 2000000
namespace Jo
open PySem PySem.Spec PyProof.Rows L2
theorem intB_ok {K : PySem.W.Frag} {q : Str × Int} (h : intB K q = true) : ∃ u, PySem.W.nsIn K mainGlobals q.1 = some (some u) ∧ RelV (.int q.2) u := by
  unfold intB at h
  split at h
  · rename_i j t e
    exact ⟨_, e, t, by rw [of_decide_eq_true h]⟩
  · cases h
theorem strB_ok {K : PySem.W.Frag} {q : Str × Str} (h : strB K q = true) : ∃ u, PySem.W.nsIn K mainGlobals q.1 = some (some u) ∧ RelV (.str q.2) u := by
  unfold strB at h
  split at h
  · rename_i j t e
    exact ⟨_, e, t, by rw [of_decide_eq_true h]⟩
  · cases h
theorem mtB_ok {K : PySem.W.Frag} {C : Addr} {m : Str} (h : mtB K C m = true) : PySem.W.findIn K (.ref C) m = some (some (.ref (He.ma K C m))) ∧ PySem.W.isFn K (.ref (He.ma K C m)) = true := by
  obtain ⟨h1, h2⟩ := He.ba h
  exact ⟨He.eqO_ok h1, h2⟩
theorem ownB_ok {K : PySem.W.Frag} {C : Addr} (g1 : PySem.W.specialIn K (.builtin "object.__class__") "__get__" = some (some (.builtin "getset_descriptor.__get__"))) (g2 : PySem.W.takesIn K (.builtin "object.__class__") = some true) (h : ownB K C = true) : OwnC K C := by
  obtain ⟨a1, h⟩ := He.ba h
  obtain ⟨a2, h⟩ := He.ba h
  obtain ⟨a3, h⟩ := He.ba h
  obtain ⟨a4, h⟩ := He.ba h
  obtain ⟨a5, a6⟩ := He.ba h
  exact ⟨⟨a1, a2, a3, He.eqO_ok a4⟩, He.eqO_ok a5, g1, g2, of_decide_eq_true a6⟩
theorem noB_ok {K : PySem.W.Frag} {C : Addr} {fs : List Str} (h : noB K C fs = true) : ∀ f ∈ fs, NoAttr K C f := fun f hf => He.eqO_ok (List.all_eq_true.mp h f hf)
theorem mkB_ok {K : PySem.W.Frag} {C : Addr} (h : mkB K C = true) : Mk K C (He.ma K C "__init__") := by
  obtain ⟨a1, h⟩ := He.ba h
  obtain ⟨a2, a3⟩ := He.ba h
  obtain ⟨b1, b2⟩ := mtB_ok a2
  exact ⟨a1, b1, b2, a3⟩
theorem wdA_ok {K : PySem.W.Frag} {C : Addr} {z : Str} (h : wdA K C z = true) : ∃ u, Con K C "WORD" (.str z) u := by
  unfold wdA at h
  split at h
  · rename_i y t e
    obtain ⟨h1, h2⟩ := He.ba h
    exact ⟨_, e, ⟨t, by rw [of_decide_eq_true h1]⟩, of_decide_eq_true h2, by decide +kernel⟩
  · cases h
theorem wdC_ok {K : PySem.W.Frag} {C : Addr} {z : Str} (h : wdC K C z = true) : ∃ u, ClX.CVal K C (.type "type") "WORD" (.str z) u := by
  unfold wdC at h
  split at h
  · rename_i y t e
    exact ⟨_, e, ⟨t, by rw [of_decide_eq_true h]⟩⟩
  · cases h
theorem cfB_ok {K : PySem.W.Frag} {C : Addr} {m : Str} (r : rdB K C = true) (h : cfB K C m = true) : ClFn K C m (He.ma K C m) := by
  obtain ⟨r1, r2⟩ := He.ba r
  unfold cfB at h
  split at h
  · rename_i a e
    rw [of_decide_eq_true h] at e
    exact ⟨of_decide_eq_true r2, _, r1, e⟩
  · cases h
theorem allK (k : Kd) : k ∈ kindsL := by
  cases k with
  | bi b => cases b <;> decide +kernel
  | _ => decide +kernel
theorem nameK (k : Kd) (hk : k.has = true) : k.cname ∈ clT := by
  cases k with
  | bi b => cases b <;> first | (exact absurd hk (by decide)) | decide +kernel
  | ch => exact absurd hk (by decide)
  | _ => decide +kernel
theorem allH (k : Kd) (hk : k.has = true) : k ∈ kindsH := List.mem_filter.mpr ⟨allK k, hk⟩
def Kd.real (k : Kd) : Kd := if k.has = true then k else .num
theorem real_has (k : Kd) : (Kd.real k).has = true := by
  unfold Kd.real
  by_cases h : k.has = true
  · rw [if_pos h]
    exact h
  · rw [if_neg h]
    rfl
theorem real_of {k : Kd} (h : k.has = true) : Kd.real k = k := by
  unfold Kd.real
  rw [if_pos h]
theorem clsB_ok {K : PySem.W.Frag} (h : clsB K = true) : stA K (He.ga K "Expression") = true ∧ ∀ k : Kd, kdA K (He.ga K "Expression") (He.ga K (Kd.real k).cname) (Kd.real k).word = true := by
  unfold clsB at h
  rw [HandSHeadRun.frNat_eq] at h
  obtain ⟨h1, h2⟩ := He.ba h
  refine ⟨h1, fun k => ?_⟩
  have e := List.all_eq_true.mp h2 (Kd.real k) (allH _ (real_has k))
  rw [HandSHeadRun.frNat_eq] at e
  exact e
theorem prB_ok {K : PySem.W.Frag} (h : kindsH.all (fun k => kindsH.all (prB K k)) = true) (k l : Kd) : PySem.W.kitOne K (.ref (He.ga K (Kd.real k).cname)) (.ref (He.ga K (Kd.real l).cname)) = some (decide (Kd.real k = Kd.real l)) ∧ PySem.W.notFirst K (He.ga K (Kd.real k).cname) (.ref (He.ga K (Kd.real l).cname)) = true := by
  have e := List.all_eq_true.mp (List.all_eq_true.mp h _ (allH _ (real_has k))) _ (allH _ (real_has l))
  unfold prB at e
  rw [HandSHeadRun.frNat_eq, HandSHeadRun.frNat_eq] at e
  obtain ⟨e1, e2⟩ := He.ba e
  exact ⟨of_decide_eq_true e1, e2⟩
theorem arB_ok {K : PySem.W.Frag} (h : arB K = true) : ∀ k : Kd, 0 < k.many → ∃ u, PySem.W.nsIn K (He.ga K "ARITIES") k.word = some (some u) ∧ RelV (.int (k.many : Int)) u := fun k hk => by
  have e := List.all_eq_true.mp h k (allK k)
  rw [Bool.or_eq_true] at e
  rcases e with e | e
  · have := of_decide_eq_true e
    omega
  · unfold arK at e
    split at e
    · rename_i j t e2
      exact ⟨_, e2, t, by rw [of_decide_eq_true e]⟩
    · cases e
theorem lookB_ok {K : PySem.W.Frag} {C B : Addr} {newId : String} {bmB : List Value} (h : lookB K C B newId bmB = true) :
    ∃ nm q N bs sn sub ab col dd k0 k1 k2 k3 k5, K.lookup C = some (excClassObj nm q C N bs (.ref B :: bmB) true sn sub ab col dd k0 k1 k2 k3 k5 newId) := by
  unfold lookB at h
  split at h
  · rename_i t dd cd sl ho
    obtain ⟨h1, h⟩ := He.ba h
    obtain ⟨h2, h⟩ := He.ba h
    obtain ⟨h3, h⟩ := He.ba h
    obtain ⟨h4, h⟩ := He.ba h
    split at h
    · rename_i k0 k1 k2 k3 n k5 hs
      have e1 := of_decide_eq_true h1
      have e2 := of_decide_eq_true h2
      have e5 := of_decide_eq_true h
      rw [Bool.not_eq_true'] at h4
      obtain ⟨nm, bs, mro, ns, qn, hd, sn, sub, ab, col, del⟩ := cd
      dsimp only at e2 h3 h4
      subst e1 e2 e5 h3 h4
      have hsl : sl = #[k0, k1, k2, k3, some (.builtin n), k5] := by
        obtain ⟨l⟩ := sl
        simp only at hs
        rw [hs]
      subst hsl
      exact ⟨nm, qn, ns, bs, sn, sub, ab, col, dd, k0, k1, k2, k3, k5, ho⟩
    · cases h
  · cases h
theorem ecB_ok {K : PySem.W.Frag} {C B : Addr} {newId : String} {bmB : List Value} (h : ecB K C B newId bmB = true) : EC K C B newId bmB := by
  obtain ⟨h1, h⟩ := He.ba h
  obtain ⟨h2, h⟩ := He.ba h
  obtain ⟨h3, h⟩ := He.ba h
  obtain ⟨h4, h⟩ := He.ba h
  obtain ⟨h5, h6⟩ := He.ba h
  exact ⟨lookB_ok h1, He.eqO_ok h2, He.eqO_ok h3, He.eqO_ok h4, He.eqO_ok h5, h6⟩
theorem emB_ok {K : PySem.W.Frag} {a : Addr} (h : emB K a = true) (H : Hp) : SqT K H a [] := by
  unfold emB at h
  split at h
  · rename_i t dd its n sl e
    obtain ⟨h1, h2⟩ := He.ba h
    have e2 : its.toList = [] := List.isEmpty_iff.mp h2
    have e3 : its.size = 0 := by rw [← Array.length_toList, e2] <;> rfl
    exact .inr ⟨_, its, n, e, by rw [of_decide_eq_true h1], rfl, by rw [e3]; exact Nat.zero_le _, by rw [e2]; exact .nil⟩
  · cases h
theorem twB_ok {K : PySem.W.Frag} {T : Addr} (h : twB K T = true) : ∃ (o : Obj) (n : Nat) (e1 e2 : Addr), K.lookup T = some o ∧ o.data = .seq [.ref e1, .ref e2].toArray n ∧ (∀ H, SqT K H e1 []) ∧ ∀ H, SqT K H e2 [] := by
  unfold twB at h
  split at h
  · rename_i oc od its n sl e
    split at h
    · rename_i e1 e2 el
      obtain ⟨h1, h2⟩ := He.ba h
      refine ⟨_, n, e1, e2, e, ?_, emB_ok h1, emB_ok h2⟩
      rw [← el]
    · cases h
  · cases h
theorem dfnT_mk {K : PySem.W.Frag} {mg : Str → Option Value} {l : Heap} {x : Str} {st : Stmt} {ps : List Str} {od an : Option Addr} {sl : Array (Option Value)} {oc kV dc pm cd ct : Value} (I : K.In l) (G : l.Ns mainGlobals mg)
    (a : PySem.W.nsIn K mainGlobals x = some (some (.ref (He.fAd K (x, none)))))
    (q : K.lookup (He.fAd K (x, none)) = some ⟨oc, od, .func (PySem.W.fnOf x x (defArgs st) (defBody st) (defScope st) .none kV dc pm an cd ct), sl⟩)
    (c : PySem.W.codeIn K cd x = true) (kp : PySem.W.keepIn K (.ref (He.fAd K (x, none))) = true)
    (hb : ∀ us : List Value, us.length = ps.length → bindArgs (PySem.W.fnOf x x (defArgs st) (defBody st) (defScope st) .none kV dc pm an cd ct) ⟨us, []⟩ = pure (ps.zip us))
    (hk : ∀ us : List Value, us.length = ps.length → bindArgs (PySem.W.fnOf x x (defArgs st) (defBody st) (defScope st) .none kV dc pm an cd ct) ⟨[], ps.zip us⟩ = pure (ps.zip us)) :
    DfnT K mg x st ps (He.cT K (x, none)).1 := by
  obtain ⟨c0, rfl⟩ := He.codeIn_ref c
  have e : (He.cT K (x, none)).1 = c0 := He.codeOf_eq q rfl
  rw [e]
  exact ⟨_, oc, od, kV, dc, pm, ct, an, sl, q, c, PySem.W.mg_of I G a, kp, .all hb, fun s us hl => .of_eq (hk us hl)⟩
theorem mthq_mk {K : PySem.W.Frag} {C : Addr} {m qual : Str} {st : Stmt} {ps : List Str} {h : Heap} {fa : Addr} {od an : Option Addr} {sl : Array (Option Value)} {oc kV dc pm cd ct : Value}
    (a : PySem.W.findIn K (.ref C) m = some (some (.ref fa))) (i : PySem.W.isFn K (.ref fa) = true)
    (q : K.lookup fa = some ⟨oc, od, .func (PySem.W.fnOf m qual (defArgs st) (defBody st) (defScope st) .none kV dc pm an cd ct), sl⟩)
    (c : PySem.W.codeIn K cd qual = true) (kp : PySem.W.keepIn K (.ref fa) = true)
    (hb : ∀ us : List Value, us.length = ps.length → bindArgs (PySem.W.fnOf m qual (defArgs st) (defBody st) (defScope st) .none kV dc pm an cd ct) ⟨us, []⟩ = pure (ps.zip us))
    (hk : ∀ (u : Value) (us : List Value), (u :: us).length = ps.length → bindArgs (PySem.W.fnOf m qual (defArgs st) (defBody st) (defScope st) .none kV dc pm an cd ct) ⟨[u], (ps.drop 1).reverse.zip us.reverse⟩ = pure (ps.zip (u :: us)))
    (hq : ∀ (u v : Value) (us : List Value), (u :: v :: us).length = ps.length → bindArgs (PySem.W.fnOf m qual (defArgs st) (defBody st) (defScope st) .none kV dc pm an cd ct) ⟨[u, v], (ps.drop 2).zip us⟩ = pure (ps.zip (u :: v :: us))) :
    MthQ K C m qual st ps := ⟨fa, _, fun_mk q c kp, ⟨a, i, kp⟩, .all hb, fun s u us hl => .of_eq (hk u us hl), fun s u v us hl => .of_eq (hq u v us hl)⟩
theorem e1B_ok {K : PySem.W.Frag} {T : Addr} (h : e1B K T = true) : ∃ (o : Obj) (n : Nat) (e1 : Addr), K.lookup T = some o ∧ o.data = .seq [.ref e1].toArray n ∧ ∀ H, SqT K H e1 [] := by
  unfold e1B at h
  split at h
  · rename_i oc od its n sl e
    split at h
    · rename_i e1 el
      refine ⟨_, n, e1, e, ?_, emB_ok h⟩
      rw [← el]
    · cases h
  · cases h
theorem n1B_ok {K : PySem.W.Frag} {T : Addr} (h : n1B K T = true) : ∃ (o : Obj) (n : Nat), K.lookup T = some o ∧ o.data = .seq [.none].toArray n := by
  unfold n1B at h
  split at h
  · rename_i oc od its n sl e
    split at h
    · rename_i el
      refine ⟨_, n, e, ?_⟩
      rw [← el]
    · cases h
  · cases h
theorem bindsK1 {K : PySem.W.Frag} {x qual : Str} {params : Arguments} {body : List Stmt} {scope : Scope} {dvs : List V} {kws : List (Str × V)} {f : Addr} {fd : FuncData} {ps : List Str} (F : FunD K x qual params body scope dvs kws f fd) (hd : dvs ≠ [])
    (h : ∀ (T : Addr) (kV doc pm : Value) (an : Option Addr) (cdv ct : Value) (u : Value) (us its : List Value), (u :: us).length = ps.length → its.length = dvs.length →
      ∃ k, bindArgs (PySem.W.fnOf x qual params body scope (.ref T) kV doc pm an cdv ct) ⟨[u], (ps.drop 1).reverse.zip us.reverse⟩ = seqItems? (.ref T) >>= k ∧ k (some its.toArray) = pure (ps.zip (u :: us))) :
    ∀ (s : Shared) (u : Value) (us : List Value), K.In s.heap → (u :: us).length = ps.length → BindsTo s fd ⟨[u], (ps.drop 1).reverse.zip us.reverse⟩ (ps.zip (u :: us)) := by
  intro s u us X hlen
  obtain ⟨oc, od, dV, kV, doc, pm, an, cdv, ct, osl, rfl, lk, hcd, hD, hK⟩ := F.ex
  rcases hD with ⟨e, _⟩ | ⟨_, T, o, its, m, rfl, lT, oT, rT⟩
  · exact absurd e hd
  · obtain ⟨k, e1, e2⟩ := h T kV doc pm an cdv ct u us its hlen rT.length.symm
    refine BindsTo.of_looks fun M => ?_
    rw [e1]
    exact looks_items X lT oT (.of_pure e2)
theorem nameS (k : Sk) (hk : k.has = true) : k.cname ∈ skS := by cases k <;> first | (exact absurd hk (by decide)) | decide +kernel
theorem nameS2 (k : Sk) (hk : k.has = true) : k.cname ∈ clT := by cases k <;> first | (exact absurd hk (by decide)) | decide +kernel
def Sk.real (k : Sk) : Sk := if k.has = true then k else .fail
theorem sreal_has (k : Sk) : (Sk.real k).has = true := by cases k <;> rfl
theorem sreal_of {k : Sk} (h : k.has = true) : Sk.real k = k := if_pos h
theorem sameS (k l : Sk) : decide (k.cname = l.cname) = decide (k = l) := by cases k <;> cases l <;> decide +kernel
theorem ssB_ok {K : PySem.W.Frag} (h : (skS.all fun x => skS.all (ssB K x)) = true) (k l : Sk) : PySem.W.kitOne K (.ref (He.ga K (Sk.real k).cname)) (.ref (He.ga K (Sk.real l).cname)) = some (decide (Sk.real k = Sk.real l)) ∧ PySem.W.notFirst K (He.ga K (Sk.real k).cname) (.ref (He.ga K (Sk.real l).cname)) = true := by
  have e := List.all_eq_true.mp (List.all_eq_true.mp h _ (nameS _ (sreal_has k))) _ (nameS _ (sreal_has l))
  unfold ssB at e
  rw [HandSHeadRun.frNat_eq, HandSHeadRun.frNat_eq] at e
  obtain ⟨e1, e2⟩ := He.ba e
  rw [sameS] at e1
  exact ⟨of_decide_eq_true e1, e2⟩
theorem skA_ok {K : PySem.W.Frag} {E S F : Addr} (h : skA K E S F = true) : ownB K F = true ∧ noB K F ["amount", "height", "names", "bodies", "lines", "expression", "name", "test", "body", "otherwise", "handler", "into"] = true ∧ mkB K F = true ∧ inhB K S F "__eq__" = true ∧ inhB K S F "__str__" = true ∧ inhB K S F "__repr__" = true ∧ PySem.W.kitOne K (.ref F) (.ref E) = some false ∧ PySem.W.kitOne K (.ref F) (.ref S) = some true ∧ PySem.W.notFirst K F (.type "str") = true ∧ PySem.W.notFirst K F (.type "tuple") = true := by
  unfold skA at h
  obtain ⟨h1, h⟩ := He.ba h
  obtain ⟨h2, h⟩ := He.ba h
  obtain ⟨h3, h⟩ := He.ba h
  obtain ⟨h4, h⟩ := He.ba h
  obtain ⟨h5, h⟩ := He.ba h
  obtain ⟨h6, h⟩ := He.ba h
  obtain ⟨h7, h⟩ := He.ba h
  obtain ⟨h8, h⟩ := He.ba h
  obtain ⟨h9, h⟩ := He.ba h
  exact ⟨h1, h2, h3, h4, h5, h6, of_decide_eq_true h7, of_decide_eq_true h8, h9, h⟩
theorem skB_ok {K : PySem.W.Frag} (h : skB K = true) (k : Sk) : skA K (He.ga K "Expression") (He.ga K "Statement") (He.ga K (Sk.real k).cname) = true := by
  unfold skB at h
  rw [HandSHeadRun.frNat_eq, HandSHeadRun.frNat_eq] at h
  have e := List.all_eq_true.mp h _ (nameS _ (sreal_has k))
  rw [HandSHeadRun.frNat_eq] at e
  exact e
theorem scB_ok {K : PySem.W.Frag} (h : scB K = true) (k : Kd) : PySem.W.kitOne K (.ref (He.ga K (Kd.real k).cname)) (.ref (He.ga K "Statement")) = some false := by
  unfold scB at h
  rw [HandSHeadRun.frNat_eq] at h
  have e := List.all_eq_true.mp h _ (allH _ (real_has k))
  rw [HandSHeadRun.frNat_eq] at e
  exact of_decide_eq_true (He.ba e).1
def EK.nr : EK → Nat
  | .a => 0
  | .s => 1
  | .l => 2
  | .b => 3
theorem er1B_ok {K : PySem.W.Frag} {mg : Str → Option Value} {x : Str} {C B R1 R2 : Addr} {new b ini : String} {bm : List Value} {f : Str} (eb : EBase b new ini bm) (g : mg x = some (.ref C)) (h : er1B K C B R1 R2 new bm f = true) : Er1 K mg x f C R1 R2 := by
  unfold er1B at h
  obtain ⟨h1, h⟩ := He.ba h
  obtain ⟨h2, h3⟩ := He.ba h
  exact ⟨⟨B, b, new, ini, bm, ecB_ok h1, eb⟩, g, He.eqO_ok h2, of_decide_eq_true h3⟩
theorem erB_ok {K : PySem.W.Frag} {mg : Str → Option Value} (ge : ∀ k : EK, mg k.cn = some (.ref (He.ga K k.cn))) (g1 : mg "ReentryError" = some (.ref (He.ga K "ReentryError"))) (g2 : mg "LimitError" = some (.ref (He.ga K "LimitError"))) (cw : CW K) (h : erB K = true) : ErC K mg (fun k => He.ga K k.cn) (He.ga K "ReentryError") (He.ga K "LimitError") := by
  unfold erB at h
  rw [HandSHeadRun.frNat_eq, HandSHeadRun.frNat_eq, HandSHeadRun.frNat_eq, HandSHeadRun.frNat_eq, HandSHeadRun.frNat_eq, HandSHeadRun.frNat_eq] at h
  unfold erA at h
  obtain ⟨h1, h⟩ := He.ba h
  obtain ⟨h2, h⟩ := He.ba h
  obtain ⟨h3, h⟩ := He.ba h
  obtain ⟨h4, h⟩ := He.ba h
  unfold erP at h
  have at_ : ∀ k : EK, (k.nr, He.ga K k.cn) ∈ [(0, He.ga K "InvalidName"), (1, He.ga K "InvalidSize"), (2, He.ga K "InvalidSlots"), (3, He.ga K "InvalidBody")] := fun k => by
    cases k
    · exact List.mem_of_getElem? (i := 0) rfl
    · exact List.mem_of_getElem? (i := 1) rfl
    · exact List.mem_of_getElem? (i := 2) rfl
    · exact List.mem_of_getElem? (i := 3) rfl
  have nr : ∀ i j : EK, decide (i.nr = j.nr) = decide (i = j) := fun i j => by cases i <;> cases j <;> rfl
  refine ⟨er1B_ok ebV (ge .a) h1, er1B_ok ebV (ge .s) h2, er1B_ok ebV (ge .l) h3, er1B_ok ebV (ge .b) h4, fun i j => ?_, g1, g2, cw⟩
  have e := of_decide_eq_true (List.all_eq_true.mp (List.all_eq_true.mp h _ (at_ i)) _ (at_ j))
  rw [nr] at e
  exact e
theorem enV_ok {K : PySem.W.Frag} {dV kV : Value} (h : enV K dV kV = true) : ∃ D0 e1 e2 : Addr, dV = .none ∧ kV = .ref D0 ∧ PySem.W.nsIn K D0 "slots" = some (some (.ref e1)) ∧ PySem.W.nsIn K D0 "body" = some (some (.ref e2)) ∧ emB K e1 = true ∧ emB K e2 = true := by
  unfold enV at h
  split at h
  · split at h
    · rename_i D0
      obtain ⟨ha, hb⟩ := He.ba h
      split at ha
      · rename_i e1 ns
        split at hb
        · rename_i e2 ns2
          exact ⟨D0, e1, e2, rfl, rfl, ns, ns2, ha, hb⟩
        · cases hb
      · cases ha
    · cases h
  · cases h
theorem facts {P : Program} {w : World} {K : PySem.W.Frag} {h : Heap} {mg : Str → Option Value} {fa : Addr} (X : K.In h) (G : h.Ns mainGlobals mg) (hfa : mg "law" = some (.ref fa)) (c : SaysM okT fnT fxT tbT psT w h K) :
    ∃ fd : FuncData, (∀ (s : Shared) (v : Value), BindsTo s fd ⟨[v], []⟩ [("_law_script", v)]) ∧ ∀ base : Heap, K.In base → base.Ns mainGlobals mg → (∀ p ∈ psT.map (He.cT K), LamX.TabB base mg p.1 p.2) → FnG P w K mg base 12 fa fd ["_law_script"] (spLaw K ((psT.map (He.cT K)).map Prod.snd)) := by
  obtain ⟨c1, w_⟩ := He.ba c.k.1.1.1
  obtain ⟨c2, w_⟩ := He.ba w_
  obtain ⟨c3, w_⟩ := He.ba w_
  obtain ⟨c4, w_⟩ := He.ba w_
  obtain ⟨c5, w_⟩ := He.ba w_
  obtain ⟨c6, w_⟩ := He.ba w_
  obtain ⟨c7, w_⟩ := He.ba w_
  obtain ⟨c8, w_⟩ := He.ba w_
  obtain ⟨c9, w_⟩ := He.ba w_
  obtain ⟨c10, w_⟩ := He.ba w_
  obtain ⟨c11, w_⟩ := He.ba w_
  obtain ⟨c12, w_⟩ := He.ba w_
  obtain ⟨c13, w_⟩ := He.ba w_
  obtain ⟨c14, w_⟩ := He.ba w_
  obtain ⟨c15, w_⟩ := He.ba w_
  obtain ⟨c16, w_⟩ := He.ba w_
  obtain ⟨c17, w_⟩ := He.ba w_
  obtain ⟨c18, w_⟩ := He.ba w_
  obtain ⟨c19, w_⟩ := He.ba w_
  obtain ⟨c20, w_⟩ := He.ba w_
  obtain ⟨c21, w_⟩ := He.ba w_
  obtain ⟨c22, w_⟩ := He.ba w_
  obtain ⟨c23, w_⟩ := He.ba w_
  obtain ⟨c24, w_⟩ := He.ba w_
  obtain ⟨c25, w_⟩ := He.ba w_
  obtain ⟨c26, c27⟩ := He.ba w_
  have qc : ∀ x ∈ clT, PySem.W.nsIn K mainGlobals x = some (some (.ref (He.ga K x))) := fun x e => He.eqO_ok (List.all_eq_true.mp c1 x e)
  have qi : ∀ (i : Nat) {d : Str × Int}, inT[i]? = some d → ∃ u, PySem.W.nsIn K mainGlobals d.1 = some (some u) ∧ RelV (.int d.2) u := fun i d e => intB_ok (List.all_eq_true.mp c4 d (List.mem_of_getElem? e))
  have qs : ∀ (i : Nat) {d : Str × Str}, stT[i]? = some d → ∃ u, PySem.W.nsIn K mainGlobals d.1 = some (some u) ∧ RelV (.str d.2) u := fun i d e => strB_ok (List.all_eq_true.mp c5 d (List.mem_of_getElem? e))
  have qf : ∀ (i : Nat) {d : Str}, frT[i]? = some d → PySem.W.nsIn K mainGlobals d = some none := fun i d e => He.eqO_ok (List.all_eq_true.mp c6 d (List.mem_of_getElem? e))
  have qd : ∀ (i : Nat) {d : He.FnD}, dfT[i]? = some d → PySem.W.nsIn K mainGlobals d.name = some (some (.ref (He.ga K d.name))) := fun i d e => He.eqO_ok (List.all_eq_true.mp c7 d (List.mem_of_getElem? e))
  have qn : ∀ (i : Nat) {d : He.FnD}, fnT[i]? = some d → (∃ oc od osl kV doc pm an cdv ct, K.lookup (He.fAd K d.at_) = some ⟨oc, od, .func (PySem.W.fnOf d.name d.qual d.params d.body d.scope .none kV doc pm an cdv ct), osl⟩ ∧ PySem.W.codeIn K cdv d.qual = true) ∧ PySem.W.keepIn K (.ref (He.fAd K d.at_)) = true := fun i d e => by
    obtain ⟨z1, z2⟩ := He.ba (List.all_eq_true.mp c8 d (List.mem_of_getElem? e))
    exact ⟨c.k.1.1.at_ i e z1, z2⟩
  have g1 := of_decide_eq_true c26
  have g2 := of_decide_eq_true c27
  have pr := prB_ok c3
  obtain ⟨sa, ka⟩ := clsB_ok c2
  obtain ⟨t_rE, w_⟩ := He.ba sa
  obtain ⟨t_cE, w_⟩ := He.ba w_
  obtain ⟨t_e0, w_⟩ := He.ba w_
  obtain ⟨t_e1, w_⟩ := He.ba w_
  obtain ⟨t_e2, w_⟩ := He.ba w_
  obtain ⟨t_e3, t_ks⟩ := He.ba w_
  have k_own : ∀ k : Kd, OwnC K (He.ga K (Kd.cname (Kd.real k))) := fun k => ownB_ok g1 g2 ((He.ba (ka k)).1)
  have k_no : ∀ k : Kd, ∀ f ∈ fieldsX, NoAttr K (He.ga K (Kd.cname (Kd.real k))) f := fun k => noB_ok ((He.ba ((He.ba (ka k)).2)).1)
  have k_wd : ∀ k : Kd, wdB K (He.ga K (Kd.cname (Kd.real k))) (Kd.real k).word = true := fun k => (He.ba ((He.ba ((He.ba (ka k)).2)).2)).1
  have k_rd : ∀ k : Kd, rdB K (He.ga K (Kd.cname (Kd.real k))) = true := fun k => (He.ba ((He.ba ((He.ba ((He.ba (ka k)).2)).2)).2)).1
  have k_kE : ∀ k : Kd, PySem.W.kitOne K (.ref (He.ga K (Kd.cname (Kd.real k)))) (.ref (He.ga K "Expression")) = some true := fun k => of_decide_eq_true ((He.ba ((He.ba ((He.ba ((He.ba ((He.ba (ka k)).2)).2)).2)).2)).1)
  have k_nS : ∀ k : Kd, PySem.W.notFirst K (He.ga K (Kd.cname (Kd.real k))) (.type "str") = true := fun k => (He.ba ((He.ba ((He.ba ((He.ba ((He.ba ((He.ba (ka k)).2)).2)).2)).2)).2)).1
  have k_fm : ∀ k : Kd, PySem.W.findIn K (.ref (He.ga K (Kd.cname (Kd.real k)))) "__format__" = some (some (.builtin "object.__format__")) := fun k => He.eqO_ok ((He.ba ((He.ba ((He.ba ((He.ba ((He.ba ((He.ba ((He.ba (ka k)).2)).2)).2)).2)).2)).2)).1)
  have k_mk : ∀ k : Kd, Mk K (He.ga K (Kd.cname (Kd.real k))) (He.ma K (He.ga K (Kd.cname (Kd.real k))) "__init__") := fun k => mkB_ok ((He.ba ((He.ba ((He.ba ((He.ba ((He.ba ((He.ba ((He.ba ((He.ba (ka k)).2)).2)).2)).2)).2)).2)).2)).1)
  have k_i0 : ∀ k : Kd, PySem.W.findIn K (.ref (He.ga K (Kd.cname (Kd.real k)))) "__eq__" = some (some (.ref (He.ma K (He.ga K "Expression") "__eq__"))) := fun k => He.eqO_ok ((He.ba ((He.ba ((He.ba ((He.ba ((He.ba ((He.ba ((He.ba ((He.ba ((He.ba (ka k)).2)).2)).2)).2)).2)).2)).2)).2)).1)
  have k_i1 : ∀ k : Kd, PySem.W.findIn K (.ref (He.ga K (Kd.cname (Kd.real k)))) "__str__" = some (some (.ref (He.ma K (He.ga K "Expression") "__str__"))) := fun k => He.eqO_ok ((He.ba ((He.ba ((He.ba ((He.ba ((He.ba ((He.ba ((He.ba ((He.ba ((He.ba ((He.ba (ka k)).2)).2)).2)).2)).2)).2)).2)).2)).2)).1)
  have k_i2 : ∀ k : Kd, PySem.W.findIn K (.ref (He.ga K (Kd.cname (Kd.real k)))) "__repr__" = some (some (.ref (He.ma K (He.ga K "Expression") "__repr__"))) := fun k => He.eqO_ok ((He.ba ((He.ba ((He.ba ((He.ba ((He.ba ((He.ba ((He.ba ((He.ba ((He.ba ((He.ba (ka k)).2)).2)).2)).2)).2)).2)).2)).2)).2)).2)
  obtain ⟨u0, a0, r0⟩ := qi 0 rfl
  obtain ⟨u1, a1, r1⟩ := qi 1 rfl
  obtain ⟨u2, a2, r2⟩ := qi 2 rfl
  obtain ⟨u3, a3, r3⟩ := qi 3 rfl
  obtain ⟨u4, a4, r4⟩ := qi 4 rfl
  obtain ⟨u5, a5, r5⟩ := qi 5 rfl
  obtain ⟨u6, a6, r6⟩ := qi 6 rfl
  obtain ⟨u7, a7, r7⟩ := qi 7 rfl
  obtain ⟨v0, b0, s0⟩ := qs 0 rfl
  obtain ⟨v1, b1, s1⟩ := qs 1 rfl
  have T : Txt mg := ⟨⟨_, PySem.W.mg_of X G a0, r0⟩, ⟨_, PySem.W.mg_of X G a1, r1⟩, ⟨_, PySem.W.mg_of X G a2, r2⟩, ⟨_, PySem.W.mg_of X G a3, r3⟩, ⟨_, PySem.W.mg_of X G a4, r4⟩, ⟨_, PySem.W.mg_of X G a5, r5⟩, ⟨_, PySem.W.mg_of X G a6, r6⟩, ⟨_, PySem.W.mg_of X G b0, s0⟩, ⟨_, PySem.W.mg_of X G b1, s1⟩, ⟨_, PySem.W.mg_of X G a7, r7⟩, PySem.W.mg_none_of X G (qf 0 rfl), PySem.W.mg_none_of X G (qf 1 rfl), PySem.W.mg_none_of X G (qf 2 rfl), PySem.W.mg_none_of X G (qf 3 rfl), PySem.W.mg_none_of X G (qf 4 rfl), PySem.W.mg_none_of X G (qf 5 rfl), PySem.W.mg_none_of X G (qf 6 rfl), PySem.W.mg_none_of X G (qf 7 rfl), PySem.W.mg_none_of X G (qf 8 rfl), PySem.W.mg_none_of X G (qf 9 rfl), PySem.W.mg_none_of X G (qf 10 rfl), PySem.W.mg_none_of X G (qf 11 rfl), PySem.W.mg_none_of X G (qf 12 rfl), PySem.W.mg_none_of X G (qf 13 rfl), PySem.W.mg_none_of X G (qf 14 rfl), PySem.W.mg_none_of X G (qf 15 rfl), PySem.W.mg_none_of X G (qf 16 rfl), PySem.W.mg_none_of X G (qf 17 rfl)⟩
  let C : Kd → Addr := fun k => He.ga K (Kd.real k).cname
  have cr : ∀ k : Kd, k.has = true → C k = He.ga K k.cname := fun k hk => by
    show He.ga K (Kd.real k).cname = _
    rw [real_of hk]
  have XX : XT K mg C (He.ga K "Expression") := ⟨k_own, k_no, fun k hk => by rw [cr k hk]; exact PySem.W.mg_of X G (qc _ (nameK k hk)), PySem.W.mg_of X G (qc "Expression" (by decide)), fun k hk => by
    have e := wdA_ok (He.ba (k_wd k)).1
    rw [real_of hk] at e
    rw [cr k hk]
    exact e, fun k hk => by
    have e := k_wd k
    have y := k_rd k
    rw [real_of hk] at e y
    rw [cr k hk]
    obtain ⟨u, hu⟩ := wdC_ok (He.ba e).2
    obtain ⟨y1, y2⟩ := He.ba y
    exact ⟨_, u, ⟨y1, of_decide_eq_true y2⟩, hu⟩, fun k l hk hl => by
    have e := (pr k l).1
    rw [real_of hk, real_of hl] at e
    rw [cr k hk, cr l hl]
    exact e, k_kE, of_decide_eq_true t_ks, fun k l => (pr k l).2, k_nS, k_fm⟩
  obtain ⟨e0, e0n⟩ := mtB_ok t_e0
  obtain ⟨e1, e1n⟩ := mtB_ok t_e1
  obtain ⟨e2, e2n⟩ := mtB_ok t_e2
  obtain ⟨e3, e3n⟩ := mtB_ok t_e3
  have mu : ∀ {B f : Addr} {m : Str}, PySem.W.findIn K (.ref B) m = some (some (.ref (He.ma K B m))) → Meth K B m f → f = He.ma K B m := fun {B f m} y z => by
    have e := y.symm.trans z.at_
    cases e
    rfl
  have XI_ : XI K (He.ga K "Expression") := ⟨fun f z => by rw [mu e0 z]; exact cfB_ok t_rE t_cE⟩
  have XH_ : XH K C (He.ga K "Expression") := ⟨fun m hm f z k => by
    rcases List.mem_cons.mp hm with rfl | hm
    · rw [mu e1 z]; exact k_i0 k
    · rcases List.mem_cons.mp hm with rfl | hm
      · rw [mu e2 z]; exact k_i1 k
      · rcases List.mem_cons.mp hm with rfl | hm
        · rw [mu e3 z]; exact k_i2 k
        · cases hm⟩
  obtain ⟨x1_Statement, x2_Statement⟩ := He.ba (List.all_eq_true.mp c10 _ (List.mem_of_getElem? (i := 0) rfl))
  have q2_Statement := c.k.1.at2 0 rfl x1_Statement
  obtain ⟨x1_If, x2_If⟩ := He.ba (List.all_eq_true.mp c10 _ (List.mem_of_getElem? (i := 1) rfl))
  have q2_If := c.k.1.at2 1 rfl x1_If
  obtain ⟨x1_Call, x2_Call⟩ := He.ba (List.all_eq_true.mp c10 _ (List.mem_of_getElem? (i := 2) rfl))
  have q2_Call := c.k.1.at2 2 rfl x1_Call
  obtain ⟨x1_Entry, x2_Entry⟩ := He.ba (List.all_eq_true.mp c10 _ (List.mem_of_getElem? (i := 3) rfl))
  have q2_Entry := c.k.1.at2 3 rfl x1_Entry
  have sq := c17
  unfold stQB at sq
  rw [HandSHeadRun.frNat_eq] at sq
  unfold stQ at sq
  obtain ⟨t_rS, sq⟩ := He.ba sq
  obtain ⟨t_cS, sq⟩ := He.ba sq
  obtain ⟨s0, sq⟩ := He.ba sq
  obtain ⟨s1, sq⟩ := He.ba sq
  obtain ⟨s2, sq⟩ := He.ba sq
  obtain ⟨k_str, k_tup⟩ := He.ba sq
  obtain ⟨s0, s0n⟩ := mtB_ok s0
  obtain ⟨s1, s1n⟩ := mtB_ok s1
  obtain ⟨s2, s2n⟩ := mtB_ok s2
  have d_If := c12
  let CK : Sk → Addr := fun k => He.ga K (Sk.real k).cname
  have ska := fun k : Sk => skA_ok (skB_ok c14 k)
  have SS : ST2 K mg C (He.ga K "Expression") (He.ga K "Statement") CK := ⟨fun k => ownB_ok g1 g2 (ska k).1, fun k => noB_ok (ska k).2.1, PySem.W.mg_of X G (qc "Statement" (by decide)), fun k hk => by
    show mg k.cname = some (.ref (He.ga K (Sk.real k).cname))
    rw [sreal_of hk]
    exact PySem.W.mg_of X G (qc _ (nameS2 k hk)), fun k l hk hl => by
    have e := (ssB_ok c15 k l).1
    show PySem.W.kitOne K (.ref (He.ga K (Sk.real k).cname)) (.ref (He.ga K (Sk.real l).cname)) = _
    rw [e, sreal_of hk, sreal_of hl], fun k => (ska k).2.2.2.2.2.2.2.1, fun k => (ska k).2.2.2.2.2.2.1, fun k => scB_ok c16 k, of_decide_eq_true k_str, of_decide_eq_true k_tup⟩
  have XS : XH2 K CK (He.ga K "Statement") := ⟨fun m hm f z k => by
    rcases List.mem_cons.mp hm with rfl | hm
    · rw [mu s0 z]; exact He.eqO_ok (ska k).2.2.2.1
    · rcases List.mem_cons.mp hm with rfl | hm
      · rw [mu s1 z]; exact He.eqO_ok (ska k).2.2.2.2.1
      · rcases List.mem_cons.mp hm with rfl | hm
        · rw [mu s2 z]; exact He.eqO_ok (ska k).2.2.2.2.2.1
        · cases hm⟩
  have MKS := fun k : Sk => mkB_ok (ska k).2.2.1
  have SI : StI K (He.ga K "Statement") := by
    obtain ⟨oc, od, osl, dV, kV, doc, pm, an, cdv, ct, lk, lc⟩ := q2_Statement
    have y := c11
    unfold dfB at y
    have lk' : K.lookup (He.fAd K ("Statement", some "__init__")) = some ⟨oc, od, .func (PySem.W.fnOf "__init__" "Statement.__init__" (defArgs m_Statement_init) (defBody m_Statement_init) (defScope m_Statement_init) dV kV doc pm an cdv ct), osl⟩ := lk
    rw [lk'] at y
    cases dV with
    | ref T0 =>
      obtain ⟨o, n, a, b, lT, oT, ta, tb⟩ := twB_ok (show twB K T0 = true from y)
      have FD : FunD K "__init__" "Statement.__init__" (defArgs m_Statement_init) (defBody m_Statement_init) (defScope m_Statement_init) [.ref a, .ref b] [] (He.ma K (He.ga K "Statement") "__init__") _ := ⟨⟨oc, od, .ref T0, kV, doc, pm, an, cdv, ct, osl, rfl, lk', lc, .inr ⟨by simp, T0, o, _, n, rfl, lT, oT, .cons rfl (.cons rfl .nil)⟩, .inl rfl⟩, x2_Statement⟩
      refine ⟨_, _, a, b, FD, cfB_ok t_rS t_cS, x2_Statement, ta, tb, ?_, ?_, ?_⟩
      · obtain ⟨ds, r, bb⟩ := FD.binds1 (ps := ["self", "line", "names", "bodies"]) 4 2 (by simp) rfl fun T kV doc pm an cdv ct us its h1 h2 => match us, its, h1, h2 with
          | [_, _, _, _], [_, _], _, _ => ⟨_, rfl, rfl⟩
        cases r
        exact bb
      · exact FD.binds1 (ps := ["self", "line", "names", "bodies"]) 2 0 (by simp) rfl fun T kV doc pm an cdv ct us its h1 h2 => match us, its, h1, h2 with
          | [_, _], [_, _], _, _ => ⟨_, rfl, rfl⟩
      · exact FD.binds1 (ps := ["self", "line", "names", "bodies"]) 3 1 (by simp) rfl fun T kV doc pm an cdv ct us its h1 h2 => match us, its, h1, h2 with
          | [_, _, _], [_, _], _, _ => ⟨_, rfl, rfl⟩
    | _ => cases y
  have FI_If : ∃ (f : Addr) (fd : FuncData) (v : V), FunD K "__init__" "If.__init__" (defArgs m_If_init) (defBody m_If_init) (defScope m_If_init) [v] [] f fd ∧ Meth K (He.ga K "If") "__init__" f ∧ Binds K fd ["self", "test", "body", "otherwise"] [] ∧ (fun v => ∃ e, v = .ref e ∧ ∀ H, SqT K H e []) v ∧ (∃ ds, Vals [v] ds ∧ Binds K fd ["self", "test", "body", "otherwise"] ds) ∧
      ∀ (s : Shared) (u : Value) (us : List Value), K.In s.heap → (u :: us).length = (["self", "test", "body", "otherwise"] : List Str).length → BindsTo s fd ⟨[u], ((["self", "test", "body", "otherwise"] : List Str).drop 1).reverse.zip us.reverse⟩ ((["self", "test", "body", "otherwise"] : List Str).zip (u :: us)) := by
    obtain ⟨oc, od, osl, dV, kV, doc, pm, an, cdv, ct, lk, lc⟩ := q2_If
    have y := d_If
    unfold dflB at y
    have lk' : K.lookup (He.fAd K ("If", some "__init__")) = some ⟨oc, od, .func (PySem.W.fnOf "__init__" "If.__init__" (defArgs m_If_init) (defBody m_If_init) (defScope m_If_init) dV kV doc pm an cdv ct), osl⟩ := lk
    rw [lk'] at y
    cases dV with
    | ref T0 =>
      obtain ⟨o, n, e1, lT, oT, ta⟩ := e1B_ok (show e1B K T0 = true from y)
      have FD : FunD K "__init__" "If.__init__" (defArgs m_If_init) (defBody m_If_init) (defScope m_If_init) [V.ref e1] [] (He.ma K (He.ga K "If") "__init__") _ := ⟨⟨oc, od, .ref T0, kV, doc, pm, an, cdv, ct, osl, rfl, lk', lc, .inr ⟨by simp, T0, o, _, n, rfl, lT, oT, .cons rfl .nil⟩, .inl rfl⟩, x2_If⟩
      have mk := mkB_ok (skA_ok (skB_ok c14 .ifs)).2.2.1
      refine ⟨_, _, V.ref e1, FD, ⟨mk.init, mk.fn, x2_If⟩, ?_, ⟨e1, rfl, ta⟩, ?_, ?_⟩
      · obtain ⟨ds, r, bb⟩ := FD.binds1 (ps := ["self", "test", "body", "otherwise"]) 4 1 (by simp) rfl fun T kV doc pm an cdv ct us its h1 h2 => match us, its, h1, h2 with
          | [_, _, _, _], [_], _, _ => ⟨_, rfl, rfl⟩
        cases r
        exact bb
      · exact FD.binds1 (ps := ["self", "test", "body", "otherwise"]) 3 0 (by simp) rfl fun T kV doc pm an cdv ct us its h1 h2 => match us, its, h1, h2 with
          | [_, _, _], [_], _, _ => ⟨_, rfl, rfl⟩
      · exact bindsK1 (ps := ["self", "test", "body", "otherwise"]) FD (by simp) fun T kV doc pm an cdv ct u us its h1 h2 => match us, its, h1, h2 with
          | [_, _, _], [_], _, _ => ⟨_, rfl, rfl⟩
    | _ => cases y
  have FI_Call : ∃ (f : Addr) (fd : FuncData) (v : V), FunD K "__init__" "Call.__init__" (defArgs m_Call_init) (defBody m_Call_init) (defScope m_Call_init) [v] [] f fd ∧ Meth K (He.ga K "Call") "__init__" f ∧ Binds K fd ["self", "name", "expression", "into"] [] ∧ (fun v => v = .non) v ∧ (∃ ds, Vals [v] ds ∧ Binds K fd ["self", "name", "expression", "into"] ds) ∧
      ∀ (s : Shared) (u : Value) (us : List Value), K.In s.heap → (u :: us).length = (["self", "name", "expression", "into"] : List Str).length → BindsTo s fd ⟨[u], ((["self", "name", "expression", "into"] : List Str).drop 1).reverse.zip us.reverse⟩ ((["self", "name", "expression", "into"] : List Str).zip (u :: us)) := by
    obtain ⟨oc, od, osl, dV, kV, doc, pm, an, cdv, ct, lk, lc⟩ := q2_Call
    have y := c13
    unfold dflB at y
    have lk' : K.lookup (He.fAd K ("Call", some "__init__")) = some ⟨oc, od, .func (PySem.W.fnOf "__init__" "Call.__init__" (defArgs m_Call_init) (defBody m_Call_init) (defScope m_Call_init) dV kV doc pm an cdv ct), osl⟩ := lk
    rw [lk'] at y
    cases dV with
    | ref T0 =>
      obtain ⟨o, n, lT, oT⟩ := n1B_ok (show n1B K T0 = true from y)
      have FD : FunD K "__init__" "Call.__init__" (defArgs m_Call_init) (defBody m_Call_init) (defScope m_Call_init) [V.non] [] (He.ma K (He.ga K "Call") "__init__") _ := ⟨⟨oc, od, .ref T0, kV, doc, pm, an, cdv, ct, osl, rfl, lk', lc, .inr ⟨by simp, T0, o, _, n, rfl, lT, oT, .cons rfl .nil⟩, .inl rfl⟩, x2_Call⟩
      have mk := mkB_ok (skA_ok (skB_ok c14 .call)).2.2.1
      refine ⟨_, _, V.non, FD, ⟨mk.init, mk.fn, x2_Call⟩, ?_, rfl, ?_, ?_⟩
      · obtain ⟨ds, r, bb⟩ := FD.binds1 (ps := ["self", "name", "expression", "into"]) 4 1 (by simp) rfl fun T kV doc pm an cdv ct us its h1 h2 => match us, its, h1, h2 with
          | [_, _, _, _], [_], _, _ => ⟨_, rfl, rfl⟩
        cases r
        exact bb
      · exact FD.binds1 (ps := ["self", "name", "expression", "into"]) 3 0 (by simp) rfl fun T kV doc pm an cdv ct us its h1 h2 => match us, its, h1, h2 with
          | [_, _, _], [_], _, _ => ⟨_, rfl, rfl⟩
      · exact bindsK1 (ps := ["self", "name", "expression", "into"]) FD (by simp) fun T kV doc pm an cdv ct u us its h1 h2 => match us, its, h1, h2 with
          | [_, _, _], [_], _, _ => ⟨_, rfl, rfl⟩
    | _ => cases y
  have Ec := erB_ok (fun k => by
    cases k
    · exact PySem.W.mg_of X G (qc "InvalidName" (by decide))
    · exact PySem.W.mg_of X G (qc "InvalidSize" (by decide))
    · exact PySem.W.mg_of X G (qc "InvalidSlots" (by decide))
    · exact PySem.W.mg_of X G (qc "InvalidBody" (by decide))) (PySem.W.mg_of X G (qc "ReentryError" (by decide))) (PySem.W.mg_of X G (qc "LimitError" (by decide))) ⟨g1, g2⟩ c18
  rw [HandSHeadRun.frNat_eq] at c19 c20 c21 c22
  obtain ⟨mA1, mA2⟩ := mtB_ok c19
  obtain ⟨mS1, mS2⟩ := mtB_ok c20
  obtain ⟨mL1, mL2⟩ := mtB_ok c21
  obtain ⟨mB1, mB2⟩ := mtB_ok c22
  have OO : OD K C (He.ga K "Statement") CK := by
    obtain ⟨e1, e2⟩ := He.ba c23
    rw [HandSHeadRun.frNat_eq] at e1 e2
    refine ⟨fun v hv => ?_, fun k => ?_, fun k => ?_⟩
    · have hv2 : v ∈ typesO.map Value.type := hv
      obtain ⟨t, ht, rfl⟩ := List.mem_map.mp hv2
      obtain ⟨y1, y2⟩ := He.ba (List.all_eq_true.mp e1 t ht)
      refine ⟨of_decide_eq_true y1, fun k => ?_⟩
      have e := List.all_eq_true.mp y2 _ (nameS _ (sreal_has k))
      rw [HandSHeadRun.frNat_eq] at e
      exact of_decide_eq_true e
    · have e := List.all_eq_true.mp e2 _ (nameS _ (sreal_has k))
      rw [HandSHeadRun.frNat_eq] at e
      exact of_decide_eq_true (He.ba e).1
    · have e := List.all_eq_true.mp e2 _ (nameS _ (sreal_has k))
      rw [HandSHeadRun.frNat_eq] at e
      exact of_decide_eq_true (He.ba e).2
  have ey := c25
  unfold eyB at ey
  rw [HandSHeadRun.frNat_eq] at ey
  unfold eyA at ey
  obtain ⟨ey1, ey⟩ := He.ba ey
  obtain ⟨ey2, ey⟩ := He.ba ey
  obtain ⟨ey3, ey⟩ := He.ba ey
  obtain ⟨ey4, ey⟩ := He.ba ey
  obtain ⟨ey5, ey⟩ := He.ba ey
  obtain ⟨ey6, ey⟩ := He.ba ey
  obtain ⟨ey7, ey8⟩ := He.ba ey
  obtain ⟨yE1, yE2⟩ := mtB_ok ey8
  have mkY := mkB_ok ey3
  have yG : mg "Entry" = some (.ref (He.ga K "Entry")) := PySem.W.mg_of X G (qc "Entry" (by decide))
  have YY : YT K mg (He.ga K "Entry") := ⟨ownB_ok g1 g2 ey1, fun f hf => noB_ok ey2 f hf, yG⟩
  have NY : NfY K (He.ga K "Entry") CK := ⟨fun k l _ _ => (ssB_ok c15 k l).2, ey5, ey6, of_decide_eq_true ey7⟩
  have FI_Entry : ∃ (f : Addr) (fd : FuncData) (e1 e2 : Addr) (mv ds : List Value), FunD K "__init__" "Entry.__init__" (defArgs m_Entry_init) (defBody m_Entry_init) (defScope m_Entry_init) [] [("slots", .ref e1), ("body", .ref e2)] f fd ∧ Meth K (He.ga K "Entry") "__init__" f ∧ (∀ H, SqT K H e1 []) ∧ (∀ H, SqT K H e2 []) ∧
      KBn K fd psY 5 ["slots", "body"] (fun us ws => us ++ ws) (fun vs zs => vs ++ zs) ∧ KBn K fd psY 5 ["body"] (fun us ws => us ++ (mv ++ ws)) (fun vs zs => vs ++ ([V.ref e1] ++ zs)) ∧ (Vals [V.ref e1, V.ref e2] ds ∧ Binds K fd psY ds) ∧
      KBn K fd psY 1 ["body", "slots", "parameter", "results", "arguments", "name"] (fun us ws => us ++ ws.reverse) (fun vs zs => vs ++ zs.reverse) := by
    obtain ⟨oc, od, osl, dV, kV, doc, pm, an, cdv, ct, lk, lc⟩ := q2_Entry
    have y := c24
    unfold enB at y
    have lk' : K.lookup (He.fAd K ("Entry", some "__init__")) = some ⟨oc, od, .func (PySem.W.fnOf "__init__" "Entry.__init__" (defArgs m_Entry_init) (defBody m_Entry_init) (defScope m_Entry_init) dV kV doc pm an cdv ct), osl⟩ := lk
    rw [lk'] at y
    obtain ⟨D0, e1, e2, rfl, rfl, ns, ns2, em1, em2⟩ := enV_ok (show enV K dV kV = true from y)
    have FD : FunD K "__init__" "Entry.__init__" (defArgs m_Entry_init) (defBody m_Entry_init) (defScope m_Entry_init) [] [("slots", .ref e1), ("body", .ref e2)] (He.ma K (He.ga K "Entry") "__init__") _ := ⟨⟨oc, od, .none, .ref D0, doc, pm, an, cdv, ct, osl, rfl, lk', lc, .inl ⟨rfl, rfl⟩, .inr ⟨D0, rfl, fun q hq => by
      rcases List.mem_cons.mp hq with rfl | hq
      · exact ⟨_, ns, rfl⟩
      · rw [List.mem_singleton.mp hq]
        exact ⟨_, ns2, rfl⟩⟩⟩, x2_Entry⟩
    obtain ⟨_, kb2⟩ := FD.kbinds0 (ps := psY) 5 ["slots", "body"] [] (fun a b c => a ++ c) (by simp) (fun q h => by cases h) (fun h1 h2 h3 => h1.append h3) fun D doc pm an cdv ct us mv ws h1 h2 h3 => match us, mv, ws, h1, h2, h3 with
      | [_, _, _, _, _], [], [_, _], _, _, _ => rfl
    obtain ⟨mv, kb1⟩ := FD.kbinds0 (ps := psY) 5 ["body"] [("slots", .ref e1)] (fun a b c => a ++ (b ++ c)) (by simp) (fun q h => by rw [List.mem_singleton.mp h]; exact List.mem_cons_self ..) (fun h1 h2 h3 => h1.append (h2.append h3)) fun D doc pm an cdv ct us mv ws h1 h2 h3 => match us, mv, ws, h1, h2, h3 with
      | [_, _, _, _, _], [_], [_], _, _, _ => ⟨_, _, _, _, _, _, rfl, rfl, rfl⟩
    obtain ⟨ds, kb0⟩ := FD.kbinds0 (ps := psY) 5 [] [("slots", .ref e1), ("body", .ref e2)] (fun a b c => a ++ (b ++ c)) (by simp) (fun q h => h) (fun h1 h2 h3 => h1.append (h2.append h3)) fun D doc pm an cdv ct us mv ws h1 h2 h3 => match us, mv, ws, h1, h2, h3 with
      | [_, _, _, _, _], [_, _], [], _, _, _ => ⟨_, _, _, _, _, _, rfl, rfl, ⟨_, _, _, _, _, _, rfl, rfl, rfl⟩⟩
    obtain ⟨_, kb6⟩ := FD.kbinds0 (ps := psY) 1 ["body", "slots", "parameter", "results", "arguments", "name"] [] (fun a b c => a ++ c.reverse) (by simp) (fun q h => by cases h) (fun h1 h2 h3 => h1.append h3.reverse) fun D doc pm an cdv ct us mv ws h1 h2 h3 => match us, mv, ws, h1, h2, h3 with
      | [_], [], [_, _, _, _, _, _], _, _, _ => rfl
    have rv : Vals [V.ref e1, V.ref e2] ds := by
      have r := kb0.rel (vs := []) (us := []) (zs := []) (ws := []) .nil .nil
      have e : ([] ++ (ds ++ []) : List Value) = ds := by simp
      rw [← e]
      exact r
    refine ⟨_, _, e1, e2, mv, ds, FD, ⟨mkY.init, mkY.fn, x2_Entry⟩, emB_ok em1, emB_ok em2, kb2, kb1, ⟨rv, fun s us X2 hl => ?_⟩, kb6⟩
    have hd := rv.length
    have hu : us.length = 5 := by
      rw [List.length_append, ← hd] at hl
      exact Nat.add_right_cancel (m := 2) hl
    have b := kb0.to s us [] X2 hu rfl
    rw [List.append_nil] at b
    exact b
  have D_is_name : Dfn K mg "is_name" s_is_name ["value"] := by
    obtain ⟨⟨oc, od, sl, kV, dc, pm, an, cd, ct, l, q⟩, k⟩ := qn 0 rfl
    exact dfn_mk X G (qd 0 rfl) l q k (fun us hl => match us, hl with | [_], _ => rfl) (fun us hl => match us, hl with | [_], _ => rfl)
  have D_is_size : Dfn K mg "is_size" s_is_size ["value"] := by
    obtain ⟨⟨oc, od, sl, kV, dc, pm, an, cd, ct, l, q⟩, k⟩ := qn 1 rfl
    exact dfn_mk X G (qd 1 rfl) l q k (fun us hl => match us, hl with | [_], _ => rfl) (fun us hl => match us, hl with | [_], _ => rfl)
  have D_is_integer : Dfn K mg "is_integer" s_is_integer ["value"] := by
    obtain ⟨⟨oc, od, sl, kV, dc, pm, an, cd, ct, l, q⟩, k⟩ := qn 2 rfl
    exact dfn_mk X G (qd 2 rfl) l q k (fun us hl => match us, hl with | [_], _ => rfl) (fun us hl => match us, hl with | [_], _ => rfl)
  have D_check_inside : Dfn K mg "check_inside" s_check_inside ["inside"] := by
    obtain ⟨⟨oc, od, sl, kV, dc, pm, an, cd, ct, l, q⟩, k⟩ := qn 3 rfl
    exact dfn_mk X G (qd 3 rfl) l q k (fun us hl => match us, hl with | [_], _ => rfl) (fun us hl => match us, hl with | [_], _ => rfl)
  have D_parts_with : Dfn K mg "parts_with" s_parts_with ["inside"] := by
    obtain ⟨⟨oc, od, sl, kV, dc, pm, an, cd, ct, l, q⟩, k⟩ := qn 4 rfl
    exact dfn_mk X G (qd 4 rfl) l q k (fun us hl => match us, hl with | [_], _ => rfl) (fun us hl => match us, hl with | [_], _ => rfl)
  have D_depth_with : Dfn K mg "depth_with" s_depth_with ["inside"] := by
    obtain ⟨⟨oc, od, sl, kV, dc, pm, an, cd, ct, l, q⟩, k⟩ := qn 5 rfl
    exact dfn_mk X G (qd 5 rfl) l q k (fun us hl => match us, hl with | [_], _ => rfl) (fun us hl => match us, hl with | [_], _ => rfl)
  have D_written : Dfn K mg "written" s_written ["head", "inside"] := by
    obtain ⟨⟨oc, od, sl, kV, dc, pm, an, cd, ct, l, q⟩, k⟩ := qn 6 rfl
    exact dfn_mk X G (qd 6 rfl) l q k (fun us hl => match us, hl with | [_, _], _ => rfl) (fun us hl => match us, hl with | [_, _], _ => rfl)
  have D_check_expression : Dfn K mg "check_expression" s_check_expression ["value"] := by
    obtain ⟨⟨oc, od, sl, kV, dc, pm, an, cd, ct, l, q⟩, k⟩ := qn 7 rfl
    exact dfn_mk X G (qd 7 rfl) l q k (fun us hl => match us, hl with | [_], _ => rfl) (fun us hl => match us, hl with | [_], _ => rfl)
  have D_check_name : Dfn K mg "check_name" s_check_name ["value"] := by
    obtain ⟨⟨oc, od, sl, kV, dc, pm, an, cd, ct, l, q⟩, k⟩ := qn 8 rfl
    exact dfn_mk X G (qd 8 rfl) l q k (fun us hl => match us, hl with | [_], _ => rfl) (fun us hl => match us, hl with | [_], _ => rfl)
  have D_check_body : Dfn K mg "check_body" s_check_body ["body"] := by
    obtain ⟨⟨oc, od, sl, kV, dc, pm, an, cd, ct, l, q⟩, k⟩ := qn 9 rfl
    exact dfn_mk X G (qd 9 rfl) l q k (fun us hl => match us, hl with | [_], _ => rfl) (fun us hl => match us, hl with | [_], _ => rfl)
  have D_amount_of : Dfn K mg "amount_of" s_amount_of ["bodies"] := by
    obtain ⟨⟨oc, od, sl, kV, dc, pm, an, cd, ct, l, q⟩, k⟩ := qn 10 rfl
    exact dfn_mk X G (qd 10 rfl) l q k (fun us hl => match us, hl with | [_], _ => rfl) (fun us hl => match us, hl with | [_], _ => rfl)
  have D_height_of : Dfn K mg "height_of" s_height_of ["bodies"] := by
    obtain ⟨⟨oc, od, sl, kV, dc, pm, an, cd, ct, l, q⟩, k⟩ := qn 11 rfl
    exact dfn_mk X G (qd 11 rfl) l q k (fun us hl => match us, hl with | [_], _ => rfl) (fun us hl => match us, hl with | [_], _ => rfl)
  have D_lines_inside : Dfn K mg "lines_inside" s_lines_inside ["bodies"] := by
    obtain ⟨⟨oc, od, sl, kV, dc, pm, an, cd, ct, l, q⟩, k⟩ := qn 12 rfl
    exact dfn_mk X G (qd 12 rfl) l q k (fun us hl => match us, hl with | [_], _ => rfl) (fun us hl => match us, hl with | [_], _ => rfl)
  have D_indented : Dfn K mg "indented" s_indented ["body"] := by
    obtain ⟨⟨oc, od, sl, kV, dc, pm, an, cd, ct, l, q⟩, k⟩ := qn 13 rfl
    exact dfn_mk X G (qd 13 rfl) l q k (fun us hl => match us, hl with | [_], _ => rfl) (fun us hl => match us, hl with | [_], _ => rfl)
  have D_check_size : Dfn K mg "check_size" s_check_size ["value"] := by
    obtain ⟨⟨oc, od, sl, kV, dc, pm, an, cd, ct, l, q⟩, k⟩ := qn 14 rfl
    exact dfn_mk X G (qd 14 rfl) l q k (fun us hl => match us, hl with | [_], _ => rfl) (fun us hl => match us, hl with | [_], _ => rfl)
  have D_check_slots : Dfn K mg "check_slots" s_check_slots ["parameter", "slots"] := by
    obtain ⟨⟨oc, od, sl, kV, dc, pm, an, cd, ct, l, q⟩, k⟩ := qn 15 rfl
    exact dfn_mk X G (qd 15 rfl) l q k (fun us hl => match us, hl with | [_, _], _ => rfl) (fun us hl => match us, hl with | [_, _], _ => rfl)
  have D_cell : Dfn K mg "_law_cell" s_cell ["_law_script", "_law_k"] := by
    obtain ⟨⟨oc, od, sl, kV, dc, pm, an, cd, ct, l, q⟩, k⟩ := qn 16 rfl
    exact dfn_mk X G (qd 16 rfl) l q k (fun us hl => match us, hl with | [_, _], _ => rfl) (fun us hl => match us, hl with | [_, _], _ => rfl)
  have D_purse : Dfn K mg "_law_purse" s_purse ["_law_cell_here"] := by
    obtain ⟨⟨oc, od, sl, kV, dc, pm, an, cd, ct, l, q⟩, k⟩ := qn 17 rfl
    exact dfn_mk X G (qd 17 rfl) l q k (fun us hl => match us, hl with | [_], _ => rfl) (fun us hl => match us, hl with | [_], _ => rfl)
  have D_draw : Dfn K mg "_law_draw" s_draw ["_law_purse_here", "_law_many"] := by
    obtain ⟨⟨oc, od, sl, kV, dc, pm, an, cd, ct, l, q⟩, k⟩ := qn 18 rfl
    exact dfn_mk X G (qd 18 rfl) l q k (fun us hl => match us, hl with | [_, _], _ => rfl) (fun us hl => match us, hl with | [_, _], _ => rfl)
  have D_name : Dfn K mg "_law_name" s_name ["_law_purse_here"] := by
    obtain ⟨⟨oc, od, sl, kV, dc, pm, an, cd, ct, l, q⟩, k⟩ := qn 19 rfl
    exact dfn_mk X G (qd 19 rfl) l q k (fun us hl => match us, hl with | [_], _ => rfl) (fun us hl => match us, hl with | [_], _ => rfl)
  have D_fresh : Dfn K mg "_law_fresh" s_fresh ["_law_purse_here", "_law_taken"] := by
    obtain ⟨⟨oc, od, sl, kV, dc, pm, an, cd, ct, l, q⟩, k⟩ := qn 20 rfl
    exact dfn_mk X G (qd 20 rfl) l q k (fun us hl => match us, hl with | [_, _], _ => rfl) (fun us hl => match us, hl with | [_, _], _ => rfl)
  have D_names : Dfn K mg "_law_names" s_names ["_law_purse_here", "_law_many", "_law_taken"] := by
    obtain ⟨⟨oc, od, sl, kV, dc, pm, an, cd, ct, l, q⟩, k⟩ := qn 21 rfl
    exact dfn_mk X G (qd 21 rfl) l q k (fun us hl => match us, hl with | [_, _, _], _ => rfl) (fun us hl => match us, hl with | [_, _, _], _ => rfl)
  have D_lis_name : Dfn K mg "_law_is_name" s_lis_name ["_law_thing"] := by
    obtain ⟨⟨oc, od, sl, kV, dc, pm, an, cd, ct, l, q⟩, k⟩ := qn 22 rfl
    exact dfn_mk X G (qd 22 rfl) l q k (fun us hl => match us, hl with | [_], _ => rfl) (fun us hl => match us, hl with | [_], _ => rfl)
  have D_lis_size : Dfn K mg "_law_is_size" s_lis_size ["_law_thing"] := by
    obtain ⟨⟨oc, od, sl, kV, dc, pm, an, cd, ct, l, q⟩, k⟩ := qn 23 rfl
    exact dfn_mk X G (qd 23 rfl) l q k (fun us hl => match us, hl with | [_], _ => rfl) (fun us hl => match us, hl with | [_], _ => rfl)
  have D_fault : Dfn K mg "_law_fault" s_fault ["_law_act"] := by
    obtain ⟨⟨oc, od, sl, kV, dc, pm, an, cd, ct, l, q⟩, k⟩ := qn 24 rfl
    exact dfn_mk X G (qd 24 rfl) l q k (fun us hl => match us, hl with | [_], _ => rfl) (fun us hl => match us, hl with | [_], _ => rfl)
  have D_told : Dfn K mg "_law_told" s_told ["_law_e"] := by
    obtain ⟨⟨oc, od, sl, kV, dc, pm, an, cd, ct, l, q⟩, k⟩ := qn 25 rfl
    exact dfn_mk X G (qd 25 rfl) l q k (fun us hl => match us, hl with | [_], _ => rfl) (fun us hl => match us, hl with | [_], _ => rfl)
  have D_title : Dfn K mg "_law_title" s_title ["_law_purse_here"] := by
    obtain ⟨⟨oc, od, sl, kV, dc, pm, an, cd, ct, l, q⟩, k⟩ := qn 26 rfl
    exact dfn_mk X G (qd 26 rfl) l q k (fun us hl => match us, hl with | [_], _ => rfl) (fun us hl => match us, hl with | [_], _ => rfl)
  have D_size : Dfn K mg "_law_size" s_size ["_law_purse_here"] := by
    obtain ⟨⟨oc, od, sl, kV, dc, pm, an, cd, ct, l, q⟩, k⟩ := qn 27 rfl
    exact dfn_mk X G (qd 27 rfl) l q k (fun us hl => match us, hl with | [_], _ => rfl) (fun us hl => match us, hl with | [_], _ => rfl)
  have D_extra : Dfn K mg "_law_extra" s_extra ["_law_purse_here", "_law_title_here"] := by
    obtain ⟨⟨oc, od, sl, kV, dc, pm, an, cd, ct, l, q⟩, k⟩ := qn 28 rfl
    exact dfn_mk X G (qd 28 rfl) l q k (fun us hl => match us, hl with | [_, _], _ => rfl) (fun us hl => match us, hl with | [_, _], _ => rfl)
  have D_lot : Dfn K mg "_law_lot" s_lot ["_law_purse_here"] := by
    obtain ⟨⟨oc, od, sl, kV, dc, pm, an, cd, ct, l, q⟩, k⟩ := qn 29 rfl
    exact dfn_mk X G (qd 29 rfl) l q k (fun us hl => match us, hl with | [_], _ => rfl) (fun us hl => match us, hl with | [_], _ => rfl)
  have D_extra_due : Dfn K mg "_law_extra_due" s_extra_due ["_law_extra_here", "_law_title_here"] := by
    obtain ⟨⟨oc, od, sl, kV, dc, pm, an, cd, ct, l, q⟩, k⟩ := qn 30 rfl
    exact dfn_mk X G (qd 30 rfl) l q k (fun us hl => match us, hl with | [_, _], _ => rfl) (fun us hl => match us, hl with | [_, _], _ => rfl)
  have D_lot_due : Dfn K mg "_law_lot_due" s_lot_due ["_law_steps"] := by
    obtain ⟨⟨oc, od, sl, kV, dc, pm, an, cd, ct, l, q⟩, k⟩ := qn 31 rfl
    exact dfn_mk X G (qd 31 rfl) l q k (fun us hl => match us, hl with | [_], _ => rfl) (fun us hl => match us, hl with | [_], _ => rfl)
  have D_due : Dfn K mg "_law_due" s_due ["_law_row"] := by
    obtain ⟨⟨oc, od, sl, kV, dc, pm, an, cd, ct, l, q⟩, k⟩ := qn 32 rfl
    exact dfn_mk X G (qd 32 rfl) l q k (fun us hl => match us, hl with | [_], _ => rfl) (fun us hl => match us, hl with | [_], _ => rfl)
  have D_built : Dfn K mg "_law_built" s_built ["_law_row"] := by
    obtain ⟨⟨oc, od, sl, kV, dc, pm, an, cd, ct, l, q⟩, k⟩ := qn 33 rfl
    exact dfn_mk X G (qd 33 rfl) l q k (fun us hl => match us, hl with | [_], _ => rfl) (fun us hl => match us, hl with | [_], _ => rfl)
  have D_named : Dfn K mg "_law_named" s_named ["_law_row"] := by
    obtain ⟨⟨oc, od, sl, kV, dc, pm, an, cd, ct, l, q⟩, k⟩ := qn 34 rfl
    exact dfn_mk X G (qd 34 rfl) l q k (fun us hl => match us, hl with | [_], _ => rfl) (fun us hl => match us, hl with | [_], _ => rfl)
  have D_shown : Dfn K mg "_law_shown" s_shown ["_law_row", "_law_mine"] := by
    obtain ⟨⟨oc, od, sl, kV, dc, pm, an, cd, ct, l, q⟩, k⟩ := qn 35 rfl
    exact dfn_mk X G (qd 35 rfl) l q k (fun us hl => match us, hl with | [_, _], _ => rfl) (fun us hl => match us, hl with | [_, _], _ => rfl)
  have D_equal_right : Dfn K mg "_law_equal_right" s_equal_right ["_law_purse_here", "_law_row"] := by
    obtain ⟨⟨oc, od, sl, kV, dc, pm, an, cd, ct, l, q⟩, k⟩ := qn 36 rfl
    exact dfn_mk X G (qd 36 rfl) l q k (fun us hl => match us, hl with | [_, _], _ => rfl) (fun us hl => match us, hl with | [_, _], _ => rfl)
  have D_row_right : DfnT K mg "_law_row_right" s_row_right ["_law_purse_here", "_law_row"] (He.cT K ("_law_row_right", none)).1 := by
    obtain ⟨⟨oc, od, sl, kV, dc, pm, an, cd, ct, l, q⟩, k⟩ := qn 37 rfl
    exact dfnT_mk X G (qd 37 rfl) l q k (fun us hl => match us, hl with | [_, _], _ => rfl) (fun us hl => match us, hl with | [_, _], _ => rfl)
  have D_right : Dfn K mg "_law_right" s_right ["_law_purse_here"] := by
    obtain ⟨⟨oc, od, sl, kV, dc, pm, an, cd, ct, l, q⟩, k⟩ := qn 38 rfl
    exact dfn_mk X G (qd 38 rfl) l q k (fun us hl => match us, hl with | [_], _ => rfl) (fun us hl => match us, hl with | [_], _ => rfl)
  have E_Expression_init : Mth K (He.ga K "Expression") "__init__" "Expression.__init__" m_Expression_init ["self", "head", "inside"] := by
    obtain ⟨⟨oc, od, sl, kV, dc, pm, an, cd, ct, l, q⟩, k⟩ := qn 40 rfl
    exact mth_mk (h := h) e0 e0n l q k (fun us hl => match us, hl with | [_, _, _], _ => rfl) (fun u us hl => match us, hl with | [_, _], _ => rfl)
  have E_Expression_eq : Mth K (He.ga K "Expression") "__eq__" "Expression.__eq__" m_Expression_eq ["self", "other"] := by
    obtain ⟨⟨oc, od, sl, kV, dc, pm, an, cd, ct, l, q⟩, k⟩ := qn 41 rfl
    exact mth_mk (h := h) e1 e1n l q k (fun us hl => match us, hl with | [_, _], _ => rfl) (fun u us hl => match us, hl with | [_], _ => rfl)
  have E_Expression_str : Mth K (He.ga K "Expression") "__str__" "Expression.__str__" m_Expression_str ["self"] := by
    obtain ⟨⟨oc, od, sl, kV, dc, pm, an, cd, ct, l, q⟩, k⟩ := qn 42 rfl
    exact mth_mk (h := h) e2 e2n l q k (fun us hl => match us, hl with | [_], _ => rfl) (fun u us hl => match us, hl with | [], _ => rfl)
  have E_Expression_repr : Mth K (He.ga K "Expression") "__repr__" "Expression.__repr__" m_Expression_repr ["self"] := by
    obtain ⟨⟨oc, od, sl, kV, dc, pm, an, cd, ct, l, q⟩, k⟩ := qn 43 rfl
    exact mth_mk (h := h) e3 e3n l q k (fun us hl => match us, hl with | [_], _ => rfl) (fun u us hl => match us, hl with | [], _ => rfl)
  have E_Number_init : Mth K (C .num) "__init__" "Number.__init__" m_Number_init ["self", "number"] := by
    obtain ⟨⟨oc, od, sl, kV, dc, pm, an, cd, ct, l, q⟩, k⟩ := qn 44 rfl
    exact mth_mk (h := h) (k_mk .num).init (k_mk .num).fn l q k (fun us hl => match us, hl with | [_, _], _ => rfl) (fun u us hl => match us, hl with | [_], _ => rfl)
  have E_Variable_init : Mth K (C .var) "__init__" "Variable.__init__" m_Variable_init ["self", "name"] := by
    obtain ⟨⟨oc, od, sl, kV, dc, pm, an, cd, ct, l, q⟩, k⟩ := qn 45 rfl
    exact mth_mk (h := h) (k_mk .var).init (k_mk .var).fn l q k (fun us hl => match us, hl with | [_, _], _ => rfl) (fun u us hl => match us, hl with | [_], _ => rfl)
  have E_Plus_init : Mth K (C (.bi .plus)) "__init__" "Plus.__init__" m_Plus_init ["self", "first", "second"] := by
    obtain ⟨⟨oc, od, sl, kV, dc, pm, an, cd, ct, l, q⟩, k⟩ := qn 46 rfl
    exact mth_mk (h := h) (k_mk (.bi .plus)).init (k_mk (.bi .plus)).fn l q k (fun us hl => match us, hl with | [_, _, _], _ => rfl) (fun u us hl => match us, hl with | [_, _], _ => rfl)
  have E_Minus_init : Mth K (C (.bi .minus)) "__init__" "Minus.__init__" m_Minus_init ["self", "first", "second"] := by
    obtain ⟨⟨oc, od, sl, kV, dc, pm, an, cd, ct, l, q⟩, k⟩ := qn 47 rfl
    exact mth_mk (h := h) (k_mk (.bi .minus)).init (k_mk (.bi .minus)).fn l q k (fun us hl => match us, hl with | [_, _, _], _ => rfl) (fun u us hl => match us, hl with | [_, _], _ => rfl)
  have E_Times_init : Mth K (C (.bi .times)) "__init__" "Times.__init__" m_Times_init ["self", "first", "second"] := by
    obtain ⟨⟨oc, od, sl, kV, dc, pm, an, cd, ct, l, q⟩, k⟩ := qn 48 rfl
    exact mth_mk (h := h) (k_mk (.bi .times)).init (k_mk (.bi .times)).fn l q k (fun us hl => match us, hl with | [_, _, _], _ => rfl) (fun u us hl => match us, hl with | [_, _], _ => rfl)
  have E_TimesI : MthI K (C (.bi .times)) "__init__" "Times.__init__" m_Times_init ["self", "first", "second"] := by
    obtain ⟨⟨oc, od, sl, kV, dc, pm, an, cd, ct, l, q⟩, k⟩ := qn 48 rfl
    exact ⟨_, _, fun_mk (st := m_Times_init) l q k, ⟨(k_mk (.bi .times)).init, (k_mk (.bi .times)).fn, k⟩, fun s u us hl => match us, hl with | [_, _], _ => .of_eq rfl⟩
  have E_Both_init : Mth K (C (.bi .both)) "__init__" "Both.__init__" m_Both_init ["self", "first", "second"] := by
    obtain ⟨⟨oc, od, sl, kV, dc, pm, an, cd, ct, l, q⟩, k⟩ := qn 49 rfl
    exact mth_mk (h := h) (k_mk (.bi .both)).init (k_mk (.bi .both)).fn l q k (fun us hl => match us, hl with | [_, _, _], _ => rfl) (fun u us hl => match us, hl with | [_, _], _ => rfl)
  have E_Either_init : Mth K (C (.bi .either)) "__init__" "Either.__init__" m_Either_init ["self", "first", "second"] := by
    obtain ⟨⟨oc, od, sl, kV, dc, pm, an, cd, ct, l, q⟩, k⟩ := qn 50 rfl
    exact mth_mk (h := h) (k_mk (.bi .either)).init (k_mk (.bi .either)).fn l q k (fun us hl => match us, hl with | [_, _, _], _ => rfl) (fun u us hl => match us, hl with | [_, _], _ => rfl)
  have E_Not_init : Mth K (C .un) "__init__" "Not.__init__" m_Not_init ["self", "first"] := by
    obtain ⟨⟨oc, od, sl, kV, dc, pm, an, cd, ct, l, q⟩, k⟩ := qn 51 rfl
    exact mth_mk (h := h) (k_mk .un).init (k_mk .un).fn l q k (fun us hl => match us, hl with | [_, _], _ => rfl) (fun u us hl => match us, hl with | [_], _ => rfl)
  have E_Statement_eq : Mth K (He.ga K "Statement") "__eq__" "Statement.__eq__" m_Statement_eq ["self", "other"] := by
    obtain ⟨⟨oc, od, sl, kV, dc, pm, an, cd, ct, l, q⟩, k⟩ := qn 52 rfl
    exact mth_mk (h := h) s0 s0n l q k (fun us hl => match us, hl with | [_, _], _ => rfl) (fun u us hl => match us, hl with | [_], _ => rfl)
  have E_Statement_str : Mth K (He.ga K "Statement") "__str__" "Statement.__str__" m_Statement_str ["self"] := by
    obtain ⟨⟨oc, od, sl, kV, dc, pm, an, cd, ct, l, q⟩, k⟩ := qn 53 rfl
    exact mth_mk (h := h) s1 s1n l q k (fun us hl => match us, hl with | [_], _ => rfl) (fun u us hl => match us, hl with | [], _ => rfl)
  have E_Statement_repr : Mth K (He.ga K "Statement") "__repr__" "Statement.__repr__" m_Statement_repr ["self"] := by
    obtain ⟨⟨oc, od, sl, kV, dc, pm, an, cd, ct, l, q⟩, k⟩ := qn 54 rfl
    exact mth_mk (h := h) s2 s2n l q k (fun us hl => match us, hl with | [_], _ => rfl) (fun u us hl => match us, hl with | [], _ => rfl)
  have E_Assign_init : Mth K (He.ga K "Assign") "__init__" "Assign.__init__" m_Assign_init ["self", "name", "expression"] := by
    obtain ⟨⟨oc, od, sl, kV, dc, pm, an, cd, ct, l, q⟩, k⟩ := qn 55 rfl
    exact mth_mk (h := h) (MKS .assign).init (MKS .assign).fn l q k (fun us hl => match us, hl with | [_, _, _], _ => rfl) (fun u us hl => match us, hl with | [_, _], _ => rfl)
  have E_Return_init : Mth K (He.ga K "Return") "__init__" "Return.__init__" m_Return_init ["self", "expression"] := by
    obtain ⟨⟨oc, od, sl, kV, dc, pm, an, cd, ct, l, q⟩, k⟩ := qn 56 rfl
    exact mth_mk (h := h) (MKS .ret).init (MKS .ret).fn l q k (fun us hl => match us, hl with | [_, _], _ => rfl) (fun u us hl => match us, hl with | [_], _ => rfl)
  have E_Fail_init : Mth K (He.ga K "Fail") "__init__" "Fail.__init__" m_Fail_init ["self"] := by
    obtain ⟨⟨oc, od, sl, kV, dc, pm, an, cd, ct, l, q⟩, k⟩ := qn 57 rfl
    exact mth_mk (h := h) (MKS .fail).init (MKS .fail).fn l q k (fun us hl => match us, hl with | [_], _ => rfl) (fun u us hl => match us, hl with | [], _ => rfl)
  have E_InvalidName_init : Mth K (He.ga K "InvalidName") "__init__" "InvalidName.__init__" m_InvalidName_init ["self", "value"] := by
    obtain ⟨⟨oc, od, sl, kV, dc, pm, an, cd, ct, l, q⟩, k⟩ := qn 58 rfl
    exact mth_mk (h := h) mA1 mA2 l q k (fun us hl => match us, hl with | [_, _], _ => rfl) (fun u us hl => match us, hl with | [_], _ => rfl)
  have E_InvalidSize_init : Mth K (He.ga K "InvalidSize") "__init__" "InvalidSize.__init__" m_InvalidSize_init ["self", "value"] := by
    obtain ⟨⟨oc, od, sl, kV, dc, pm, an, cd, ct, l, q⟩, k⟩ := qn 59 rfl
    exact mth_mk (h := h) mS1 mS2 l q k (fun us hl => match us, hl with | [_, _], _ => rfl) (fun u us hl => match us, hl with | [_], _ => rfl)
  have E_InvalidSlots_init : Mth K (He.ga K "InvalidSlots") "__init__" "InvalidSlots.__init__" m_InvalidSlots_init ["self", "index"] := by
    obtain ⟨⟨oc, od, sl, kV, dc, pm, an, cd, ct, l, q⟩, k⟩ := qn 60 rfl
    exact mth_mk (h := h) mL1 mL2 l q k (fun us hl => match us, hl with | [_, _], _ => rfl) (fun u us hl => match us, hl with | [_], _ => rfl)
  have E_InvalidBody_init : Mth K (He.ga K "InvalidBody") "__init__" "InvalidBody.__init__" m_InvalidBody_init ["self", "index"] := by
    obtain ⟨⟨oc, od, sl, kV, dc, pm, an, cd, ct, l, q⟩, k⟩ := qn 61 rfl
    exact mth_mk (h := h) mB1 mB2 l q k (fun us hl => match us, hl with | [_, _], _ => rfl) (fun u us hl => match us, hl with | [_], _ => rfl)
  have E_Entry_eq : Mth K (He.ga K "Entry") "__eq__" "Entry.__eq__" m_Entry_eq ["self", "other"] := by
    obtain ⟨⟨oc, od, sl, kV, dc, pm, an, cd, ct, l, q⟩, k⟩ := qn 62 rfl
    exact mth_mk (h := h) yE1 yE2 l q k (fun us hl => match us, hl with | [_, _], _ => rfl) (fun u us hl => match us, hl with | [_], _ => rfl)
  obtain ⟨⟨oc, od, sl, kV, dc, pm, an, cd, ct, ll, lc⟩, lk⟩ := qn 39 rfl
  have eL : fa = He.ga K "law" := by
    have e := hfa.symm.trans (PySem.W.mg_of X G (qd 39 rfl))
    cases e
    rfl
  subst eL
  refine ⟨PySem.W.fnOf "law" "law" (defArgs s_law) (defBody s_law) (defScope s_law) .none kV dc pm an cd ct, fun s v => .of_eq rfl, fun base _ _ TB => ?_⟩
  have p1 := ok_is_integer (P := P) (w := w) (base := base) T D_is_integer
  have p2 := ok_is_name (P := P) (w := w) (base := base) T D_is_name
  have w1 := ok_parts_with (P := P) (w := w) (base := base) T XX D_parts_with
  have w2 := ok_depth_with (P := P) (w := w) (base := base) T XX D_depth_with
  have w3 := ok_check_inside T XX D_check_inside w1 w2
  have w4 := ok_written (P := P) (w := w) (base := base) T XX D_written
  have w5 := ok_exi T XX E_Expression_init w1 w2 w3 w4
  have b0 := ok_Plus XX XI_ E_Plus_init w5
  have b1 := ok_Minus XX XI_ E_Minus_init w5
  have b2 := ok_Times XX XI_ E_Times_init w5
  have b5 := ok_Both XX XI_ E_Both_init w5
  have b6 := ok_Either XX XI_ E_Either_init w5
  have MM : Makes P w K mg base C := ⟨fun k _ => ⟨_, k_mk k⟩, ok_Number T XX XI_ E_Number_init w5 p1, ok_Variable T XX XI_ E_Variable_init w5 p2, ok_Not XX XI_ E_Not_init w5, fun k hk => match k, hk with
    | .plus, _ => b0
    | .minus, _ => b1
    | .times, _ => b2
    | .both, _ => b5
    | .either, _ => b6, ok_TimesI XX XI_ E_TimesI w5⟩
  have o1 := own_of (k := 1) XH_ (by decide) (ok_exeq (P := P) (w := w) (base := base) T XX E_Expression_eq)
  have o2 := own_of (k := 1) XH_ (by decide) (ok_exstr (P := P) (w := w) (base := base) T XX E_Expression_str)
  have o3 := own_of (k := 1) XH_ (by decide) (ok_exrepr (P := P) (w := w) (base := base) T XX E_Expression_repr)
  have j1 := ok_cell (P := P) (w := w) (base := base) T D_cell
  have j2 := ok_purse (P := P) (w := w) (base := base) T D_purse
  have j3 := ok_draw (P := P) (w := w) (base := base) T D_draw
  have j4 := ok_name T D_name j3
  have j5 := ok_fresh T D_fresh j4
  have j6 := ok_names T D_names j5
  have TB1 := TB (He.cT K ("_law_row_right", none)) (List.mem_map.mpr ⟨_, List.mem_cons_self, rfl⟩)
  have a1 := ok_amount_of (P := P) (w := w) (base := base) T SS D_amount_of
  have a2 := ok_height_of (P := P) (w := w) (base := base) T SS D_height_of
  have a3 := ok_indented (P := P) (w := w) (base := base) T SS D_indented
  have a4 := ok_lines_inside T SS D_lines_inside a3
  have SC := stC_of T SS SI a1 a2 a4
  have cx := ok_check_expression (P := P) (w := w) (base := base) T XX D_check_expression
  have cn := ok_check_name D_check_name p2
  have cb := ok_check_body (P := P) (w := w) (base := base) T SS D_check_body
  have XM : ∀ k, PySem.W.mroIn K (C k) (.type "object") = some true := fun k => (XX.own k).hm
  have b_A := ini_A (P := P) (w := w) (base := base) Ec.a E_InvalidName_init
  have b_S := ini_S (P := P) (w := w) (base := base) Ec.s E_InvalidSize_init
  have b_L := ini_L (P := P) (w := w) (base := base) Ec.l E_InvalidSlots_init
  have b_B := ini_B (P := P) (w := w) (base := base) Ec.b E_InvalidBody_init
  have zz := ok_is_size T D_is_size p1
  have CH : Chs P w K mg base (He.ga K "Statement") CK (fun k : EK => He.ga K k.cn) := ⟨cn, ox_check_name D_check_name b_A p2, ok_check_size D_check_size zz, ox_check_size D_check_size b_S zz, ox_check_slots T D_check_slots b_L p2 zz, cb, ox_check_body T SS D_check_body b_B, a1⟩
  have EE : EnD P w K mg base (He.ga K "Entry") (spEnt K (He.ga K "Statement") CK (fun k : EK => He.ga K k.cn) (He.ga K "Entry")) := by
    obtain ⟨fE, fdE, e1, e2, mv, ds, FDE, mE, h1, h2, k2, k1, bb, kK⟩ := FI_Entry
    exact ⟨fE, fdE, e1, e2, mv, ds, ox_entry T YY CH FDE, mE, h1, h2, k2, k1, bb, kK⟩
  have MSS : MakesS P w K mg base C CK := by
    obtain ⟨fI, dI, vI, FDI, mI, bI, hI, eI, kI⟩ := FI_If
    obtain ⟨fC, dC, vC, FDC, mC, bC, hC, eC, kC⟩ := FI_Call
    exact ⟨fun k _ => ⟨_, MKS k⟩, ok_assign T XX XM o2 SS SC cx cn cb E_Assign_init, ⟨fI, dI, vI, ok_if T XX XM o2 SS SC cx cn cb FDI, mI, bI, hI, eI, kI⟩, ⟨fC, dC, vC, ok_call T XX XM o2 SS SC cx cn cb FDC, mC, bC, hC, eC, kC⟩, ok_return T XX XM o2 SS SC cx cn cb E_Return_init, ok_fail SS SC E_Fail_init⟩
  have so0 := own2_of (k := 1) XS (by decide) (ok_steq (P := P) (w := w) (base := base) T SS E_Statement_eq)
  have so1 := own2_of (k := 1) XS (by decide) (ok_ststr (P := P) (w := w) (base := base) T SS E_Statement_str)
  have eqE := ok_enteq T YY (of_decide_eq_true ey4) so0 E_Entry_eq
  have OE : Own P w K mg base 3 "__eq__" ["self", "other"] (fun c => c = He.ga K "Entry") (spEntEq K (He.ga K "Statement") CK (He.ga K "Entry")) := by
    obtain ⟨f, fd, F, mt, b, _⟩ := eqE.ex
    exact ⟨f, fd, F, b, mt.fn, fun A e => by rw [e]; exact mt.at_⟩
  have h9 := ok_told (P := P) (w := w) (base := base) T Ec D_told
  have ti := ok_title T D_title j4 j3
  have si := ok_size T D_size j3
  have ex := ok_extra T D_extra j3 j6
  have lo := ok_lot T XX SS OO MM MSS D_lot j3
  have nm := ok_lis_name (P := P) (w := w) (base := base) T D_lis_name
  have sz := ok_lis_size (P := P) (w := w) (base := base) T D_lis_size
  have xd := ok_exd T D_extra_due nm sz
  have ld := ok_lod (P := P) (w := w) (base := base) T SS D_lot_due
  have du := ok_due T D_due nm sz xd ld
  have bu := ok_built mkY yG EE D_built
  have na := ok_named mkY yG EE D_named
  have sh := ok_shown T YY so1 D_shown
  have eq := ok_equal T XX SS MM MSS NY OE D_equal_right j3 j5 bu na
  have ro := ok_row T Ec TB1 D_row_right D_fault h9 du bu na sh eq
  have ri := ok_right T XX SS YY MM MSS mkY EE so1 D_right j3 j5 ti si ex lo ro
  exact ok_law (Tb := TbS _) (fun_mk (st := s_law) ll lc lk) T j1 j2 ri
end Jo

set_option Elab.async false
set_option linter.all false
set_option maxRecDepth 100000
set_option maxHeartbeats 2000000
open PySem PySem.W PySem.Calls PyProof.Rows
theorem PySem.Challenge.cw_reentry_k14_entries_holds : PySem.Challenge.rw_reentry_k14_entries.Holds := by
  w_on; o_law
  refine HandSHeadRun.head_any (r := OpenLaw.row PySem.Challenge.rw_reentry_k14_entries) (q := view (OpenLaw.row PySem.Challenge.rw_reentry_k14_entries).prog [81]) (H := Jo.hk) (ob := Jo.ob) (M := 13000) (loose := Jo.namesA) (d := HandSHeadRun.topDef (OpenLaw.row PySem.Challenge.rw_reentry_k14_entries).prog 81) (kwd := []) Jo.ob_eq
    (by kernel_rfl) (fun s => by kernel_rfl) Jo.run (by kernel_rfl) (by kernel_rfl) (by kernel_rfl) (by rfl) (by first | assumption | decide +kernel) (by decide +kernel) ⟨rfl, rfl, rfl, rfl, rfl, by decide +kernel⟩ ?hw ?hc
  case hw => w_witness2
  case hc =>
    refine Jo.walk_ofGM (l := PySem.Challenge.rw_reentry_k14_entries) (n := 63) (k := 12) (x := "_law_script") rfl (by decide) (by kernel_rfl) ⟨rfl, by decide, by decide⟩ ?F
    intro w mg fa h Y G hmg0
    obtain ⟨K, KX, c⟩ := Y
    have hmg : mg ("law" : PySem.Str) = some (.ref fa) := by
      have e : (HandSHeadRun.topDef (OpenLaw.row PySem.Challenge.rw_reentry_k14_entries).prog 81).name = ("law" : PySem.Str) := by kernel_rfl
      rw [← e]
      exact hmg0
    obtain ⟨fd, hb, hF⟩ := Jo.facts (P := (PySem.Challenge.rw_reentry_k14_entries).prog) (w := w) KX G hmg c
    refine ⟨K, fd, Jo.psT.map (He.cT K), Jo.spLaw K _, KX, fun p hp => ?_, hb, fun H a ns hl _ hP hS => ⟨a, ns, rfl, hS, hl, fun q hq => ?_, fun _ => rfl⟩, hF⟩
    · obtain ⟨q, hq, e⟩ := List.mem_map.mp hp
      subst e
      exact ⟨(c.tabs q hq).2.2, (c.tabs q hq).2.1, PySem.W.codeHd_of_K KX (c.tabs q hq).1⟩
    · obtain ⟨p, hp, e⟩ := List.mem_map.mp hq
      subst e
      exact hP p hp

