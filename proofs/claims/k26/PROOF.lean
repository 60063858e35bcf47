import PyProof.Rows.All
import Wide.All
import OpenK.AllK
import Wide.FinOn
import KE.KStateDown
import HandS.Head0
import HandS.Head1
import HandS.Head2
import HandS.HeadHook1
import HandS.Words
import HandS.ForMost
import HandS.EndBits
import HandS.MakeKwOnly
import HandS.ExcCtx
import HandS.Hot
import HandS.HotCalls
import HandS.Exc
import HandS.TryMany
import HandS.ExcInit
import HandS.ExcOwn
import HandS.WordsExc
import HandS.Walk
import KE.GoesEnum
import HandS.IsInst
import HandS.TupLe
import HandS.TupAny
import HandS.Wide
import HandS.Codes
import KE.KExcIs
import KE.KExcInit
import HandS.ExcValue
import HandS.SetFor
import HandS.ExcField
import HandS.Dict
import PyProof.StrLawsRepr
import PyProof.CallFns
import HandS.Text
import HandS.Style
import PySem.Challenge.RW_reentry_k26_rules_refused
set_option Elab.async false
set_option linter.all false
set_option maxRecDepth 100000
/-! What the end of a top is asked, in the kernel's run: one truth over the part of the heap that the names reach, and the defs. -/
namespace Jo
open PySem PySem.Spec PyProof.Rows
/-- the list's spine, .. and its numbers, ahead of what follows -/
def frL {α β : Type} : List α → (List α → β) → β
  | [], k => k []
  | x :: xs, k => frL xs fun ys => k (x :: ys)
theorem frL_eq {α β : Type} : ∀ (xs : List α) (k : List α → β), frL xs k = k xs
  | [], _ => rfl
  | x :: xs, k => by
    unfold frL
    exact frL_eq xs _
def frA {β : Type} : List Addr → (List Addr → β) → β
  | [], k => k []
  | x :: xs, k => HandSHeadRun.frNat x fun x => frA xs fun ys => k (x :: ys)
theorem frA_eq {β : Type} : ∀ (xs : List Addr) (k : List Addr → β), frA xs k = k xs
  | [], _ => rfl
  | x :: xs, k => by
    unfold frA
    rw [HandSHeadRun.frNat_eq]
    exact frA_eq xs _
/-- what an object names: what stands under its names, a def's code and defaults, a class's names, a row's elements -/
def refsJ (o : Obj) : List Addr := match o.data with
  | .seq its _ => its.toList.flatMap He.refV
  | .dict es _ => es.toList.flatMap fun e => He.refV e.val
  | .func fd => He.refV fd.code ++ He.refV fd.defaults ++ He.refV fd.kwdefaults
  | .cls cd => [cd.ns]
  | _ => []
def nextJ (g : Addr → Option Obj) (as : List Addr) : List Addr := as.flatMap fun a => match g a with
  | some o => refsJ o
  | none => []
def asJ (g : Addr → Option Obj) : Nat → List Addr → List Addr → List Addr
  | 0, _, all => all
  | n + 1, as, all => asJ g n (nextJ g as) (all ++ nextJ g as)
def asF {β : Type} (g : Addr → Option Obj) : Nat → List Addr → List Addr → (List Addr → β) → β
  | 0, _, all, k => frL all k
  | n + 1, as, all, k => frA (nextJ g as) fun bs => asF g n bs (all ++ bs) k
theorem asF_eq {β : Type} {g : Addr → Option Obj} : ∀ (n : Nat) (as all : List Addr) (k : List Addr → β), asF g n as all k = k (asJ g n as all)
  | 0, _, all, k => frL_eq all k
  | n + 1, as, all, k => by
    unfold asF asJ
    rw [frA_eq]
    exact asF_eq n _ _ k
abbrev AlJ : Type := Bool × List He.FnV
def SaysJ (ok : PySem.W.Frag → Bool) (fn : List He.FnD) (K : PySem.W.Frag) : Prop := ok K = true ∧ fn.map (fun d => He.fnObs K d.at_) = fn.map He.FnD.val
def obsJ (n : Nat) (ok : PySem.W.Frag → Bool) (fn : List He.FnD) (g : Addr → Option Obj) : AlJ :=
  asF g n [mainGlobals] [mainGlobals] fun as => frL (He.frG g as) fun K => (ok K, fn.map fun d => He.fnObs K d.at_)
theorem obsJ_is {n : Nat} {ok : PySem.W.Frag → Bool} {fn : List He.FnD} {g : Addr → Option Obj} :
    obsJ n ok fn g = (ok (He.frG g (asJ g n [mainGlobals] [mainGlobals])), fn.map fun d => He.fnObs (He.frG g (asJ g n [mainGlobals] [mainGlobals])) d.at_) := by
  unfold obsJ
  rw [asF_eq, frL_eq]
def hookJ (n : Nat) (ok : PySem.W.Frag → Bool) (fn : List He.FnD) : PySem.W.Hook where
  α := AlJ
  obs := fun s => obsJ n ok fn s.heap.get?
  val := fun _ => (true, fn.map He.FnD.val)
  says := fun _ h => ∃ K : PySem.W.Frag, K.In h ∧ SaysJ ok fn K
  of := fun _ _ e => by
    rw [obsJ_is] at e
    exact ⟨_, He.frG_in, congrArg (fun z : AlJ => z.1) e, congrArg (fun z : AlJ => z.2) e⟩
  keeps := fun _ _ _ ⟨K, hK, c⟩ k => ⟨K, PySem.W.Frag.In.keeps hK k, c⟩
theorem obsJ_eq {n : Nat} {ok : PySem.W.Frag → Bool} {fn : List He.FnD} {g : Addr → Option Obj} {s : Shared} (h : ∀ a, g a = s.heap.get? a) : obsJ n ok fn g = (hookJ n ok fn).obs s := by
  have e : g = s.heap.get? := funext h
  rw [e] <;> rfl
theorem SaysJ.at_ {ok : PySem.W.Frag → Bool} {fn : List He.FnD} {K : PySem.W.Frag} (c : SaysJ ok fn K) (i : Nat) {d : He.FnD} (h : fn[i]? = some d) (q : (He.Fa.code d.at_ d.qual).ok K = true) :
    ∃ oc od osl kV doc pm an cdv ct, K.lookup (He.fAd K d.at_) = some ⟨oc, od, .func (PySem.W.fnOf d.name d.qual d.params d.body d.scope .none kV doc pm an cdv ct), osl⟩ ∧ PySem.W.codeIn K cdv d.qual = true := by
  have e2 : (fn.map fun d => He.fnObs K d.at_)[i]? = (fn.map He.FnD.val)[i]? := by rw [c.2]
  rw [List.getElem?_map, List.getElem?_map, h] at e2
  exact He.fn_ok (Option.some.inj e2) q
end Jo

set_option Elab.async false
set_option linter.all false
set_option maxRecDepth 100000
set_option maxHeartbeats 2000000
namespace Jo
open PySem PySem.Spec PyProof.Rows L2
def top (i : Nat) : Stmt := PySem.Challenge.pw_reentry_k26_rules_refused.main.body.getD i (.Pass ⟨0, 0, 0, 0⟩)
abbrev s_is_name : Stmt := top 13
abbrev s_is_integer : Stmt := top 14
abbrev s_check_steps : Stmt := top 19
abbrev s_check_bad : Stmt := top 20
abbrev s_is_step : Stmt := top 21
abbrev s_is_state : Stmt := top 22
abbrev s_is_event : Stmt := top 23
abbrev s_is_full_event : Stmt := top 24
abbrev s_fits : Stmt := top 25
abbrev i_InvalidValue : Stmt := inClass (top 4) 0
abbrev i_InvalidMove : Stmt := inClass (top 5) 0
abbrev i_InvalidSteps : Stmt := inClass (top 6) 0
abbrev i_InvalidBad : Stmt := inClass (top 7) 0
abbrev s_init : Stmt := inClass (top 18) 0
abbrev s_rafter : Stmt := inClass (top 18) 1
abbrev s_next_state : Stmt := inClass (top 18) 2
abbrev s_bag : Stmt := top 27
abbrev s_pick : Stmt := top 28
abbrev s_name : Stmt := top 29
abbrev s_error : Stmt := top 33
abbrev s_asked : Stmt := top 34
abbrev bmV : List Value := [.type "ValueError", .type "Exception", .type "BaseException", .type "object"]
abbrev s_wrong_state : Stmt := top 30
abbrev s_wrong_event : Stmt := top 31
abbrev s_wrong_step : Stmt := top 32
abbrev s_made_right : Stmt := top 35
abbrev s_after_right : Stmt := top 36
abbrev s_right : Stmt := top 37
abbrev s_law : Stmt := top 38
def nsB (K : PySem.W.Frag) (x : Str) : Bool := He.eqO (PySem.W.nsIn K mainGlobals x) (some (some (.ref (He.ga K x))))
def lookB (K : PySem.W.Frag) (C B : Addr) (newId : String) (bmB : List Value) : Bool := match K.lookup C with
  | some ⟨.type t, _, .cls cd, sl⟩ => decide (t = "type") && (decide (cd.mro = .ref C :: .ref B :: bmB) && (cd.hasDict && (!cd.hasDel && (match sl.toList with
    | [_, _, _, _, some (.builtin n), _] => decide (n = newId)
    | _ => false))))
  | _ => false
def ecB (K : PySem.W.Frag) (C B : Addr) (newId : String) (bmB : List Value) : Bool := lookB K C B newId bmB && (He.eqO (PySem.W.findIn K (.ref C) "__setattr__") (some (some (.builtin "object.__setattr__"))) &&
  (He.eqO (PySem.W.findIn K (.ref C) "__getattribute__") (some (some (.builtin "BaseException.__getattribute__"))) && (He.eqO (PySem.W.findIn K (.ref C) "__getattr__") (some none) &&
  (He.eqO (PySem.W.findIn K (.ref C) "__class__") (some (some (.builtin "object.__class__"))) && PySem.W.keepIn K (.ref C)))))
def mtB (K : PySem.W.Frag) (C : Addr) (m : Str) : Bool := He.eqO (PySem.W.findIn K (.ref C) m) (some (some (.ref (He.ma K C m)))) && PySem.W.isFn K (.ref (He.ma K C m))
def erA (K : PySem.W.Frag) (f : Str) (C B : Addr) : Bool := ecB K C B "ValueError.__new__" bmV && (He.eqO (PySem.W.findIn K (.ref C) f) (some none) && mtB K C "__init__")
def erB (K : PySem.W.Frag) (q : Str × Str) : Bool := HandSHeadRun.frNat (He.ga K q.1) fun C => HandSHeadRun.frNat (He.ga K "ReentryError") fun B => erA K q.2 C B
def cmA (K : PySem.W.Frag) (t b : Bool) (C D : Addr) : Bool := decide ((if t = true then PySem.W.exmOne K (.ref C) (.ref D) else PySem.W.kitOne K (.ref C) (.ref D)) = some b)
def cmB (K : PySem.W.Frag) (t : Bool × Str × Str × Bool) : Bool := HandSHeadRun.frNat (He.ga K t.2.1) fun C => HandSHeadRun.frNat (He.ga K t.2.2.1) fun D => cmA K t.1 t.2.2.2 C D
def intB (K : PySem.W.Frag) (q : Str × Int) : Bool := match PySem.W.nsIn K mainGlobals q.1 with
  | some (some (.int j _)) => decide (j = q.2)
  | _ => false
def strB (K : PySem.W.Frag) (q : Str × Str) : Bool := match PySem.W.nsIn K mainGlobals q.1 with
  | some (some (.str z _)) => decide (z = q.2)
  | _ => false
def valsB : List Str → List Value → Bool
  | [], [] => true
  | x :: xs, .str y _ :: ys => decide (y = x) && valsB xs ys
  | _, _ => false
def tupA (K : PySem.W.Frag) (xs : List Str) (a : Addr) : Bool := match K.lookup a with
  | some ⟨.type t, _, .seq its _, _⟩ => decide (t = "tuple") && (decide (its.size ≤ 100) && valsB xs its.toList)
  | _ => false
def tupB (K : PySem.W.Frag) (q : Str × List Str) : Bool := nsB K q.1 && HandSHeadRun.frNat (He.ga K q.1) fun a => tupA K q.2 a
def ruA (K : PySem.W.Frag) (C : Addr) : Bool := PySem.W.plainGet K C Str.empty && (PySem.W.hasDictIn K C && (PySem.W.plainOver K C && (He.eqO (PySem.W.findIn K (.ref C) "__setattr__") (some (some (.builtin "object.__setattr__"))) &&
  (PySem.W.makesIn K C && (PySem.W.keepIn K (.ref C) && (He.eqO (PySem.W.findIn K (.ref C) "steps") (some none) && (He.eqO (PySem.W.findIn K (.ref C) "bad") (some none) &&
  (mtB K C "__init__" && (mtB K C "after" && mtB K C "next_state")))))))))
def ruB (K : PySem.W.Frag) : Bool := HandSHeadRun.frNat (He.ga K "Rule") fun C => ruA K C
def defB (K : PySem.W.Frag) (d : He.FnD) : Bool := (He.Fa.code d.at_ d.qual).ok K && PySem.W.keepIn K (.ref (He.fAd K d.at_))
def clT : List Str := ["ReentryError", "StateError", "LimitError", "InvalidValue", "InvalidMove", "InvalidSteps", "InvalidBad", "Rule"]
def erT : List (Str × Str) := [("InvalidValue", "value"), ("InvalidMove", "value"), ("InvalidSteps", "index"), ("InvalidBad", "index")]
def cmT : List (Bool × Str × Str × Bool) := [(true, "InvalidSteps", "InvalidSteps", true), (true, "InvalidBad", "InvalidSteps", false), (true, "InvalidBad", "InvalidBad", true), (true, "InvalidValue", "InvalidValue", true), (true, "InvalidMove", "InvalidValue", false), (true, "InvalidMove", "InvalidMove", true), (false, "InvalidSteps", "StateError", false), (false, "InvalidSteps", "LimitError", false), (false, "InvalidSteps", "InvalidValue", false), (false, "InvalidSteps", "InvalidSteps", true), (false, "InvalidSteps", "InvalidBad", false), (false, "InvalidSteps", "ReentryError", true), (false, "InvalidBad", "StateError", false), (false, "InvalidBad", "LimitError", false), (false, "InvalidBad", "InvalidValue", false), (false, "InvalidBad", "InvalidSteps", false), (false, "InvalidBad", "ReentryError", true), (false, "InvalidValue", "StateError", false), (false, "InvalidValue", "LimitError", false), (false, "InvalidValue", "InvalidSteps", false), (false, "InvalidValue", "ReentryError", true), (false, "InvalidMove", "StateError", false), (false, "InvalidMove", "LimitError", false), (false, "InvalidMove", "InvalidSteps", false), (false, "InvalidMove", "ReentryError", true)]
def inT : List (Str × Int) := [("MAX_STATE", 99), ("LONGEST_NAME", 8)]
def stT : List (Str × Str) := [("LETTERS", "abcdefghijklmnopqrstuvwxyz"), ("SIGNS", "abcdefghijklmnopqrstuvwxyz0123456789")]
def tuT : List (Str × List Str) := [("WORDS", ["call", "answer", "out", "back"]), ("HANG_EVENT", ["hang"])]
def frT : List Str := ["isinstance", "str", "int", "bool", "tuple", "len", "all", "range", "repr", "enumerate", "divmod", "max", "min", "list", "ValueError"]
def dfT : List He.FnD := [⟨("is_name", none), "is_name", "is_name", defArgs s_is_name, defBody s_is_name, defScope s_is_name⟩, ⟨("is_integer", none), "is_integer", "is_integer", defArgs s_is_integer, defBody s_is_integer, defScope s_is_integer⟩, ⟨("check_steps", none), "check_steps", "check_steps", defArgs s_check_steps, defBody s_check_steps, defScope s_check_steps⟩, ⟨("check_bad", none), "check_bad", "check_bad", defArgs s_check_bad, defBody s_check_bad, defScope s_check_bad⟩, ⟨("is_step", none), "is_step", "is_step", defArgs s_is_step, defBody s_is_step, defScope s_is_step⟩, ⟨("is_state", none), "is_state", "is_state", defArgs s_is_state, defBody s_is_state, defScope s_is_state⟩, ⟨("is_event", none), "is_event", "is_event", defArgs s_is_event, defBody s_is_event, defScope s_is_event⟩, ⟨("is_full_event", none), "is_full_event", "is_full_event", defArgs s_is_full_event, defBody s_is_full_event, defScope s_is_full_event⟩, ⟨("fits", none), "fits", "fits", defArgs s_fits, defBody s_fits, defScope s_fits⟩, ⟨("_law_bag", none), "_law_bag", "_law_bag", defArgs s_bag, defBody s_bag, defScope s_bag⟩, ⟨("_law_pick", none), "_law_pick", "_law_pick", defArgs s_pick, defBody s_pick, defScope s_pick⟩, ⟨("_law_name", none), "_law_name", "_law_name", defArgs s_name, defBody s_name, defScope s_name⟩, ⟨("_law_wrong_state", none), "_law_wrong_state", "_law_wrong_state", defArgs s_wrong_state, defBody s_wrong_state, defScope s_wrong_state⟩, ⟨("_law_wrong_event", none), "_law_wrong_event", "_law_wrong_event", defArgs s_wrong_event, defBody s_wrong_event, defScope s_wrong_event⟩, ⟨("_law_wrong_step", none), "_law_wrong_step", "_law_wrong_step", defArgs s_wrong_step, defBody s_wrong_step, defScope s_wrong_step⟩, ⟨("_law_error", none), "_law_error", "_law_error", defArgs s_error, defBody s_error, defScope s_error⟩, ⟨("_law_asked", none), "_law_asked", "_law_asked", defArgs s_asked, defBody s_asked, defScope s_asked⟩, ⟨("_law_made_right", none), "_law_made_right", "_law_made_right", defArgs s_made_right, defBody s_made_right, defScope s_made_right⟩, ⟨("_law_after_right", none), "_law_after_right", "_law_after_right", defArgs s_after_right, defBody s_after_right, defScope s_after_right⟩, ⟨("_law_right", none), "_law_right", "_law_right", defArgs s_right, defBody s_right, defScope s_right⟩, ⟨("law", none), "law", "law", defArgs s_law, defBody s_law, defScope s_law⟩]
def iiT : List He.FnD := [⟨("InvalidValue", some "__init__"), "__init__", "InvalidValue.__init__", defArgs i_InvalidValue, defBody i_InvalidValue, defScope i_InvalidValue⟩, ⟨("InvalidMove", some "__init__"), "__init__", "InvalidMove.__init__", defArgs i_InvalidMove, defBody i_InvalidMove, defScope i_InvalidMove⟩, ⟨("InvalidSteps", some "__init__"), "__init__", "InvalidSteps.__init__", defArgs i_InvalidSteps, defBody i_InvalidSteps, defScope i_InvalidSteps⟩, ⟨("InvalidBad", some "__init__"), "__init__", "InvalidBad.__init__", defArgs i_InvalidBad, defBody i_InvalidBad, defScope i_InvalidBad⟩, ⟨("Rule", some "__init__"), "__init__", "Rule.__init__", defArgs s_init, defBody s_init, defScope s_init⟩, ⟨("Rule", some "after"), "after", "Rule.after", defArgs s_rafter, defBody s_rafter, defScope s_rafter⟩, ⟨("Rule", some "next_state"), "next_state", "Rule.next_state", defArgs s_next_state, defBody s_next_state, defScope s_next_state⟩]
def fnT : List He.FnD := dfT ++ iiT
def okT (K : PySem.W.Frag) : Bool := clT.all (nsB K) && (erT.all (erB K) && (cmT.all (cmB K) && (inT.all (intB K) && (stT.all (strB K) && (tuT.all (tupB K) && (frT.all (fun x => He.eqO (PySem.W.nsIn K mainGlobals x) (some none)) && (dfT.all (fun d => nsB K d.name) && (fnT.all (defB K) && (ruB K &&
  (decide (PySem.W.specialIn K (.builtin "object.__class__") "__get__" = some (some (.builtin "getset_descriptor.__get__"))) && decide (PySem.W.takesIn K (.builtin "object.__class__") = some true)))))))))))
abbrev R0 : PySem.W.OpenRow := PySem.W.OpenLaw.row PySem.Challenge.rw_reentry_k26_rules_refused
abbrev hk : PySem.W.Hook := hookJ 4 okT fnT
def ob (s : PySem.W.SharedT) : AlJ := obsJ 4 okT fnT (HandSHeadRun.getT s)
theorem ob_eq (s : PySem.W.SharedT) : ob s = hk.obs s.abs := obsJ_eq (HandSHeadRun.getT_eq s)
def names0 : List Str := ["ReentryError", "StateError", "LimitError", "InvalidValue", "InvalidMove", "InvalidSteps", "InvalidBad", "Rule", "MAX_STATE", "LONGEST_NAME", "LETTERS", "SIGNS", "WORDS", "HANG_EVENT", "is_name", "is_integer", "check_steps", "check_bad", "is_step", "is_state", "is_event", "is_full_event", "fits", "_law_bag", "_law_pick", "_law_name", "_law_wrong_state", "_law_wrong_event", "_law_wrong_step", "_law_error"]
def names1 : List Str := ["_law_asked", "_law_made_right", "_law_after_right", "_law_right"]
def namesA : List Str := names0 ++ names1
theorem run (w : World) : HandSHeadRun.RunEq R0 (PySem.W.view R0.prog [38]) hk ob 11000 namesA w := by
  intro os
  kernel_rfl
end Jo

set_option Elab.async false
set_option linter.all false
set_option maxRecDepth 100000
/-! Defs that are called where no repr is under way: their promise, their body, their call, the law's own call. -/
namespace Jo
open PySem PySem.Spec PyProof.Rows L2

/-- a def's promise, kept wherever no repr is under way -/
structure FnG (P : Program) (w : World) (K : PySem.W.Frag) (mg : Str → Option Value) (base : Heap)
    (k : Nat) (f : Addr) (fd : FuncData) (ps : List Str) (sp : Sp) : Prop where
  len : ∀ vs H Q E, sp vs H Q E → vs.length = ps.length
  go : ∀ (A : Around) (fr : List Env) (s : Shared) (H : Hp) (args : Args) (us : List Value) (vs : List V) (Q : VK) (E : XK),
    Room k A → A.guards = some [] → Env0 P w K mg base A fr s H → BindsTo s fd args (ps.zip us) → Vals vs us →
    sp vs H Q E → codeAny (model P w) A (.call (.ref f) args) (CR CX0 fr P w H s Q E) s

section
variable {P : Program} {w : World} {K : PySem.W.Frag} {mg : Str → Option Value} {base : Heap}

theorem FnG.of {k : Nat} {f : Addr} {fd : FuncData} {ps : List Str} {sp : Sp}
    (F : FnOk P w K mg base CX0 k f fd ps sp) : FnG P w K mg base k f fd ps sp :=
  ⟨F.len, fun A fr s H args us vs Q E hr _ e hb hv hs => F.run A fr s H args us vs Q E hr e hb hv hs⟩
theorem FnG.mono {j k : Nat} {f : Addr} {fd : FuncData} {ps : List Str} {sp : Sp}
    (F : FnG P w K mg base j f fd ps sp) (h : j ≤ k) : FnG P w K mg base k f fd ps sp :=
  ⟨F.len, fun A fr s H args us vs Q E hr => F.go A fr s H args us vs Q E (hr.mono h)⟩

/-- a def by its body; the body may lean on it that no repr is under way -/
theorem fun_okG {k : Nat} {x qual : Str} {st : Stmt} {f : Addr} {fd : FuncData} {N ps : List Str} {sp : Sp}
    (F : Fun K x qual st f fd) (S : FnScope N ps (defScope st))
    (len : ∀ vs H Q E, sp vs H Q E → vs.length = ps.length)
    (body : ∀ (cdv : Value) (A : Around) (fr : List Env) (s : Shared) (H : Hp) (vs : List V) (Q : VK) (E : XK),
      Room k (A.deeper (envOfC qual (defScope st) s.heap.objs.size f cdv)) → A.guards = some [] → sp vs H Q E →
      ∃ t, PSs (cxOf CX0 P w K mg base N qual (defScope st) f cdv A fr s H E).nox (defBody st) t ∧
        t { nx := fun _ H' => Q .non H', rt := Q } (start N vs) H) :
    FnG P w K mg base (k + 1) f fd ps sp := by
  obtain ⟨oc, od, kV, doc, pm, an, cdv, ct, osl, rfl, lk, hcd⟩ := F.ex
  refine ⟨len, fun A fr s H args us vs Q E hr hgd e0 hb r hsp => ?_⟩
  have keepB : ∀ b o, base.get? b = some o → s.heap.get? b = some o := fun b o e => (e0.bs b o e).1
  have KX := e0.mod.kin.keeps keepB
  have nolim := e0.mod.nolimit.keeps keepB
  refine codeAny_call_function hr.depth (KX _ _ lk) rfl S.co S.gen rfl (PySem.W.codeRec_of KX hcd) (hb _ _ _ _ ?_)
  refine wpAny_newFunctionEnv_cells S.kind (fun ⟨n, v⟩ hy => ?_) fun env he s1 x => ?_
  · cases S.par n (List.of_mem_zip hy).1 with
    | inl q => exact .inl q
    | inr q => exact .inr ⟨q, PySem.W.cellsFrom_some _ _ _ (.inl q)⟩
  · subst he
    refine ⟨nolim.keeps x.toInCall.keep, codeAny_func ?_⟩
    obtain ⟨t, ht, hq⟩ := body cdv A fr s H vs Q E (hr.deeper _) hgd hsp
    have I := inv_start (CX := CX0) (E := E) S hr.hd e0 (len _ _ _ _ hsp) r x
    refine wpAny_mono (ht.nox.run [] s1 (start N vs) H _ I hq) (fun fl s' hs => ?_) fun _ _ hs => hs
    cases fl with
    | brk => obtain ⟨_, _, _, q⟩ := hs; exact q.elim
    | cont => obtain ⟨_, _, _, q⟩ := hs; exact q.elim
    | ret u =>
      obtain ⟨v, _, H', J, rv, q⟩ := hs
      exact ⟨v, H', J.os, J.bare, J.base, J.hok, rv, q⟩
    | next =>
      obtain ⟨_, H', J, q⟩ := hs
      exact ⟨V.non, H', J.os, J.bare, J.base, J.hok, rfl, q⟩
end

section
variable {X : Cx} {k : Nat} {f : Addr} {fd : FuncData} {ps : List Str} {sp : Sp} {dvs : List V} {ds : List Value}
  {E : XK} {x : Str} {p pos : Pos} {e : Expr} {es : List Expr} {t : TA}

theorem runG {pins : List (Addr × Obj)} {σ : L2.St} {H : Hp} {s : Shared} {Q : VK} {us : List Value} {vs : List V}
    (F : FnG X.prog X.w X.K X.mg X.base k f fd ps sp) (hr : Room k X.A) (hgd : X.A.guards = some [])
    (hb : Binds X.K fd ps ds) (hd : Vals dvs ds) (hx : Passes CX0 X E) (I : Inv X pins σ H s) (r : Vals vs us)
    (h : sp (vs ++ dvs) H Q E) : wpAny (model X.prog X.w) X.A (call (.ref f) us) (EP X pins σ Q) X.xe s := by
  have r2 := r.append hd
  have hl : (us ++ ds).length = ps.length := r2.length.symm.trans (F.len _ _ _ _ h)
  have run := F.go X.A X.stack s H ⟨us, []⟩ _ _ Q E hr hgd I.env0 (hb s us I.kIn hl) r2 h
  refine wpAny_call (codeAny_mono run fun r s' hq => ?_)
  match r, hq with
  | .error e, hq => exact hx pins σ H s e s' I hq
  | .ok (.ret u), hq => exact I.after hq
  | .ok .next, hq => exact (show False from hq).elim
  | .ok .brk, hq => exact (show False from hq).elim
  | .ok .cont, hq => exact (show False from hq).elim

theorem pe_callG (F : FnG X.prog X.w X.K X.mg X.base k f fd ps sp) (hr : Room k X.A) (hgd : X.A.guards = some [])
    (hg : Gl X x) (hm : X.mg x = some (.ref f)) (hk : PySem.W.keepIn X.K (.ref f) = true) (hb : Binds X.K fd ps ds)
    (hd : Vals dvs ds) (hx : Passes CX0 X E) (ha : PA X (e :: es) t) (hdb : (x == ("__debug__" : Str)) = false := by decide)
    (he : starEach (e :: es) X.env = (false, eval e X.env) :: starEach es X.env := by rfl)
    (hpl : (backTo pos (starEach es X.env)).any (·.1) = false := by rfl) :
    PE X (.Call (.Name x p) (e :: es) [] pos) (tCall sp dvs E t) := by
  refine ⟨fun pins s σ H Q I h => wpAny_Call_Name_kw (ld_glob I hg hm ?_ hdb)⟩
  exact PySem.W.callWith_K (h₀ := X.base) I.ok.mod.kin hk
    (thn (ha.run pos pins s σ H _ I h) fun us s1 ⟨vs, H1, I1, r, q⟩ => ⟨I1.kIn, runG F hr hgd hb hd hx I1 r q⟩) he hpl
theorem pe_callG0 (F : FnG X.prog X.w X.K X.mg X.base k f fd ps sp) (hr : Room k X.A) (hgd : X.A.guards = some [])
    (hg : Gl X x) (hm : X.mg x = some (.ref f)) (hk : PySem.W.keepIn X.K (.ref f) = true) (hb : Binds X.K fd ps ds)
    (hd : Vals dvs ds) (hx : Passes CX0 X E) (hdb : (x == ("__debug__" : Str)) = false := by decide) :
    PE X (.Call (.Name x p) [] [] pos) (tCall sp dvs E tNil) :=
  ⟨fun pins s σ H Q I h => wpAny_Call_Name_kw (ld_glob I hg hm
    (PySem.W.callWith_K0 I.kIn hk (runG (us := []) F hr hgd hb hd hx I .nil h)) hdb)⟩
end

/-! ### the law's own call -/
section
variable {P : Program} {w : World} {K : PySem.W.Frag} {mg mb : Str → Option Value}
theorem law_callG {k : Nat} {fa a : Addr} {fd : FuncData} {x : Str} {sp : Sp} {s₁ : Shared} {vs : List Value} {ns : List Int}
    (KX : K.In s₁.heap) (hns : s₁.heap.Ns mainGlobals mg) (hb : s₁.heap.Ns builtinsNs mb)
    (hbb : ∀ x : Str, x ≠ "__name__" → mb x = bootBuiltins x) (hlim : s₁.heap.NoLimit) (hg : s₁.gens = #[])
    (ha : s₁.heap.get? a = some { cls := .type "list", data := .seq vs.toArray }) (hi : IntsAre vs ns)
    (hl : ns.length ≤ sizeLine) (hr : Room k callerA)
    (F : ∀ base : Heap, K.In base → base.Ns mainGlobals mg → FnG P w K mg base k fa fd [x] sp)
    (hbind : ∀ (s : Shared) (u : Value), BindsTo s fd ⟨[u], []⟩ [(x, u)])
    (hsp : ∀ H : Hp, Only H → SqL K H a (ns.map V.int) → sp [.ref a] H (fun v _ => v = .bl true) fun _ _ _ => False) :
    codeAny (model P w) callerA (.call (.ref fa) ⟨[.ref a], []⟩)
      (fun r s' => r = .ok (.ret (.bool true)) ∧ OldK s₁.heap s'.heap ∧ s'.os = s₁.os ∧ AllBare s'.gens) s₁ := by
  have rv := vals_ints hi
  -- the script's place: hidden if it is tracked (it is, unless the module itself has it)
  let T : Hp := fun b => match K.lookup a with
    | some _ => none
    | none => if b = a then some (.frz { cls := .type "list", data := .seq vs.toArray } (.lst (ns.map V.int))) else none
  have hT : ∀ b o, T b = some o → b = a ∧ K.lookup a = none ∧ o = .frz { cls := .type "list", data := .seq vs.toArray } (.lst (ns.map V.int)) := fun b o e => by
    revert e
    show (match K.lookup a with | some _ => none | none => if b = a then some _ else none) = some o → _
    cases hk : K.lookup a with
    | some z => intro e; cases e
    | none =>
      intro e
      by_cases hba : b = a
      · have e2 := (if_pos hba).symm.trans e
        cases e2
        exact ⟨hba, rfl, rfl⟩
      · have e2 := (if_neg hba).symm.trans e
        cases e2
  have hOnly : Only T := fun b => by
    cases q : T b with
    | none => exact .inl rfl
    | some o =>
      obtain ⟨_, _, e⟩ := hT b o q
      exact .inr ⟨_, _, by rw [e]⟩
  have hok : HOk P w T s₁.heap := fun b o e => by
    obtain ⟨rfl, _, rfl⟩ := hT b o e
    exact ⟨ha, by rw [List.length_map]; exact hl, vs, _, rv, ha⟩
  have hS : SqL K T a (ns.map V.int) := by
    cases hk : K.lookup a with
    | some o =>
      have e := KX a o hk
      rw [ha] at e
      cases e
      exact .inr ⟨_, vs.toArray, _, hk, rfl, rfl, rfl, by rw [List.size_toArray, hi.length]; exact hl, by simpa using rv⟩
    | none =>
      refine .inl (.inr ⟨{ cls := .type "list", data := .seq vs.toArray }, ?_⟩)
      show (match K.lookup a with | some _ => none | none => if a = a then some _ else none) = some _
      rw [hk]
      exact if_pos rfl
  -- what is no list is not hidden
  have free : ∀ {b : Addr} {o : Obj}, s₁.heap.get? b = some o → (∀ q n, o.data ≠ .seq q n) → T b = none := fun {b o} e hn => by
    cases q : T b with
    | none => rfl
    | some u =>
      obtain ⟨rfl, _, _⟩ := hT b u q
      rw [ha] at e
      cases e
      exact absurd rfl (hn _ _)
  have seen : ∀ {b : Addr} {o : Obj}, s₁.heap.get? b = some o → T b = none → (hidT s₁.heap T).get? b = some o := fun e n => hidT_get e n
  have nsB : ∀ {b : Addr} {m : Str → Option Value}, s₁.heap.Ns b m → (hidT s₁.heap T).Ns b m :=
    fun ⟨o, es, ep, e, d, r⟩ => ⟨o, es, ep, seen e (free e fun q n z => by rw [d] at z; cases z), d, r⟩
  have kB : K.In (hidT s₁.heap T) := fun b o e => seen (KX b o e) (by
    cases q : T b with
    | none => rfl
    | some u =>
      obtain ⟨rfl, hk, _⟩ := hT b u q
      rw [hk] at e
      cases e)
  obtain ⟨mc, l1, l2⟩ := hlim
  have hM : Mod K mg (hidT s₁.heap T) := ⟨kB, nsB hns, ⟨mb, nsB hb, hbb⟩, ⟨mc, nsB l1, l2⟩⟩
  have none0 : ∀ b : Addr, b ∉ ([] : List Addr) := fun b z => nomatch z
  have e0 : Env0 P w K mg (hidT s₁.heap T) callerA [] s₁ T :=
    ⟨rfl, hM, fun b o e => of_hidT e, Nat.le_of_eq (hidT_size _ _), trivial, fun b z => absurd z (none0 b), hok, .of_eq hg⟩
  have run := (F _ kB (nsB hns)).go callerA [] s₁ T ⟨[.ref a], []⟩ [.ref a] [.ref a] _ _ hr rfl e0 (hbind s₁ (.ref a)) (.cons rfl .nil) (hsp T hOnly hS)
  refine codeAny_mono run fun r s' h => ?_
  match r, h with
  | .error e, h => exact (show False from h).elim
  | .ok .next, h => exact (show False from h).elim
  | .ok .brk, h => exact (show False from h).elim
  | .ok .cont, h => exact (show False from h).elim
  | .ok (.ret u), h =>
    obtain ⟨v, H', os, bare, un, hok', r', q⟩ := h
    cases (show v = V.bl true from q)
    cases (show u = Value.bool true from r')
    refine ⟨rfl, OldK.of_keep fun b o e => ?_, os, bare⟩
    cases q : T b with
    | none => exact un.keep b o e q (none0 b) (none0 b)
    | some u =>
      obtain ⟨rfl, _, rfl⟩ := hT b u q
      obtain ⟨e1, _⟩ := hok' b _ (un.frzs b _ _ q)
      rw [ha] at e
      cases e
      exact e1
theorem walk_ofG {l : PySem.W.OpenLaw} {n k : Nat} {q : Program} {loose : List Str} {XP : (Str → Option Value) → Heap → Prop}
    {YP : World → Heap → Prop} {d : DefRec} {KK : Params → PySem.W.Frag} {sp : PySem.W.Frag → Sp} {x : Str}
    (hn : l.most = some n) (hn2 : n ≤ sizeLine) (hdf : d.params.defaults = []) (hr : Room k callerA)
    (hY : ∀ (w : World) (h : Heap), YP w h → (KK w.params).In h)
    (F : ∀ (w : World) (mg : Str → Option Value) (fa : Addr) (h : Heap), (KK w.params).In h → h.Ns mainGlobals mg → mg d.name = some (.ref fa) →
      ∃ fd : FuncData, (∀ (s : Shared) (u : Value), BindsTo s fd ⟨[u], []⟩ [(x, u)]) ∧
        ∀ base : Heap, (KK w.params).In base → base.Ns mainGlobals mg → FnG l.prog w (KK w.params) mg base k fa fd [x] (sp (KK w.params)))
    (hsp : ∀ (K : PySem.W.Frag) (H : Hp) (a : Addr) (ns : List Int), ns.length ≤ n → (∀ z ∈ ns, Builtin.Int.intBits z ≤ 1048576) → Only H →
      SqL K H a (ns.map V.int) → sp K [.ref a] H (fun v _ => v = .bl true) fun _ _ _ => False) :
    PySem.W.WalkO q loose XP YP l.row.toRowW d [] (fun f vs => PySem.call f vs) := by
  refine Att.attach_callB hn hdf fun w s₀ s₁ mg mb fa o pm cd doc a vs ns G Y ho hd hcd hmg hobj hints hlen hbits hg => ?_
  obtain ⟨fd, hb, hF⟩ := F w mg fa _ (hY w _ Y) G.T.g hmg
  exact law_callG (hY w _ Y) G.T.g G.T.b G.T.builtins G.T.nolimit hg hobj hints (Nat.le_trans hlen hn2) hr hF hb
    fun H hO hS => hsp _ H a ns hlen hbits hO hS
end
end Jo

set_option Elab.async false
set_option linter.all false
set_option maxRecDepth 100000
/-! repr of lists and tuples of any depth, no repr being under way. -/
namespace Jo
open PySem PySem.Spec PyProof.Rows L2

/-- x is the data d, nested less than n deep -/
def Shw (K : PySem.W.Frag) (H : Hp) : Nat → V → PyData → Prop
  | 0 => fun _ _ => False
  | n + 1 => fun x d =>
    (x = .non ∧ d = .none) ∨ (∃ b, x = .bl b ∧ d = .bool b) ∨ (∃ i, x = .int i ∧ d = .int i) ∨ (∃ z, x = .str z ∧ d = .str z) ∨
    (∃ a xs ds, x = .ref a ∧ d = .list ds ∧ SqL K H a xs ∧ Paired (Shw K H n) xs ds) ∨
    (∃ a xs ds, x = .ref a ∧ d = .tuple ds ∧ SqT K H a xs ∧ Paired (Shw K H n) xs ds)
theorem Shw.none {K : PySem.W.Frag} {H : Hp} {n : Nat} : Shw K H (n + 1) .non .none := .inl ⟨rfl, rfl⟩
theorem Shw.bl {K : PySem.W.Frag} {H : Hp} {n : Nat} (b : Bool) : Shw K H (n + 1) (.bl b) (.bool b) := .inr (.inl ⟨b, rfl, rfl⟩)
theorem Shw.int {K : PySem.W.Frag} {H : Hp} {n : Nat} (i : Int) : Shw K H (n + 1) (.int i) (.int i) := .inr (.inr (.inl ⟨i, rfl, rfl⟩))
theorem Shw.str {K : PySem.W.Frag} {H : Hp} {n : Nat} (z : Str) : Shw K H (n + 1) (.str z) (.str z) := .inr (.inr (.inr (.inl ⟨z, rfl, rfl⟩)))
theorem Shw.lst {K : PySem.W.Frag} {H : Hp} {n : Nat} {a : Addr} {xs : List V} {ds : List PyData} (h : SqL K H a xs)
    (p : Paired (Shw K H n) xs ds) : Shw K H (n + 1) (.ref a) (.list ds) := .inr (.inr (.inr (.inr (.inl ⟨a, xs, ds, rfl, rfl, h, p⟩))))
theorem Shw.tup {K : PySem.W.Frag} {H : Hp} {n : Nat} {a : Addr} {xs : List V} {ds : List PyData} (h : SqT K H a xs)
    (p : Paired (Shw K H n) xs ds) : Shw K H (n + 1) (.ref a) (.tuple ds) := .inr (.inr (.inr (.inr (.inr ⟨a, xs, ds, rfl, rfl, h, p⟩))))

section
variable {X : Cx} {pins : List (Addr × Obj)} {σ : L2.St} {H : Hp} {s : Shared}
theorem readsAll_of {F : V → PyData → Prop} {h : Heap} (f : ∀ x d v, F x d → RelV x v → ∃ as, Reads h v d as) {xs : List V} {ds : List PyData}
    (p : Paired F xs ds) : ∀ {us : List Value}, Vals xs us → ∃ as, ReadsAll h us ds as := by
  induction p with
  | nil =>
    intro us r
    cases r
    exact ⟨_, .nil⟩
  | cons q _ ih =>
    intro us r
    cases r with
    | cons r1 r2 =>
      obtain ⟨as, h1⟩ := f _ _ _ q r1
      obtain ⟨bs, h2⟩ := ih r2
      exact ⟨_, .cons h1 h2⟩
theorem reads_of (I : Inv X pins σ H s) : ∀ (n : Nat) (x : V) (d : PyData) (v : Value), Shw X.K H n x d → RelV x v → ∃ as, Reads s.heap v d as
  | 0, _, _, _, h, _ => (show False from h).elim
  | n + 1, x, d, v, h, r => by
    rcases h with ⟨rfl, rfl⟩ | ⟨b, rfl, rfl⟩ | ⟨i, rfl, rfl⟩ | ⟨z, rfl, rfl⟩ | ⟨a, xs, ds, rfl, rfl, hs, p⟩ | ⟨a, xs, ds, rfl, rfl, hs, p⟩
    · cases (show v = Value.none from r)
      exact ⟨_, .none⟩
    · cases (show v = Value.bool b from r)
      exact ⟨_, .bool b⟩
    · obtain ⟨t, rfl⟩ := (show ∃ t, v = Value.int i t from r)
      exact ⟨_, .int i t⟩
    · obtain ⟨t, rfl⟩ := (show ∃ t, v = Value.str z t from r)
      exact ⟨_, .str z t⟩
    · cases (show v = Value.ref a from r)
      obtain ⟨its, rv, ⟨o, c, e1, e2, _, e4⟩, _⟩ := I.list hs
      obtain ⟨as, ra⟩ := readsAll_of (reads_of I n) p rv
      exact ⟨_, .list e1 e2 e4 (by simpa using ra)⟩
    · cases (show v = Value.ref a from r)
      obtain ⟨its, rv, ⟨o, e1, e2, c, e4⟩, _⟩ := I.tuple hs
      obtain ⟨as, ra⟩ := readsAll_of (reads_of I n) p rv
      exact ⟨_, .tuple e1 e2 e4 (by simpa using ra)⟩
/-- repr(xs), repr((a, b)) -/
def rRepr (K : PySem.W.Frag) : List V → Hp → VK → Prop := fun xs H Q => ∃ (a : Addr) (d : PyData) (n : Nat),
  xs = [.ref a] ∧ Shw K H n (.ref a) d ∧ d.showable = true ∧ d.hasDict = false ∧ d.depth ≤ 60 ∧ d.shown.length ≤ sizeLine ∧ Q (.str d.shown) H
theorem call_repr (hgd : X.A.guards = some []) (hu : X.A.units + 64 < cLine) : CallR X (.builtin "repr") (rRepr X.K) := by
  intro pins s σ H xs us Q I r h
  obtain ⟨a, d, n, rfl, hw, h1, h2, h3, h4, q⟩ := h
  obtain ⟨u, rfl, ru⟩ := vals1 r
  cases (show u = Value.ref a from ru)
  obtain ⟨as, rd⟩ := reads_of I n _ d _ hw rfl
  exact repr_of_reads' rd h1 (PyData.noDict_hsm h2) hgd (by omega) (fun _ _ e => e)
    (fun h' u tk hk => ⟨.str d.shown, H, I.kept hk, ⟨_, rfl⟩, q⟩) h4
end
end Jo

set_option Elab.async false
set_option linter.all false
set_option maxRecDepth 100000
/-! Defs by name: made, called by position and by name. -/
namespace Jo
open PySem PySem.Spec PyProof.Rows L2

/-- the name x of the module holds the def st with the parameters ps; it binds what is passed by position, and by name in the parameters' order -/
structure Dfn (K : PySem.W.Frag) (mg : Str → Option Value) (x : Str) (st : Stmt) (ps : List Str) : Prop where
  ex : ∃ (f : Addr) (fd : FuncData), Fun K x x st f fd ∧ mg x = some (.ref f) ∧ Binds K fd ps [] ∧
    ∀ (s : Shared) (us : List Value), us.length = ps.length → BindsTo s fd ⟨[], ps.zip us⟩ (ps.zip us)
/-- the name x of the module holds a def that keeps the promise sp -/
structure CalG (P : Program) (w : World) (K : PySem.W.Frag) (mg : Str → Option Value) (base : Heap) (k : Nat) (x : Str) (ps : List Str) (sp : Sp) : Prop where
  ex : ∃ (f : Addr) (fd : FuncData), FnG P w K mg base k f fd ps sp ∧ mg x = some (.ref f) ∧ PySem.W.keepIn K (.ref f) = true ∧ Binds K fd ps [] ∧
    ∀ (s : Shared) (us : List Value), us.length = ps.length → BindsTo s fd ⟨[], ps.zip us⟩ (ps.zip us)
section
variable {P : Program} {w : World} {K : PySem.W.Frag} {mg : Str → Option Value} {base : Heap} {x : Str} {st : Stmt} {N ps : List Str} {sp : Sp} {k : Nat}
theorem Dfn.ok (D : Dfn K mg x st ps) (S : FnScope N ps (defScope st))
    (len : ∀ vs H Q E, sp vs H Q E → vs.length = ps.length)
    (body : ∀ (f : Addr) (cdv : Value) (A : Around) (fr : List Env) (s : Shared) (H : Hp) (vs : List V) (Q : VK) (E : XK),
      Room k (A.deeper (envOfC x (defScope st) s.heap.objs.size f cdv)) → A.guards = some [] → sp vs H Q E →
      ∃ t, PSs (cxOf CX0 P w K mg base N x (defScope st) f cdv A fr s H E).nox (defBody st) t ∧
        t { nx := fun _ H' => Q .non H', rt := Q } (start N vs) H) :
    CalG P w K mg base (k + 1) x ps sp := by
  obtain ⟨f, fd, F, hm, hb, hk⟩ := D.ex
  exact ⟨f, fd, fun_okG F S len (body f), hm, F.kp, hb, hk⟩
theorem CalG.imp {sp' : Sp} (c : CalG P w K mg base k x ps sp) (h : ∀ vs H Q E, sp' vs H Q E → sp vs H Q E) : CalG P w K mg base k x ps sp' := by
  obtain ⟨f, fd, F, hm, kp, hb, hk⟩ := c.ex
  exact ⟨f, fd, ⟨fun vs H Q E q => F.len vs H Q E (h _ _ _ _ q), fun A fr s H args us vs Q E hr hg e b r q => F.go A fr s H args us vs Q E hr hg e b r (h _ _ _ _ q)⟩, hm, kp, hb, hk⟩
/-- from what the top has left -/
theorem dfn_mk {l : Heap} {fa : Addr} {od an : Option Addr} {sl : Array (Option Value)} {oc kV dc pm cd ct : Value} (I : K.In l) (G : l.Ns mainGlobals mg)
    (a : PySem.W.nsIn K mainGlobals x = some (some (.ref fa)))
    (q : K.lookup fa = some ⟨oc, od, .func (PySem.W.fnOf x x (defArgs st) (defBody st) (defScope st) .none kV dc pm an cd ct), sl⟩)
    (c : PySem.W.codeIn K cd x = true) (kp : PySem.W.keepIn K (.ref fa) = true)
    (hb : ∀ us : List Value, us.length = ps.length → bindArgs (PySem.W.fnOf x x (defArgs st) (defBody st) (defScope st) .none kV dc pm an cd ct) ⟨us, []⟩ = pure (ps.zip us))
    (hk : ∀ us : List Value, us.length = ps.length → bindArgs (PySem.W.fnOf x x (defArgs st) (defBody st) (defScope st) .none kV dc pm an cd ct) ⟨[], ps.zip us⟩ = pure (ps.zip us)) :
    Dfn K mg x st ps :=
  ⟨fa, _, fun_mk q c kp, PySem.W.mg_of I G a, .all hb, fun s us hl => .of_eq (hk us hl)⟩
end
section
variable {X : Cx} {j k : Nat} {ps : List Str} {sp : Sp} {x : Str} {p pos : Pos} {e : Expr} {es : List Expr} {kws : List Keyword} {t : TA}
theorem pe_cG (c : CalG X.prog X.w X.K X.mg X.base k x ps sp) (hr : Room j X.A) (hk : k ≤ j) (hgd : X.A.guards = some []) (hg : Gl X x)
    (ha : PA X (e :: es) t) (hdb : (x == ("__debug__" : Str)) = false := by decide)
    (he : starEach (e :: es) X.env = (false, eval e X.env) :: starEach es X.env := by rfl)
    (hpl : (backTo pos (starEach es X.env)).any (·.1) = false := by rfl) :
    PE X (.Call (.Name x p) (e :: es) [] pos) (tCall sp [] E0 t) := by
  obtain ⟨f, fd, F, hm, kp, b, _⟩ := c.ex
  exact pe_callG F (hr.mono hk) hgd hg hm kp b .nil pass0 ha hdb he hpl
theorem pe_cG0 (c : CalG X.prog X.w X.K X.mg X.base k x ps sp) (hr : Room j X.A) (hk : k ≤ j) (hgd : X.A.guards = some []) (hg : Gl X x)
    (hdb : (x == ("__debug__" : Str)) = false := by decide) :
    PE X (.Call (.Name x p) [] [] pos) (tCall sp [] E0 tNil) := by
  obtain ⟨f, fd, F, hm, kp, b, _⟩ := c.ex
  exact pe_callG0 F (hr.mono hk) hgd hg hm kp b .nil pass0 hdb
theorem vals_len {vs : List V} {us : List Value} (r : Vals vs us) : vs.length = us.length := r.length
/-- f(a=.., b=..), the names in the parameters' order -/
theorem pe_kG (c : CalG X.prog X.w X.K X.mg X.base k x ps sp) (hr : Room j X.A) (hk : k ≤ j) (hgd : X.A.guards = some []) (hg : Gl X x)
    (hkw : PK X kws t) (hall : (backToKw pos (keywordEach kws X.env)).all (·.1.isSome) = true := by rfl)
    (hks : (backToKw pos (keywordEach kws X.env)).filterMap (·.1) = ps := by rfl)
    (hdb : (x == ("__debug__" : Str)) = false := by decide)
    (hpl : ((backTo pos (starEach [] X.env)).any (·.1) || (backToKw pos (keywordEach kws X.env)).any (·.1.isNone)) = false := by rfl) :
    PE X (.Call (.Name x p) [] kws pos) (tCall sp [] E0 t) := by
  obtain ⟨f, fd, F, hm, kp, _, b⟩ := c.ex
  refine ⟨fun pins s σ H Q I h => wpAny_Call_Name_kw (ld_glob I hg hm ?_ hdb)⟩
  refine PySem.W.callWith_KW0 (h₀ := X.base) I.ok.mod.kin kp hall (thn (hkw.run pos pins s σ H _ I h) fun ws s2 ⟨zs, H2, I2, rz, q2⟩ => ⟨I2.kIn, ?_⟩) hpl
  rw [hks]
  have q1 : sp (zs ++ []) H2 Q E0 := q2
  have q3 : sp zs H2 Q E0 := by rw [List.append_nil] at q1; exact q1
  have hl : ws.length = ps.length := rz.length.symm.trans (F.len _ _ _ _ q3)
  have run := F.go X.A X.stack s2 H2 ⟨[], ps.zip ws⟩ ws zs Q E0 (hr.mono hk) hgd I2.env0 (b s2 ws hl) rz q3
  refine wpAny_call (codeAny_mono run fun r s' hq => ?_)
  match r, hq with
  | .error e, hq => exact (pass0 : Passes CX0 X E0) pins σ H2 s2 e s' I2 hq
  | .ok (.ret u), hq => exact I2.after hq
  | .ok .next, hq => exact (show False from hq).elim
  | .ok .brk, hq => exact (show False from hq).elim
  | .ok .cont, hq => exact (show False from hq).elim
end
end Jo

set_option Elab.async false
set_option linter.all false
set_option maxRecDepth 100000
/-! Defs, methods and classes of the program, wherever they are called. -/
namespace Jo
open PySem PySem.Spec PyProof.Rows L2
/-- the name x of the module holds a def that keeps the promise sp, wherever it is called -/
structure CalF (P : Program) (w : World) (K : PySem.W.Frag) (mg : Str → Option Value) (base : Heap) (k : Nat) (x : Str) (ps : List Str) (sp : Sp) : Prop where
  ex : ∃ (f : Addr) (fd : FuncData), FnOk P w K mg base CX0 k f fd ps sp ∧ mg x = some (.ref f) ∧ PySem.W.keepIn K (.ref f) = true ∧ Binds K fd ps [] ∧
    ∀ (s : Shared) (us : List Value), us.length = ps.length → BindsTo s fd ⟨[], ps.zip us⟩ (ps.zip us)
/-- the def st is the method m of the class at C -/
structure Mth (K : PySem.W.Frag) (C : Addr) (m qual : Str) (st : Stmt) (ps : List Str) : Prop where
  ex : ∃ (f : Addr) (fd : FuncData), Fun K m qual st f fd ∧ Meth K C m f ∧ Binds K fd ps [] ∧
    ∀ (s : Shared) (u : Value) (us : List Value), (u :: us).length = ps.length → BindsTo s fd ⟨[u], (ps.drop 1).reverse.zip us.reverse⟩ (ps.zip (u :: us))
/-- .. and keeps the promise sp -/
structure MtF (P : Program) (w : World) (K : PySem.W.Frag) (mg : Str → Option Value) (base : Heap) (k : Nat) (C : Addr) (m : Str) (ps : List Str) (sp : Sp) : Prop where
  ex : ∃ (f : Addr) (fd : FuncData), FnOk P w K mg base CX0 k f fd ps sp ∧ Meth K C m f ∧ Binds K fd ps [] ∧
    ∀ (s : Shared) (u : Value) (us : List Value), (u :: us).length = ps.length → BindsTo s fd ⟨[u], (ps.drop 1).reverse.zip us.reverse⟩ (ps.zip (u :: us))
section
variable {P : Program} {w : World} {K : PySem.W.Frag} {mg : Str → Option Value} {base : Heap} {x m qual : Str} {st : Stmt} {N ps : List Str} {sp : Sp} {k : Nat} {C : Addr}
theorem CalF.g (c : CalF P w K mg base k x ps sp) : CalG P w K mg base k x ps sp := by
  obtain ⟨f, fd, F, r⟩ := c.ex
  exact ⟨f, fd, FnG.of F, r⟩
theorem Dfn.okF (D : Dfn K mg x st ps) (S : FnScope N ps (defScope st)) (len : ∀ vs H Q E, sp vs H Q E → vs.length = ps.length)
    (body : ∀ (f : Addr) (cdv : Value) (A : Around) (fr : List Env) (s : Shared) (H : Hp) (vs : List V) (Q : VK) (E : XK),
      Room k (A.deeper (envOfC x (defScope st) s.heap.objs.size f cdv)) → sp vs H Q E →
      ∃ t, PSs (cxOf CX0 P w K mg base N x (defScope st) f cdv A fr s H E).nox (defBody st) t ∧ t { nx := fun _ H' => Q .non H', rt := Q } (start N vs) H) :
    CalF P w K mg base (k + 1) x ps sp := by
  obtain ⟨f, fd, F, hm, hb, hk⟩ := D.ex
  exact ⟨f, fd, F.ok S len (body f), hm, F.kp, hb, hk⟩
theorem Mth.okF (D : Mth K C m qual st ps) (S : FnScope N ps (defScope st)) (len : ∀ vs H Q E, sp vs H Q E → vs.length = ps.length)
    (body : ∀ (f : Addr) (cdv : Value) (A : Around) (fr : List Env) (s : Shared) (H : Hp) (vs : List V) (Q : VK) (E : XK),
      Room k (A.deeper (envOfC qual (defScope st) s.heap.objs.size f cdv)) → sp vs H Q E →
      ∃ t, PSs (cxOf CX0 P w K mg base N qual (defScope st) f cdv A fr s H E).nox (defBody st) t ∧ t { nx := fun _ H' => Q .non H', rt := Q } (start N vs) H) :
    MtF P w K mg base (k + 1) C m ps sp := by
  obtain ⟨f, fd, F, hm, hb, hk⟩ := D.ex
  exact ⟨f, fd, F.ok S len (body f), hm, hb, hk⟩
theorem mth_mk {h : Heap} {fa : Addr} {od an : Option Addr} {sl : Array (Option Value)} {oc kV dc pm cd ct : Value}
    (a : PySem.W.findIn K (.ref C) m = some (some (.ref fa))) (i : PySem.W.isFn K (.ref fa) = true)
    (q : K.lookup fa = some ⟨oc, od, .func (PySem.W.fnOf m qual (defArgs st) (defBody st) (defScope st) .none kV dc pm an cd ct), sl⟩)
    (c : PySem.W.codeIn K cd qual = true) (kp : PySem.W.keepIn K (.ref fa) = true)
    (hb : ∀ us : List Value, us.length = ps.length → bindArgs (PySem.W.fnOf m qual (defArgs st) (defBody st) (defScope st) .none kV dc pm an cd ct) ⟨us, []⟩ = pure (ps.zip us))
    (hk : ∀ (u : Value) (us : List Value), (u :: us).length = ps.length → bindArgs (PySem.W.fnOf m qual (defArgs st) (defBody st) (defScope st) .none kV dc pm an cd ct) ⟨[u], (ps.drop 1).reverse.zip us.reverse⟩ = pure (ps.zip (u :: us))) :
    Mth K C m qual st ps := ⟨fa, _, fun_mk q c kp, ⟨a, i, kp⟩, .all hb, fun s u us hl => .of_eq (hk u us hl)⟩
end
section
variable {X : Cx} {j k : Nat} {ps : List Str} {sp : Sp} {x m : Str} {p pos apos : Pos} {e o : Expr} {es : List Expr} {kws : List Keyword} {t : TA} {ta : TE} {C : Addr}
theorem pe_cF (c : CalF X.prog X.w X.K X.mg X.base k x ps sp) (hr : Room j X.A) (hk : k ≤ j) (hg : Gl X x)
    (ha : PA X (e :: es) t) (hdb : (x == ("__debug__" : Str)) = false := by decide)
    (he : starEach (e :: es) X.env = (false, eval e X.env) :: starEach es X.env := by rfl)
    (hpl : (backTo pos (starEach es X.env)).any (·.1) = false := by rfl) :
    PE X (.Call (.Name x p) (e :: es) [] pos) (tCall sp [] E0 t) := by
  obtain ⟨f, fd, F, hm, kp, b, _⟩ := c.ex
  exact pe_call F (hr.mono hk) hg hm kp b .nil pass0 ha hdb he hpl
theorem pe_mF {pl : Sem Bool} (he : PE X o ta) (cl : Cls X.K C) (c : MtF X.prog X.w X.K X.mg X.base k C m ps sp) (hr : Room j X.A) (hk : k ≤ j) (ha : PA X (e :: es) t)
    (hst : starEach (e :: es) X.env = (false, eval e X.env) :: starEach es X.env := by rfl) (hpl : (backTo pos (starEach es X.env)).any (·.1) = false := by rfl)
    (ht : eval (.Call (.Attribute o m apos) (e :: es) [] pos) X.env = (do
      let ov ← eval o X.env
      standAt apos.atName
      let (f, first) ← holding [ov] (getMethod ov m pl)
      callWith pos f first (backTo pos (starEach (e :: es) X.env)) (backToKw pos (keywordEach [] X.env))) := by rfl) :
    PE X (.Call (.Attribute o m apos) (e :: es) [] pos) (tMeth C m sp [] E0 ta t) := by
  obtain ⟨f, fd, F, hm, b, _⟩ := c.ex
  exact pe_meth he cl hm F (hr.mono hk) b .nil pass0 ha hst hpl ht
/-- o.m(b=.., a=..): every parameter by name, the last ahead -/
def tMethK (C : Addr) (m : Str) (sp : Sp) (ta : TE) (t : TA) : TE := fun σ H Q => ta σ H fun x H1 => ∃ a dx fs, x = .ref a ∧ H1 a = some (.ins C dx fs) ∧ fs.lookup m = none ∧
  t σ H1 fun zs H2 => sp (x :: zs.reverse) H2 Q E0
theorem pe_mK {pl : Sem Bool} (he : PE X o ta) (cl : Cls X.K C) (c : MtF X.prog X.w X.K X.mg X.base k C m ps sp) (hr : Room j X.A) (hk : k ≤ j) (hkw : PK X kws t)
    (hall : (backToKw pos (keywordEach kws X.env)).all (·.1.isSome) = true := by rfl)
    (hks : (backToKw pos (keywordEach kws X.env)).filterMap (·.1) = (ps.drop 1).reverse := by rfl)
    (hpl : ((backTo pos (starEach [] X.env)).any (·.1) || (backToKw pos (keywordEach kws X.env)).any (·.1.isNone)) = false := by rfl)
    (ht : eval (.Call (.Attribute o m apos) [] kws pos) X.env = (do
      let ov ← eval o X.env
      standAt apos.atName
      let (f, first) ← holding [ov] (getMethod ov m pl)
      callWith pos f first (backTo pos (starEach [] X.env)) (backToKw pos (keywordEach kws X.env))) := by rfl) :
    PE X (.Call (.Attribute o m apos) [] kws pos) (tMethK C m sp ta t) := by
  obtain ⟨f, fd, F, hm, _, b⟩ := c.ex
  refine ⟨fun pins s σ H Q I h => ?_⟩
  refine PySem.W.methodCall_KW (pl := pl) (thn (he.run pins s σ H _ I h) fun u s1 ⟨x, H1, I1, rx, a, dx, fs, ex, ea, l, q⟩ => ?_) ht
  subst ex
  obtain rfl : u = Value.ref a := rx
  refine getmeth_ok I1 ea cl hm l ?_
  refine PySem.W.callWith_KW0 (first := [.ref a]) (h₀ := X.base) I.ok.mod.kin hm.kp hall (thn (hkw.run pos pins s1 σ H1 _ I1 q) fun ws s2 ⟨zs, H2, I2, rz, q2⟩ => ⟨I2.kIn, ?_⟩) hpl
  rw [hks]
  have r2 : Vals (V.ref a :: zs.reverse) (Value.ref a :: ws.reverse) := .cons rfl rz.reverse
  have hl : (Value.ref a :: ws.reverse).length = ps.length := r2.length.symm.trans (F.len _ _ _ _ q2)
  have bb := b s2 (.ref a) ws.reverse hl
  rw [List.reverse_reverse] at bb
  have run := F.run X.A X.stack s2 H2 ⟨[.ref a], (ps.drop 1).reverse.zip ws⟩ _ _ Q E0 (hr.mono hk) I2.env0 bb r2 q2
  refine wpAny_call (codeAny_mono run fun r s' hq => ?_)
  match r, hq with
  | .error e, hq => exact (pass0 : Passes CX0 X E0) pins σ H2 s2 e s' I2 hq
  | .ok (.ret u), hq => exact I2.after hq
  | .ok .next, hq => exact (show False from hq).elim
  | .ok .brk, hq => exact (show False from hq).elim
  | .ok .cont, hq => exact (show False from hq).elim
/-- C(a, b) -/
theorem pe_mkF {fi : Addr} (M : Mk X.K C fi) (c : MtF X.prog X.w X.K X.mg X.base k C "__init__" ps sp) (hr : Room j X.A) (hk : k + 1 ≤ j) (hg : Gl X x) (hm : X.mg x = some (.ref C))
    (ha : PA X (e :: es) t) (hdb : (x == ("__debug__" : Str)) = false := by decide)
    (he : starEach (e :: es) X.env = (false, eval e X.env) :: starEach es X.env := by rfl) (hpl : (backTo pos (starEach es X.env)).any (·.1) = false := by rfl) :
    PE X (.Call (.Name x p) (e :: es) [] pos) (tMake C sp [] E0 t) := by
  obtain ⟨f, fd, F, mt, b, _⟩ := c.ex
  have ef : fi = f := by
    have e1 := M.init.symm.trans mt.at_
    cases e1
    rfl
  subst ef
  exact pe_make M F (hr.mono hk) hg hm b .nil pass0 ha hdb he hpl
/-- C(b=.., a=..): the parameters by name, the last ahead -/
theorem pe_mkK {fi : Addr} (M : Mk X.K C fi) (c : MtF X.prog X.w X.K X.mg X.base k C "__init__" ps sp) (hr : Room j X.A) (hk : k + 1 ≤ j) (hg : Gl X x) (hm : X.mg x = some (.ref C)) {n : Nat} (hn : ps.length = n + 1)
    (hkw : PK X kws t) (hall : (backToKw pos (keywordEach kws X.env)).all (·.1.isSome) = true := by rfl)
    (hks : (backToKw pos (keywordEach kws X.env)).filterMap (·.1) = (ps.drop 1).reverse := by rfl)
    (hdb : (x == ("__debug__" : Str)) = false := by decide)
    (hpl : ((backTo pos (starEach [] X.env)).any (·.1) || (backToKw pos (keywordEach kws X.env)).any (·.1.isNone)) = false := by rfl) :
    PE X (.Call (.Name x p) [] kws pos) (tMakeK C 0 (ps.drop 1).reverse.length sp (fun vs zs => vs ++ zs.reverse) E0 tNil t) := by
  obtain ⟨f, fd, F, mt, _, b⟩ := c.ex
  have ef : fi = f := by
    have e1 := M.init.symm.trans mt.at_
    cases e1
    rfl
  subst ef
  refine pe_makeK0 (g := fun us ws => us ++ ws.reverse) M F (hr.mono hk) hg hm ⟨fun s us ws X l1 l2 => ?_, fun r1 r2 => r1.append r2.reverse⟩ pass0 hkw hall hks hdb hpl
  match us, l1 with
  | [u], _ =>
    have h3 : (u :: ws.reverse).length = ps.length := by
      rw [List.length_reverse, List.length_drop] at l2
      rw [List.length_cons, List.length_reverse]
      omega
    have bb := b s u ws.reverse h3
    rw [List.reverse_reverse] at bb
    exact bb
end
end Jo

set_option Elab.async false
set_option linter.all false
set_option maxRecDepth 100000
set_option maxHeartbeats 2000000
/-! a, b = x, y within an except suite. -/
namespace Jo
open PySem PySem.Spec PyProof.Rows L2 HotX
section
variable {prog : Program} {w : World} {A : Around} {E : Value → Shared → Prop} {s : Shared} {x1 : Addr}
theorem next_tuple_end_hot {it t : Addr} {i : Nat} {items : Array Value} {Q : Option Value → Shared → Prop} (hot : HotAt A x1 s.heap) (hx1 : x1 ≠ it)
    (hit : IsTupIter s.heap it t i) (ht : IsTup s.heap t items) (hx : items[i]? = none)
    (hQ : ∀ h', (∀ b o, b ≠ it → s.heap.get? b = some o → h'.get? b = some o) → Q none { s with heap := h' }) : wpAny (model prog w) A (pyNext (.ref it)) Q E s := by
  obtain ⟨hh, o1, vs1, h1, d1, c1⟩ := hot
  obtain ⟨o, ho, hc, hd⟩ := id hit
  obtain ⟨ol, hol, _, nl, hdl⟩ := ht
  unfold pyNext
  refine wpAny_bind (wpAny_attempt (wpAny_callSpecial?_slot (name := Str.ofString "__next__") hit.typeIs F.slot_tuple_iterator_next
    (wpAny_call_entry F.slot_tuple_iterator_next hit.typeIs F.entry_tuple_iterator_next ?_ (F.args_tuple_iterator_next_1 _))))
  show wpAny _ _ (field (.ref it) 0 >>= _) _ _ s
  refine wpAny_bind (wpAny_field ho hd (x := .ref t) rfl ?_)
  show wpAny _ _ (if (Value.ref t == Value.none) = true then _ else _) _ _ s
  rw [if_neg (show ¬ ((Value.ref t == Value.none) = true) from Bool.false_ne_true)]
  show wpAny _ _ (field (.ref it) 1 >>= _) _ _ s
  refine wpAny_bind (wpAny_field ho hd (x := .int i 0) rfl ?_)
  show wpAny _ _ (seqItems? (.ref t) >>= _) _ _ s
  refine wpAny_bind (wpAny_seqItems hol hdl ?_)
  simp only [Int.toNat_natCast, hx]
  refine wpAny_bind (wpAny_rule (wpAny_bind (wpAny_setField ho hd (by simp) ?_)))
  have k0 : ∀ b o', b ≠ it → s.heap.get? b = some o' → (s.heap.update it (Obj.mapFields (·.setIfInBounds 0 Value.none))).get? b = some o' := fun b o' hb e => by
    rw [Heap.get?_update_other _ _ (Ne.symm hb)]
    exact e
  show wpAny _ _ (newExc (.type "StopIteration") [] >>= _) _ _ _
  refine wpAny_bind ?_
  simp only [newExc, newTuple]
  refine wpAny_bind (wpAny_newObj_type ?_ (by size_fits))
  refine wpAny_bind (m := firstArgMember _ _) (wpAny_of_eq (a := Value.none) (by first | rfl | (simp only [firstArgMember]; rfl)) ?_)
  refine wpAny_newObj_type ?_ (by size_fits)
  have h1' := Heap.get?_push_of_some { cls := .type "tuple", data := .seq [].toArray } (k0 _ _ hx1 h1)
  refine raiseNew_hot ⟨hh, o1, vs1, Heap.get?_push_of_some _ h1', d1, c1⟩ (Nat.ne_of_lt (Heap.lt_size h1')) (Heap.get?_push_size _ rfl) rfl (by first | (simp; done) | (simp; omega) | (simp only [Array.size_append]; simp; omega)) ?_
  refine wpAny_bind (wpAny_isInstance (T := "StopIteration") (b := true) ⟨_, Heap.get?_update_self _ (Heap.get?_push_size _ rfl) rfl, rfl⟩ isSubtype_stop ?_)
  refine wpAny_pure (hQ _ fun b o hb e => ?_)
  rw [Heap.get?_update_other _ _ (Nat.ne_of_gt (Heap.lt_size (Heap.get?_push_of_some _ (k0 b o hb e))))]
  exact Heap.get?_push_of_some _ (Heap.get?_push_of_some _ (k0 b o hb e))
theorem unpackItems_tuple_hot {t : Addr} {items : Array Value} {Q : List Value → Shared → Prop} (hot : HotAt A x1 s.heap) (ht : IsTup s.heap t items)
    (hQ : ∀ h', (∀ b o, s.heap.get? b = some o → h'.get? b = some o) → Q items.toList { s with heap := h' }) : wpAny (model prog w) A (unpackItems (.ref t) items.size none) Q E s := by
  have hlt : t ≠ s.heap.objs.size := by obtain ⟨o, ho, _⟩ := ht; exact Nat.ne_of_lt (Heap.lt_size ho)
  obtain ⟨hh, o1, vs1, h1, d1, c1⟩ := hot
  have hx1 : x1 ≠ s.heap.objs.size := Nat.ne_of_lt (Heap.lt_size h1)
  unfold unpackItems
  refine wpAny_bind ?_
  unfold notIterableAtAll
  refine wpAny_bind (wpAny_specialOf ht.typeIs F.slot_tuple_iter.lookup ?_)
  refine wpAny_pure ?_
  simp only [Bool.false_eq_true, if_false]
  refine wpAny_bind (wpAny_holding (iter_tuple ht ?_))
  refine wpAny_bind (wpAny_holding (draw_tuple hlt items.size 0 _ _ ⟨_, Heap.get?_push_size _ rfl, rfl, rfl⟩ (ht.push _) (by omega) fun h₁ hit₁ hs₁ => ?_))
  have hall : List.take items.size (List.drop 0 items.toList) = items.toList := by
    rw [List.drop_zero]; exact List.take_of_length_le (by simp)
  rw [hall]
  rw [if_neg (by simp)]
  have ht₁ : IsTup h₁ t items := (ht.push _).extBut hs₁.extBut hlt
  refine wpAny_bind (wpAny_holding (next_tuple_end_hot ⟨hh, o1, vs1, hs₁.extBut _ _ hx1 (Heap.get?_push_of_some _ h1), d1, c1⟩ hx1 hit₁ ht₁ (by simp) fun h₂ he₂ => ?_))
  simp only [Option.isSome_none, Bool.false_eq_true, if_false]
  refine wpAny_pure (hQ h₂ fun b o e => he₂ b o (Nat.ne_of_lt (Heap.lt_size e)) (hs₁.extBut b o (Nat.ne_of_lt (Heap.lt_size e)) (Heap.get?_push_of_some _ e)))
end
section
variable {X : Cx} {pos : Pos}
theorem ps_parH {i j : Nat} {x y : Str} {a b : Expr} {ta : TA} {px py pt : Pos} {kt k2 pt2} (hc : L2H.HotC X) (hN : X.N.Nodup) (hi : X.N[i]? = some x) (hj : X.N[j]? = some y) (hij : i ≠ j)
    (hx : X.env.scope.names.lookup x = some .local) (hy : X.env.scope.names.lookup y = some .local) (ha : PA X [a, b] ta)
    (hw : swappedStores [.Tuple [.Name x px, .Name y py] kt pt] (.Tuple [a, b] k2 pt2) X.env = pure (some [x, y]))
    (hs : swapsWithSole [.Tuple [.Name x px, .Name y py] kt pt] (.Tuple [a, b] k2 pt2) pos.line X.env = pure false := by rfl) :
    PS X (.Assign [.Tuple [.Name x px, .Name y py] kt pt] (.Tuple [a, b] k2 pt2) pos) (tPar i j ta) := by
  refine ⟨fun pins s σ H D I h => ?_⟩
  rw [exec_Assign_arm]
  refine wpAny_bind (wpAny_standAt ?_)
  rw [hs]
  refine wpAny_bind (wpAny_pure ?_)
  rw [if_neg (by decide)]
  refine wpAny_bind (Tuple_ (thn (ha.run _ pins s σ H _ I h) fun us s1 ⟨vs, H1, I1, r1, q1⟩ => ?_))
  obtain ⟨v, w, e1, q1⟩ := q1
  subst e1
  obtain ⟨u1, u2, rfl, rv, rw'⟩ : ∃ u1 u2, us = [u1, u2] ∧ RelV v u1 ∧ RelV w u2 := by
    cases r1 with
    | cons p q =>
      cases q with
      | cons p' q' =>
        cases q'
        exact ⟨_, _, rfl, p, p'⟩
  refine wpAny_newObj_type ?_ (by show 2 ≤ sizeLine; decide)
  have I2 : Inv X pins σ H1 { s1 with heap := s1.heap.push { cls := .type "tuple", data := .seq [u1, u2].toArray } } := I1.kept (t' := s1.toks) fun b o e => Heap.get?_push_of_some _ e
  rw [hw]
  refine wpAny_bind (wpAny_pure ?_)
  obtain ⟨x1, hot⟩ := hc.at I2
  show wpAny (model X.prog X.w) X.A (do rule "assign.swapped-stores"; let items ← unpackItems (.ref s1.heap.objs.size) 2 none; assignInOrder [fun v => bindName X.env y v, fun v => bindName X.env x v] items.reverse; pure Flow.next) _ _ _
  refine wpAny_bind (wpAny_rule (wpAny_bind (unpackItems_tuple_hot (items := #[u1, u2]) hot (IsTup.new s1.heap _) fun h' hx' => ?_)))
  have I3 := I2.kept (h' := h') (t' := s1.toks) hx'
  show wpAny _ _ (assignInOrder [fun v => bindName X.env y v, fun v => bindName X.env x v] [u2, u1] >>= fun _ => pure Flow.next) _ _ _
  refine wpAny_bind (assignInOrder_cons (wpAny_bindName (store_ok I3 hN hj (.inl hy) rw' (fun s2 I4 => ?_) (.inr hy))))
  refine assignInOrder_cons (wpAny_bindName (store_ok I4 hN hi (.inl hx) rv (fun s3 I5 => assignInOrder_nil (wpAny_pure ?_)) (.inr hx)))
  rw [List.set_comm _ _ (Ne.symm hij)] at I5
  exact ⟨_, H1, I5, q1⟩
end
/-- the suite of a clause that caught an error with no context is hot -/
theorem hotC {X : Cx} {a : Addr} {oe : Obj} {cls : Value} {d : Option Addr} {pn : List (Addr × Obj)} (hz : L2N.Zn cls d oe) (hv : ∃ vs, oe.data = .fields vs) : L2H.HotC (X.suite a ((a, oe) :: pn)) := by
  obtain ⟨vs, e⟩ := hv
  exact ⟨(a, oe), ⟨rfl, vs, e, hz.2.2 vs e⟩, List.mem_cons_self⟩
end Jo

set_option Elab.async false
set_option linter.all false
set_option maxRecDepth 100000
set_option maxHeartbeats 2000000
/-! Errors that are caught and kept: try, except X as e: .. the error goes on as a value behind the suite. -/
namespace Jo
open PySem PySem.Spec PyProof.Rows L2
/-- at e: an exception of this class, its dict at d; where it was under way is not told -/
def exq (e : Addr) (cls : Value) (d : Option Addr) : HO := .ext fun h => ∃ (oe : Obj) (vs : Array Value), h.get? e = some oe ∧ oe.cls = cls ∧ oe.dict = d ∧ oe.data = .fields vs
theorem exq_ok {P : Program} {w : World} {H : Hp} {h : Heap} {e : Addr} {oe : Obj} {vs : Array Value} (he : h.get? e = some oe) (hd : oe.data = .fields vs) : ObjOk P w H h e (exq e oe.cls oe.dict) :=
  ⟨⟨oe, vs, he, rfl, rfl, hd⟩, ⟨_, he⟩, fun h1 h2 z k => by
    obtain ⟨o, vs, q, r⟩ := z
    exact ⟨o, vs, k _ q, r⟩⟩
theorem exq_at {P : Program} {w : World} {H : Hp} {h : Heap} {e : Addr} {cls : Value} {d : Option Addr} (hok : HOk P w H h) (he : H e = some (exq e cls d)) : ∃ (oe : Obj) (vs : Array Value), h.get? e = some oe ∧ oe.cls = cls ∧ oe.dict = d ∧ oe.data = .fields vs := by
  have x : ObjOk P w H h e (.ext fun h => ∃ (oe : Obj) (vs : Array Value), h.get? e = some oe ∧ oe.cls = cls ∧ oe.dict = d ∧ oe.data = .fields vs) := hok e _ he
  exact x.1
section
variable {X : Cx} {pins : List (Addr × Obj)} {σ : L2.St} {H : Hp} {s : Shared} {a : Addr} {oe : Obj} {vs : Array Value}
/-- an exception that stands there is told of -/
theorem track (I : Inv X pins σ H s) (he : s.heap.get? a = some oe) (hd : oe.data = .fields vs) (na : H a = none) (nP : ∀ p ∈ X.pn ++ pins, p.1 ≠ a) (n0 : X.s_0.heap.get? a = none) :
    Inv X pins σ (upd H a (exq a oe.cls oe.dict)) s := by
  have nL : X.env.locals ≠ a := fun z => by
    obtain ⟨m, ⟨o, es, ep, e1, e2, _⟩, _⟩ := I.loc
    rw [z, he] at e1
    cases e1
    rw [hd] at e2
    cases e2
  have nC : ∀ x c, X.env.cells.lookup x = some c → c ≠ a := fun x c e z => by
    obtain ⟨v, o, e1, e2⟩ := I.cell x c e
    rw [z, he] at e1
    cases e1
    rw [hd] at e2
    cases e2
  have at_ : ∀ {b : Addr} {o : HO}, H b = some o → b ≠ a := fun {b o} e => ne_of_none e na
  refine ⟨I.ok, I.os, I.bare, ⟨I.base.keep, I.base.slot, fun b o e n hx => ?_, I.base.there, fun b xs e => ?_, fun b o u e => ?_, fun b ps e => ?_⟩, I.loc, I.cell, ?_, fun x c e => ?_, fun p hp => ?_, fun b o e => ?_, I.len⟩
  · rw [upd_ne (fun z => by rw [z, n0] at e; cases e)]
    exact I.base.free b o e n hx
  · have z := I.base.tups b xs e
    rw [upd_ne (at_ z)]
    exact z
  · have z := I.base.frzs b o u e
    rw [upd_ne (at_ z)]
    exact z
  · obtain ⟨more, z⟩ := I.base.tbls b ps e
    exact ⟨more, by rw [upd_ne (at_ z)]; exact z⟩
  · rw [upd_ne nL]
    exact I.free
  · rw [upd_ne (nC x c e)]
    exact I.freeC x c e
  · obtain ⟨p1, p2, p3⟩ := I.pin p hp
    exact ⟨p1, by rw [upd_ne (nP p hp)]; exact p2, p3⟩
  · by_cases hb : b = a
    · subst hb
      rw [upd_same] at e
      cases e
      exact exq_ok he hd
    · rw [upd_ne hb] at e
      exact (I.hok b o e).stay (fun _ _ _ q => q) (fun c hc => by rw [upd_ne (at_ hc)]; exact hc) fun c xs hc => by rw [upd_ne (at_ hc)]; exact hc
/-- behind a suite: the name of the clause (slot i) is gone, the error at a is told of -/
def kept (i : Nat) (a : Addr) (cls : Value) (d : Option Addr) (D : Ends) : Ends :=
  { nx := fun σ' H' => D.nx (σ'.set i none) (upd H' a (exq a cls d)), rt := fun v H' => D.rt v (upd H' a (exq a cls d)), bk := fun σ' H' => D.bk (σ'.set i none) (upd H' a (exq a cls d)), ct := fun σ' H' => D.ct (σ'.set i none) (upd H' a (exq a cls d)) }
/-- what the clauses 'except c as n' wish, one after the other -/
def wKeep (K : PySem.W.Frag) (i : Nat) (Wout : WX) (D : Ends) : List (Value × (Addr → Value → Option Addr → TS)) → WX
  | [] => Wout
  | (c, ts) :: r => fun cls d σ H => ∃ b, PySem.W.exmOne K cls c = some b ∧ (b = true → ∀ a, H a = none → ts a cls d (kept i a cls d D) (σ.set i (some (.ref a))) H) ∧ (b = false → wKeep K i Wout D r cls d σ H)
inductive HdsK (X : Cx) (n : Str) : List ExceptHandler → List (Value × (Addr → Value → Option Addr → TS)) → Prop
  | nil : HdsK X n [] []
  | cons {x : Str} {c : Value} {ts : Addr → Value → Option Addr → TS} {b₀ : Stmt} {suite : List Stmt} {np pos' : Pos} {hds : List ExceptHandler} {l : List (Value × (Addr → Value → Option Addr → TS))} (hc : Names X x c)
      (hsu : ∀ (a : Addr) (oe : Obj) (cls : Value) (d : Option Addr) (pn : List (Addr × Obj)), L2N.Zn cls d oe → (∃ vs, oe.data = .fields vs) → PSs (X.suite a ((a, oe) :: pn)) (b₀ :: suite) (ts a cls d)) (r : HdsK X n hds l) :
      HdsK X n (.ExceptHandler (some (.Name x np)) (some n) (b₀ :: suite) pos' :: hds) ((c, ts) :: l)
end
section
variable {X : Cx} {n : Str} {i : Nat} {body : List Stmt} {h₀ : ExceptHandler} {hds : List ExceptHandler} {l : List (Value × (Addr → Value → Option Addr → TS))} {pos : Pos} {tb : WX → TS} {Wout : WX}
theorem ps_try_keep (hs : X.stack = X.env :: X.outer) (hf : X.env.frame = some X.env.locals) (hex : X.ex = []) (hN : X.N.Nodup) (hi : X.N[i]? = some n) (hln : X.env.kindOf n = some .local) (tk : L2N.Takes X Wout)
    (hb : ∀ (W : WX) (pn : List (Addr × Obj)) (xe : Value → Shared → Prop), L2N.Takes (X.tr pn xe) W → PassesOwn (model X.prog X.w) X.A X.env xe → PSs (X.tr pn xe) body (tb W))
    (hh : HdsK X n (h₀ :: hds) l) : PS X (.Try body (h₀ :: hds) [] [] pos) (fun D σ H => tb (wKeep X.K i Wout D l) D σ H) := by
  refine ⟨fun pins s σ H D I h => ?_⟩
  have ok := I.ok
  have hfr : X.A.frames = some (X.env :: X.outer) := by rw [ok.frames, hs]
  have hloc : Loc X.env.scope n := .inl hln
  refine wpAny_Try_except ?_
  refine wpAny_mono ((hb (wKeep X.K i Wout D l) (X.pn ++ pins) (fun e s₁ => wpAny (model X.prog X.w) X.A (noteFrame e X.env) (fun _ s₂ => wpAny (model X.prog X.w) X.A (setFlight e none) (fun _ s₃ =>
    wpAny (model X.prog X.w) X.A (handleBy e X.env (h₀ :: hds)) (SP X pins D) X.xe s₃) X.xe s₂) X.xe s₁) (fun u s' xx => ?_) PassesOwn.looking).run [] s σ H D (I.toTry _) h) (fun f s1 hsp => ?_) (fun e s1 he => he)
  · -- the catch
    obtain ⟨a, B, sI, pins', σ', H', cls, d, rfl, J', nb, up, sky, na, os, ag, w⟩ := xx
    have J : Inv X pins σ' H' sI := J'.ofTry ok
    have sky' : Sky B (X.env :: X.outer) a (L2N.Zn cls d) X.env.locals s'.heap := by rw [← hs]; exact sky
    show wpAny (model X.prog X.w) X.A (noteFrame (.ref a) X.env) _ _ _
    refine L2N.Sky.land L2N.Zn.steady hfr hf sky' fun h3 fl3 up3 => ?_
    have J3 : Inv X pins σ' H' { s' with heap := h3 } := J.landed nb fl3.1 (up.trans up3) os ag
    obtain ⟨oe3, vs3, he3, hz3, hd3⟩ := fl3.there
    have notFr : ∀ {h : Heap} {o : Obj} {vs : Array Value}, h.FunFrames B (X.env :: X.outer) → h.get? a = some o → o.data = .fields vs → a ∉ frs (X.env :: X.outer) := fun {h o vs} ff e dd hm => by
      obtain ⟨_, o', e', hnf⟩ := ff.mem hm
      rw [e] at e'; cases e'
      exact hnf _ dd
    have nfr := notFr fl3.2.2.1 he3 hd3
    have nL : a ≠ X.env.locals := fun z => nfr (List.mem_filterMap.mpr ⟨X.env, List.mem_cons_self, by rw [hf, z]⟩)
    have nF : a ∉ X.fs := fun hm => by
      obtain ⟨e, he, q⟩ := List.mem_filterMap.mp hm
      exact nfr (List.mem_filterMap.mpr ⟨e, List.mem_cons_of_mem _ he, q⟩)
    -- it is new
    have nI : sI.heap.get? a = none := by
      cases e : sI.heap.get? a with
      | none => rfl
      | some o =>
        have z := nb a o e (by rw [hs]; exact nfr)
        rw [fl3.2.1] at z
        cases z
    have n0 : X.s_0.heap.get? a = none := by
      cases e : X.s_0.heap.get? a with
      | none => rfl
      | some o =>
        obtain ⟨o', z⟩ := J.base.there a o e (by rw [hex]; simp)
        rw [nI] at z
        cases z
    have nP : ∀ p ∈ X.pn ++ pins, p.1 ≠ a := fun p hp z => by
      have e := (J.pin p hp).1
      rw [z, nI] at e
      cases e
    have S3 := J3.suite he3 hd3 na nL nF
    have go : ∀ {hds' : List ExceptHandler} {l' : List (Value × (Addr → Value → Option Addr → TS))}, HdsK X n hds' l' → wKeep X.K i Wout D l' cls d σ' H' →
        wpAny (model X.prog X.w) X.A (handleBy (.ref a) X.env hds') (SP X pins D) X.xe { s' with heap := h3 } := by
      intro hds' l' hk
      induction hk with
      | nil =>
        intro w
        refine wpAny_handleBy_nil ?_
        obtain ⟨k1, k2, k3, oe, vs, T, oT, ts', he, hz, hd, h1, hr⟩ := id fl3
        unfold PySem.passOn
        refine wpAny_bind (wpAny_field he hd h1 ?_)
        rw [if_neg (show ¬ ((Value.ref T == Value.none) = true) from by simp)]
        have fin : wpAny (model X.prog X.w) X.A (setFlight (.ref a) X.env.frame) (fun _ s4 => wpAny (model X.prog X.w) X.A (throw (.ref a) : Sem Flow) (SP X pins D) X.xe s4) X.xe { s' with heap := h3 } := by
          rw [hf]
          refine HandSPX.setFlight_upZ fl3 fun h4 hh4 up4 => wpAny_throw (tk _ _ ?_)
          exact ⟨a, B, sI, pins, σ', H', cls, d, rfl, J, nb, (up.trans up3).trans up4, .inr (.inr (by rw [hs]; exact hh4)), na, os, ag, w⟩
        first
          | exact wpAny_bind (wpAny_pure (wpAny_bind fin))
          | exact wpAny_bind fin
      | @cons x c ts b₀ suite np pos' hds2 l2 hc hsu r ih =>
        intro w
        obtain ⟨b, hb1, hyes, hno⟩ := w
        refine wpAny_handleBy_cons (codeAny_handlers_test ?_) (by intro q; cases q)
        have LT : PySem.W.Looks (model X.prog X.w) h3 (typeOf (.ref a)) cls := fun A Q E s k q => wpAny_typeOf_ref (k _ _ he3) (by rw [hz3.1]; exact q)
        have LM := PySem.W.exm_one (M := model X.prog X.w) (J3.kIn) LT hb1
        have test : ∀ {Q : Value → Shared → Prop} {E : Value → Shared → Prop}, Q c { s' with heap := h3 } → wpAny (model X.prog X.w) (X.A.mark (some (.ref a))) (eval (.Name x np) X.env) Q E { s' with heap := h3 } := fun {Q E} q => by
          obtain ⟨hg, hdbg, hm | ⟨hm, hv, hnn⟩⟩ := hc
          · exact ld_glob (X := X.suite a ((a, oe3) :: (X.pn ++ pins))) S3 hg hm q hdbg
          · exact ld_blt (X := X.suite a ((a, oe3) :: (X.pn ++ pins))) S3 hg hm hv q hnn hdbg
        refine test (LM.here ?_)
        cases b with
        | true =>
          refine codeAny_handlers_suite_as ?_
          refine HandSPX.lands_againZ fl3 fun h4 fl4 up4 => ?_
          have J4 : Inv X pins σ' H' { s' with heap := h4 } := J.landed nb fl4.1 ((up.trans up3).trans up4) os ag
          obtain ⟨oe4, vs4, he4, hz4, hd4⟩ := fl4.there
          have S4 := J4.suite he4 hd4 na nL nF
          refine store_ok (X := X.suite a ((a, oe4) :: (X.pn ++ pins))) (v := .ref a) S4 hN hi hloc rfl (fun s5 S5 => ?_) (.inr hln)
          refine wpAny_mono ((hsu a oe4 cls d (X.pn ++ pins) hz4 ⟨_, hd4⟩).run [] s5 _ H' _ S5 (hyes rfl a na)) (fun f s6 hsp => ?_) (fun _ _ z => False.elim z)
          have end_ : ∀ {σ6 : L2.St} {H6 : Hp} {Q : Shared → Prop}, Inv (X.suite a ((a, oe4) :: (X.pn ++ pins))) [] σ6 H6 s6 → (∀ s7, Inv X pins (σ6.set i none) (upd H6 a (exq a cls d)) s7 → Q s7) →
              wpAny (model X.prog X.w) X.A (do bindName X.env n .none; unbindBehindTheSuite X.env n pos') (fun _ s7 => Q s7) X.xe s6 := fun {σ6 H6 Q} S6 hq =>
            gone_ok (X := X.suite a ((a, oe4) :: (X.pn ++ pins))) S6 hN hi hln fun s7 S7 => hq s7 (by
              obtain ⟨p1, p2, _⟩ := S7.pin (a, oe4) (List.mem_append_left _ List.mem_cons_self)
              have z := track (S7.unsuite ok) p1 hd4 p2 nP n0
              rw [hz4.1, hz4.2.1] at z
              exact z)
          cases f with
          | next =>
            obtain ⟨σ6, H6, S6, q6⟩ := hsp
            exact end_ S6 fun s7 J7 => ⟨_, _, J7, q6⟩
          | brk =>
            obtain ⟨σ6, H6, S6, q6⟩ := hsp
            exact end_ S6 fun s7 J7 => ⟨_, _, J7, q6⟩
          | cont =>
            obtain ⟨σ6, H6, S6, q6⟩ := hsp
            exact end_ S6 fun s7 J7 => ⟨_, _, J7, q6⟩
          | ret u =>
            obtain ⟨v6, σ6, H6, S6, r6, q6⟩ := hsp
            exact end_ S6 fun s7 J7 => ⟨_, _, _, J7, r6, q6⟩
        | false =>
          show wpAny _ X.A (handleBy (.ref a) X.env hds2) _ _ _
          exact ih (hno rfl)
    exact go hh w
  · cases f with
    | next =>
      obtain ⟨σ', H', J', q⟩ := hsp
      exact wpAny_execs_nil ⟨σ', H', J'.ofTry ok, q⟩
    | brk =>
      obtain ⟨σ', H', J', q⟩ := hsp
      exact ⟨σ', H', J'.ofTry ok, q⟩
    | cont =>
      obtain ⟨σ', H', J', q⟩ := hsp
      exact ⟨σ', H', J'.ofTry ok, q⟩
    | ret u =>
      obtain ⟨v, σ', H', J', r, q⟩ := hsp
      exact ⟨v, σ', H', J'.ofTry ok, r, q⟩
end
end Jo

set_option Elab.async false
set_option linter.all false
set_option maxRecDepth 100000
set_option maxHeartbeats 2000000
/-! Defs, methods and classes of the program that let errors out; raise C(e) of an error with one field. -/
namespace Jo
open PySem PySem.Spec PyProof.Rows L2
theorem Fun.okN {P : Program} {w : World} {K : PySem.W.Frag} {mg : Str → Option Value} {base : Heap} {x qual : Str} {st : Stmt} {f : Addr} {fd : FuncData} {N ps : List Str} {k : Nat} {sp : Sp} (F : L2.Fun K x qual st f fd) (S : FnScope N ps (defScope st)) (len : ∀ vs H Q E, sp vs H Q E → vs.length = ps.length)
    (hbody : ∀ (cdv : Value) (A : Around) (outer : List Env) (s : Shared) (H : Hp) (vs : List V) (Q : VK) (E : XK), Room k (A.deeper (envOfC qual (defScope st) s.heap.objs.size f cdv)) → sp vs H Q E →
      ∃ t, PSs (cxOf (L2N.CX P w) P w K mg base N qual (defScope st) f cdv A outer s H E) (defBody st) t ∧ t { nx := fun _ H' => Q .non H', rt := Q } (start N vs) H) : FnOk P w K mg base (L2N.CX P w) (k + 1) f fd ps sp := by
  obtain ⟨oc, od, kV, doc, pm, an, cdv, ct, osl, rfl, lk, hcd⟩ := F.ex
  exact fn_of lk hcd S len fun A outer s H vs Q E hr hsp => hbody cdv A outer s H vs Q E hr hsp
/-- the name x of the module holds a def that keeps the promise sp; it may let errors out -/
structure CalX (P : Program) (w : World) (K : PySem.W.Frag) (mg : Str → Option Value) (base : Heap) (k : Nat) (x : Str) (ps : List Str) (sp : Sp) : Prop where
  ex : ∃ (f : Addr) (fd : FuncData), FnOk P w K mg base (L2N.CX P w) k f fd ps sp ∧ mg x = some (.ref f) ∧ PySem.W.keepIn K (.ref f) = true ∧ Binds K fd ps []
/-- .. the method m of the class at C -/
structure MtX (P : Program) (w : World) (K : PySem.W.Frag) (mg : Str → Option Value) (base : Heap) (k : Nat) (C : Addr) (m : Str) (ps : List Str) (sp : Sp) : Prop where
  ex : ∃ (f : Addr) (fd : FuncData), FnOk P w K mg base (L2N.CX P w) k f fd ps sp ∧ Meth K C m f ∧ Binds K fd ps []
section
variable {P : Program} {w : World} {K : PySem.W.Frag} {mg : Str → Option Value} {base : Heap} {x m qual : Str} {st : Stmt} {N ps : List Str} {sp : Sp} {k : Nat} {C : Addr}
theorem Dfn.okX (D : Dfn K mg x st ps) (S : FnScope N ps (defScope st)) (len : ∀ vs H Q E, sp vs H Q E → vs.length = ps.length)
    (body : ∀ (f : Addr) (cdv : Value) (A : Around) (fr : List Env) (s : Shared) (H : Hp) (vs : List V) (Q : VK) (E : XK),
      Room k (A.deeper (envOfC x (defScope st) s.heap.objs.size f cdv)) → sp vs H Q E →
      ∃ t, PSs (cxOf (L2N.CX P w) P w K mg base N x (defScope st) f cdv A fr s H E) (defBody st) t ∧ t { nx := fun _ H' => Q .non H', rt := Q } (start N vs) H) :
    CalX P w K mg base (k + 1) x ps sp := by
  obtain ⟨f, fd, F, hm, hb, _⟩ := D.ex
  exact ⟨f, fd, Fun.okN F S len (body f), hm, F.kp, hb⟩
theorem Mth.okX (D : Mth K C m qual st ps) (S : FnScope N ps (defScope st)) (len : ∀ vs H Q E, sp vs H Q E → vs.length = ps.length)
    (body : ∀ (f : Addr) (cdv : Value) (A : Around) (fr : List Env) (s : Shared) (H : Hp) (vs : List V) (Q : VK) (E : XK),
      Room k (A.deeper (envOfC qual (defScope st) s.heap.objs.size f cdv)) → sp vs H Q E →
      ∃ t, PSs (cxOf (L2N.CX P w) P w K mg base N qual (defScope st) f cdv A fr s H E) (defBody st) t ∧ t { nx := fun _ H' => Q .non H', rt := Q } (start N vs) H) :
    MtX P w K mg base (k + 1) C m ps sp := by
  obtain ⟨f, fd, F, hm, hb, _⟩ := D.ex
  exact ⟨f, fd, Fun.okN F S len (body f), hm, hb⟩
end
section
variable {X : Cx} {j k : Nat} {ps : List Str} {sp : Sp} {x m : Str} {p pos apos : Pos} {e o : Expr} {es : List Expr} {t : TA} {ta : TE} {C : Addr} {E : L2.St → XK}
/-- where errors are taken, they pass -/
theorem passW {W : WX} (tk : L2N.Takes X W) : ∀ σ, PassesAt (L2N.CX X.prog X.w) X σ (WE W σ) := fun σ => L2N.passAt tk σ
theorem pe_cX (c : CalX X.prog X.w X.K X.mg X.base k x ps sp) (hr : Room j X.A) (hk : k ≤ j) (hx : ∀ σ, PassesAt (L2N.CX X.prog X.w) X σ (E σ)) (hg : Gl X x)
    (ha : PA X (e :: es) t) (hdb : (x == ("__debug__" : Str)) = false := by decide)
    (he : starEach (e :: es) X.env = (false, eval e X.env) :: starEach es X.env := by rfl)
    (hpl : (backTo pos (starEach es X.env)).any (·.1) = false := by rfl) :
    PE X (.Call (.Name x p) (e :: es) [] pos) (tCallS sp E t) := by
  obtain ⟨f, fd, F, hm, kp, b⟩ := c.ex
  exact pe_callS F (hr.mono hk) hg hm kp b hx ha hdb he hpl
/-- o.m(e, ..), errors passing -/
def tMethS (C : Addr) (m : Str) (sp : Sp) (E : L2.St → XK) (ta : TE) (t : TA) : TE := fun σ H Q => ta σ H fun x H1 => ∃ a dx fs, x = .ref a ∧ H1 a = some (.ins C dx fs) ∧ fs.lookup m = none ∧
  t σ H1 fun vs H2 => sp (x :: vs) H2 Q (E σ)
theorem pe_mX {pl : Sem Bool} (he : PE X o ta) (cl : Cls X.K C) (c : MtX X.prog X.w X.K X.mg X.base k C m ps sp) (hr : Room j X.A) (hk : k ≤ j) (hx : ∀ σ, PassesAt (L2N.CX X.prog X.w) X σ (E σ)) (ha : PA X (e :: es) t)
    (hst : starEach (e :: es) X.env = (false, eval e X.env) :: starEach es X.env := by rfl) (hpl : (backTo pos (starEach es X.env)).any (·.1) = false := by rfl)
    (ht : eval (.Call (.Attribute o m apos) (e :: es) [] pos) X.env = (do
      let ov ← eval o X.env
      standAt apos.atName
      let (f, first) ← holding [ov] (getMethod ov m pl)
      callWith pos f first (backTo pos (starEach (e :: es) X.env)) (backToKw pos (keywordEach [] X.env))) := by rfl) :
    PE X (.Call (.Attribute o m apos) (e :: es) [] pos) (tMethS C m sp E ta t) := by
  obtain ⟨f, fd, F, hm, b⟩ := c.ex
  refine ⟨fun pins s σ H Q I h => ?_⟩
  refine PySem.W.methodCall_KW (pl := pl) (thn (he.run pins s σ H _ I h) fun u s1 ⟨x, H1, I1, rx, a, dx, fs, ex, ea, l, q⟩ => ?_) ht
  subst ex
  obtain rfl : u = Value.ref a := rx
  refine getmeth_ok I1 ea cl hm l ?_
  refine PySem.W.callWith_K (first := [.ref a]) (h₀ := X.base) I.ok.mod.kin hm.kp (thn (ha.run pos pins s1 σ H1 _ I1 q) fun us s2 ⟨vs, H2, I2, r, q2⟩ => ⟨I2.kIn, ?_⟩) hst hpl
  exact run_fnS (us := .ref a :: us) (vs := .ref a :: vs) F (hr.mono hk) b (hx σ) I2 (.cons rfl r) q2
/-- C(e, ..), errors of __init__ passing -/
def tMakeS (C : Addr) (sp : Sp) (E : L2.St → XK) (t : TA) : TE := fun σ H Q => t σ H fun vs H1 =>
  ∀ x dx, H1 x = none → H1 dx = none → dx ≠ x → sp (.ref x :: vs) (upd (upd H1 dx (.own x)) x (.ins C dx [])) (fun v H2 => v = .non ∧ Q (.ref x) H2) (E σ)
theorem pe_mkX {fi : Addr} (M : Mk X.K C fi) (c : MtX X.prog X.w X.K X.mg X.base k C "__init__" ps sp) (hr : Room j X.A) (hk : k + 1 ≤ j) (hx : ∀ σ, PassesAt (L2N.CX X.prog X.w) X σ (E σ)) (hg : Gl X x) (hm : X.mg x = some (.ref C))
    (ha : PA X (e :: es) t) (hdb : (x == ("__debug__" : Str)) = false := by decide)
    (he : starEach (e :: es) X.env = (false, eval e X.env) :: starEach es X.env := by rfl) (hpl : (backTo pos (starEach es X.env)).any (·.1) = false := by rfl) :
    PE X (.Call (.Name x p) (e :: es) [] pos) (tMakeS C sp E t) := by
  obtain ⟨f, fd, F, mt, b⟩ := c.ex
  have ef : fi = f := by
    have e1 := M.init.symm.trans mt.at_
    cases e1
    rfl
  subst ef
  refine ⟨fun pins s σ H Q I h => ?_⟩
  refine wpAny_Call_Name_kw (ld_glob I hg hm ?_ hdb)
  refine PySem.W.callWith_K (h₀ := X.base) I.ok.mod.kin M.kp (thn (ha.run pos pins s σ H _ I h) fun us s1 ⟨vs, H1, I1, r, q⟩ => ⟨I1.kIn, ?_⟩) he hpl
  have hq := q (s1.heap.objs.size + 1) s1.heap.objs.size (I1.hok.fresh (Nat.le_succ _)) (I1.hok.fresh (Nat.le_refl _)) (Nat.ne_of_lt (Nat.lt_succ_self _))
  have I2 := Inv.made (C := C) I1
  have r2 : Vals (V.ref (s1.heap.objs.size + 1) :: vs) (Value.ref (s1.heap.objs.size + 1) :: us) := .cons rfl r
  have hl : (Value.ref (s1.heap.objs.size + 1) :: us).length = ps.length := by
    have e := r2.length
    rw [F.len _ _ _ _ hq] at e
    exact e.symm
  have hb := b _ (Value.ref (s1.heap.objs.size + 1) :: us) I2.kIn (by rw [List.append_nil]; exact hl)
  rw [List.append_nil] at hb
  refine wpAny_call (make_map (f := fi) I1.kIn M.makes M.init (beq_iff_eq.mp M.fn) (codeAny_mono (F.run _ X.stack _ _ ⟨Value.ref (s1.heap.objs.size + 1) :: us, []⟩ (Value.ref (s1.heap.objs.size + 1) :: us) _ _ (E σ) ((hr.mono hk).make C us [])
    (I2.env0.make C us []) hb r2 hq) fun r s' hq' => ?_))
  cases r with
  | error e => exact hx σ pins _ _ e s' I2 hq'
  | ok fl =>
    cases fl with
    | ret u =>
      obtain ⟨v, H', I3, rv, ev, q3⟩ := I2.after hq'
      subst ev
      exact ⟨rv, ⟨V.ref (s1.heap.objs.size + 1), H', I3, rfl, q3⟩⟩
    | next => exact False.elim hq'
    | brk => exact False.elim hq'
    | cont => exact False.elim hq'
end
/-! ### what an error made by C(e) is (its context is None) -/
section
variable {X : Cx} {pins : List (Addr × Obj)} {σ : L2.St} {H : Hp} {es : List Expr} {e : Expr} {ta : TA} {p pos : Pos}
theorem mk_endN {H1 H2 : Hp} {Q : XK} {hp hp2 h2 : Heap} {g1 g2 : Array GenState} {d1 d2 : Drawn} {t1 t2 : Nat} {os1 os2 : OsState} {a C d : Addr} {fs : List (Str × V)} (T : Raises X (.ref C)) (I1 : Inv X pins σ H1 ⟨hp, g1, d1, t1, os1⟩)
    (ha : hp.objs.size ≤ a) (un : Un (frs X.stack) [] (upd H1 a (exo a C none)) H2 hp2 h2) (k : ∀ b o, hp.get? b = some o → hp2.get? b = some o) (hok : HOk X.prog X.w H2 h2) (ho : os2 = os1) (hb : AllBare g2)
    (ea : H2 a = some (exo a C (some d))) (ed : H2 d = some (exd d fs)) (hd1 : H1 d = none) (q : Q (.ref C) (some d) (upd (del H2 a) d (.xd fs))) : L2N.MkP X pins σ Q (.ref a) ⟨h2, g2, d2, t2, os2⟩ := by
  obtain ⟨t0, G, J, kG, ge, hoe, na⟩ := mk_end0 (d2 := d2) (t2 := t2) I1 ha k un hok ho hb ea ed hd1
  exact ⟨a, _, _, ⟨G, g2, d2, t2, os2⟩, _, .ref C, some d, rfl, J, kG, ge, hoe, ⟨rfl, rfl, fun vs e => by cases e; rfl⟩, rfl, rfl, na, rfl, hb, T, q⟩
theorem pmk_oexN {CX : CXT} {x : Str} {C fI : Addr} {k : Nat} {fd : FuncData} {ps : List Str} {sp : Sp} {ds : List Value} {dvs : List V} (T : OexC X.K C) (iC : PySem.W.findIn X.K (.ref C) "__init__" = some (some (.ref fI))) (tI : PySem.W.typeIn X.K (.ref fI) = some (.type "function"))
    (F1 : FnOk X.prog X.w X.K X.mg X.base CX k fI fd ps sp) (hr : Room (k + 1) X.A) (hb : L2.Binds X.K fd ps ds) (hd : Vals dvs ds) (hx : Passes CX X (fun _ _ _ => False)) (hg : Gl X x) (hm : X.mg x = some (.ref C)) (ha : PA X (e :: es) ta)
    (hdb : (x == ("__debug__" : Str)) = false := by decide) (he : starEach (e :: es) X.env = (false, eval e X.env) :: starEach es X.env := by rfl) (hpl : (backTo pos (starEach es X.env)).any (·.1) = false := by rfl) :
    L2N.PMk X (.Call (.Name x p) (e :: es) [] pos) (tMkO C sp dvs ta) := by
  intro pins s σ H Q I h
  obtain ⟨nm, q, N, bs, bm, sn, sub, ab, col, dd, k0, k1, k2, k3, k5, hC, hbm⟩ := T.cls
  refine wpAny_Call_Name_kw (ld_glob I hg hm ?_ hdb)
  refine PySem.W.callWith_K (h₀ := X.base) I.ok.mod.kin T.kC (thn (ha.run pos pins s σ H _ I h) fun us s1 ⟨vs, H1, I1, r1, hz, q1⟩ => ⟨I1.kIn, ?_⟩) he hpl
  show wpAny _ _ (call (.ref C) us) _ _ _
  obtain ⟨hp, g, dr, tk, os⟩ := s1
  have hget0 : ((hp.push (PySem.W.kdv_tup us)).push (PySem.HandSPX.excO C hp.objs.size)).get? (hp.objs.size + 1) = some (PySem.HandSPX.excO C hp.objs.size) := by heap_get
  let c : Addr := hp.objs.size + 1
  let hq2 : Heap := (hp.push (PySem.W.kdv_tup us)).push (PySem.HandSPX.excO C hp.objs.size)
  have hsz : hp.objs.size ≤ c := Nat.le_succ _
  have hn : H1 c = none := I1.hok.fresh hsz
  have hq := q1 c hn
  have kk : ∀ b o, hp.get? b = some o → hq2.get? b = some o := fun b o e => Heap.get?_push_of_some _ (Heap.get?_push_of_some _ e)
  have hget : hq2.get? c = some (PySem.HandSPX.excO C hp.objs.size) := hget0
  have I2 : Inv X pins σ (upd H1 c (exo c C none)) ⟨hq2, g, dr, tk, os⟩ := I1.laid (t' := tk) (a := c) (o := exo c C none) (h' := hq2) kk hsz (exo_ok hget)
  have r2 : Vals (V.ref c :: (vs ++ dvs)) (Value.ref c :: (us ++ ds)) := .cons rfl (r1.append hd)
  have hl : (Value.ref c :: us ++ ds).length = ps.length := by
    rw [← F1.len _ _ _ _ hq]
    exact r2.length.symm
  have hus : us.length ≤ sizeLine := by
    rw [← Paired.length r1, sizeLine_eq]
    omega
  refine wpAny_call (PySem.HandSPX.call_own F.excBase_ValueError (fun Y => PySem.HandSPX.refsVE_contains Y bm hbm) (I1.kIn _ _ hC) (PySem.W.looks_findIn I1.kIn iC) (fun self => PySem.W.bind_fn I1.kIn self tI) hus
    (codeAny_mono (F1.run _ X.stack _ _ ⟨Value.ref c :: us, []⟩ (Value.ref c :: (us ++ ds)) _ _ (fun _ _ _ => False) (hr.make C us []) (I2.env0.make C us []) (hb _ (Value.ref c :: us) I2.kIn hl) r2 hq) fun r s' hq' => ?_))
  cases r with
  | error er => exact hx pins σ _ _ er s' I2 hq'
  | ok fl =>
    cases fl with
    | ret u =>
      obtain ⟨v, H2, os2, bare2, un2, hok2, rv, ev, d, fs, ea, ed, hd1, q2⟩ := hq'
      subst ev
      obtain ⟨h2, g2, d2, t2, os'⟩ := s'
      exact ⟨rv, mk_endN (raises_own T.exC T.tyC) I1 hsz un2 kk hok2 os2 bare2 ea ed hd1 q2⟩
    | next => exact False.elim hq'
    | brk => exact False.elim hq'
    | cont => exact False.elim hq'
end
/-! ### raise C(e) -/
/-- the __init__ of an error class at C that keeps its argument as the field f -/
def spIni (C : Addr) (f : Str) : Sp := fun vs H Q _ => ∃ (a : Addr) (y : V), vs = [.ref a, y] ∧ H a = some (exo a C none) ∧ ∀ dx, H dx = none → dx ≠ a → Q .non (upd (upd H dx (exd dx [(f, y)])) a (exo a C (some dx)))
/-- the name x of the module holds an error class at C whose errors have the field f -/
structure ErX (P : Program) (w : World) (K : PySem.W.Frag) (mg : Str → Option Value) (base : Heap) (x : Str) (C : Addr) (f : Str) : Prop where
  gm : mg x = some (.ref C)
  ox : OexC K C
  no : PySem.W.findIn K (.ref C) f = some none
  mt : MtF P w K mg base 1 C "__init__" ["self", f] (spIni C f)
/-- raise C(y): what is wished then -/
def RsR (W : WX) (C : Addr) (f : Str) (σ : L2.St) (y : V) (H1 : Hp) : Prop := [y].length ≤ 1000 ∧ ∀ a, H1 a = none → spIni C f (.ref a :: ([y] ++ [])) (upd H1 a (exo a C none))
  (fun v H2 => v = .non ∧ ∃ (d : Addr) (fs : List (Str × V)), H2 a = some (exo a C (some d)) ∧ H2 d = some (exd d fs) ∧ H1 d = none ∧ W (.ref C) (some d) σ (upd (del H2 a) d (.xd fs))) (fun _ _ _ => False)
theorem RsR.of {W : WX} {C : Addr} {f : Str} {σ : L2.St} {y : V} {H1 : Hp} (h : ∀ d, H1 d = none → W (.ref C) (some d) σ (upd H1 d (.xd [(f, y)]))) : RsR W C f σ y H1 := by
  refine ⟨(show 1 ≤ 1000 by decide), fun a na => ⟨a, y, rfl, upd_same, fun dx hd nd => ⟨rfl, dx, [(f, y)], upd_same, ?_, ?_, ?_⟩⟩⟩
  · rw [upd_ne nd]
    exact upd_same
  · rw [upd_ne nd] at hd
    exact hd
  · have hd1 : H1 dx = none := by
      rw [upd_ne nd] at hd
      exact hd
    have e : upd (del (upd (upd (upd H1 a (exo a C none)) dx (exd dx [(f, y)])) a (exo a C (some dx))) a) dx (.xd [(f, y)]) = upd H1 dx (.xd [(f, y)]) := by
      funext b
      by_cases hb : b = dx
      · rw [hb, upd_same, upd_same]
      · rw [upd_ne hb, upd_ne hb]
        by_cases ha : b = a
        · rw [ha, del_same, na]
        · rw [del_ne ha, upd_ne ha, upd_ne hb, upd_ne ha]
    rw [e]
    exact h dx hd1
def tRs (W : WX) (C : Addr) (f : Str) (te : TE) : TS := fun _ σ H => te σ H fun y H1 => RsR W C f σ y H1
section
variable {X : Cx} {j : Nat} {x f : Str} {C : Addr} {p pos pos' : Pos} {e : Expr} {te : TE} {W : WX}
theorem ps_rs (c : ErX X.prog X.w X.K X.mg X.base x C f) (hr : Room j X.A) (hk : 2 ≤ j) (hc : X.calm = true) (tk : L2N.Takes X W) (hg : Gl X x) (he : PE X e te) (hdb : (x == ("__debug__" : Str)) = false := by decide)
    (hst : starEach [e] X.env = (false, eval e X.env) :: starEach [] X.env := by rfl) (hpl : (backTo pos (starEach [] X.env)).any (·.1) = false := by rfl) :
    PS X (.Raise (some (.Call (.Name x p) [e] [] pos)) none pos') (tRs W C f te) := by
  obtain ⟨fI, fd, F1, mt, b, _⟩ := c.mt.ex
  have tI : PySem.W.typeIn X.K (.ref fI) = some (.type "function") := beq_iff_eq.mp mt.fn
  have R := L2N.ps_raise (pos := pos') hc tk (pmk_oexN (p := p) (pos := pos) (CX := CX0) (dvs := []) c.ox mt.at_ tI F1 (hr.mono hk) b .nil (fun _ _ _ _ _ _ _ z => z.elim) hg c.gm (pa_cons he pa_nil (hs := hst)) hdb hst hpl)
  exact ⟨fun pins s σ H D I h => R.run pins s σ H D I h⟩
end
end Jo

set_option Elab.async false
set_option linter.all false
set_option maxRecDepth 100000
/-! for i, x in enumerate(a tuple) -/
namespace Jo
open PySem PySem.Spec PyProof.Rows L2
set_option maxHeartbeats 1000000 in
theorem meets_enum1 {v : Value} {o : Obj} {G : Heap → Prop} (B : Begins v o G) :
    Meets (Builtin.«enumerate.__new__» ⟨[.type "enumerate", v], []⟩) (fun _ R s => G s.heap ∧
      R (.ok (.ret (.ref (s.heap.push o).objs.size))) { s with heap := (s.heap.push o).push { cls := .type "enumerate", data := .fields #[.none, .bool false, .ref s.heap.objs.size, rawInt 0, .none, .none] } }) :=
  .of_wp fun prog w A R s h => by
    obtain ⟨hp, g, d, tk, os⟩ := s
    obtain ⟨h1, h⟩ := h
    have hsub := sub_enumerate
    have it1 : ∀ {A' : Around} {E : Value → Shared → Prop} {Q : Value → Shared → Prop}, Q (.ref hp.objs.size) ⟨hp.push o, g, d, tk, os⟩ → wpAny (model prog w) A' (pyIter v) Q E ⟨hp, g, d, tk, os⟩ :=
      fun q => B.iter prog w _ _ ⟨hp, g, d, tk, os⟩ _ h1 q
    wp_walk using it1
    refine wpAny_stack_any fun st => wpAny_pure ?_
    split
    · rename_i c _ _ _ _ _
      cases (c == Value.type "enumerate") <;> (wp_walk using it1; exact ⟨_, rfl, h⟩)
    · wp_walk using it1
      exact ⟨_, rfl, h⟩
theorem enum1 {prog : Program} {w : World} {A : Around} {E : Value → Shared → Prop} {s : Shared} {v : Value} {o : Obj} {G : Heap → Prop} {Q : Value → Shared → Prop} (B : Begins v o G) (h1 : G s.heap)
    (h : ∀ h', IsEnum h' (s.heap.objs.size + 1) s.heap.objs.size 0 .none → h'.get? s.heap.objs.size = some o →
      (∀ b o, s.heap.get? b = some o → h'.get? b = some o) → Q (.ref (s.heap.objs.size + 1)) { s with heap := h' }) :
    wpAny (model prog w) A (call (.type "enumerate") [v]) Q E s := by
  refine callType_new F.called_enumerate (by decide) (F.typeCall_enumerate_1 _) (F.newCall_enumerate_1 _) (fun obj => F.args_object_init_2 obj _) F.entry_enumerate_new (meets_enum1 B) ⟨h1, ?_⟩
  have hz : (s.heap.push o).objs.size = s.heap.objs.size + 1 := Heap.size_push ..
  show _ ∧ _
  rw [hz]
  have he := Heap.get?_push_size (s.heap.push o) (o := { cls := .type "enumerate", data := .fields #[.none, .bool false, .ref s.heap.objs.size, rawInt 0, .none, .none] }) rfl
  rw [hz] at he
  exact ⟨⟨_, he, rfl⟩, h _ he (Heap.get?_push_of_some _ (Heap.get?_push_size _ B.free)) fun b o x => Heap.get?_push_of_some _ (Heap.get?_push_of_some _ x)⟩
/-- the tuple at a, each item in a new pair -/
def IteT (K : PySem.W.Frag) (a : Addr) : It :=
  ⟨fun i H => ∃ (xs : List V) (x : V), SqT K H a xs ∧ xs[i]? = some x,
   fun i H v H' => ∃ T x, v = .ref T ∧ H T = none ∧ H' = upd H T (.tup [.int (i : Nat), x]) ∧ ∀ xs, SqT K H a xs → xs[i]? = some x,
   fun i H => ∃ xs : List V, SqT K H a xs ∧ xs.length = i⟩
theorem turn_enumT {P : Program} {w : World} {K : PySem.W.Frag} {elts : List Expr} {kk : Nat} {tpos : Pos} (a e it : Addr) :
    Turn P w K (.Tuple elts kk tpos) (IteT K a) [e, it] e (fun i h => (∃ old, IsEnum h e it ((i : Nat) : Int) old) ∧ h.IsTupleIter it a i ∧ e ≠ it ∧ e ≠ a ∧ a ≠ it) where
  mem := by simp
  obj := fun i h st b hb => by
    obtain ⟨⟨old, he⟩, ⟨o, ho, hc, hd⟩, _⟩ := st
    rcases List.mem_cons.mp hb with z | z
    · rw [z]
      exact ⟨_, he, fun v q => nomatch q⟩
    · rw [List.mem_singleton.mp z]
      exact ⟨o, ho, fun v q => by rw [hd] at q; cases q⟩
  keep := fun i h h' st k => let ⟨⟨old, he⟩, hi, hne⟩ := st; ⟨⟨old, k e (by simp) _ he⟩, hi.at fun o q => k it (by simp) o q, hne⟩
  item := by
    intro X hP hw hK hc i pins s σ H E I hf st hg
    subst hP hw hK
    obtain ⟨⟨old, he⟩, hit, hne, hea, hai⟩ := st
    obtain ⟨xs, x, hq, hx⟩ := hg
    obtain ⟨its, rv, p, hz⟩ := I.tuple hq
    obtain ⟨u, hu, ru⟩ := rv.get hx
    have hel : e < s.heap.objs.size := Heap.lt_size he
    have hil : it < s.heap.objs.size := by obtain ⟨_, q, _⟩ := hit; exact Heap.lt_size q
    have hT0 : s.heap.IsTuple a its.toArray := p
    have hlt : i < its.toArray.size := by
      have := (List.getElem?_eq_some_iff.mp hu).1
      simpa using this
    have D := Draws.tuple (prog := X.prog) (w := X.w) (A := X.A.in1) (I.ok.hd hc) it a hai its.toArray
    refine wpAny_pyNext_enum_itemD D he ⟨hit, hT0⟩ hlt hne (by simp [hne, hea]) fun x' h' tk hP' ho hst' hT hsz hk => ?_
    have ex : x' = u := by
      have h2 : its.toArray[i]? = some u := by simpa using hu
      exact Option.some.inj (hP'.symm.trans h2)
    subst ex
    refine ⟨_, rfl, wpAny_letOwnedTupleGo_enum (s := { s with heap := h', toks := tk + 1 }) ho fun h'' he' sb => ?_⟩
    have hT2 : h''.get? s.heap.objs.size = some { cls := .type "tuple", data := .seq #[.int i tk, x'] } := (sb.2 _ (Nat.ne_of_gt hel)).trans hT
    have new : ObjOk X.prog X.w (upd H s.heap.objs.size (.tup [.int (i : Nat), x])) h'' s.heap.objs.size (.tup [.int (i : Nat), x]) :=
      ⟨by show 2 ≤ sizeLine; decide, [.int i tk, x'], .cons ⟨_, rfl⟩ (.cons ru .nil), ⟨_, hT2, rfl, _, rfl⟩⟩
    have I1 : Inv X pins σ (upd H s.heap.objs.size (.tup [.int (i : Nat), x])) { s with heap := h'', toks := tk + 1 } :=
      I.turnedNew (ch := [e, it]) (fun b ob hb q => (sb.2 b (fun z => hb (by simp [z]))).trans (hk b ob (fun z => hb (by simp [z])) (fun z => hb (by simp [z])) q)) hf (Nat.le_refl _) new
    refine ⟨.ref s.heap.objs.size, _, I1, rfl, ⟨_, x, rfl, I.hok.fresh (Nat.le_refl _), rfl, fun ys hy => by rw [I.tuple_inj hy hq]; exact hx⟩, ⟨⟨x', ?_⟩, hst'.1.at fun o q => (sb.2 it (Ne.symm hne)).trans q, hne, hea, hai⟩, fun b hb => ?_⟩
    · have e1 : ((i + 1 : Nat) : Int) = (i : Int) + 1 := by omega
      rw [e1]
      exact he'
    · have hb' : b < s.heap.objs.size := by
        rcases List.mem_cons.mp hb with z | z
        · rw [z]; exact hel
        · rw [List.mem_singleton.mp z]; exact hil
      rw [upd_ne (Nat.ne_of_lt hb')]
      exact (hf b hb).1
  done := by
    intro X hP hw hK hc i pins s σ H E I hf st hg
    subst hP hw hK
    obtain ⟨⟨old, he⟩, hit, hne, hea, hai⟩ := st
    obtain ⟨xs, hq, hx⟩ := hg
    obtain ⟨its, rv, p, hz⟩ := I.tuple hq
    obtain ⟨f0, f1, f2, f3, f4, f5⟩ := hf it (by simp)
    have hl := rv.length
    have D := Draws.tuple (prog := X.prog) (w := X.w) (A := X.A.in1) (I.ok.hd hc) it a hai its.toArray
    have en : i = its.toArray.size := by simp; omega
    subst en
    exact wpAny_pyNext_enum_endD D he ⟨hit, p⟩ fun h' eb => ⟨rfl, I.turned (t' := s.toks) (fun b o hb q => eb b o hb q) f0 f1 f3 f4 f5⟩
  self := fun A i s Q E st h => let ⟨⟨_, he⟩, _⟩ := st; wpAny_pyIter_enum he h
def iEnumT (K : PySem.W.Frag) (ta : TA) : TI := fun σ H R => ta σ H fun vs H1 => ∃ a xs, vs = [.ref a] ∧ SqT K H1 a xs ∧ R (IteT K a) H1
theorem pi_enumT {X : Cx} {e : Expr} {ta : TA} {p pos tpos : Pos} {elts : List Expr} {kk : Nat} (hg : Gl X "enumerate") (hm : X.mg "enumerate" = none) (ha : PA X [e] ta) (hs : starEach [e] X.env = [(false, eval e X.env)] := by rfl) :
    PI X (.Tuple elts kk tpos) (.Call (.Name "enumerate" p) [e] [] pos) (iEnumT X.K ta) := by
  refine ⟨fun pins s σ H R I h => ?_⟩
  refine Call_ (ld_blt I hg hm boot_enumerate (PyProof.Rows.callWith_type1 (thn (ha.run pos pins s σ H _ I h) fun us s1 ⟨vs, H1, I1, r1, q1⟩ => ?_) hs rfl))
  obtain ⟨a, xs, ex, hq, q⟩ := q1
  subst ex
  cases r1 with
  | cons r rr =>
    cases rr
    cases r
    obtain ⟨its, rv, p', hz⟩ := I1.tuple hq
    have hT0 : s1.heap.IsTuple a its.toArray := p'
    have hal : a < s1.heap.objs.size := by obtain ⟨_, q, _⟩ := hT0; exact Heap.lt_size q
    refine enum1 (begins_tuple a its.toArray) hT0 fun h' he hit hk => wpAny_pyIter_enum he ?_
    have I2 : Inv X pins σ H1 { s1 with heap := h' } := I1.kept (t' := s1.toks) hk
    refine ⟨s1.heap.objs.size + 1, [s1.heap.objs.size + 1, s1.heap.objs.size], _, _, H1, rfl, I2, turn_enumT a (s1.heap.objs.size + 1) s1.heap.objs.size, ⟨⟨.none, he⟩, ⟨_, hit, rfl, rfl⟩, Nat.succ_ne_self _, Nat.ne_of_gt (Nat.lt_succ_of_lt hal), Nat.ne_of_lt hal⟩, fun b hb => ?_, q⟩
    have hle : s1.heap.objs.size ≤ b := by
      rcases List.mem_cons.mp hb with z | z
      · rw [z]; exact Nat.le_add_right _ _
      · rw [List.mem_singleton.mp z]; exact Nat.le_refl _
    exact I1.fpOk hle (I1.hok.fresh hle)
theorem walk_enumT {K : PySem.W.Frag} {a : Addr} {xs : List V} : Walk (IteT K a) xs.length (fun H => SqT K H a xs) (YPair (fun i => some (.int (i : Nat))) (fun i => xs[i]?)) :=
  ⟨fun i H hi q => ⟨xs, xs[i], q, by simp [hi]⟩, fun H q => ⟨xs, q, rfl⟩, fun i H v H' hi q ⟨T, x, e1, e2, e3, e4⟩ => ⟨T, .int (i : Nat), x, e1, e2, e3, rfl, e4 xs q⟩⟩
end Jo

set_option Elab.async false
set_option linter.all false
set_option maxRecDepth 100000
set_option maxHeartbeats 400000
namespace Jo
open PySem PySem.Spec PyProof.Rows L2

/-! ### a comprehension whose items are reckoned from the turn, the heap staying -/
theorem lc_fun {J : It} {n : Nat} {Y : Nat → Hp → V → Hp → Prop} (w : Walk J n (fun _ => True) Y) {g : TG} {te : TE} {vs : List Nat} {σ : L2.St}
    {H1 : Hp} {D : Addr} {Qd : Hp → Prop} (f : Nat → V) (hn : n < sizeLine)
    (hs : ∀ (i : Nat) (x : V) (H H' : Hp) (Q : VK), i < n → Y i H x H' → Q (f i) H →
      g x (wipe σ vs) H' fun σ2 H2 => wipe σ2 vs = wipe σ vs ∧ te σ2 H2 Q)
    (hd : Qd (upd H1 D (.lst ((List.range n).map f)))) :
    ∃ W : Nat → Nat → Hp → Prop, (∃ m, W 0 m (upd H1 D (.lst []))) ∧ ∀ i m H, W i m H →
      (J.stop i H ∧ Qd H) ∨ (J.go i H ∧ ∃ Nx : Hp → Prop, (∀ H', Nx H' → ∃ m', m' < m ∧ W (i + 1) m' H') ∧
        ∀ x H', J.yld i H x H' → g x (wipe σ vs) H' fun σ2 H2 => wipe σ2 vs = wipe σ vs ∧ tYes σ2 H2 fun b H3 =>
          if b = true then te σ2 H3 fun y H4 => ∃ acc, H4 D = some (.lst acc) ∧ acc.length < sizeLine ∧ Nx (upd H4 D (.lst (acc ++ [y]))) else Nx H3) := by
  refine lc_it w (fun i H => i ≤ n ∧ H = upd H1 D (.lst ((List.range i).map f))) ⟨Nat.zero_le _, rfl⟩ (fun _ _ _ _ => trivial) (fun i x H H' hi hp hy => ?_) (fun H hp => ?_)
  · obtain ⟨_, rfl⟩ := hp
    refine hs i x _ H' (fun y H4 => ∃ acc, H4 D = some (.lst acc) ∧ acc.length < sizeLine ∧ (i + 1 ≤ n ∧ upd H4 D (.lst (acc ++ [y])) = upd H1 D (.lst ((List.range (i + 1)).map f)))) hi hy ?_
    refine ⟨_, upd_same, ?_, hi, ?_⟩
    · rw [List.length_map, List.length_range]
      exact Nat.lt_trans hi hn
    · rw [List.range_succ, List.map_append]
      funext b
      by_cases hb : b = D
      · subst hb
        rw [upd_same, upd_same]
        rfl
      · rw [upd_ne hb, upd_ne hb, upd_ne hb]
  · rw [hp.2]
    exact hd

/-! ### what a value is -/
def isI : V → Bool | .int _ => true | _ => false
def isS : V → Bool | .str _ => true | _ => false
def stB : V → Bool | .int n => decide (0 ≤ n) && decide (n ≤ 99) | _ => false
def letters : Str := Str.ofString "abcdefghijklmnopqrstuvwxyz"
def signs : Str := Str.ofString "abcdefghijklmnopqrstuvwxyz0123456789"
def nmS (z : Str) : Bool := (decide (1 ≤ (z.length : Int)) && decide ((z.length : Int) ≤ 8)) &&
  (decide (z.cps.getD 0 0 ∈ letters.cps.toList) && ((List.range z.cps.size).map fun i => decide (z.cps.getD i 0 ∈ signs.cps.toList)).all id)
def isNm : V → Bool | .str z => nmS z | _ => false
/-- a value of any of the built-in kinds, as isinstance sees it -/
def AnyV (K : PySem.W.Frag) (H : Hp) (x : V) : Prop := ∃ (t : Value) (i b s : Bool), TyX K H x t ∧ PySem.W.kitOne K t (.type "int") = some i ∧
  PySem.W.kitOne K t (.type "bool") = some b ∧ PySem.W.kitOne K t (.type "str") = some s ∧ (i && !b) = isI x ∧ s = isS x
section
variable {K : PySem.W.Frag} {H : Hp}
theorem any_int (n : Int) : AnyV K H (.int n) := ⟨_, true, false, false, .base (.int n), kit_ty (by decide +kernel), kit_ty (by decide +kernel), kit_ty (by decide +kernel), rfl, rfl⟩
theorem any_str (z : Str) : AnyV K H (.str z) := ⟨_, false, false, true, .base (.str z), kit_ty (by decide +kernel), kit_ty (by decide +kernel), kit_ty (by decide +kernel), rfl, rfl⟩
theorem any_bl (z : Bool) : AnyV K H (.bl z) := ⟨_, true, true, false, .base (.bl z), kit_ty (by decide +kernel), kit_ty (by decide +kernel), kit_ty (by decide +kernel), rfl, rfl⟩
theorem any_non : AnyV K H .non := ⟨_, false, false, false, .base .non, kit_ty (by decide +kernel), kit_ty (by decide +kernel), kit_ty (by decide +kernel), rfl, rfl⟩
theorem any_lst {a : Addr} {xs : List V} (e : H a = some (.lst xs)) : AnyV K H (.ref a) := ⟨_, false, false, false, .base (.lst e), kit_ty (by decide +kernel), kit_ty (by decide +kernel), kit_ty (by decide +kernel), rfl, rfl⟩
theorem any_tup {a : Addr} {xs : List V} (e : H a = some (.tup xs)) : AnyV K H (.ref a) := ⟨_, false, false, false, .base (.tup e), kit_ty (by decide +kernel), kit_ty (by decide +kernel), kit_ty (by decide +kernel), rfl, rfl⟩
theorem any_dK {a : Addr} {kvs : List (Key × V)} (e : H a = some (.dK kvs)) : AnyV K H (.ref a) := ⟨_, false, false, false, .base (.dK e), kit_ty (by decide +kernel), kit_ty (by decide +kernel), kit_ty (by decide +kernel), rfl, rfl⟩
end

def wordsE : List Str := ["call", "answer", "out", "back"]
def hangE : Str := Str.ofString "hang"
/-- the module's own and the built-in names -/
structure Txt (K : PySem.W.Frag) (mg : Str → Option Value) : Prop where
  g_MAX_STATE : ∃ u, mg "MAX_STATE" = some u ∧ RelV (.int 99) u
  g_LETTERS : ∃ u, mg "LETTERS" = some u ∧ RelV (.str letters) u
  g_SIGNS : ∃ u, mg "SIGNS" = some u ∧ RelV (.str signs) u
  g_LONGEST_NAME : ∃ u, mg "LONGEST_NAME" = some u ∧ RelV (.int 8) u
  g_WORDS : ∃ a, (∃ u, mg "WORDS" = some u ∧ RelV (.ref a) u) ∧ ∀ H, SqT K H a (wordsE.map V.str)
  g_HANG_EVENT : ∃ a, (∃ u, mg "HANG_EVENT" = some u ∧ RelV (.ref a) u) ∧ ∀ H, SqT K H a [.str hangE]
  b_isinstance : mg "isinstance" = none
  b_str : mg "str" = none
  b_int : mg "int" = none
  b_bool : mg "bool" = none
  b_tuple : mg "tuple" = none
  b_len : mg "len" = none
  b_all : mg "all" = none
  b_range : mg "range" = none
  b_repr : mg "repr" = none
  b_enumerate : mg "enumerate" = none
  b_divmod : mg "divmod" = none
  b_max : mg "max" = none
  b_min : mg "min" = none

section
variable {P : Program} {w : World} {K : PySem.W.Frag} {mg : Str → Option Value} {base : Heap}
/-! ### is_integer, is_size, is_name -/
def n_is_integer : List Str := ["value"]
theorem sc_is_integer : FnScope n_is_integer ["value"] (defScope s_is_integer) := ⟨rfl, rfl, rfl, by decide +kernel, rfl, by decide +kernel, by decide +kernel⟩
def spIsInt (K : PySem.W.Frag) : Sp := fun vs H Q _ => ∃ x, vs = [x] ∧ AnyV K H x ∧ Q (.bl (isI x)) H
theorem ok_is_integer (T : Txt K mg) (D : Dfn K mg "is_integer" s_is_integer ["value"]) : CalF P w K mg base 1 "is_integer" ["value"] (spIsInt K) := by
  refine D.okF sc_is_integer (fun vs H Q E h => ?_) (fun f cdv A fr s H vs Q E hr h => ?_)
  · obtain ⟨x, rfl, _⟩ := h
    rfl
  · obtain ⟨x, rfl, ⟨t, i, b, z, ht, hi, hb, _, e, _⟩, q⟩ := h
    refine ⟨_, pss_one (ps_ret (pe_and (pe_callB call_isi rfl T.b_isinstance (by decide +kernel) (pa_cons (pv 0) (pa_cons (pe_bltn (v := .ty "int") (u := .type "int") rfl T.b_int (by decide +kernel) rfl) pa_nil))) (pe_one (pe_not (pe_callB call_isi rfl T.b_isinstance (by decide +kernel) (pa_cons (pv 0) (pa_cons (pe_bltn (v := .ty "bool") (u := .type "bool") rfl T.b_bool (by decide +kernel) rfl) pa_nil))))))), ?_⟩
    refine ⟨x, rfl, x, _, t, _, i, rfl, .ty "int", ht, hi, i, rfl, ?_⟩
    cases i with
    | false =>
      refine iteF ?_
      rw [← e] at q
      exact q
    | true =>
      refine iteT ⟨x, rfl, x, _, t, _, b, rfl, .ty "bool", ht, hb, b, rfl, ?_⟩
      rw [← e] at q
      exact q
def n_is_name : List Str := ["value", "sign"]
theorem sc_is_name : FnScope n_is_name ["value"] (defScope s_is_name) := ⟨rfl, rfl, rfl, by decide +kernel, rfl, by decide +kernel, by decide +kernel⟩
def spIsName (K : PySem.W.Frag) : Sp := fun vs H Q _ => ∃ x, vs = [x] ∧ AnyV K H x ∧ (∀ z, x = .str z → z.length ≤ 1000) ∧ ∀ H', Same H H' → Q (.bl (isNm x)) H'
theorem same_new {H : Hp} {p : Addr} {o : HO} (h : H p = none) : Same H (upd H p o) := fun b x e => by
  rw [upd_ne (ne_of_none e h)]
  exact e
theorem len_cps (z : Str) : z.length = z.cps.size := by simp [Str.length]
theorem cps_get {z : Str} {i c : Nat} (h : z.cps[i]? = some c) : z.cps.getD i 0 = c := by simp [Array.getD_eq_getD_getElem?, h]
theorem ok_is_name (T : Txt K mg) (D : Dfn K mg "is_name" s_is_name ["value"]) : CalF P w K mg base 1 "is_name" ["value"] (spIsName K) := by
  refine D.okF sc_is_name (fun vs H Q E h => ?_) (fun f cdv A fr s H vs Q E hr h => ?_)
  · obtain ⟨x, rfl, _⟩ := h
    rfl
  · obtain ⟨x, rfl, ⟨t, i, b, z, ht, _, _, hz, _, e⟩, hlen, q⟩ := h
    refine ⟨_, pss_cons (ps_if (PW.pt (pw_or (pt_not (pt_val (pe_callB call_isi rfl T.b_isinstance (by decide +kernel) (pa_cons (pv 0) (pa_cons (pe_bltn (v := .ty "str") (u := .type "str") rfl T.b_str (by decide +kernel) rfl) pa_nil))))) (pw_or1 (pt_not (pt_chain op_le op_le pe_int (pe_callB call_len rfl T.b_len (by decide +kernel) (pa_cons (pv 0) pa_nil)) (C8.pe_gc rfl T.g_LONGEST_NAME))))))
        (pss_one (ps_ret pe_bl))
        (pss_nil))
      (pss_one (ps_ret (pe_and (pe_cmpR op_in_sign (pe_item_str (pv 0) pe_int (fun _ _ => rfl)) (C8.pe_gc rfl T.g_LETTERS) rfl) (pe_one (pe_callB (cr_all rfl) rfl T.b_all (by decide +kernel) (pa_cons (pe_lc (own := [("sign", 1)]) (g := gName 1) (tt := tYes) rfl sc_is_name.nd (pi_str (pv 0)) (blkOk_by (N := n_is_name) (sc := defScope s_is_name) (by decide +kernel)) (fun _ _ _ _ _ => pg_name (i := 1) sc_is_name.nd rfl (Or.inl rfl)) (fun _ _ _ _ _ => pts_nil) (fun _ _ _ _ _ => (pe_cmpR op_in_sign (pv 1) (C8.pe_gc rfl T.g_SIGNS) rfl))) pa_nil)))))), ?_⟩
    refine ⟨x, rfl, x, _, t, _, z, rfl, .ty "str", ht, hz, z, rfl, ?_⟩
    subst e
    cases x with
    | str y =>
      have hl := hlen y rfl
      have q' : ∀ H', Same H H' → Q (.bl (nmS y)) H' := q
      refine iteF ⟨_, rfl, .str y, y.length, rfl, ⟨Nat.le_trans hl (by decide), rfl⟩, _, _, rfl, rfl, _, rfl, ?_⟩
      by_cases h1 : (1 : Int) ≤ (y.length : Int)
      · rw [decide_eq_true h1]
        refine iteT ⟨_, _, rfl, rfl, _, rfl, ?_⟩
        by_cases h2 : (y.length : Int) ≤ 8
        · rw [decide_eq_true h2]
          refine iteF ?_
          have h0 : 0 < y.cps.size := by rw [← len_cps]; omega
          have c0 : y.cps[0]? = some (y.cps.getD 0 0) := by simp [Array.getD_eq_getD_getElem?, h0]
          refine ⟨_, rfl, y, 0, y.cps.getD 0 0, rfl, rfl, by decide, by decide, by omega, c0, _, letters, rfl, rfl, _, rfl, ?_⟩
          by_cases h3 : y.cps.getD 0 0 ∈ letters.cps.toList
          · rw [decide_eq_true h3]
            refine iteT ⟨_, rfl, y, rfl, fun Dl hD => lc_fun walk_str (fun i => .bl (decide (y.cps.getD i 0 ∈ signs.cps.toList))) (by rw [← len_cps]; exact Nat.lt_of_le_of_lt hl (by decide)) (fun i x H0 H0' Q0 hi hy hq => ?_) ?_⟩
            · obtain ⟨rfl, c, hc, rfl⟩ := hy
              refine ⟨rfl, _, rfl, c, signs, rfl, rfl, ?_⟩
              rw [← cps_get hc]
              exact hq
            · refine ⟨Dl, (List.range y.cps.size).map fun i => decide (y.cps.getD i 0 ∈ signs.cps.toList), rfl, .of (by rw [upd_same, List.map_map]; rfl), ?_⟩
              have en : nmS y = ((List.range y.cps.size).map fun i => decide (y.cps.getD i 0 ∈ signs.cps.toList)).all id := by
                unfold nmS
                rw [decide_eq_true h1, decide_eq_true h2, decide_eq_true h3]
                rfl
              rw [← en]
              exact q' _ (same_new hD)
          · rw [decide_eq_false h3]
            have en : nmS y = false := by
              unfold nmS
              rw [decide_eq_false h3, Bool.false_and, Bool.and_false]
            refine iteF ?_
            rw [← en]
            exact q' _ (Same.refl _)
        · rw [decide_eq_false h2]
          have en : nmS y = false := by
            unfold nmS
            rw [decide_eq_false h2, Bool.and_false, Bool.false_and]
          refine iteT ?_
          show Q (.bl false) H
          rw [← en]
          exact q' _ (Same.refl _)
      · rw [decide_eq_false h1]
        have en : nmS y = false := by
          unfold nmS
          rw [decide_eq_false h1, Bool.false_and, Bool.false_and]
        refine iteF ⟨_, rfl, ?_⟩
        refine iteT ?_
        show Q (.bl false) H
        rw [← en]
        exact q' _ (Same.refl _)
    | _ => exact iteT (q _ (Same.refl _))
end

/-! ### events, steps, bad states as they stand -/
/-- the parts of a good event -/
inductive EvS : List V → Prop where
  | hang : EvS [.str hangE]
  | two {w n : Str} (hw : w ∈ wordsE) (hn : nmS n = true) (hl : n.length ≤ 8) : EvS [.str w, .str n]
  | three {w n : Str} {v : Int} (hw : w ∈ wordsE) (hn : nmS n = true) (hl : n.length ≤ 8) (hv : v.natAbs < 2 ^ 250) : EvS [.str w, .str n, .int v]
theorem same_seqT {K : PySem.W.Frag} {H H' : Hp} {a : Addr} {xs : List V} (s : Same H H') (h : SqT K H a xs) : SqT K H' a xs := by
  rcases h with (h | ⟨o, h⟩) | h
  · exact .inl (.inl (s _ _ h))
  · exact .inl (.inr ⟨o, s _ _ h⟩)
  · exact .inr h
/-- a step: its place, its state, its event's place and parts, its next state -/
structure Row where
  t : Addr
  b : Int
  e : Addr
  vs : List V
  l : Int
structure RowAt (H : Hp) (r : Row) : Prop where
  row : H r.t = some (.tup [.int r.b, .ref r.e, .int r.l])
  ev : H r.e = some (.tup r.vs)
  ok : EvS r.vs
  b0 : 0 ≤ r.b
  b1 : r.b ≤ 99
  l0 : 0 ≤ r.l
  l1 : r.l ≤ 99
theorem RowAt.same {H H' : Hp} {r : Row} (h : RowAt H r) (s : Same H H') : RowAt H' r := ⟨s _ _ h.row, s _ _ h.ev, h.ok, h.b0, h.b1, h.l0, h.l1⟩
theorem any_tuple {K : PySem.W.Frag} {H : Hp} {a : Addr} {xs : List V} (e : H a = some (.tup xs)) : ∃ t, TyX K H (.ref a) t ∧ PySem.W.kitOne K t (.type "tuple") = some true := ⟨_, .base (.tup e), kit_ty (by decide +kernel)⟩
section
variable {P : Program} {w : World} {K : PySem.W.Frag} {mg : Str → Option Value} {base : Heap}
def n_is_state : List Str := ["value"]
theorem sc_is_state : FnScope n_is_state ["value"] (defScope s_is_state) := ⟨rfl, rfl, rfl, by decide +kernel, rfl, by decide +kernel, by decide +kernel⟩
def spIsState (K : PySem.W.Frag) : Sp := fun vs H Q _ => ∃ x, vs = [x] ∧ AnyV K H x ∧ Q (.bl (stB x)) H
theorem ok_is_state (T : Txt K mg) (D : Dfn K mg "is_state" s_is_state ["value"]) (c_is_integer : CalF P w K mg base 1 "is_integer" ["value"] (spIsInt K)) :
    CalF P w K mg base 2 "is_state" ["value"] (spIsState K) := by
  refine D.okF sc_is_state (fun vs H Q E h => ?_) (fun f cdv A fr s H vs Q E hr h => ?_)
  · obtain ⟨x, rfl, _⟩ := h
    rfl
  · obtain ⟨x, rfl, ha, q⟩ := h
    refine ⟨_, pss_one (ps_ret (pe_and (pe_cF c_is_integer hr (by decide) rfl (pa_cons (pv 0) pa_nil)) (pe_one (pe_chain op_le op_le pe_int (pv 0) (C8.pe_gc rfl T.g_MAX_STATE))))), ?_⟩
    refine ⟨x, rfl, x, rfl, ha, isI x, rfl, ?_⟩
    cases x with
    | int n =>
      refine iteT ⟨_, rfl, _, _, rfl, rfl, _, rfl, ?_⟩
      by_cases h1 : 0 ≤ n
      · rw [decide_eq_true h1]
        refine iteT ⟨_, _, rfl, rfl, ?_⟩
        have e : stB (.int n) = decide (n ≤ 99) := by show (decide (0 ≤ n) && decide (n ≤ 99)) = _; rw [decide_eq_true h1]; rfl
        rw [e] at q
        exact q
      · rw [decide_eq_false h1]
        have e : stB (.int n) = false := by show (decide (0 ≤ n) && decide (n ≤ 99)) = _; rw [decide_eq_false h1]; rfl
        rw [e] at q
        exact iteF q
    | _ => exact iteF q
theorem stB_ok {n : Int} (h0 : 0 ≤ n) (h1 : n ≤ 99) : stB (.int n) = true := by
  show (decide (0 ≤ n) && decide (n ≤ 99)) = true
  rw [decide_eq_true h0, decide_eq_true h1]
  rfl
end
end Jo

set_option Elab.async false
set_option linter.all false
set_option maxRecDepth 100000
set_option maxHeartbeats 1000000
namespace Jo
open PySem PySem.Spec PyProof.Rows L2
/-! ### values of any kind, by their data -/
/-- x is the data d, nested less than n deep -/
def AnyD (H : Hp) : Nat → V → PyData → Prop
  | 0 => fun _ _ => False
  | n + 1 => fun x d =>
    (x = .non ∧ d = .none) ∨ (∃ b, x = .bl b ∧ d = .bool b) ∨ (∃ i, x = .int i ∧ d = .int i) ∨ (∃ z, x = .str z ∧ d = .str z) ∨
    (∃ a xs ds, x = .ref a ∧ d = .list ds ∧ (a == sysModules) = false ∧ H a = some (.lst xs) ∧ Paired (AnyD H n) xs ds) ∨
    (∃ a xs ds, x = .ref a ∧ d = .tuple ds ∧ H a = some (.tup xs) ∧ Paired (AnyD H n) xs ds) ∨
    (∃ a, x = .ref a ∧ d = .dict [] ∧ H a = some (.dK []))
section
variable {H H' : Hp} {n : Nat}
theorem AnyD.non : AnyD H (n + 1) .non .none := .inl ⟨rfl, rfl⟩
theorem AnyD.bl (b : Bool) : AnyD H (n + 1) (.bl b) (.bool b) := .inr (.inl ⟨b, rfl, rfl⟩)
theorem AnyD.int (i : Int) : AnyD H (n + 1) (.int i) (.int i) := .inr (.inr (.inl ⟨i, rfl, rfl⟩))
theorem AnyD.str (z : Str) : AnyD H (n + 1) (.str z) (.str z) := .inr (.inr (.inr (.inl ⟨z, rfl, rfl⟩)))
theorem AnyD.lst {a : Addr} {xs : List V} {ds : List PyData} (ha : (a == sysModules) = false) (h : H a = some (.lst xs)) (p : Paired (AnyD H n) xs ds) : AnyD H (n + 1) (.ref a) (.list ds) :=
  .inr (.inr (.inr (.inr (.inl ⟨a, xs, ds, rfl, rfl, ha, h, p⟩))))
theorem AnyD.tup {a : Addr} {xs : List V} {ds : List PyData} (h : H a = some (.tup xs)) (p : Paired (AnyD H n) xs ds) : AnyD H (n + 1) (.ref a) (.tuple ds) :=
  .inr (.inr (.inr (.inr (.inr (.inl ⟨a, xs, ds, rfl, rfl, h, p⟩)))))
theorem AnyD.dct {a : Addr} (h : H a = some (.dK [])) : AnyD H (n + 1) (.ref a) (.dict []) :=
  .inr (.inr (.inr (.inr (.inr (.inr ⟨a, rfl, rfl, h⟩)))))
end
theorem pairs_imp {α β : Type} {F G : α → β → Prop} (h : ∀ a b, F a b → G a b) : ∀ {xs : List α} {ys : List β}, Paired F xs ys → Paired G xs ys := fun p => by
  induction p with
  | nil => exact .nil
  | cons q _ ih => exact .cons (h _ _ q) ih
theorem AnyD.same {H H' : Hp} (s : Same H H') : ∀ {n : Nat} {x : V} {d : PyData}, AnyD H n x d → AnyD H' n x d
  | 0, _, _, h => (show False from h).elim
  | n + 1, x, d, h => by
    rcases h with h | h | h | h | ⟨a, xs, ds, rfl, rfl, ha, hs, p⟩ | ⟨a, xs, ds, rfl, rfl, hs, p⟩ | ⟨a, rfl, rfl, hd⟩
    · exact .inl h
    · exact .inr (.inl h)
    · exact .inr (.inr (.inl h))
    · exact .inr (.inr (.inr (.inl h)))
    · exact .lst ha (s _ _ hs) (pairs_imp (fun _ _ q => AnyD.same s q) p)
    · exact .tup (s _ _ hs) (pairs_imp (fun _ _ q => AnyD.same s q) p)
    · exact .dct (s _ _ hd)
theorem AnyD.up {H : Hp} : ∀ {n : Nat} {x : V} {d : PyData}, AnyD H n x d → AnyD H (n + 1) x d
  | 0, _, _, h => (show False from h).elim
  | n + 1, x, d, h => by
    rcases h with h | h | h | h | ⟨a, xs, ds, rfl, rfl, ha, hs, p⟩ | ⟨a, xs, ds, rfl, rfl, hs, p⟩ | ⟨a, rfl, rfl, hd⟩
    · exact .inl h
    · exact .inr (.inl h)
    · exact .inr (.inr (.inl h))
    · exact .inr (.inr (.inr (.inl h)))
    · exact .lst ha hs (pairs_imp (fun _ _ q => AnyD.up q) p)
    · exact .tup hs (pairs_imp (fun _ _ q => AnyD.up q) p)
    · exact .dct hd
def intD : PyData → Bool | .int _ => true | _ => false
def strD : PyData → Bool | .str _ => true | _ => false
def stD : PyData → Bool | .int n => decide (0 ≤ n) && decide (n ≤ 99) | _ => false
def nmD : PyData → Bool | .str z => nmS z | _ => false
def tupD : PyData → Bool | .tuple _ => true | _ => false
def evD : PyData → Bool
  | .tuple [.str z] => decide (z = hangE)
  | .tuple [.str w, y] => decide (w ∈ wordsE) && nmD y
  | .tuple [.str w, y, v] => decide (w ∈ wordsE) && (nmD y && intD v)
  | _ => false
def spD : PyData → Bool
  | .tuple [b, e, l] => stD b && (evD e && stD l)
  | _ => false
/-- the texts right in a tuple are short and of good signs -/
def Short (d : PyData) : Prop := ∀ ds z, d = .tuple ds → .str z ∈ ds → z.length ≤ 1000 ∧ PyData.strOk z = true
section
variable {K : PySem.W.Frag} {H : Hp} {n : Nat} {x : V} {d : PyData}
theorem AnyD.any (h : AnyD H n x d) : AnyV K H x ∧ isI x = intD d ∧ isS x = strD d ∧ stB x = stD d ∧ isNm x = nmD d ∧ (∀ z, x = .str z → d = .str z) := by
  cases n with
  | zero => exact (show False from h).elim
  | succ n =>
    rcases h with ⟨rfl, rfl⟩ | ⟨b, rfl, rfl⟩ | ⟨i, rfl, rfl⟩ | ⟨z, rfl, rfl⟩ | ⟨a, xs, ds, rfl, rfl, ha, hs, p⟩ | ⟨a, xs, ds, rfl, rfl, hs, p⟩ | ⟨a, rfl, rfl, hd⟩
    · exact ⟨any_non, rfl, rfl, rfl, rfl, fun z e => by cases e⟩
    · exact ⟨any_bl _, rfl, rfl, rfl, rfl, fun z e => by cases e⟩
    · exact ⟨any_int _, rfl, rfl, rfl, rfl, fun z e => by cases e⟩
    · exact ⟨any_str _, rfl, rfl, rfl, rfl, fun z e => by cases e; rfl⟩
    · exact ⟨any_lst hs, rfl, rfl, rfl, rfl, fun z e => by cases e⟩
    · exact ⟨any_tup hs, rfl, rfl, rfl, rfl, fun z e => by cases e⟩
    · exact ⟨any_dK hd, rfl, rfl, rfl, rfl, fun z e => by cases e⟩
theorem AnyD.tyT (h : AnyD H n x d) : ∃ t, TyX K H x t ∧ PySem.W.kitOne K t (.type "tuple") = some (tupD d) := by
  cases n with
  | zero => exact (show False from h).elim
  | succ n =>
    rcases h with ⟨rfl, rfl⟩ | ⟨b, rfl, rfl⟩ | ⟨i, rfl, rfl⟩ | ⟨z, rfl, rfl⟩ | ⟨a, xs, ds, rfl, rfl, ha, hs, p⟩ | ⟨a, xs, ds, rfl, rfl, hs, p⟩ | ⟨a, rfl, rfl, hd⟩
    · exact ⟨_, .base .non, (kit_ty (by decide +kernel) : PySem.W.kitOne K (.type "NoneType") (.type "tuple") = some false)⟩
    · exact ⟨_, .base (.bl _), (kit_ty (by decide +kernel) : PySem.W.kitOne K (.type "bool") (.type "tuple") = some false)⟩
    · exact ⟨_, .base (.int _), (kit_ty (by decide +kernel) : PySem.W.kitOne K (.type "int") (.type "tuple") = some false)⟩
    · exact ⟨_, .base (.str _), (kit_ty (by decide +kernel) : PySem.W.kitOne K (.type "str") (.type "tuple") = some false)⟩
    · exact ⟨_, .base (.lst hs), (kit_ty (by decide +kernel) : PySem.W.kitOne K (.type "list") (.type "tuple") = some false)⟩
    · exact ⟨_, .base (.tup hs), (kit_ty (by decide +kernel) : PySem.W.kitOne K (.type "tuple") (.type "tuple") = some true)⟩
    · exact ⟨_, .base (.dK hd), (kit_ty (by decide +kernel) : PySem.W.kitOne K (.type "dict") (.type "tuple") = some false)⟩
theorem AnyD.tupled (h : AnyD H n x d) (e : tupD d = true) : ∃ a xs ds, x = .ref a ∧ d = .tuple ds ∧ H a = some (.tup xs) ∧ Paired (AnyD H n) xs ds := by
  cases n with
  | zero => exact (show False from h).elim
  | succ n =>
    rcases h with ⟨rfl, rfl⟩ | ⟨b, rfl, rfl⟩ | ⟨i, rfl, rfl⟩ | ⟨z, rfl, rfl⟩ | ⟨a, xs, ds, rfl, rfl, ha, hs, p⟩ | ⟨a, xs, ds, rfl, rfl, hs, p⟩ | ⟨a, rfl, rfl, hd⟩
    all_goals first | (cases e; done) | skip
    exact ⟨a, xs, ds, rfl, rfl, hs, pairs_imp (fun _ _ q => AnyD.up q) p⟩
end
theorem in_words (w : Str) : inV (.str w) (wordsE.map V.str) = decide (w ∈ wordsE) := by
  unfold inV
  rw [List.any_map, Bool.eq_iff_iff, List.any_eq_true, decide_eq_true_iff]
  constructor
  · rintro ⟨x, hx, h⟩
    have h2 : (x == w) = true := h
    have h3 : x = w := by simpa using h2
    rw [← h3]
    exact hx
  · intro h
    exact ⟨w, h, by show (w == w) = true; exact beq_self_eq_true w⟩
theorem str_shaped {z : Str} (h : PyData.strOk z = true) : SeqAt.shaped (.tuple [.str z]) = true := by
  show ((PyData.canLay0 (.str z) && true) && decide (_ + 1 ≤ 64)) = true
  rw [show PyData.canLay0 (.str z) = true from h]
  rfl
section
variable {P : Program} {w : World} {K : PySem.W.Frag} {mg : Str → Option Value} {base : Heap}
def n_is_event : List Str := ["value"]
theorem sc_is_event : FnScope n_is_event ["value"] (defScope s_is_event) := ⟨rfl, rfl, rfl, by decide +kernel, rfl, by decide +kernel, by decide +kernel⟩
def spIsEvent : Sp := fun vs H Q _ => ∃ (x : V) (d : PyData) (n : Nat), vs = [x] ∧ AnyD H n x d ∧ Short d ∧ ∀ H', Same H H' → Q (.bl (evD d)) H'
theorem ok_is_event (T : Txt K mg) (D : Dfn K mg "is_event" s_is_event ["value"]) (c_is_integer : CalF P w K mg base 1 "is_integer" ["value"] (spIsInt K))
    (c_is_name : CalF P w K mg base 1 "is_name" ["value"] (spIsName K)) : CalF P w K mg base 2 "is_event" ["value"] spIsEvent := by
  refine D.okF sc_is_event (fun vs H Q E h => ?_) (fun f cdv A fr s H vs Q E hr h => ?_)
  · obtain ⟨x, d, n, rfl, _⟩ := h
    rfl
  · obtain ⟨x, d, n, rfl, hx, hsh, q⟩ := h
    obtain ⟨aW, gW, sW⟩ := T.g_WORDS
    obtain ⟨aH, gH, sH⟩ := T.g_HANG_EVENT
    obtain ⟨ty, ht, hk⟩ := hx.tyT (K := K)
    refine ⟨_, pss_cons (ps_if (PW.pt (pw_or (pt_not (pt_val (pe_callB call_isi rfl T.b_isinstance (by decide +kernel) (pa_cons (pv 0) (pa_cons (pe_bltn (v := .ty "tuple") (u := .type "tuple") rfl T.b_tuple (by decide +kernel) rfl) pa_nil))))) (pw_or1 (pt_not (pt_chain op_le op_le pe_int (pe_callB call_len rfl T.b_len (by decide +kernel) (pa_cons (pv 0) pa_nil)) pe_int)))))
        (pss_one (ps_ret pe_bl))
        (pss_nil))
      (pss_cons (ps_if (pt_not (pt_val (pe_callB call_isi rfl T.b_isinstance (by decide +kernel) (pa_cons (pe_ix ix_tup (pv 0) pe_int (fun _ _ => rfl)) (pa_cons (pe_bltn (v := .ty "str") (u := .type "str") rfl T.b_str (by decide +kernel) rfl) pa_nil)))))
        (pss_one (ps_ret pe_bl))
        (pss_nil))
      (pss_cons (ps_if (pt_cmpR op_eq (pe_callB call_len rfl T.b_len (by decide +kernel) (pa_cons (pv 0) pa_nil)) pe_int (nomark _))
        (pss_one (ps_ret (pe_cmpR (op_eqD hr.units) (pv 0) (C8.pe_gc rfl gH) (nomark _))))
        (pss_nil))
      (pss_cons (ps_if (PW.pt (pw_or (pt_cmpR op_notIn_seq (pe_ix ix_tup (pv 0) pe_int (fun _ _ => rfl)) (C8.pe_gc rfl gW) rfl) (pw_or1 (pt_not (pt_val (pe_cF c_is_name hr (by decide) rfl (pa_cons (pe_ix ix_tup (pv 0) pe_int (fun _ _ => rfl)) pa_nil)))))))
        (pss_one (ps_ret pe_bl))
        (pss_nil))
      (pss_one (ps_ret (pe_or (pe_cmpR op_eq (pe_callB call_len rfl T.b_len (by decide +kernel) (pa_cons (pv 0) pa_nil)) pe_int (nomark _)) (pe_one (pe_cF c_is_integer hr (by decide) rfl (pa_cons (pe_ix ix_tup (pv 0) pe_int (fun _ _ => rfl)) pa_nil))))))))), ?_⟩
    refine ⟨_, rfl, _, _, ty, _, tupD d, rfl, .ty "tuple", ht, hk, tupD d, rfl, ?_⟩
    cases hT : tupD d with
    | false =>
      have e : evD d = false := by
        cases d <;> first | rfl | cases hT
      rw [e] at q
      exact iteT (q H (Same.refl _))
    | true =>
      obtain ⟨e, xs, ds, rfl, rfl, he, p⟩ := hx.tupled hT
      have sE : SqT K H e xs := .inl (.inl he)
      have kS : ∀ t : V, ∀ {u : PyData}, AnyD H n t u → ∃ y, TyX K H t y ∧ PySem.W.kitOne K y (.type "str") = some (strD u) := fun t u ht => by
        obtain ⟨⟨y, i, b, s, h1, h2, h3, h4, h5, h6⟩, _, h7, _⟩ := ht.any (K := K)
        exact ⟨y, h1, by rw [h4, h6, h7]⟩
      refine iteF ⟨_, rfl, _, xs.length, rfl, .inr ⟨_, sE, rfl⟩, _, _, rfl, rfl, _, rfl, ?_⟩
      cases p with
      | nil =>
        refine iteF ⟨false, rfl, iteT ?_⟩
        exact q H (Same.refl _)
      | @cons x0 d0 xs1 ds1 p0 p1 =>
        rw [decide_eq_true (show (1 : Int) ≤ ((x0 :: xs1).length : Int) by rw [List.length_cons]; omega)]
        refine iteT ⟨_, _, rfl, rfl, _, rfl, ?_⟩
        obtain ⟨y0, t0, k0⟩ := kS x0 p0
        have at0 : atI (x0 :: xs1) 0 = some x0 := atI_nat (j := 0) rfl
        have noS : strD d0 = false → evD (.tuple (d0 :: ds1)) = false := fun z => by
          cases d0 <;> first | (cases z; done) | (cases ds1 with | nil => rfl | cons a r => cases r with | nil => rfl | cons b r => cases r <;> rfl)
        by_cases h3 : xs1.length ≤ 2
        · rw [decide_eq_true (show ((x0 :: xs1).length : Int) ≤ 3 by rw [List.length_cons]; omega)]
          refine iteF ⟨_, rfl, e, _, 0, x0, rfl, rfl, sE, at0, _, _, y0, _, strD d0, rfl, .ty "str", t0, k0, strD d0, rfl, ?_⟩
          cases hS : strD d0 with
          | false =>
            rw [noS hS] at q
            exact iteT (q H (Same.refl _))
          | true =>
            obtain ⟨z, rfl⟩ : ∃ z, d0 = .str z := by cases d0 <;> first | (cases hS; done) | exact ⟨_, rfl⟩
            have hx0 : x0 = .str z := by
              cases n with
              | zero => exact (show False from p0).elim
              | succ n =>
                rcases p0 with ⟨_, e⟩ | ⟨b, _, e⟩ | ⟨i, _, e⟩ | ⟨z', rfl, e⟩ | ⟨a, xs, ds, _, e, _⟩ | ⟨a, xs, ds, _, e, _⟩ | ⟨a, _, e, _⟩
                all_goals first | (cases e; done) | skip
                cases e
                rfl
            subst hx0
            obtain ⟨hz1, hz2⟩ := hsh _ z rfl List.mem_cons_self
            refine iteF ?_
            cases p1 with
            | nil =>
              refine ⟨_, rfl, _, 1, rfl, .inr ⟨_, sE, rfl⟩, rfl, true, rfl, iteT ?_⟩
              refine ⟨_, rfl, .tuple [.str z], .tuple [.str hangE], .tup sE (.cons (.str _) .nil), .tup (sH H) (.cons (.str _) .nil), str_shaped hz2, by decide +kernel, ?_⟩
              have ez : PyData.eqv (.tuple [.str z]) (.tuple [.str hangE]) = evD (.tuple [.str z]) := by
                show ((z == hangE) && true) = decide (z = hangE)
                rw [Bool.and_true, Bool.eq_iff_iff]
                simp
              rw [ez]
              exact q H (Same.refl _)
            | @cons x1 d1 xs2 ds2 p1 p2 =>
              have hne : decide (V.int ((V.str z :: x1 :: xs2).length : Int) = V.int 1) = false := decide_eq_false fun e => by
                have := V.int.inj e
                rw [List.length_cons, List.length_cons] at this
                omega
              refine ⟨_, rfl, _, _, rfl, .inr ⟨_, sE, rfl⟩, rfl, false, (by rw [hne]), iteF ?_⟩
              refine ⟨_, rfl, e, _, 0, _, rfl, rfl, sE, at0, aW, _, rfl, .inr (sW H), rfl, rfl, _, rfl, ?_⟩
              show if (!inV (.str z) (wordsE.map V.str)) = true then _ else _
              rw [in_words]
              by_cases hw : z ∈ wordsE
              · rw [decide_eq_true hw]
                obtain ⟨v1, _, _, _, nm1, st1⟩ := p1.any (K := K)
                refine iteF ⟨_, rfl, e, _, 1, x1, rfl, rfl, sE, atI_nat (j := 1) rfl, x1, rfl, v1, (fun y ey => (hsh _ y rfl (List.mem_cons_of_mem _ (by rw [st1 y ey]; exact List.mem_cons_self))).1), fun H1 s1 => ?_⟩
                refine ⟨_, rfl, ?_⟩
                rw [nm1]
                cases hn : nmD d1 with
                | false =>
                  refine iteT ?_
                  have e0 : evD (.tuple (.str z :: d1 :: ds2)) = false := by
                    cases ds2 with
                    | nil => show (decide (z ∈ wordsE) && nmD d1) = false; rw [hn, Bool.and_false]
                    | cons a r => cases r with
                      | nil => show (decide (z ∈ wordsE) && (nmD d1 && intD a)) = false; rw [hn, Bool.false_and, Bool.and_false]
                      | cons b r => rfl
                  rw [e0] at q
                  exact q H1 s1
                | true =>
                  refine iteF ?_
                  have sE1 : SqT K H1 e (V.str z :: x1 :: xs2) := same_seqT s1 sE
                  cases p2 with
                  | nil =>
                    refine ⟨_, rfl, _, 2, rfl, .inr ⟨_, sE1, rfl⟩, rfl, true, rfl, iteT ?_⟩
                    have e0 : evD (.tuple [.str z, d1]) = true := by show (decide (z ∈ wordsE) && nmD d1) = true; rw [hn, decide_eq_true hw]; rfl
                    rw [e0] at q
                    exact q H1 s1
                  | @cons x2 d2 xs3 ds3 p2 p3 =>
                    cases p3 with
                    | nil =>
                      obtain ⟨v2, i2, _⟩ := p2.any (K := K)
                      refine ⟨_, rfl, _, 3, rfl, .inr ⟨_, sE1, rfl⟩, rfl, false, rfl, iteF ?_⟩
                      refine ⟨_, rfl, e, _, 2, x2, rfl, rfl, sE1, atI_nat (j := 2) rfl, x2, rfl, ?_, ?_⟩
                      · exact ((p2.same s1).any (K := K)).1
                      · have e0 : evD (.tuple [.str z, d1, d2]) = isI x2 := by show (decide (z ∈ wordsE) && (nmD d1 && intD d2)) = _; rw [hn, decide_eq_true hw, i2]; rfl
                        rw [e0] at q
                        exact q H1 s1
                    | cons p3 p4 =>
                      rw [List.length_cons, List.length_cons, List.length_cons] at h3
                      omega
              · rw [decide_eq_false hw]
                refine iteT ?_
                have e0 : evD (.tuple (.str z :: d1 :: ds2)) = false := by
                  cases ds2 with
                  | nil => show (decide (z ∈ wordsE) && nmD d1) = false; rw [decide_eq_false hw, Bool.false_and]
                  | cons a r => cases r with
                    | nil => show (decide (z ∈ wordsE) && (nmD d1 && intD a)) = false; rw [decide_eq_false hw, Bool.false_and]
                    | cons b r => rfl
                rw [e0] at q
                exact q H (Same.refl _)
        · rw [decide_eq_false (show ¬ ((x0 :: xs1).length : Int) ≤ 3 by rw [List.length_cons]; omega)]
          refine iteT ?_
          have e0 : evD (.tuple (d0 :: ds1)) = false := by
            have hl := p1.length
            cases ds1 with
            | nil => rw [List.length_nil] at hl; omega
            | cons a r => cases r with
              | nil => rw [List.length_cons, List.length_nil] at hl; omega
              | cons b r => cases r with
                | nil => rw [List.length_cons, List.length_cons, List.length_nil] at hl; omega
                | cons c r => cases d0 <;> rfl
          rw [e0] at q
          exact q H (Same.refl _)
end
end Jo

set_option Elab.async false
set_option linter.all false
set_option maxRecDepth 100000
set_option maxHeartbeats 1000000
namespace Jo
open PySem PySem.Spec PyProof.Rows L2
/-! ### the errors -/
section
variable {P : Program} {w : World} {K : PySem.W.Frag} {mg : Str → Option Value} {base : Heap} {C : Addr}
theorem sc_iV : FnScope ["self", "value"] ["self", "value"] (defScope i_InvalidValue) := ⟨rfl, rfl, rfl, by decide +kernel, rfl, by decide +kernel, by decide +kernel⟩
theorem sc_iM : FnScope ["self", "value"] ["self", "value"] (defScope i_InvalidMove) := ⟨rfl, rfl, rfl, by decide +kernel, rfl, by decide +kernel, by decide +kernel⟩
theorem sc_iS : FnScope ["self", "index"] ["self", "index"] (defScope i_InvalidSteps) := ⟨rfl, rfl, rfl, by decide +kernel, rfl, by decide +kernel, by decide +kernel⟩
theorem sc_iB : FnScope ["self", "index"] ["self", "index"] (defScope i_InvalidBad) := ⟨rfl, rfl, rfl, by decide +kernel, rfl, by decide +kernel, by decide +kernel⟩
theorem ini_V (D : Mth K C "__init__" "InvalidValue.__init__" i_InvalidValue ["self", "value"]) (T : OexC K C) (n0 : PySem.W.findIn K (.ref C) "value" = some none) : MtF P w K mg base 1 C "__init__" ["self", "value"] (spIni C "value") := by
  refine D.okF sc_iV (fun vs H Q E h => ?_) (fun f cdv A fr s H vs Q E hr h => ?_)
  · obtain ⟨a, y, rfl, _⟩ := h
    rfl
  · obtain ⟨a, y, rfl, ha, q⟩ := h
    exact ⟨_, pss_one (ps_ost (pv 0) (pv 1)), _, rfl, _, rfl, a, C, rfl, T, n0, .inl ⟨ha, fun dx hd nd => q dx hd nd⟩⟩
theorem ini_M (D : Mth K C "__init__" "InvalidMove.__init__" i_InvalidMove ["self", "value"]) (T : OexC K C) (n0 : PySem.W.findIn K (.ref C) "value" = some none) : MtF P w K mg base 1 C "__init__" ["self", "value"] (spIni C "value") := by
  refine D.okF sc_iM (fun vs H Q E h => ?_) (fun f cdv A fr s H vs Q E hr h => ?_)
  · obtain ⟨a, y, rfl, _⟩ := h
    rfl
  · obtain ⟨a, y, rfl, ha, q⟩ := h
    exact ⟨_, pss_one (ps_ost (pv 0) (pv 1)), _, rfl, _, rfl, a, C, rfl, T, n0, .inl ⟨ha, fun dx hd nd => q dx hd nd⟩⟩
theorem ini_S (D : Mth K C "__init__" "InvalidSteps.__init__" i_InvalidSteps ["self", "index"]) (T : OexC K C) (n0 : PySem.W.findIn K (.ref C) "index" = some none) : MtF P w K mg base 1 C "__init__" ["self", "index"] (spIni C "index") := by
  refine D.okF sc_iS (fun vs H Q E h => ?_) (fun f cdv A fr s H vs Q E hr h => ?_)
  · obtain ⟨a, y, rfl, _⟩ := h
    rfl
  · obtain ⟨a, y, rfl, ha, q⟩ := h
    exact ⟨_, pss_one (ps_ost (pv 0) (pv 1)), _, rfl, _, rfl, a, C, rfl, T, n0, .inl ⟨ha, fun dx hd nd => q dx hd nd⟩⟩
theorem ini_B (D : Mth K C "__init__" "InvalidBad.__init__" i_InvalidBad ["self", "index"]) (T : OexC K C) (n0 : PySem.W.findIn K (.ref C) "index" = some none) : MtF P w K mg base 1 C "__init__" ["self", "index"] (spIni C "index") := by
  refine D.okF sc_iB (fun vs H Q E h => ?_) (fun f cdv A fr s H vs Q E hr h => ?_)
  · obtain ⟨a, y, rfl, _⟩ := h
    rfl
  · obtain ⟨a, y, rfl, ha, q⟩ := h
    exact ⟨_, pss_one (ps_ost (pv 0) (pv 1)), _, rfl, _, rfl, a, C, rfl, T, n0, .inl ⟨ha, fun dx hd nd => q dx hd nd⟩⟩
end
/-! ### data of rows -/
def toD : V → PyData | .str z => .str z | .int i => .int i | _ => .none
def rowD (r : Row) : PyData := .tuple [.int r.b, .tuple (r.vs.map toD), .int r.l]
theorem strOk_nm {z : Str} (h : nmS z = true) : PyData.strOk z = true := by
  unfold nmS at h
  rw [Bool.and_eq_true, Bool.and_eq_true (b := (List.map _ _).all id)] at h
  have h2 := h.2.2
  rw [List.all_eq_true] at h2
  unfold PyData.strOk
  rw [Array.all_eq_true]
  intro i hi
  have h3 := h2 (decide (z.cps.getD i 0 ∈ signs.cps.toList)) (List.mem_map.mpr ⟨i, List.mem_range.mpr hi, rfl⟩)
  have h4 : z.cps.getD i 0 ∈ signs.cps.toList := of_decide_eq_true h3
  have h5 : z.cps.getD i 0 = z.cps[i] := by simp [Array.getD_eq_getD_getElem?, hi]
  rw [h5] at h4
  have h6 : ∀ c ∈ signs.cps.toList, c < 0x110000 := by decide +kernel
  exact decide_eq_true (h6 _ h4)
theorem words_short : ∀ w ∈ wordsE, w.length ≤ 1000 ∧ PyData.strOk w = true := by decide +kernel
theorem EvS.data {xs : List V} (h : EvS xs) : evD (.tuple (xs.map toD)) = true ∧ Short (.tuple (xs.map toD)) := by
  cases h with
  | hang =>
    refine ⟨by decide +kernel, fun ds z e m => ?_⟩
    cases e
    have e2 : z = hangE := by simpa [toD] using m
    rw [e2]
    decide +kernel
  | @two w n hw hn hl =>
    refine ⟨?_, fun ds z e m => ?_⟩
    · show (decide (w ∈ wordsE) && nmS n) = true
      rw [decide_eq_true hw, hn]
      rfl
    · cases e
      have e2 : z = w ∨ z = n := by simpa [toD] using m
      rcases e2 with rfl | rfl
      · exact words_short _ hw
      · exact ⟨by omega, strOk_nm hn⟩
  | @three w n v hw hn hl hv =>
    refine ⟨?_, fun ds z e m => ?_⟩
    · show (decide (w ∈ wordsE) && (nmS n && true)) = true
      rw [decide_eq_true hw, hn]
      rfl
    · cases e
      have e2 : z = w ∨ z = n := by simpa [toD] using m
      rcases e2 with rfl | rfl
      · exact words_short _ hw
      · exact ⟨by omega, strOk_nm hn⟩
theorem EvS.anyd {H : Hp} {n : Nat} {xs : List V} (h : EvS xs) : Paired (AnyD H (n + 1)) xs (xs.map toD) := by
  cases h with
  | hang => exact .cons (.str _) .nil
  | two h1 h2 h3 => exact .cons (.str _) (.cons (.str _) .nil)
  | three h1 h2 h3 h4 => exact .cons (.str _) (.cons (.str _) (.cons (.int _) .nil))
theorem RowAt.anyd {H : Hp} {r : Row} (R : RowAt H r) : AnyD H 3 (.ref r.t) (rowD r) := .tup R.row (.cons (.int _) (.cons (.tup R.ev R.ok.anyd) (.cons (.int _) .nil)))
/-- what stands in a tuple is short -/
def Short2 (d : PyData) : Prop := ∀ ds y, d = .tuple ds → y ∈ ds → Short y
theorem short_int (i : Int) : Short (.int i) := fun _ _ e => by cases e
theorem RowAt.data {H : Hp} {r : Row} (R : RowAt H r) : spD (rowD r) = true ∧ Short2 (rowD r) := by
  refine ⟨?_, fun ds y e m => ?_⟩
  · show ((decide (0 ≤ r.b) && decide (r.b ≤ 99)) && (evD (.tuple (r.vs.map toD)) && (decide (0 ≤ r.l) && decide (r.l ≤ 99)))) = true
    rw [R.ok.data.1, decide_eq_true R.b0, decide_eq_true R.b1, decide_eq_true R.l0, decide_eq_true R.l1]
    rfl
  · cases e
    rcases List.mem_cons.mp m with rfl | m
    · exact short_int _
    rcases List.mem_cons.mp m with rfl | m
    · exact R.ok.data.2
    rcases List.mem_cons.mp m with rfl | m
    · exact short_int _
    · cases m
section
variable {P : Program} {w : World} {K : PySem.W.Frag} {mg : Str → Option Value} {base : Heap} {C : Addr}
def fullD : PyData → Bool
  | .tuple ds => evD (.tuple ds) && decide (ds.length ≠ 2)
  | _ => false
def n_is_full_event : List Str := ["value"]
theorem sc_is_full_event : FnScope n_is_full_event ["value"] (defScope s_is_full_event) := ⟨rfl, rfl, rfl, by decide +kernel, rfl, by decide +kernel, by decide +kernel⟩
def spIsFull : Sp := fun vs H Q _ => ∃ (x : V) (d : PyData) (n : Nat), vs = [x] ∧ AnyD H n x d ∧ Short d ∧ ∀ H', Same H H' → Q (.bl (fullD d)) H'
theorem ok_is_full_event (T : Txt K mg) (D : Dfn K mg "is_full_event" s_is_full_event ["value"]) (c_is_event : CalF P w K mg base 2 "is_event" ["value"] spIsEvent) :
    CalF P w K mg base 3 "is_full_event" ["value"] spIsFull := by
  refine D.okF sc_is_full_event (fun vs H Q E h => ?_) (fun f cdv A fr s H vs Q E hr h => ?_)
  · obtain ⟨x, d, n, rfl, _⟩ := h
    rfl
  · obtain ⟨x, d, n, rfl, hx, hs, q⟩ := h
    refine ⟨_, pss_one (ps_ret (pe_and (pe_cF c_is_event hr (by decide) rfl (pa_cons (pv 0) pa_nil)) (pe_one (pe_cmpR op_ne (pe_callB call_len rfl T.b_len (by decide +kernel) (pa_cons (pv 0) pa_nil)) pe_int (nomark _))))), ?_⟩
    refine ⟨_, rfl, x, d, n, rfl, hx, hs, fun H1 s1 => ⟨evD d, rfl, ?_⟩⟩
    cases he : evD d with
    | false =>
      have e : fullD d = false := by
        cases d with
        | tuple ds => exact (congrArg (fun z => z && decide (ds.length ≠ 2)) he).trans (Bool.false_and _)
        | _ => rfl
      rw [e] at q
      exact iteF (q H1 s1)
    | true =>
      have hT : tupD d = true := by cases d <;> first | rfl | cases he
      obtain ⟨a, xs, ds, rfl, rfl, ha, p⟩ := hx.tupled hT
      refine iteT ⟨_, rfl, _, xs.length, rfl, .inr ⟨_, .inl (.inl (s1 _ _ ha)), rfl⟩, rfl, ?_⟩
      have e : fullD (.tuple ds) = !decide (V.int (xs.length : Int) = V.int 2) := by
        show (evD (.tuple ds) && decide (ds.length ≠ 2)) = _
        rw [he, Bool.true_and, ← p.length]
        by_cases h2 : xs.length = 2
        · rw [h2]; rfl
        · rw [decide_eq_true h2, decide_eq_false (fun z => h2 (by have := V.int.inj z; omega))]; rfl
      rw [e] at q
      exact q H1 s1
theorem pairs3 {α β : Type} {F : α → β → Prop} {xs : List α} {ds : List β} (p : Paired F xs ds) (h : xs.length = 3) : ∃ x0 x1 x2 d0 d1 d2, xs = [x0, x1, x2] ∧ ds = [d0, d1, d2] ∧ F x0 d0 ∧ F x1 d1 ∧ F x2 d2 := by
  cases p with
  | nil => cases h
  | cons p0 p => cases p with
    | nil => cases h
    | cons p1 p => cases p with
      | nil => cases h
      | cons p2 p => cases p with
        | nil => exact ⟨_, _, _, _, _, _, rfl, rfl, p0, p1, p2⟩
        | cons _ _ => simp at h
def n_is_step : List Str := ["value", "before", "event", "behind"]
theorem sc_is_step : FnScope n_is_step ["value"] (defScope s_is_step) := ⟨rfl, rfl, rfl, by decide +kernel, rfl, by decide +kernel, by decide +kernel⟩
def spIsStep : Sp := fun vs H Q _ => ∃ (x : V) (d : PyData) (n : Nat), vs = [x] ∧ AnyD H n x d ∧ Short2 d ∧ ∀ H', Same H H' → Q (.bl (spD d)) H'
theorem ok_is_step (T : Txt K mg) (D : Dfn K mg "is_step" s_is_step ["value"]) (c_is_event : CalF P w K mg base 2 "is_event" ["value"] spIsEvent) (c_is_state : CalF P w K mg base 2 "is_state" ["value"] (spIsState K)) :
    CalF P w K mg base 3 "is_step" ["value"] spIsStep := by
  refine D.okF sc_is_step (fun vs H Q E h => ?_) (fun f cdv A fr s H vs Q E hr h => ?_)
  · obtain ⟨x, d, n, rfl, _⟩ := h
    rfl
  · obtain ⟨x, d, n, rfl, hx, hs, q⟩ := h
    obtain ⟨ty, ht, hk⟩ := hx.tyT (K := K)
    refine ⟨_, pss_cons (ps_if (PW.pt (pw_or (pt_not (pt_val (pe_callB call_isi rfl T.b_isinstance (by decide +kernel) (pa_cons (pv 0) (pa_cons (pe_bltn (v := .ty "tuple") (u := .type "tuple") rfl T.b_tuple (by decide +kernel) rfl) pa_nil))))) (pw_or1 (pt_cmpR op_ne (pe_callB call_len rfl T.b_len (by decide +kernel) (pa_cons (pv 0) pa_nil)) pe_int (nomark _)))))
        (pss_one (ps_ret pe_bl))
        (pss_nil))
      (pss_cons (ps_asg (pv 0) (pg_tup rfl (pgs_cons (pg_name (i := 1) sc_is_step.nd rfl (.inl rfl)) (pgs_cons (pg_name (i := 2) sc_is_step.nd rfl (.inl rfl)) (pgs_cons (pg_name (i := 3) sc_is_step.nd rfl (.inl rfl)) pgs_nil)))))
      (pss_one (ps_ret (pe_and (pe_cF c_is_state hr (by decide) rfl (pa_cons (pv 1) pa_nil)) (pe_and (pe_cF c_is_event hr (by decide) rfl (pa_cons (pv 2) pa_nil)) (pe_one (pe_cF c_is_state hr (by decide) rfl (pa_cons (pv 3) pa_nil)))))))), ?_⟩
    refine ⟨_, rfl, _, _, ty, _, tupD d, rfl, .ty "tuple", ht, hk, tupD d, rfl, ?_⟩
    cases hT : tupD d with
    | false =>
      have e : spD d = false := by cases d <;> first | rfl | cases hT
      rw [e] at q
      exact iteT (q H (Same.refl _))
    | true =>
      obtain ⟨a, xs, ds, rfl, rfl, ha, p⟩ := hx.tupled hT
      have sT : SqT K H a xs := .inl (.inl ha)
      refine iteF ⟨_, rfl, _, xs.length, rfl, .inr ⟨_, sT, rfl⟩, rfl, ?_⟩
      by_cases h3 : xs.length = 3
      · refine ⟨false, (by rw [h3] <;> rfl), iteF ?_⟩
        obtain ⟨x0, x1, x2, d0, d1, d2, rfl, rfl, p0, p1, p2⟩ := pairs3 p h3
        · clear hx ht hk
          refine ⟨_, rfl, a, _, rfl, sT, rfl, _, _, rfl, _, _, rfl, _, _, rfl, rfl, ?_⟩
          obtain ⟨v0, _, _, b0, _⟩ := p0.any (K := K)
          have eq : spD (.tuple [d0, d1, d2]) = (stD d0 && (evD d1 && stD d2)) := rfl
          rw [eq] at q
          refine ⟨_, rfl, x0, rfl, v0, _, rfl, ?_⟩
          rw [b0]
          cases h0 : stD d0 with
          | false =>
            rw [h0] at q
            exact iteF (q H (Same.refl _))
          | true =>
            rw [h0] at q
            refine iteT ⟨_, rfl, x1, d1, n, rfl, p1, hs _ d1 rfl (by simp), fun H1 s1 => ⟨evD d1, rfl, ?_⟩⟩
            cases h1 : evD d1 with
            | false =>
              rw [h1] at q
              exact iteF (q H1 s1)
            | true =>
              rw [h1] at q
              obtain ⟨v2, _, _, b2, _⟩ := (p2.same s1).any (K := K)
              refine iteT ⟨_, rfl, x2, rfl, v2, ?_⟩
              rw [b2]
              exact q H1 s1
      · have e : (!decide (V.int (xs.length : Int) = V.int 3)) = true := by rw [decide_eq_false (fun z => h3 (by have := V.int.inj z; omega))]; rfl
        refine ⟨true, (by rw [e]), iteT ?_⟩
        have e0 : spD (.tuple ds) = false := by
          have hl := p.length
          match ds with
          | [] => rfl
          | [_] => rfl
          | [_, _] => rfl
          | [_, _, _] => exact absurd hl h3
          | _ :: _ :: _ :: _ :: _ => rfl
        rw [e0] at q
        exact q H (Same.refl _)
end
end Jo

set_option Elab.async false
set_option linter.all false
set_option maxRecDepth 100000
set_option maxHeartbeats 1000000
namespace Jo
open PySem PySem.Spec PyProof.Rows L2
/-! ### the mathematics -/
/-- the pattern is the event's beginning -/
def fitsB (p h : List V) : Bool := decide (h.take p.length = p)
def nextS (L : List Row) (ms : List Int) (st : Int) (h : List V) : Int :=
  if st ∈ ms then st else match L.find? fun r => decide (r.b = st) && fitsB r.vs h with | some r => r.l | none => st
/-- flat values as data -/
def fl : V → Bool | .str z => PyData.strOk z | .int _ => true | _ => false
theorem eqv_toD {x y : V} (hx : fl x = true) (hy : fl y = true) : PyData.eqv (toD x) (toD y) = decide (x = y) := by
  cases x <;> cases y <;> first
    | (exfalso; cases hx; done)
    | (exfalso; cases hy; done)
    | (rename_i i j; show (i == j) = _; rw [Bool.eq_iff_iff]; simp; done)
    | (rename_i i j; show false = _; simp; done)
theorem eqvAll_toD : ∀ {xs ys : List V}, xs.all fl = true → ys.all fl = true → PyData.eqvAll (xs.map toD) (ys.map toD) = decide (xs = ys)
  | [], [], _, _ => by simp [PyData.eqvAll]
  | [], y :: ys, _, _ => by simp [PyData.eqvAll]
  | x :: xs, [], _, _ => by simp [PyData.eqvAll]
  | x :: xs, y :: ys, h1, h2 => by
    rw [List.all_cons, Bool.and_eq_true] at h1 h2
    show (PyData.eqv (toD x) (toD y) && PyData.eqvAll (xs.map toD) (ys.map toD)) = _
    rw [eqv_toD h1.1 h2.1, eqvAll_toD h1.2 h2.2, Bool.eq_iff_iff]
    simp
theorem dpAll_toD {K : PySem.W.Frag} {H : Hp} : ∀ {xs : List V}, xs.all fl = true → DpAll K H xs (xs.map toD)
  | [], _ => .nil
  | x :: xs, h => by
    rw [List.all_cons, Bool.and_eq_true] at h
    refine .cons ?_ (dpAll_toD h.2)
    cases x <;> first | (cases h.1; done) | exact .int _ | exact .str _
theorem depth_toD : ∀ xs : List V, PyData.depthAll (xs.map toD) = 0
  | [] => rfl
  | x :: xs => by
    show max (PyData.depth (toD x)) (PyData.depthAll (xs.map toD)) = 0
    rw [depth_toD xs]
    cases x <;> rfl
theorem lay_toD : ∀ {xs : List V}, xs.all fl = true → PyData.canLayAll0 (xs.map toD) = true
  | [], _ => rfl
  | x :: xs, h => by
    rw [List.all_cons, Bool.and_eq_true] at h
    show (PyData.canLay0 (toD x) && PyData.canLayAll0 (xs.map toD)) = true
    rw [lay_toD h.2, Bool.and_true]
    cases x <;> first | (cases h.1; done) | rfl | exact h.1
theorem shaped_toD {xs : List V} (h : xs.all fl = true) : SeqAt.shaped (.tuple (xs.map toD)) = true := by
  show (PyData.canLayAll0 (xs.map toD) && decide (PyData.depthAll (xs.map toD) + 1 ≤ 64)) = true
  rw [lay_toD h, depth_toD]
  rfl
theorem all_take {xs : List V} {n : Nat} (h : xs.all fl = true) : (xs.take n).all fl = true := by
  rw [List.all_eq_true] at h ⊢
  exact fun x hx => h x (List.mem_of_mem_take hx)
theorem EvS.fl {xs : List V} (h : EvS xs) : xs.all fl = true := by
  have hw : ∀ w ∈ wordsE, PyData.strOk w = true := by decide +kernel
  cases h with
  | hang => decide +kernel
  | two h1 h2 h3 => simp [Jo.fl, hw _ h1, strOk_nm h2]
  | three h1 h2 h3 h4 => simp [Jo.fl, hw _ h1, strOk_nm h2]
theorem EvS.len {xs : List V} (h : EvS xs) : xs.length ≤ 3 := by cases h <;> simp
theorem cut_take (xs : List V) (n : Nat) : cutV xs none (some (n : Int)) = xs.take n := by
  unfold cutV
  rw [HT.sIx_none, HT.sIx_nat, List.drop_zero, Nat.sub_zero]
  by_cases h : n ≤ xs.length
  · rw [Nat.min_eq_left h]
  · rw [Nat.min_eq_right (by omega), List.take_of_length_le (Nat.le_refl _), List.take_of_length_le (by omega)]
/-- a rule as it stands -/
structure RuleAt (C : Addr) (H : Hp) (o S M : Addr) (L : List Row) (ms : List Int) : Prop where
  ob : ∃ dx, H o = some (.ins C dx (putF "bad" (.ref M) (putF "steps" (.ref S) [])))
  st : H S = some (.tup (L.map fun r => .ref r.t))
  bd : H M = some (.tup (ms.map V.int))
  rows : ∀ r ∈ L, RowAt H r
theorem RuleAt.same {C : Addr} {H H' : Hp} {o S M : Addr} {L : List Row} {ms : List Int} (h : RuleAt C H o S M L ms) (s : Same H H') : RuleAt C H' o S M L ms :=
  ⟨let ⟨dx, e⟩ := h.ob; ⟨dx, s _ _ e⟩, s _ _ h.st, s _ _ h.bd, fun r hr => (h.rows r hr).same s⟩
theorem kSB : ¬ (("steps" : Str) = "bad") := by decide +kernel
theorem fld_steps (S M : Addr) : (putF "bad" (.ref M) (putF "steps" (.ref S) []) : List (Str × V)).lookup ("steps" : Str) = some (.ref S) := by
  rw [lookup_putF, if_neg kSB, lookup_putF, if_pos rfl]
theorem fld_bad (S M : Addr) : (putF "bad" (.ref M) (putF "steps" (.ref S) []) : List (Str × V)).lookup ("bad" : Str) = some (.ref M) := by
  rw [lookup_putF, if_pos rfl]
theorem fld_no (S M : Addr) {m : Str} (h1 : ¬ m = "bad") (h2 : ¬ m = "steps") : (putF "bad" (.ref M) (putF "steps" (.ref S) []) : List (Str × V)).lookup m = none := by
  rw [lookup_putF, if_neg h1, lookup_putF, if_neg h2]
  all_goals rfl
/-- what the class is, as the top has made it -/
structure RTxt (K : PySem.W.Frag) (mg : Str → Option Value) (C : Addr) : Prop where
  cl : Cls K C
  nS : NoAttr K C "steps"
  nB : NoAttr K C "bad"
  mgC : mg "Rule" = some (.ref C)

section
variable {P : Program} {w : World} {K : PySem.W.Frag} {mg : Str → Option Value} {base : Heap} {C Cs Cb Cv Cm : Addr}
def n_check_steps : List Str := ["steps", "index", "step"]
theorem sc_check_steps : FnScope n_check_steps ["steps"] (defScope s_check_steps) := ⟨rfl, rfl, rfl, by decide +kernel, rfl, by decide +kernel, by decide +kernel⟩
/-- x is no tuple -/
def NoTup (H : Hp) (x : V) : Prop := x = .non ∨ (∃ b, x = .bl b) ∨ (∃ i, x = .int i) ∨ (∃ z, x = .str z) ∨ (∃ a xs, x = .ref a ∧ H a = some (.lst xs)) ∨ ∃ a kvs, x = .ref a ∧ H a = some (.dK kvs)
theorem NoTup.ty {H : Hp} {x : V} (h : NoTup H x) : ∃ t, TyX K H x t ∧ PySem.W.kitOne K t (.type "tuple") = some false := by
  rcases h with rfl | ⟨b, rfl⟩ | ⟨i, rfl⟩ | ⟨z, rfl⟩ | ⟨a, xs, rfl, e⟩ | ⟨a, kvs, rfl, e⟩
  · exact ⟨_, .base .non, kit_ty (by decide +kernel)⟩
  · exact ⟨_, .base (.bl _), kit_ty (by decide +kernel)⟩
  · exact ⟨_, .base (.int _), kit_ty (by decide +kernel)⟩
  · exact ⟨_, .base (.str _), kit_ty (by decide +kernel)⟩
  · exact ⟨_, .base (.lst e), kit_ty (by decide +kernel)⟩
  · exact ⟨_, .base (.dK e), kit_ty (by decide +kernel)⟩
theorem NoTup.same {H H' : Hp} {x : V} (h : NoTup H x) (s : Same H H') : NoTup H' x := by
  rcases h with rfl | h | h | h | ⟨a, xs, rfl, e⟩ | ⟨a, kvs, rfl, e⟩
  · exact .inl rfl
  · exact .inr (.inl h)
  · exact .inr (.inr (.inl h))
  · exact .inr (.inr (.inr (.inl h)))
  · exact .inr (.inr (.inr (.inr (.inl ⟨a, xs, rfl, s _ _ e⟩))))
  · exact .inr (.inr (.inr (.inr (.inr ⟨a, kvs, rfl, s _ _ e⟩))))
def spCheckSteps (Cs : Addr) : Sp := fun vs H Q E => ∃ x : V, vs = [x] ∧
  ((NoTup H x ∧ ∀ H' d, Same H H' → H' d = some (.xd [("index", .non)]) → E (.ref Cs) (some d) H') ∨
    ∃ (S : Addr) (L : List Row) (rest : List V), x = .ref S ∧ H S = some (.tup ((L.map fun r => .ref r.t) ++ rest)) ∧ (∀ r ∈ L, RowAt H r) ∧
      ((rest = [] ∧ ∀ H', Same H H' → Q .non H') ∨ ∃ (y : V) (d : PyData) (n : Nat) (zs : List V), rest = y :: zs ∧ AnyD H n y d ∧ Short2 d ∧ spD d = false ∧
        ∀ H' dx, Same H H' → H' dx = some (.xd [("index", .int (L.length : Int))]) → E (.ref Cs) (some dx) H'))
theorem ok_check_steps (T : Txt K mg) (D : Dfn K mg "check_steps" s_check_steps ["steps"]) (c_S : ErX P w K mg base "InvalidSteps" Cs "index") (c_is_step : CalF P w K mg base 3 "is_step" ["value"] spIsStep) :
    CalX P w K mg base 4 "check_steps" ["steps"] (spCheckSteps Cs) := by
  refine D.okX sc_check_steps (fun vs H Q E h => ?_) (fun f cdv A fr s H vs Q E hr h => ?_)
  · obtain ⟨x, rfl, _⟩ := h
    rfl
  · obtain ⟨x, rfl, h⟩ := h
    refine ⟨_, pss_cons (ps_if (pt_not (pt_val (pe_callB call_isi rfl T.b_isinstance (by decide +kernel) (pa_cons (pv 0) (pa_cons (pe_bltn (v := .ty "tuple") (u := .type "tuple") rfl T.b_tuple (by decide +kernel) rfl) pa_nil)))))
        (pss_one (ps_rs c_S hr (by decide) rfl (L2N.takes_of rfl rfl rfl rfl) rfl pe_non))
        (pss_nil))
      (pss_one (ps_for (passes_of rfl) rfl (pi_enumT rfl T.b_enumerate (pa_cons (pv 0) pa_nil)) (pg_tup rfl (pgs_cons (pg_name (i := 1) sc_check_steps.nd rfl (.inl rfl)) (pgs_cons (pg_name (i := 2) sc_check_steps.nd rfl (.inl rfl)) pgs_nil)))
        (pss_one (ps_if (pt_not (pt_val (pe_cF c_is_step hr (by decide) rfl (pa_cons (pv 2) pa_nil))))
            (pss_one (ps_rs c_S hr (by decide) rfl (L2N.takes_of rfl rfl rfl rfl) rfl (pv 1)))
            (pss_nil))))), ?_⟩
    rcases h with ⟨hn, q⟩ | ⟨S, L, rest, rfl, hS, hL, h⟩
    · obtain ⟨t, ht, hk⟩ := hn.ty (K := K)
      refine ⟨_, rfl, _, _, t, _, false, rfl, .ty "tuple", ht, hk, false, rfl, iteT ?_⟩
      exact (RsR.of fun d hd => q _ d (same_new hd) upd_same : RsR (fun cls d _ H => E cls d H) Cs "index" [some x, none, none] .non H)
    · obtain ⟨ty, ht, hk⟩ := any_tuple (K := K) hS
      have sT : SqT K H S ((L.map fun r => V.ref r.t) ++ rest) := .inl (.inl hS)
      refine ⟨_, rfl, _, _, ty, _, true, rfl, .ty "tuple", ht, hk, true, rfl, iteF ?_⟩
      refine ⟨_, rfl, S, _, rfl, sT, for_it walk_enumT (fun i σ H1 => Same H H1 ∧ i ≤ L.length ∧ ∃ y1 y2 : Option V, σ = [some (.ref S), y1, y2]) ⟨Same.refl _, Nat.zero_le _, _, _, rfl⟩ (fun i σ H1 _ hp => same_seqT hp.1 sT) (fun i x σ H1 H1' hi hp hy => ?_) (fun σ H1 hp => ?_)⟩
      · obtain ⟨s1, hle, y1, y2, rfl⟩ := hp
        obtain ⟨Tp, a, b, rfl, hT, rfl, ea, eb⟩ := hy
        have ea2 : a = V.int (i : Int) := (Option.some.inj ea).symm
        subst ea2
        have eb2 : ((L.map fun r => V.ref r.t) ++ rest)[i]? = some b := eb
        have s2 := s1.trans (same_new (o := .tup [V.int (i : Int), b]) hT)
        refine ⟨Tp, _, rfl, .inl (.inl upd_same), rfl, _, _, rfl, _, _, rfl, rfl, ?_⟩
        by_cases hl : i < L.length
        · rw [List.getElem?_append_left (by rw [List.length_map]; exact hl), List.getElem?_map] at eb2
          obtain ⟨r, hr2, rfl⟩ := Option.map_eq_some_iff.mp eb2
          have R := hL r (List.mem_of_getElem? hr2)
          refine ⟨_, rfl, _, rowD r, 3, rfl, R.anyd.same s2, R.data.2, fun H3 s3 => ⟨true, (by rw [R.data.1]), iteF ?_⟩⟩
          exact ⟨s2.trans s3, hl, _, _, rfl⟩
        · have hi2 : i = L.length := by omega
          rw [List.getElem?_append_right (by rw [List.length_map]; omega), List.length_map, hi2, Nat.sub_self] at eb2
          rcases h with ⟨rfl, _⟩ | ⟨y, d, n, zs, rfl, hy, hsh, hbad, q⟩
          · cases eb2
          · have eb3 : y = b := by simpa using eb2
            subst eb3
            refine ⟨_, rfl, y, d, n, rfl, hy.same s2, hsh, fun H3 s3 => ⟨false, (by rw [hbad]), iteT ?_⟩⟩
            refine ⟨_, rfl, RsR.of fun dx hd => ?_⟩
            rw [hi2]
            exact q _ dx ((s2.trans s3).trans (same_new hd)) upd_same
      · obtain ⟨s1, hle, y1, y2, rfl⟩ := hp
        rcases h with ⟨rfl, q⟩ | ⟨y, d, n, zs, rfl, _⟩
        · exact q H1 s1
        · rw [List.length_append, List.length_map, List.length_cons] at hle
          omega
def n_check_bad : List Str := ["bad", "index", "state"]
theorem sc_check_bad : FnScope n_check_bad ["bad"] (defScope s_check_bad) := ⟨rfl, rfl, rfl, by decide +kernel, rfl, by decide +kernel, by decide +kernel⟩
/-- good bad states -/
structure MsOk (ms : List Int) : Prop where
  nd : ms.Nodup
  in_ : ∀ m ∈ ms, 0 ≤ m ∧ m ≤ 99
theorem notin_take : ∀ {ms : List Int} {i : Nat} {m : Int}, ms.Nodup → ms[i]? = some m → inV (.int m) ((ms.take i).map V.int) = false := by
  intro ms i m hn hm
  unfold inV
  rw [List.any_eq_false]
  intro x hx
  obtain ⟨k, hk, rfl⟩ := List.mem_map.mp hx
  show ¬ (k == m) = true
  intro e
  have e2 : k = m := by simpa using e
  subst e2
  obtain ⟨j, hj, hjk⟩ := List.mem_take_iff_getElem.mp hk
  obtain ⟨hi, hik⟩ := List.getElem?_eq_some_iff.mp hm
  have := (List.getElem_inj hn).mp (hjk.trans hik.symm)
  omega
theorem in_take {ms : List Int} {m : Int} (h : m ∈ ms) : inV (.int m) (ms.map V.int) = true := by
  unfold inV
  rw [List.any_eq_true]
  exact ⟨_, List.mem_map.mpr ⟨m, h, rfl⟩, by show (m == m) = true; simp⟩
def spCheckBad (Cb : Addr) : Sp := fun vs H Q E => ∃ x : V, vs = [x] ∧
  ((NoTup H x ∧ ∀ H' d, Same H H' → H' d = some (.xd [("index", .non)]) → E (.ref Cb) (some d) H') ∨
    ∃ (M : Addr) (ms : List Int) (rest : List V), x = .ref M ∧ H M = some (.tup (ms.map V.int ++ rest)) ∧ MsOk ms ∧
      ((rest = [] ∧ ∀ H', Same H H' → Q .non H') ∨ ∃ (y : V) (d : PyData) (n : Nat) (zs : List V), rest = y :: zs ∧ AnyD H n y d ∧ (stD d = false ∨ ∃ m ∈ ms, y = .int m) ∧
        ∀ H' dx, Same H H' → H' dx = some (.xd [("index", .int (ms.length : Int))]) → E (.ref Cb) (some dx) H'))
theorem ok_check_bad (T : Txt K mg) (D : Dfn K mg "check_bad" s_check_bad ["bad"]) (c_B : ErX P w K mg base "InvalidBad" Cb "index") (c_is_state : CalF P w K mg base 2 "is_state" ["value"] (spIsState K)) :
    CalX P w K mg base 4 "check_bad" ["bad"] (spCheckBad Cb) := by
  refine D.okX sc_check_bad (fun vs H Q E h => ?_) (fun f cdv A fr s H vs Q E hr h => ?_)
  · obtain ⟨x, rfl, _⟩ := h
    rfl
  · obtain ⟨x, rfl, h⟩ := h
    refine ⟨_, pss_cons (ps_if (pt_not (pt_val (pe_callB call_isi rfl T.b_isinstance (by decide +kernel) (pa_cons (pv 0) (pa_cons (pe_bltn (v := .ty "tuple") (u := .type "tuple") rfl T.b_tuple (by decide +kernel) rfl) pa_nil)))))
        (pss_one (ps_rs c_B hr (by decide) rfl (L2N.takes_of rfl rfl rfl rfl) rfl pe_non))
        (pss_nil))
      (pss_one (ps_for (passes_of rfl) rfl (pi_enumT rfl T.b_enumerate (pa_cons (pv 0) pa_nil)) (pg_tup rfl (pgs_cons (pg_name (i := 1) sc_check_bad.nd rfl (.inl rfl)) (pgs_cons (pg_name (i := 2) sc_check_bad.nd rfl (.inl rfl)) pgs_nil)))
        (pss_one (ps_if (PW.pt (pw_or (pt_not (pt_val (pe_cF c_is_state hr (by decide) rfl (pa_cons (pv 2) pa_nil)))) (pw_or1 (pt_cmpR op_in_seq (pv 2) (pe_slice sl_tupA (pv 0) po_none (po_some (pv 1))) rfl))))
            (pss_one (ps_rs c_B hr (by decide) rfl (L2N.takes_of rfl rfl rfl rfl) rfl (pv 1)))
            (pss_nil))))), ?_⟩
    rcases h with ⟨hn, q⟩ | ⟨M, ms, rest, rfl, hM, ok, h⟩
    · obtain ⟨t, ht, hk⟩ := hn.ty (K := K)
      refine ⟨_, rfl, _, _, t, _, false, rfl, .ty "tuple", ht, hk, false, rfl, iteT ?_⟩
      exact (RsR.of fun d hd => q _ d (same_new hd) upd_same : RsR (fun cls d _ H => E cls d H) Cb "index" [some x, none, none] .non H)
    · obtain ⟨ty, ht, hk⟩ := any_tuple (K := K) hM
      have sT : SqT K H M (ms.map V.int ++ rest) := .inl (.inl hM)
      have flat : ∀ ks : List Int, (ks.map V.int).all flatV = true := fun ks => by
        rw [List.all_eq_true]
        intro x hx
        obtain ⟨k, _, rfl⟩ := List.mem_map.mp hx
        rfl
      have cut : ∀ i, i ≤ ms.length → cutV (ms.map V.int ++ rest) none (some (i : Int)) = (ms.take i).map V.int := fun i hi => by
        rw [cut_take, List.take_append_of_le_length (by rw [List.length_map]; exact hi), List.map_take]
      refine ⟨_, rfl, _, _, ty, _, true, rfl, .ty "tuple", ht, hk, true, rfl, iteF ?_⟩
      refine ⟨_, rfl, M, _, rfl, sT, for_it walk_enumT (fun i σ H1 => Same H H1 ∧ i ≤ ms.length ∧ ∃ y1 y2 : Option V, σ = [some (.ref M), y1, y2]) ⟨Same.refl _, Nat.zero_le _, _, _, rfl⟩ (fun i σ H1 _ hp => same_seqT hp.1 sT) (fun i x σ H1 H1' hi hp hy => ?_) (fun σ H1 hp => ?_)⟩
      · obtain ⟨s1, hle, y1, y2, rfl⟩ := hp
        obtain ⟨Tp, a, b, rfl, hT, rfl, ea, eb⟩ := hy
        have ea2 : a = V.int (i : Int) := (Option.some.inj ea).symm
        subst ea2
        have eb2 : (ms.map V.int ++ rest)[i]? = some b := eb
        have s2 := s1.trans (same_new (o := .tup [V.int (i : Int), b]) hT)
        refine ⟨Tp, _, rfl, .inl (.inl upd_same), rfl, _, _, rfl, _, _, rfl, rfl, ?_⟩
        by_cases hl : i < ms.length
        · rw [List.getElem?_append_left (by rw [List.length_map]; exact hl), List.getElem?_map] at eb2
          obtain ⟨m, hm, rfl⟩ := Option.map_eq_some_iff.mp eb2
          have hm2 := ok.in_ m (List.mem_of_getElem? hm)
          refine ⟨_, rfl, .int m, rfl, any_int m, true, (by rw [stB_ok hm2.1 hm2.2]), iteF ?_⟩
          refine ⟨_, rfl, _, rfl, _, rfl, (i : Int), rfl, M, _, rfl, same_seqT s2 sT, fun hw => ?_, fun hw p hp => ?_⟩
          · refine absurd hw.2 ?_
            rw [HT.sIx_nat, List.length_append, List.length_map]
            omega
          · rw [cut i hle]
            refine ⟨p, _, rfl, .inr (.inl (.inl upd_same)), rfl, flat _, false, (by rw [notin_take ok.nd hm]; rfl), iteF ?_⟩
            exact ⟨s2.trans (same_new hp), hl, _, _, rfl⟩
        · have hi2 : i = ms.length := by omega
          rw [List.getElem?_append_right (by rw [List.length_map]; omega), List.length_map, hi2, Nat.sub_self] at eb2
          rcases h with ⟨rfl, _⟩ | ⟨y, d, n, zs, rfl, hy, hbad, q⟩
          · cases eb2
          · have eb3 : y = b := by simpa using eb2
            subst eb3
            obtain ⟨v1, _, _, st1, _⟩ := (hy.same s2).any (K := K)
            refine ⟨_, rfl, y, rfl, v1, _, rfl, ?_⟩
            rw [st1]
            have fin : ∀ H3, Same H H3 → ∀ dx, H3 dx = none → E (.ref Cb) (some dx) (upd H3 dx (.xd [("index", .int (i : Int))])) := fun H3 s3 dx hd => by
              rw [hi2]
              exact q _ dx (s3.trans (same_new hd)) upd_same
            cases hst : stD d with
            | false => exact iteT ⟨_, rfl, RsR.of fun dx hd => fin _ s2 dx hd⟩
            | true =>
              obtain ⟨m, hm, rfl⟩ : ∃ m ∈ ms, y = .int m := by
                rcases hbad with z | z
                · rw [hst] at z; cases z
                · exact z
              refine iteF ⟨_, rfl, _, rfl, _, rfl, (i : Int), rfl, M, _, rfl, same_seqT s2 sT, fun hw => ?_, fun hw p hp => ?_⟩
              · refine absurd hw.2 ?_
                rw [HT.sIx_nat, List.length_append, List.length_map, List.length_cons]
                omega
              · rw [cut i hle]
                refine ⟨p, _, rfl, .inr (.inl (.inl upd_same)), rfl, flat _, true, (by rw [hi2, List.take_length, in_take hm]; rfl), iteT ?_⟩
                exact ⟨_, rfl, RsR.of fun dx hd => fin _ (s2.trans (same_new hp)) dx hd⟩
      · obtain ⟨s1, hle, y1, y2, rfl⟩ := hp
        rcases h with ⟨rfl, q⟩ | ⟨y, d, n, zs, rfl, _⟩
        · exact q H1 s1
        · rw [List.length_append, List.length_map, List.length_cons] at hle
          omega
def n_fits : List Str := ["pattern", "event"]
theorem sc_fits : FnScope n_fits ["pattern", "event"] (defScope s_fits) := ⟨rfl, rfl, rfl, by decide +kernel, rfl, by decide +kernel, by decide +kernel⟩
def spFits : Sp := fun vs H Q _ => ∃ (p e : Addr) (ps es : List V), vs = [.ref p, .ref e] ∧ H p = some (.tup ps) ∧ H e = some (.tup es) ∧ ps.all fl = true ∧ es.all fl = true ∧ ∀ H', Same H H' → Q (.bl (fitsB ps es)) H'
theorem ok_fits (T : Txt K mg) (D : Dfn K mg "fits" s_fits ["pattern", "event"]) : CalF P w K mg base 1 "fits" ["pattern", "event"] spFits := by
  refine D.okF sc_fits (fun vs H Q E h => ?_) (fun f cdv A fr s H vs Q E hr h => ?_)
  · obtain ⟨p, e, ps, es, rfl, _⟩ := h
    rfl
  · obtain ⟨p, e, ps, es, rfl, hp, he, fp, fe, q⟩ := h
    have sP : SqT K H p ps := .inl (.inl hp)
    have sE : SqT K H e es := .inl (.inl he)
    refine ⟨_, pss_one (ps_ret (pe_cmpR (op_eqD hr.units) (pe_slice sl_tupA (pv 1) po_none (po_some (pe_callB call_len rfl T.b_len (by decide +kernel) (pa_cons (pv 0) pa_nil)))) (pv 0) (nomark _))), ?_⟩
    have fin : ∀ (a : Addr) (H1 : Hp), Same H H1 → SqT K H1 a (es.take ps.length) → ∃ v, some (some (V.ref p)) = some (some v) ∧ rEqD K (.ref a) v H1 Q := fun a H1 s1 ha => by
      refine ⟨_, rfl, _, _, .tup ha (dpAll_toD (all_take fe)), .tup (same_seqT s1 sP) (dpAll_toD fp), shaped_toD (all_take fe), shaped_toD fp, ?_⟩
      show Q (.bl (PyData.eqvAll ((es.take ps.length).map toD) (ps.map toD))) H1
      rw [eqvAll_toD (all_take fe) fp]
      exact q H1 s1
    refine ⟨_, rfl, _, rfl, _, ps.length, rfl, .inr ⟨_, sP, rfl⟩, _, rfl, e, es, rfl, sE, fun hw => ?_, fun hw a ha => ?_⟩
    · refine fin e H (Same.refl _) ?_
      have h2 := hw.2
      rw [HT.sIx_nat] at h2
      rw [List.take_of_length_le (by omega)]
      exact sE
    · rw [cut_take]
      exact fin a _ (same_new ha) (.inl (.inl upd_same))
end
end Jo

set_option Elab.async false
set_option linter.all false
set_option maxRecDepth 100000
set_option maxHeartbeats 1000000
namespace Jo
open PySem PySem.Spec PyProof.Rows L2
/-! ### what is passed to a rule: right, or wrong with the index that is told -/
def StOk (H : Hp) (x : V) (S : Addr) (L : List Row) : Prop := x = .ref S ∧ H S = some (.tup (L.map fun r => .ref r.t)) ∧ ∀ r ∈ L, RowAt H r
def StBad (H : Hp) (x v : V) : Prop := (NoTup H x ∧ v = .non) ∨ ∃ (S : Addr) (L : List Row) (y : V) (d : PyData) (n : Nat) (zs : List V), x = .ref S ∧ H S = some (.tup ((L.map fun r => .ref r.t) ++ y :: zs)) ∧ (∀ r ∈ L, RowAt H r) ∧
  AnyD H n y d ∧ Short2 d ∧ spD d = false ∧ v = .int (L.length : Int)
def MkOk (H : Hp) (x : V) (M : Addr) (ms : List Int) : Prop := x = .ref M ∧ H M = some (.tup (ms.map V.int)) ∧ MsOk ms
def MkBad (H : Hp) (x v : V) : Prop := (NoTup H x ∧ v = .non) ∨ ∃ (M : Addr) (ms : List Int) (y : V) (d : PyData) (n : Nat) (zs : List V), x = .ref M ∧ H M = some (.tup (ms.map V.int ++ y :: zs)) ∧ MsOk ms ∧
  AnyD H n y d ∧ (stD d = false ∨ ∃ m ∈ ms, y = .int m) ∧ v = .int (ms.length : Int)
section
variable {H H' : Hp} {x v : V} {S M : Addr} {L : List Row} {ms : List Int} {Q : VK} {E : XK} {Cs Cb : Addr}
theorem StOk.same (h : StOk H x S L) (s : Same H H') : StOk H' x S L := ⟨h.1, s _ _ h.2.1, fun r hr => (h.2.2 r hr).same s⟩
theorem MkOk.same (h : MkOk H x M ms) (s : Same H H') : MkOk H' x M ms := ⟨h.1, s _ _ h.2.1, h.2.2⟩
theorem StBad.same (h : StBad H x v) (s : Same H H') : StBad H' x v := by
  rcases h with ⟨h, e⟩ | ⟨S, L, y, d, n, zs, e, hS, hL, hy, h1, h2, h3⟩
  · exact .inl ⟨h.same s, e⟩
  · exact .inr ⟨S, L, y, d, n, zs, e, s _ _ hS, fun r hr => (hL r hr).same s, hy.same s, h1, h2, h3⟩
theorem MkBad.same (h : MkBad H x v) (s : Same H H') : MkBad H' x v := by
  rcases h with ⟨h, e⟩ | ⟨M, ms, y, d, n, zs, e, hM, ok, hy, h1, h2⟩
  · exact .inl ⟨h.same s, e⟩
  · exact .inr ⟨M, ms, y, d, n, zs, e, s _ _ hM, ok, hy.same s, h1, h2⟩
theorem StOk.sp (h : StOk H x S L) (q : ∀ H', Same H H' → Q .non H') : spCheckSteps Cs [x] H Q E :=
  ⟨x, rfl, .inr ⟨S, L, [], h.1, by rw [List.append_nil]; exact h.2.1, h.2.2, .inl ⟨rfl, q⟩⟩⟩
theorem StBad.sp (h : StBad H x v) (q : ∀ H' dx, Same H H' → H' dx = some (.xd [("index", v)]) → E (.ref Cs) (some dx) H') : spCheckSteps Cs [x] H Q E := by
  rcases h with ⟨h, rfl⟩ | ⟨S, L, y, d, n, zs, e, hS, hL, hy, h1, h2, rfl⟩
  · exact ⟨x, rfl, .inl ⟨h, q⟩⟩
  · exact ⟨x, rfl, .inr ⟨S, L, _, e, hS, hL, .inr ⟨y, d, n, zs, rfl, hy, h1, h2, q⟩⟩⟩
theorem MkOk.sp (h : MkOk H x M ms) (q : ∀ H', Same H H' → Q .non H') : spCheckBad Cb [x] H Q E :=
  ⟨x, rfl, .inr ⟨M, ms, [], h.1, by rw [List.append_nil]; exact h.2.1, h.2.2, .inl ⟨rfl, q⟩⟩⟩
theorem MkBad.sp (h : MkBad H x v) (q : ∀ H' dx, Same H H' → H' dx = some (.xd [("index", v)]) → E (.ref Cb) (some dx) H') : spCheckBad Cb [x] H Q E := by
  rcases h with ⟨h, rfl⟩ | ⟨M, ms, y, d, n, zs, e, hM, ok, hy, h1, rfl⟩
  · exact ⟨x, rfl, .inl ⟨h, q⟩⟩
  · exact ⟨x, rfl, .inr ⟨M, ms, _, e, hM, ok, .inr ⟨y, d, n, zs, rfl, hy, h1, q⟩⟩⟩
end
section
variable {P : Program} {w : World} {K : PySem.W.Frag} {mg : Str → Option Value} {base : Heap} {C Cs Cb Cv Cm : Addr}
def n_init : List Str := ["self", "steps", "bad"]
theorem sc_init : FnScope n_init ["self", "steps", "bad"] (defScope s_init) := ⟨rfl, rfl, rfl, by decide +kernel, rfl, by decide +kernel, by decide +kernel⟩
def spInit (C Cs Cb : Addr) : Sp := fun vs H Q E => ∃ (o dx : Addr) (x y : V), vs = [.ref o, x, y] ∧ H o = some (.ins C dx []) ∧
  ((∃ v, StBad H x v ∧ ∀ H' d, Same H H' → H' d = some (.xd [("index", v)]) → E (.ref Cs) (some d) H') ∨
   (∃ S L v, StOk H x S L ∧ MkBad H y v ∧ ∀ H' d, Same H H' → H' d = some (.xd [("index", v)]) → E (.ref Cb) (some d) H') ∨
   ∃ S L M ms, StOk H x S L ∧ MkOk H y M ms ∧ ∀ H', RuleAt C H' o S M L ms → (∀ b x, H b = some x → b ≠ o → H' b = some x) → Q .non H')
theorem ok_init (T : Txt K mg) (R : RTxt K mg C) (D : Mth K C "__init__" "Rule.__init__" s_init ["self", "steps", "bad"])
    (c_check_steps : CalX P w K mg base 4 "check_steps" ["steps"] (spCheckSteps Cs)) (c_check_bad : CalX P w K mg base 4 "check_bad" ["bad"] (spCheckBad Cb)) :
    MtX P w K mg base 5 C "__init__" ["self", "steps", "bad"] (spInit C Cs Cb) := by
  refine D.okX sc_init (fun vs H Q E h => ?_) (fun f cdv A fr s H vs Q E hr h => ?_)
  · obtain ⟨o, dx, x, y, rfl, _⟩ := h
    rfl
  · obtain ⟨o, dx, x, y, rfl, ho, h⟩ := h
    refine ⟨_, pss_cons (ps_expr (pe_cX c_check_steps hr (by decide) (passW (L2N.takes_of rfl rfl rfl rfl)) rfl (pa_cons (pv 1) pa_nil)))
      (pss_cons (ps_expr (pe_cX c_check_bad hr (by decide) (passW (L2N.takes_of rfl rfl rfl rfl)) rfl (pa_cons (pv 2) pa_nil)))
      (pss_cons (ps_fld (pv 0) (pv 1) rfl)
      (pss_one (ps_fld (pv 0) (pv 2) rfl)))), ?_⟩
    rcases h with ⟨v, hx, q⟩ | ⟨S, L, v, hx, hy, q⟩ | ⟨S, L, M, ms, hx, hy, q⟩
    · refine ⟨_, rfl, ?_⟩
      dsimp only [tNil]
      exact hx.sp q
    · refine ⟨_, rfl, ?_⟩
      dsimp only [tNil]
      refine hx.sp fun H1 s1 => ?_
      refine ⟨_, rfl, ?_⟩
      dsimp only [tNil]
      exact (hy.same s1).sp fun H' d s2 hd => q H' d (s1.trans s2) hd
    · refine ⟨_, rfl, ?_⟩
      dsimp only [tNil]
      refine hx.sp fun H1 s1 => ?_
      refine ⟨_, rfl, ?_⟩
      dsimp only [tNil]
      refine (hy.same s1).sp fun H2 s2 => ?_
      have s3 := s1.trans s2
      obtain ⟨rfl, hS, hL⟩ := hx
      obtain ⟨rfl, hM, okM⟩ := hy
      have noS : S ≠ o := ne_of hS ho (by intro z; cases z)
      have noM : M ≠ o := ne_of hM ho (by intro z; cases z)
      refine ⟨_, rfl, _, rfl, o, C, dx, [], rfl, s3 _ _ ho, R.cl, R.nS, (by show 0 < 1000; decide), _, rfl, _, rfl, o, C, dx, _, rfl, upd_same, R.cl, R.nB, (by show 1 < 1000; decide), ?_⟩
      have keep : ∀ (v1 v2 : HO) b x, H b = some x → b ≠ o → (upd (upd H2 o v1) o v2) b = some x := fun v1 v2 b x e n => by
        rw [upd_ne n, upd_ne n]
        exact s3 _ _ e
      refine q _ ⟨⟨dx, upd_same⟩, keep _ _ _ _ hS noS, keep _ _ _ _ hM noM, fun r hr2 => ?_⟩ (keep _ _)
      have Rr := hL r hr2
      exact ⟨keep _ _ _ _ Rr.row (ne_of Rr.row ho (by intro z; cases z)), keep _ _ _ _ Rr.ev (ne_of Rr.ev ho (by intro z; cases z)), Rr.ok, Rr.b0, Rr.b1, Rr.l0, Rr.l1⟩
def n_next_state : List Str := ["self", "state", "event", "before", "pattern", "behind"]
theorem sc_next_state : FnScope n_next_state ["self", "state", "event"] (defScope s_next_state) := ⟨rfl, rfl, rfl, by decide +kernel, rfl, by decide +kernel, by decide +kernel⟩
def spNext (C : Addr) : Sp := fun vs H Q _ => ∃ (o S M e : Addr) (L : List Row) (ms : List Int) (st : Int) (es : List V), vs = [.ref o, .int st, .ref e] ∧ RuleAt C H o S M L ms ∧ H e = some (.tup es) ∧ es.all fl = true ∧
  ∀ H', Same H H' → Q (.int (nextS L ms st es)) H'
theorem in_ints (st : Int) (ms : List Int) : inV (.int st) (ms.map V.int) = decide (st ∈ ms) := by
  unfold inV
  rw [List.any_map, Bool.eq_iff_iff, List.any_eq_true, decide_eq_true_iff]
  constructor
  · rintro ⟨x, hx, h⟩
    have h2 : (x == st) = true := h
    have h3 : x = st := by simpa using h2
    rw [← h3]
    exact hx
  · intro h
    exact ⟨st, h, by show (st == st) = true; simp⟩
theorem flat_ints (ks : List Int) : (ks.map V.int).all flatV = true := by
  rw [List.all_eq_true]
  intro x hx
  obtain ⟨k, _, rfl⟩ := List.mem_map.mp hx
  rfl
theorem ok_next_state (T : Txt K mg) (R : RTxt K mg C) (D : Mth K C "next_state" "Rule.next_state" s_next_state ["self", "state", "event"]) (c_fits : CalF P w K mg base 1 "fits" ["pattern", "event"] spFits) :
    MtF P w K mg base 2 C "next_state" ["self", "state", "event"] (spNext C) := by
  refine D.okF sc_next_state (fun vs H Q E h => ?_) (fun f cdv A fr s H vs Q E hr h => ?_)
  · obtain ⟨o, S, M, e, L, ms, st, es, rfl, _⟩ := h
    rfl
  · obtain ⟨o, S, M, e, L, ms, st, es, rfl, RA, he, fe, q⟩ := h
    obtain ⟨dx, ho⟩ := RA.ob
    refine ⟨_, pss_cons (ps_if (pt_cmpR op_in_seq (pv 1) (pe_fld (pv 0) rfl) rfl)
        (pss_one (ps_ret (pv 1)))
        (pss_nil))
      (pss_cons (ps_for PassesOwn.never rfl (pi_tup (pe_fld (pv 0) rfl)) (pg_tup rfl (pgs_cons (pg_name (i := 3) sc_next_state.nd rfl (.inl rfl)) (pgs_cons (pg_name (i := 4) sc_next_state.nd rfl (.inl rfl)) (pgs_cons (pg_name (i := 5) sc_next_state.nd rfl (.inl rfl)) pgs_nil))))
        (pss_one (ps_if (PW.pt (pw_and (pt_cmpR op_eq (pv 3) (pv 1) (nomark _)) (pw_and1 (pt_val (pe_cF c_fits hr (by decide) rfl (pa_cons (pv 4) (pa_cons (pv 2) pa_nil)))))))
            (pss_one (ps_ret (pv 5)))
            (pss_nil))))
      (pss_one (ps_ret (pv 1)))), ?_⟩
    refine ⟨_, rfl, _, rfl, o, C, dx, _, _, rfl, ho, R.cl, R.nB, fld_bad _ _, M, _, rfl, .inr (.inl (.inl RA.bd)), rfl, flat_ints ms, ?_⟩
    rw [in_ints]
    refine ⟨_, rfl, ite2 (fun hm => ?_) (fun hm => ?_)⟩
    · have e1 : nextS L ms st es = st := by
        unfold nextS
        rw [if_pos (of_decide_eq_true hm)]
      rw [e1] at q
      exact ⟨_, rfl, q H (Same.refl _)⟩
    · have hm2 : st ∉ ms := fun z => hm (decide_eq_true z)
      have sS : SqT K H S (L.map fun r => .ref r.t) := .inl (.inl RA.st)
      refine ⟨_, rfl, o, C, dx, _, _, rfl, ho, R.cl, R.nS, fld_steps _ _, S, rfl, ⟨_, sS⟩, for_it walk_tup (fun i σ H1 => Same H H1 ∧ (∀ r ∈ L.take i, (decide (r.b = st) && fitsB r.vs es) = false) ∧ ∃ y1 y2 y3 : Option V, σ = [some (.ref o), some (.int st), some (.ref e), y1, y2, y3])
        ⟨Same.refl _, (fun r hr2 => by simp at hr2), _, _, _, rfl⟩ (fun i σ H1 _ hp => same_seqT hp.1 sS) (fun i x σ H1 H1' hi hp hy => ?_) (fun σ H1 hp => ?_)⟩
      · obtain ⟨s1, no, y1, y2, y3, rfl⟩ := hp
        obtain ⟨rfl, eb⟩ := hy
        have eb2 : (L.map fun r => V.ref r.t)[i]? = some x := eb
        rw [List.getElem?_map] at eb2
        obtain ⟨r, hr2, rfl⟩ := Option.map_eq_some_iff.mp eb2
        have Rr := (RA.rows r (List.mem_of_getElem? hr2)).same s1
        have tk : L.take (i + 1) = L.take i ++ [r] := by rw [List.take_add_one, hr2]; rfl
        have next : ∀ H2, Same H1' H2 → (decide (r.b = st) && fitsB r.vs es) = false → Same H H2 ∧ (∀ q ∈ L.take (i + 1), (decide (q.b = st) && fitsB q.vs es) = false) := fun H2 s2 hf => by
          refine ⟨s1.trans s2, fun q hq => ?_⟩
          rw [tk] at hq
          rcases List.mem_append.mp hq with hq | hq
          · exact no q hq
          · rw [List.mem_singleton.mp hq]; exact hf
        refine ⟨r.t, _, rfl, .inl (.inl Rr.row), rfl, _, _, rfl, _, _, rfl, _, _, rfl, rfl, ?_⟩
        refine ⟨_, rfl, _, rfl, rfl, _, rfl, ?_⟩
        by_cases hb : r.b = st
        · rw [decide_eq_true (show V.int r.b = V.int st by rw [hb])]
          refine iteT ⟨_, rfl, _, rfl, r.e, e, r.vs, es, rfl, Rr.ev, s1 _ _ he, Rr.ok.fl, fe, fun H2 s2 => ⟨_, rfl, ite2 (fun hf => ?_) (fun hf => ?_)⟩⟩
          · have found : nextS L ms st es = r.l := by
              unfold nextS
              rw [if_neg hm2]
              have hfind : (L.find? fun q => decide (q.b = st) && fitsB q.vs es) = some r := by
                have hsplit : L = L.take i ++ r :: L.drop (i + 1) := by
                  have h1 := (List.take_append_drop (i + 1) L).symm
                  rw [tk, List.append_assoc] at h1
                  exact h1
                rw [hsplit, List.find?_append]
                have hn : (L.take i).find? (fun q => decide (q.b = st) && fitsB q.vs es) = none := by
                  rw [List.find?_eq_none]
                  intro q hq
                  rw [no q hq]
                  exact Bool.false_ne_true
                rw [hn, List.find?_cons]
                have hy2 : (decide (r.b = st) && fitsB r.vs es) = true := by rw [decide_eq_true hb, hf]; rfl
                rw [hy2]
                rfl
              rw [hfind]
            rw [found] at q
            exact ⟨_, rfl, q H2 (s1.trans s2)⟩
          · have hf2 : fitsB r.vs es = false := by simpa using hf
            obtain ⟨a1, a2⟩ := next H2 s2 (by rw [hf2, Bool.and_false])
            exact ⟨a1, a2, _, _, _, rfl⟩
        · rw [decide_eq_false (fun z => hb (V.int.inj z))]
          obtain ⟨a1, a2⟩ := next H1' (Same.refl _) (by rw [decide_eq_false hb, Bool.false_and])
          exact iteF ⟨a1, a2, _, _, _, rfl⟩
      · obtain ⟨s1, no, y1, y2, y3, rfl⟩ := hp
        have e1 : nextS L ms st es = st := by
          unfold nextS
          rw [if_neg hm2]
          have hn : (L.find? fun q => decide (q.b = st) && fitsB q.vs es) = none := by
            rw [List.find?_eq_none]
            intro q hq
            rw [List.length_map, List.take_length] at no
            rw [no q hq]
            exact Bool.false_ne_true
          rw [hn]
        rw [e1] at q
        exact ⟨_, rfl, q H1 s1⟩
def n_rafter : List Str := ["self", "state", "event"]
theorem sc_rafter : FnScope n_rafter ["self", "state", "event"] (defScope s_rafter) := ⟨rfl, rfl, rfl, by decide +kernel, rfl, by decide +kernel, by decide +kernel⟩
def spRAfter (C Cv Cm : Addr) : Sp := fun vs H Q E => ∃ (o S M : Addr) (L : List Row) (ms : List Int) (x y : V), vs = [.ref o, x, y] ∧ RuleAt C H o S M L ms ∧
  ((∃ d n, AnyD H n x d ∧ stD d = false ∧ ∀ H' dx, Same H H' → H' dx = some (.xd [("value", x)]) → E (.ref Cv) (some dx) H') ∨
   (∃ st d n, x = .int st ∧ 0 ≤ st ∧ st ≤ 99 ∧ AnyD H n y d ∧ Short d ∧ fullD d = false ∧ ∀ H' dx, Same H H' → H' dx = some (.xd [("value", y)]) → E (.ref Cm) (some dx) H') ∨
   ∃ st e es, x = .int st ∧ 0 ≤ st ∧ st ≤ 99 ∧ y = .ref e ∧ H e = some (.tup es) ∧ EvS es ∧ es.length ≠ 2 ∧ ∀ v H', Same H H' → Q v H')
theorem ok_rafter (T : Txt K mg) (R : RTxt K mg C) (D : Mth K C "after" "Rule.after" s_rafter ["self", "state", "event"]) (c_V : ErX P w K mg base "InvalidValue" Cv "value") (c_M : ErX P w K mg base "InvalidMove" Cm "value")
    (c_is_state : CalF P w K mg base 2 "is_state" ["value"] (spIsState K))
    (c_is_full_event : CalF P w K mg base 3 "is_full_event" ["value"] spIsFull) (m_next : MtF P w K mg base 2 C "next_state" ["self", "state", "event"] (spNext C)) :
    MtX P w K mg base 4 C "after" ["self", "state", "event"] (spRAfter C Cv Cm) := by
  refine D.okX sc_rafter (fun vs H Q E h => ?_) (fun f cdv A fr s H vs Q E hr h => ?_)
  · obtain ⟨o, S, M, L, ms, x, y, rfl, _⟩ := h
    rfl
  · obtain ⟨o, S, M, L, ms, x, y, rfl, RA, h⟩ := h
    refine ⟨_, pss_cons (ps_if (pt_not (pt_val (pe_cF c_is_state hr (by decide) rfl (pa_cons (pv 1) pa_nil))))
        (pss_one (ps_rs c_V hr (by decide) rfl (L2N.takes_of rfl rfl rfl rfl) rfl (pv 1)))
        (pss_nil))
      (pss_cons (ps_if (pt_not (pt_val (pe_cF c_is_full_event hr (by decide) rfl (pa_cons (pv 2) pa_nil))))
        (pss_one (ps_rs c_M hr (by decide) rfl (L2N.takes_of rfl rfl rfl rfl) rfl (pv 2)))
        (pss_nil))
      (pss_one (ps_ret (pe_mF (pv 0) R.cl m_next hr (by decide) (pa_cons (pv 1) (pa_cons (pv 2) pa_nil)))))), ?_⟩
    rcases h with ⟨d, n, hx, hb, q⟩ | ⟨st, d, n, rfl, h0, h1, hy, hsh, hb, q⟩ | ⟨st, e, es, rfl, h0, h1, rfl, he, ev, hne, q⟩
    · obtain ⟨v1, _, _, st1, _⟩ := hx.any (K := K)
      refine ⟨_, rfl, x, rfl, v1, false, (by rw [st1, hb]), iteT ?_⟩
      exact ⟨_, rfl, RsR.of fun dx hd => q _ dx (same_new hd) upd_same⟩
    · refine ⟨_, rfl, .int st, rfl, any_int _, true, (by rw [stB_ok h0 h1]), iteF ?_⟩
      refine ⟨_, rfl, y, d, n, rfl, hy, hsh, fun H1 s1 => ⟨false, (by rw [hb]), iteT ?_⟩⟩
      exact ⟨_, rfl, RsR.of fun dx hd => q _ dx (s1.trans (same_new hd)) upd_same⟩
    · refine ⟨_, rfl, .int st, rfl, any_int _, true, (by rw [stB_ok h0 h1]), iteF ?_⟩
      have hf : fullD (.tuple (es.map toD)) = true := by
        show (evD (.tuple (es.map toD)) && decide ((es.map toD).length ≠ 2)) = true
        rw [ev.data.1, List.length_map, decide_eq_true hne]
        rfl
      refine ⟨_, rfl, .ref e, .tuple (es.map toD), 2, rfl, .tup he ev.anyd, ev.data.2, fun H1 s1 => ⟨true, (by rw [hf]), iteF ?_⟩⟩
      obtain ⟨dx, ho⟩ := (RA.same s1).ob
      exact ⟨_, rfl, o, dx, _, rfl, ho, fld_no _ _ (by decide +kernel) (by decide +kernel), _, rfl, _, rfl, o, S, M, e, L, ms, st, es, rfl, RA.same s1, s1 _ _ he, ev.fl, fun H2 s2 => q _ H2 (s1.trans s2)⟩
end
end Jo

set_option Elab.async false
set_option linter.all false
set_option maxRecDepth 100000
set_option maxHeartbeats 400000
namespace Jo
open PySem PySem.Spec PyProof.Rows L2
/-! ### the bag: a list of three ints -/
theorem ixN_nat {n j : Nat} (h : j < n) : ixN n (j : Int) = some j := by
  unfold ixN
  rw [if_pos (by omega), if_pos (by omega)]
  simp
def Kp (p : Addr) (H H' : Hp) : Prop := ∀ b o, H b = some o → b ≠ p → H' b = some o
theorem Kp.refl (p : Addr) (H : Hp) : Kp p H H := fun _ _ e _ => e
theorem Kp.trans {p : Addr} {H H1 H2 : Hp} (a : Kp p H H1) (b : Kp p H1 H2) : Kp p H H2 := fun c o e n => b c o (a c o e n) n
theorem kp_of {p : Addr} {H H' : Hp} (a : Same H H') : Kp p H H' := fun c o e _ => a c o e
theorem Kp.put {p : Addr} {H : Hp} {o : HO} : Kp p H (upd H p o) := fun b x e n => by rw [upd_ne n]; exact e
def BagAt (H : Hp) (p : Addr) : Prop := ∃ a b c : Int, H p = some (.lst [.int a, .int b, .int c])
theorem BagAt.same {H H' : Hp} {p : Addr} (h : BagAt H p) (s : Same H H') : BagAt H' p := let ⟨a, b, c, e⟩ := h; ⟨a, b, c, s _ _ e⟩
theorem item_ok {z : Str} {d : Int} (h0 : 0 ≤ d) (h1 : d < z.length) (hl : z.length ≤ 1000) : d < 2 ^ 63 ∧ z.cps[d.toNat]? = some (z.cps.getD d.toNat 0) := by
  have h2 : d.toNat < z.cps.size := by rw [← len_cps]; omega
  exact ⟨by omega, by simp [Array.getD_eq_getD_getElem?, h2]⟩
theorem atI_int {α : Type} {xs : List α} {d : Int} {v : α} (h0 : 0 ≤ d) (h : xs[d.toNat]? = some v) : atI xs d = some v := by
  have e : d = (d.toNat : Int) := by omega
  rw [e]
  exact atI_nat h
section
variable {P : Program} {w : World} {K : PySem.W.Frag} {mg : Str → Option Value} {base : Heap}
def n_bag : List Str := ["_law_script", "_law_k", "_law_cell", "_law_part", "_law_figures"]
theorem sc_bag : FnScope n_bag ["_law_script", "_law_k"] (defScope s_bag) := ⟨rfl, rfl, rfl, by decide +kernel, rfl, by decide +kernel, by decide +kernel⟩
def spBag (K : PySem.W.Frag) : Sp := fun vs H Q _ => ∃ (a : Addr) (ns : List Int) (k : Nat), vs = [.ref a, .int (k : Int)] ∧ SqL K H a (ns.map V.int) ∧ ns.length ≤ 63 ∧ k ≤ 63 ∧
  ∀ (p : Addr) (H' : Hp), Same H H' → H p = none → BagAt H' p → Q (.ref p) H'
theorem ok_bag (T : Txt K mg) (D : Dfn K mg "_law_bag" s_bag ["_law_script", "_law_k"]) : CalG P w K mg base 1 "_law_bag" ["_law_script", "_law_k"] (spBag K) := by
  refine D.ok sc_bag (fun vs H Q E h => ?_) (fun f cdv A fr s H vs Q E hr hgd h => ?_)
  · obtain ⟨a, ns, k, rfl, _⟩ := h
    rfl
  · obtain ⟨a, ns, k, rfl, hS, hl, hk, q⟩ := h
    refine ⟨_, pss_cons (ps_set (i := 2) sc_bag.nd rfl (.inl rfl) (pv 1))
      (pss_cons (ps_if (pt_cmpR op_lt (pv 1) (pe_callB call_len rfl T.b_len (by decide +kernel) (pa_cons (pv 0) pa_nil)) (nomark _))
        (pss_one (ps_set (i := 2) sc_bag.nd rfl (.inl rfl) (pe_callTy call_int1 rfl T.b_int (by decide +kernel) (pa_cons (pe_ix ix_list (pv 0) (pv 1) (fun _ _ => rfl)) pa_nil))))
        (pss_one (ps_for PassesOwn.never rfl (pi_list (pe_slice sl_list (pv 0) po_none (po_some pe_int))) (pg_name (i := 3) sc_bag.nd rfl (.inl rfl))
            (pss_one (ps_set (i := 2) sc_bag.nd rfl (.inl rfl) (pe_op op_mod (pe_callTy call_int1 rfl T.b_int (by decide +kernel) (pa_cons (pe_op op_add (pe_op op_add (pe_op op_mul (pv 2) pe_int) (pv 3)) pe_int) pa_nil)) pe_int))))))
      (pss_cons (ps_set (i := 4) sc_bag.nd rfl (.inl rfl) (pe_ifExp (pt_cmpR op_lt (pv 2) pe_int (nomark _)) (pe_op op_sub pe_int (pv 2)) (pe_ifExp (pt_cmpR op_ge (pv 2) (pe_op op_pow pe_int pe_int) (nomark _)) (pv 2) pe_int)))
      (pss_one (ps_ret (pe_lst (pa_cons (pe_op op_add (pe_op op_mod (pe_callTy call_int1 rfl T.b_int (by decide +kernel) (pa_cons (pv 2) pa_nil)) pe_int) (pe_op op_mul pe_int (pe_op op_add (pv 1) pe_int))) (pa_cons (pv 4) (pa_cons pe_int pa_nil)))))))), ?_⟩
    have cm : -(2 ^ 64) < (k : Int) + 1 ∧ (k : Int) + 1 < 2 ^ 64 := by omega
    -- what follows the cell
    have rest : ∀ (c : Int) (y : Option V) (H1 : Hp), Same H H1 →
        (tSeq (tAsg (tIf (tTest (tOp (rI0 fun i j => .bl (decide (i < j))) (tVar 2) (tC (.int 0)))) (tOp (rI0 fun i j => .int (i - j)) (tC (.int 0)) (tVar 2)) (tIf (tTest (tOp (rI0 fun i j => .bl (decide (j ≤ i))) (tVar 2) (tOp (rI CPow fun i j => .int (i ^ j.toNat)) (tC (.int 10)) (tC (.int 18))))) (tVar 2) (tC (.int 0)))) (gName 4))
          (tRet (tLst (tCons (tOp (rI0 fun i j => .int (i + j)) (tOp (rI (fun _ j => 0 < j) fun i j => .int (i % j)) (tCB (fun xs H Q => (∃ i, xs = [.int i] ∧ Q (.int i) H) ∨ ∃ k, xs = [.bl k] ∧ Q (.int (if k then 1 else 0)) H) (tCons (tVar 2) tNil)) (tC (.int 2305843009213693951)))
            (tOp (rI CMul fun i j => .int (i * j)) (tC (.int 40014)) (tOp (rI0 fun i j => .int (i + j)) (tVar 1) (tC (.int 1))))) (tCons (tVar 4) (tCons (tC (.int 0)) tNil))))))
        { nx := fun _ H' => Q .non H', rt := Q } [some (.ref a), some (.int (k : Int)), some (.int c), y, none] H1 := fun c y H1 s1 => by
      have fin : ∀ fg : Int, (tRet (tLst (tCons (tOp (rI0 fun i j => .int (i + j)) (tOp (rI (fun _ j => 0 < j) fun i j => .int (i % j)) (tCB (fun xs H Q => (∃ i, xs = [.int i] ∧ Q (.int i) H) ∨ ∃ k, xs = [.bl k] ∧ Q (.int (if k then 1 else 0)) H) (tCons (tVar 2) tNil)) (tC (.int 2305843009213693951)))
            (tOp (rI CMul fun i j => .int (i * j)) (tC (.int 40014)) (tOp (rI0 fun i j => .int (i + j)) (tVar 1) (tC (.int 1))))) (tCons (tVar 4) (tCons (tC (.int 0)) tNil)))))
            { nx := fun _ H' => Q .non H', rt := Q } [some (.ref a), some (.int (k : Int)), some (.int c), y, some (.int fg)] H1 := fun fg => by
        refine ⟨_, rfl, .inl ⟨_, rfl, _, _, rfl, rfl, (show (0 : Int) < 2305843009213693951 by decide), _, rfl, _, _, rfl, rfl, _, _, rfl, rfl, .inr cm, _, _, rfl, rfl, _, rfl, (show 3 ≤ sizeLine by decide), fun p hp => ?_⟩⟩
        refine q p _ (s1.trans (same_new hp)) ?_ ⟨_, _, _, upd_same⟩
        cases hH : H p with
        | none => rfl
        | some z => rw [s1 _ _ hH] at hp; cases hp
      refine ⟨_, rfl, _, _, rfl, rfl, _, rfl, ite2 (fun _ => ?_) (fun _ => ?_)⟩
      · exact ⟨_, rfl, _, _, rfl, rfl, fin _⟩
      · refine ⟨_, rfl, _, _, rfl, rfl, ⟨by decide, by decide, by decide⟩, _, _, rfl, rfl, _, rfl, ite2 (fun _ => ?_) (fun _ => ?_)⟩
        · exact ⟨_, rfl, fin _⟩
        · exact fin _
    refine ⟨_, rfl, _, rfl, _, rfl, _, _, rfl, .inl ⟨_, hS, rfl⟩, _, _, rfl, rfl, _, rfl, ite2 (fun e => ?_) (fun e => ?_)⟩
    · have hk2 : k < ns.length := by
        have e2 := of_decide_eq_true e
        rw [List.length_map] at e2
        omega
      refine ⟨_, rfl, _, rfl, a, _, (k : Int), .int ns[k], rfl, rfl, hS, atI_nat (by rw [List.getElem?_map, List.getElem?_eq_getElem hk2]; rfl), .inl ⟨_, rfl, ?_⟩⟩
      exact rest _ none H (Same.refl _)
    · refine ⟨_, rfl, _, rfl, a, _, rfl, hS, fun p hp => ?_⟩
      have s1 : Same H (upd H p (.lst (cutV (ns.map V.int) none (some 4)))) := same_new hp
      have allI : ∀ x ∈ cutV (ns.map V.int) none (some 4), ∃ n, x = V.int n := fun x hx => by
        have h1 : x ∈ ns.map V.int := by
          unfold cutV at hx
          exact List.mem_of_mem_drop (List.mem_of_mem_take hx)
        obtain ⟨n, _, e⟩ := List.mem_map.mp h1
        exact ⟨n, e.symm⟩
      refine ⟨p, rfl, ⟨_, SqL.of upd_same⟩, for_list (xs := cutV (ns.map V.int) none (some 4)) (fun i σ H3 => H3 = upd H p (.lst (cutV (ns.map V.int) none (some 4))) ∧ ∃ (m : Int) (y : Option V), σ = [some (.ref a), some (.int (k : Int)), some (.int m), y, none])
        ⟨rfl, _, _, rfl⟩ (fun i σ H3 hi hp3 => ?_) (fun i x σ H3 hx hp3 => ?_) (fun σ H3 hp3 => ?_)⟩
      · rw [hp3.1]
        exact SqL.of upd_same
      · obtain ⟨rfl, m, y, rfl⟩ := hp3
        obtain ⟨n, rfl⟩ := allI x (List.mem_of_getElem? hx)
        refine ⟨_, rfl, _, _, rfl, rfl, .inr (by decide), _, rfl, _, _, rfl, rfl, _, _, rfl, rfl, .inl ⟨_, rfl, _, _, rfl, rfl, (show (0 : Int) < 2305843009213693951 by decide), ?_⟩⟩
        exact ⟨rfl, _, _, rfl⟩
      · obtain ⟨rfl, m, y, rfl⟩ := hp3
        exact rest m y _ s1
def n_pick : List Str := ["_law_bag_here", "_law_many", "_law_prime", "_law_digit"]
theorem sc_pick : FnScope n_pick ["_law_bag_here", "_law_many"] (defScope s_pick) := ⟨rfl, rfl, rfl, by decide +kernel, rfl, by decide +kernel, by decide +kernel⟩
def spPick : Sp := fun vs H Q _ => ∃ (p : Addr) (m : Int), vs = [.ref p, .int m] ∧ BagAt H p ∧ 0 < m ∧ m < 1073741824 ∧
  ∀ (d : Int) (H' : Hp), 0 ≤ d → d < m → BagAt H' p → Kp p H H' → Q (.int d) H'
theorem ok_pick (T : Txt K mg) (D : Dfn K mg "_law_pick" s_pick ["_law_bag_here", "_law_many"]) : CalG P w K mg base 1 "_law_pick" ["_law_bag_here", "_law_many"] spPick := by
  refine D.ok sc_pick (fun vs H Q E h => ?_) (fun f cdv A fr s H vs Q E hr hgd h => ?_)
  · obtain ⟨p, m, rfl, _⟩ := h
    rfl
  · obtain ⟨p, m, rfl, ⟨a, b, c, hp⟩, hm, hm2, q⟩ := h
    refine ⟨_, pss_cons (ps_asg (pe_op op_add (pe_ix ix_list (pv 0) pe_int (fun _ _ => rfl)) pe_int) (pg_sub (pv 0) pe_int set_list))
      (pss_cons (ps_set (i := 2) sc_pick.nd rfl (.inl rfl) pe_int)
      (pss_cons (ps_asg (pe_op op_mod (pe_callTy call_int1 rfl T.b_int (by decide +kernel) (pa_cons (pe_op op_add (pe_op op_mul (pe_ix ix_list (pv 0) pe_int (fun _ _ => rfl)) pe_int) (pe_op op_mul pe_int (pe_ix ix_list (pv 0) pe_int (fun _ _ => rfl)))) pa_nil)) (pv 2)) (pg_sub (pv 0) pe_int set_list))
      (pss_cons (ps_if (pt_cmpR op_gt (pe_ix ix_list (pv 0) pe_int (fun _ _ => rfl)) pe_int (nomark _))
        (pss_cons (ps_asg (pe_callB call_divmod rfl T.b_divmod (by decide +kernel) (pa_cons (pe_ix ix_list (pv 0) pe_int (fun _ _ => rfl)) (pa_cons (pv 1) pa_nil))) (pg_tup rfl (pgs_cons (pg_sub (pv 0) pe_int set_list) (pgs_cons (pg_name (i := 3) sc_pick.nd rfl (.inl rfl)) pgs_nil))))
          (pss_one (ps_ret (pv 3))))
        (pss_nil))
      (pss_one (ps_ret (pe_op op_mod (pe_callTy call_int1 rfl T.b_int (by decide +kernel) (pa_cons (pe_op op_fdiv (pe_ix ix_list (pv 0) pe_int (fun _ _ => rfl)) pe_int) pa_nil)) (pv 1))))))), ?_⟩
    refine ⟨_, rfl, p, _, 2, _, rfl, rfl, SqL.of hp, atI_nat (j := 2) rfl, _, _, rfl, rfl, _, rfl, p, _, 2, 2, rfl, rfl, hp, ixN_nat (j := 2) (show 2 < 3 by decide), ?_⟩
    refine ⟨_, rfl, p, _, 0, _, rfl, rfl, SqL.of upd_same, atI_nat (j := 0) rfl, _, _, rfl, rfl, .inr (by decide), _, rfl, p, _, 2, _, rfl, rfl, SqL.of upd_same, atI_nat (j := 2) rfl, _, _, rfl, rfl, .inl (by decide), _, _, rfl, rfl, .inl ⟨_, rfl, _, rfl, _, _, rfl, rfl, (show (0 : Int) < 2305843009213693951 by decide), ?_⟩⟩
    refine ⟨_, rfl, p, _, 0, 0, rfl, rfl, upd_same, ixN_nat (j := 0) (show 0 < 3 by decide), ?_⟩
    refine ⟨_, rfl, p, _, 1, _, rfl, rfl, SqL.of upd_same, atI_nat (j := 1) rfl, _, _, rfl, rfl, _, rfl, ite2 (fun e => ?_) (fun e => ?_)⟩
    · refine ⟨_, rfl, p, _, 1, _, rfl, rfl, SqL.of upd_same, atI_nat (j := 1) rfl, _, rfl, _, _, rfl, ⟨hm, hm2⟩, fun t ht => ?_⟩
      have ntp : t ≠ p := fun e2 => by rw [e2, upd_same] at ht; cases ht
      refine ⟨t, _, rfl, .inl (.inl upd_same), rfl, _, _, rfl, ?_⟩
      refine ⟨_, rfl, p, _, 1, 1, rfl, rfl, (upd_ne ntp.symm).trans upd_same, ixN_nat (j := 1) (show 1 < 3 by decide), _, _, rfl, rfl, _, rfl, ?_⟩
      refine q _ _ (Int.emod_nonneg b (by omega)) (Int.emod_lt_of_pos b hm) ⟨_, _, _, upd_same⟩ fun z o ez nz => ?_
      refine (upd_ne nz).trans ?_
      by_cases e2 : z = t
      · subst e2
        exact absurd ht (by rw [upd_ne nz, upd_ne nz, ez]; intro q; cases q)
      · rw [upd_ne e2, upd_ne nz, upd_ne nz]
        exact ez
    · refine ⟨_, rfl, p, _, 0, _, rfl, rfl, SqL.of upd_same, atI_nat (j := 0) rfl, _, _, rfl, rfl, ⟨by decide, by decide⟩, .inl ⟨_, rfl, _, rfl, _, _, rfl, rfl, hm, ?_⟩⟩
      exact q _ _ (Int.emod_nonneg _ (by omega)) (Int.emod_lt_of_pos _ hm) ⟨_, _, _, upd_same⟩ ((Kp.put).trans Kp.put)
end
/-! ### names, sign by sign -/
structure Good (z : Str) : Prop where
  pos : 1 ≤ z.length
  first : z.cps.getD 0 0 ∈ letters.cps.toList
  all : ∀ c ∈ z.cps.toList, c ∈ signs.cps.toList
theorem let_sign : ∀ c ∈ letters.cps.toList, c ∈ signs.cps.toList := by decide +kernel
theorem one_len (c : Nat) : (⟨#[c]⟩ : Str).length = 1 := rfl
theorem cps_add (a b : Str) : (a ++ b).cps.toList = a.cps.toList ++ b.cps.toList := by
  rw [Str.cps_append, Array.toList_append]
theorem Good.add {z y : Str} (h : Good z) (hy : ∀ c ∈ y.cps.toList, c ∈ signs.cps.toList) : Good (z ++ y) := by
  refine ⟨by rw [Str.length_append]; have := h.pos; omega, ?_, fun c hc => ?_⟩
  · have h0 : 0 < z.cps.size := by rw [← len_cps]; exact h.pos
    have e : (z ++ y).cps.getD 0 0 = z.cps.getD 0 0 := by
      rw [Array.getD_eq_getD_getElem?, Array.getD_eq_getD_getElem?, Str.cps_append, Array.getElem?_append_left h0]
    rw [e]
    exact h.first
  · rw [cps_add] at hc
    rcases List.mem_append.mp hc with hc | hc
    · exact h.all c hc
    · exact hy c hc
theorem nm_of {z : Str} (h : Good z) (hl : z.length ≤ 8) : nmS z = true := by
  unfold nmS
  have hp := h.pos
  rw [decide_eq_true (show (1 : Int) ≤ (z.length : Int) by omega), decide_eq_true (show (z.length : Int) ≤ 8 by omega), decide_eq_true h.first]
  simp only [Bool.true_and]
  rw [List.all_eq_true]
  intro b hb
  obtain ⟨i, hi, rfl⟩ := List.mem_map.mp hb
  have hi2 : i < z.cps.size := List.mem_range.mp hi
  have e : z.cps.getD i 0 = z.cps[i] := by simp [Array.getD_eq_getD_getElem?, hi2]
  rw [e]
  exact decide_eq_true (h.all _ (by simp))
theorem letter_at {d : Nat} {c : Nat} (h : letters.cps[d]? = some c) : c ∈ letters.cps.toList := by
  have h2 : letters.cps.toList[d]? = some c := by simpa using h
  exact List.mem_of_getElem? h2
theorem only_one {c : Nat} : ∀ x ∈ (⟨#[c]⟩ : Str).cps.toList, x = c := by
  intro x hx
  simpa using hx
section
variable {P : Program} {w : World} {K : PySem.W.Frag} {mg : Str → Option Value} {base : Heap}
def wordsN : List Str := ["into", "plus", "fail", "if", "else", "while", "call", "return", "not", "slot"]
theorem wordsN_ok : ∀ z ∈ wordsN, nmS z = true ∧ z.length ≤ 8 := by decide +kernel
def n_name : List Str := ["_law_bag_here", "_law_k", "_law_letters", "_law_name_here", "_law_turn"]
theorem sc_name : FnScope n_name ["_law_bag_here", "_law_k"] (defScope s_name) := ⟨rfl, rfl, rfl, by decide +kernel, rfl, by decide +kernel, by decide +kernel⟩
def spName : Sp := fun vs H Q _ => ∃ (p : Addr) (k : Int), vs = [.ref p, .int k] ∧ 0 ≤ k ∧ k ≤ 9 ∧ BagAt H p ∧ ∀ (z : Str) (H' : Hp), nmS z = true → z.length ≤ 8 → BagAt H' p → Kp p H H' → Q (.str z) H'
theorem ok_name (T : Txt K mg) (D : Dfn K mg "_law_name" s_name ["_law_bag_here", "_law_k"]) (c_pick : CalG P w K mg base 1 "_law_pick" ["_law_bag_here", "_law_many"] spPick) :
    CalG P w K mg base 2 "_law_name" ["_law_bag_here", "_law_k"] spName := by
  refine D.ok sc_name (fun vs H Q E h => ?_) (fun f cdv A fr s H vs Q E hr hgd h => ?_)
  · obtain ⟨p, k, rfl, _⟩ := h
    rfl
  · obtain ⟨p, k, rfl, k0, k9, hp, q⟩ := h
    have hk : k = 0 ∨ k = 1 ∨ k = 2 ∨ k = 3 ∨ k = 4 ∨ k = 5 ∨ k = 6 ∨ k = 7 ∨ k = 8 ∨ k = 9 := by omega
    refine ⟨_, pss_cons (ps_if (pt_cmpR op_eq (pe_cG c_pick hr (by decide) hgd rfl (pa_cons (pv 0) (pa_cons pe_int pa_nil))) pe_int (nomark _))
        (pss_one (ps_ret (pe_ix ix_list (pe_lst (pa_cons pe_str (pa_cons pe_str (pa_cons pe_str (pa_cons pe_str (pa_cons pe_str (pa_cons pe_str (pa_cons pe_str (pa_cons pe_str (pa_cons pe_str (pa_cons pe_str pa_nil))))))))))) (pv 1) (fun _ _ => rfl))))
        (pss_nil))
      (pss_cons (ps_asg (pe_tup (pa_cons pe_str (pa_cons pe_str pa_nil))) (pg_tup rfl (pgs_cons (pg_name (i := 2) sc_name.nd rfl (.inl rfl)) (pgs_cons (pg_name (i := 3) sc_name.nd rfl (.inl rfl)) pgs_nil))))
      (pss_cons (ps_for PassesOwn.never rfl (pi_range1 rfl T.b_range (pa_cons (pe_op op_add pe_int (pe_cG c_pick hr (by decide) hgd rfl (pa_cons (pv 0) (pa_cons pe_int pa_nil)))) pa_nil)) (pg_name (i := 4) sc_name.nd rfl (.inl rfl))
        (pss_one (ps_set (i := 3) sc_name.nd rfl (.inl rfl) (pe_op op_add_str (pv 3) (pe_item_str (pv 2) (pe_cG c_pick hr (by decide) hgd rfl (pa_cons (pv 0) (pa_cons pe_int pa_nil))) (fun _ _ => rfl))))))
      (pss_cons (ps_set (i := 3) sc_name.nd rfl (.inl rfl) (pe_op op_add_str (pv 3) (pe_callTy call_str_int rfl T.b_str (by decide +kernel) (pa_cons (pv 1) pa_nil))))
      (pss_cons (ps_for PassesOwn.never rfl (pi_range1 rfl T.b_range (pa_cons (pe_cG c_pick hr (by decide) hgd rfl (pa_cons (pv 0) (pa_cons pe_int pa_nil))) pa_nil)) (pg_name (i := 4) sc_name.nd rfl (.inl rfl))
        (pss_one (ps_set (i := 3) sc_name.nd rfl (.inl rfl) (pe_op op_add_str (pv 3) (pe_item_str (pv 2) (pe_cG c_pick hr (by decide) hgd rfl (pa_cons (pv 0) (pa_cons pe_int pa_nil))) (fun _ _ => rfl))))))
      (pss_one (ps_ret (pv 3))))))), ?_⟩
    have dig : (Str.ofString (toString k)).length = 1 ∧ ∀ c ∈ (Str.ofString (toString k)).cps.toList, c ∈ signs.cps.toList := by
      rcases hk with rfl | rfl | rfl | rfl | rfl | rfl | rfl | rfl | rfl | rfl <;> decide +kernel
    have klog : k.natAbs.log2 < 1920 := by rcases hk with rfl | rfl | rfl | rfl | rfl | rfl | rfl | rfl | rfl | rfl <;> decide +kernel
    refine ⟨_, rfl, p, 6, rfl, hp, by decide, by decide, fun w0 H1 a0 a1 p1 k1 => ?_⟩
    refine ⟨rfl, _, rfl, ite2 (fun e => ?_) (fun e => ?_)⟩
    · refine ⟨(show 10 ≤ sizeLine by decide), fun l hl => ?_⟩
      have s1 : Same H1 (upd H1 l (.lst (wordsN.map V.str))) := same_new hl
      have hat : ∃ z, z ∈ wordsN ∧ atI (wordsN.map V.str) k = some (.str z) := by
        obtain ⟨j, rfl⟩ := Int.eq_ofNat_of_zero_le k0
        have hj : j < wordsN.length := by show j < 10; omega
        exact ⟨wordsN[j], List.getElem_mem hj, atI_nat (by rw [List.getElem?_map, List.getElem?_eq_getElem hj]; rfl)⟩
      obtain ⟨z, hz, hz2⟩ := hat
      exact ⟨_, rfl, l, _, k, _, rfl, rfl, SqL.of upd_same, hz2, q z _ (wordsN_ok z hz).1 (wordsN_ok z hz).2 (p1.same s1) (k1.trans (kp_of s1))⟩
    · refine ⟨(show 2 ≤ sizeLine by decide), fun t ht => ?_⟩
      have s1 : Same H1 (upd H1 t (.tup [V.str letters, V.str (Str.ofString "")])) := same_new ht
      refine ⟨t, _, rfl, .inl (.inl upd_same), rfl, _, _, rfl, _, _, rfl, rfl, ?_⟩
      refine ⟨_, rfl, p, 3, rfl, p1.same s1, by decide, by decide, fun n1 H2 b0 b1 p2 k2 => ?_⟩
      refine ⟨_, _, rfl, rfl, _, rfl, by omega, by omega, ?_⟩
      have kk2 := (k1.trans (kp_of s1)).trans k2
      refine for_range (lo := 0) (n := (1 + n1).toNat) (fun i σ H3 => BagAt H3 p ∧ Kp p H H3 ∧ ∃ (z : Str) (y : Option V), z.length = i ∧ (0 < i → Good z) ∧ σ = [some (.ref p), some (.int k), some (.str letters), some (.str z), y])
        ⟨p2, kk2, _, _, rfl, (fun z => absurd z (by decide)), rfl⟩ (fun i σ H3 hi hp3 => ?_) (fun σ H3 hp3 => ?_)
      · obtain ⟨p3, k3, z, y, hz, hg, rfl⟩ := hp3
        refine ⟨_, rfl, _, rfl, _, rfl, p, 26, rfl, p3, by decide, by decide, fun d H4 d0 d1 p4 k4 => ?_⟩
        obtain ⟨i1, i2⟩ := item_ok (z := letters) d0 d1 (by decide)
        have hc := letter_at i2
        refine ⟨letters, d, _, rfl, rfl, d0, i1, d1, i2, _, _, rfl, rfl, ?_, p4, k3.trans k4, _, _, (by rw [Str.length_append, hz, one_len]), (fun _ => ?_), rfl⟩
        · rw [hz, one_len]
          exact Nat.le_of_lt (small1000 (by omega))
        · by_cases h0 : 0 < i
          · exact (hg h0).add fun c hc2 => by rw [only_one c hc2]; exact let_sign _ hc
          · have ez : z.cps = #[] := by
              have : z.cps.size = 0 := by rw [← len_cps]; omega
              exact Array.eq_empty_of_size_eq_zero this
            have e1 : (z ++ (⟨#[letters.cps.getD d.toNat 0]⟩ : Str)).cps = #[letters.cps.getD d.toNat 0] := by rw [Str.cps_append, ez]; simp
            refine ⟨by rw [Str.length_append, one_len]; omega, by rw [e1]; exact hc, fun c hc2 => ?_⟩
            rw [e1] at hc2
            have : c = letters.cps.getD d.toNat 0 := by simpa using hc2
            rw [this]
            exact let_sign _ hc
      · obtain ⟨p3, k3, z, y, hz, hg, rfl⟩ := hp3
        have hg2 := (hg (by omega)).add dig.2
        have lz : (z ++ Str.ofString (toString k)).length ≤ 4 := by rw [Str.length_append, dig.1, hz]; omega
        refine ⟨_, rfl, _, rfl, k, rfl, klog, _, _, rfl, rfl, ?_, ?_⟩
        · rw [hz]
          have h9 : (1 + n1).toNat + (Str.ofString (toString k)).length ≤ 1000 := by rw [dig.1]; omega
          exact Nat.le_of_lt (small1000 h9)
        · refine ⟨_, rfl, p, 4, rfl, p3, by decide, by decide, fun n2 H5 c0 c1 p5 k5 => ?_⟩
          refine ⟨n2, rfl, by omega, by omega, ?_⟩
          refine for_range (lo := 0) (n := n2.toNat) (fun i σ H3 => BagAt H3 p ∧ Kp p H H3 ∧ ∃ (z : Str) (y : Option V), z.length ≤ 4 + i ∧ Good z ∧ σ = [some (.ref p), some (.int k), some (.str letters), some (.str z), y])
            ⟨p5, k3.trans k5, _, _, lz, hg2, rfl⟩ (fun i σ H6 hi hp6 => ?_) (fun σ H6 hp6 => ?_)
          · obtain ⟨p6, k6, z2, y2, hz2, hg3, rfl⟩ := hp6
            refine ⟨_, rfl, _, rfl, _, rfl, p, 26, rfl, p6, by decide, by decide, fun d H7 d0 d1 p7 k7 => ?_⟩
            obtain ⟨i1, i2⟩ := item_ok (z := letters) d0 d1 (by decide)
            have hc := letter_at i2
            refine ⟨letters, d, _, rfl, rfl, d0, i1, d1, i2, _, _, rfl, rfl, ?_, p7, k6.trans k7, _, _, (by rw [Str.length_append, one_len]; omega), hg3.add (fun c hc2 => by rw [only_one c hc2]; exact let_sign _ hc), rfl⟩
            rw [one_len]
            exact Nat.le_of_lt (small1000 (by omega))
          · obtain ⟨p6, k6, z2, y2, hz2, hg3, rfl⟩ := hp6
            have l8 : z2.length ≤ 8 := by omega
            exact ⟨_, rfl, q z2 H6 (nm_of hg3 l8) l8 p6 k6⟩
end
end Jo

set_option Elab.async false
set_option linter.all false
set_option maxRecDepth 100000
set_option maxHeartbeats 2000000
/-! Errors of the program as values: over any of the built-in bases, with or without an __init__ of their own. -/
namespace Jo
open PySem PySem.Spec PyProof.Rows L2
section
open Builtin Builtin.ObjectAttr PySem.Calls
variable {prog : Program} {w : World} {A : Around} {E : Value → Shared → Prop} {R : Result → Shared → Prop} {hp : Heap} {g : Array GenState} {d : Drawn} {t : Nat} {os : OsState}
/-- object.__setattr__ at an instance whose classes let stores through: the store in its own dict -/
theorem osa_any {K : PySem.W.Frag} {name : Str} {tk : Tok} {v : Value} {x C : Addr} {ox : Obj} {od : Option Obj} {cd : ClassData}
    (X : K.In hp) (I : PySem.W.InstAt hp x ox C od) (hcd : PySem.W.clsIn K C = some cd) (hpl : refuseLoop (.ref x) "__setattr__" cd.mro = pure ())
    (hob : cd.mro.contains (.type "object") = true) (hne : cd.mro.isEmpty = false) (ha : PySem.W.findIn K (.ref C) name = some none)
    (hq : ∀ (Q : Fin → Shared → Prop) (E : Value → Shared → Prop), (∀ s', R (.ok (.ret .none)) s' → Q (.done (.ret .none)) s') →
      wpAny (model prog w) A.in1 (storeInOwnDict (.ref x) (.ref C) (.str name tk) name v false) Q E ⟨hp, g, d, t, os⟩) :
    codeAny (model prog w) A (.call (.builtin "object.__setattr__") ⟨[.ref x, .str name tk, v], []⟩) R ⟨hp, g, d, t, os⟩ := by
  have SF := PySem.F.store_object
  have sub : PySem.W.Looks (model prog w) hp (isInstance (.ref x) (.type "object")) true := by
    refine I.type.andThen (PySem.W.looks_mroIn X ?_)
    unfold PySem.W.mroIn
    rw [hcd, Option.bind_some, if_neg (by rw [hne]; decide), hob]
  refine codeAny_call_builtin SF.slot.plain SF.entry ?_
  refine @PySem.W.check_slot (model prog w) _ _ ⟨hp, g, d, t, os⟩ "object.__setattr__" "object" "__setattr__" (.ref x) [.str name tk, v] [] _ SF.kind SF.split sub ?_ ?_
  · exact SF.args (.ref x) (.str name tk) v
  have hmr : PySem.W.Looks (model prog w) hp (mroOf (.ref C)) cd.mro := (PySem.W.looks_clsIn X hcd).andThen .now
  have L3 : PySem.W.Looks (model prog w) hp (storeTaker? none) none := .now
  rw [PySem.W.osa_eq, refuse_eq]
  refine wpAny_bind (wpAny_bind (I.type.at (wpAny_bind (hmr.at ?_))))
  rw [hpl]
  refine wpAny_pure (wpAny_bind (I.type.at ?_))
  refine wpAny_bind ((PySem.W.looks_findIn X ha).at (wpAny_bind (L3.at ?_)))
  exact hq _ _ fun s' z => z
/-- the first store: a dict is made -/
theorem osa_first {K : PySem.W.Frag} {name : Str} {tk : Tok} {v : Value} {x C : Addr} {fv : Array Value} {cd : ClassData}
    (X : K.In hp) (hx : hp.get? x = some { cls := .ref C, data := .fields fv }) (hcd : PySem.W.clsIn K C = some cd) (hpl : refuseLoop (.ref x) "__setattr__" cd.mro = pure ())
    (hob : cd.mro.contains (.type "object") = true) (hne : cd.mro.isEmpty = false) (hh : cd.hasDict = true) (ha : PySem.W.findIn K (.ref C) name = some none)
    (hq : ∀ h' tk' dx, (∀ b o, b ≠ x → hp.get? b = some o → h'.get? b = some o) → hp.objs.size ≤ dx → dx ≠ x → h'.get? x = some { cls := .ref C, dict := some dx, data := .fields fv } →
      h'.Ns1 dx (fun y => if y = name then some v else none) → R (.ok (.ret .none)) ⟨h', g, d, tk', os⟩) :
    codeAny (model prog w) A (.call (.builtin "object.__setattr__") ⟨[.ref x, .str name tk, v], []⟩) R ⟨hp, g, d, t, os⟩ := by
  have hxs : x ≠ hp.objs.size := Nat.ne_of_lt (Heap.lt_size hx)
  have hcls : PySem.W.Looks (model prog w) hp (classData C) cd := PySem.W.looks_clsIn X hcd
  refine osa_any X (I := ⟨hx, rfl, rfl, trivial⟩) (od := none) hcd hpl hob hne ha fun Q E hR => ?_
  obtain ⟨cn, cb, cm, cns, cq, ch, csn, csb, cab, ccl, cdl⟩ := cd
  dsimp only at hh
  subst hh
  unfold storeInOwnDict ownDictForStores
  repeat (first
    | with_reducible refine PySem.HandSPX.store_in_new ?_ ?_
    | with_reducible refine wpAny_loadPart_at hx ?_
    | with_reducible refine hcls.at ?_
    | wp_step)
  · refine ⟨_, #[], _, (Heap.get?_update_ne _ _ _ _ hxs.symm).trans (Heap.get?_push_at rfl rfl), rfl, ?_, fun _ => rfl⟩
    exact fun e he => absurd he (by simp)
  · intro h' tk' hn' hs
    have hx1 : (hp.push { cls := .type "dict", data := .dict #[] }).get? x = some { cls := .ref C, data := .fields fv } := Heap.get?_push_of_some _ hx
    refine hR _ (hq h' tk' hp.objs.size (fun b o hb ho => ?_) (Nat.le_refl _) hxs.symm ?_ hn')
    · refine (hs.2 b (Nat.ne_of_lt (Heap.lt_size ho))).trans ?_
      exact (Heap.get?_update_ne _ _ _ _ hb).trans (Heap.get?_push_of_some _ ho)
    · exact (hs.2 x hxs).trans (Heap.get?_update_self _ hx1 rfl)
/-- a further one -/
theorem osa_next {K : PySem.W.Frag} {name : Str} {tk : Tok} {v : Value} {x C dx : Addr} {fv : Array Value} {cd : ClassData} {m0 : Str → Option Value} {nl : List Str}
    (X : K.In hp) (hx : hp.get? x = some { cls := .ref C, dict := some dx, data := .fields fv }) (hns : hp.Ns1 dx m0) (hw : Within m0 nl) (hz : nl.length ≤ 1000)
    (hcd : PySem.W.clsIn K C = some cd) (hpl : refuseLoop (.ref x) "__setattr__" cd.mro = pure ()) (hob : cd.mro.contains (.type "object") = true) (hne : cd.mro.isEmpty = false)
    (hh : cd.hasDict = true) (ha : PySem.W.findIn K (.ref C) name = some none)
    (hq : ∀ h' tk', (∀ b o, b ≠ dx → hp.get? b = some o → h'.get? b = some o) → h'.Ns1 dx (fun y => if y = name then some v else m0 y) → R (.ok (.ret .none)) ⟨h', g, d, tk', os⟩) :
    codeAny (model prog w) A (.call (.builtin "object.__setattr__") ⟨[.ref x, .str name tk, v], []⟩) R ⟨hp, g, d, t, os⟩ := by
  have hcls : PySem.W.Looks (model prog w) hp (classData C) cd := PySem.W.looks_clsIn X hcd
  obtain ⟨oD, _, _, hoD, _, _⟩ := hns.count hw
  refine osa_any X (I := ⟨hx, rfl, rfl, hoD⟩) (od := some oD) hcd hpl hob hne ha fun Q E hR => ?_
  obtain ⟨cn, cb, cm, cns, cq, ch, csn, csb, cab, ccl, cdl⟩ := cd
  dsimp only at hh
  subst hh
  unfold storeInOwnDict ownDictForStores
  repeat (first
    | with_reducible refine PySem.OEX.store_in_old hns hw hz ?_
    | with_reducible refine wpAny_loadPart_at hx ?_
    | with_reducible refine hcls.at ?_
    | wp_step)
  intro h' tk' hn' hs
  exact hR _ (hq h' tk' (fun b o hb ho => (hs.2 b hb).trans ho) hn')
end
end Jo

set_option Elab.async false
set_option linter.all false
set_option maxRecDepth 100000
set_option maxHeartbeats 2000000
/-! Errors of the program as values: made, their fields, their classes. -/
namespace Jo
open PySem PySem.Spec PyProof.Rows L2
/-- a built-in class below which errors stand -/
structure EBase (B newId initId : String) (bmB : List Value) : Prop where
  f : ExcBaseFacts B newId initId bmB
  pass : ∀ self : Value, refuseLoop self "__setattr__" bmB = pure ()
  obj : bmB.contains (.type "object") = true
  exc : bmB.contains (.type "BaseException") = true
theorem ebV : EBase "ValueError" "ValueError.__new__" "ValueError.__init__" [.type "ValueError", .type "Exception", .type "BaseException", .type "object"] :=
  ⟨PySem.F.excBase_ValueError, fun s => PySem.F.store_ValueError.passes s, by decide +kernel, by decide +kernel⟩
theorem ebL : EBase "LookupError" "LookupError.__new__" "LookupError.__init__" [.type "LookupError", .type "Exception", .type "BaseException", .type "object"] :=
  ⟨PySem.F.excBase_LookupError, fun s => PySem.F.store_LookupError.passes s, by decide +kernel, by decide +kernel⟩
theorem ebA : EBase "ArithmeticError" "ArithmeticError.__new__" "ArithmeticError.__init__" [.type "ArithmeticError", .type "Exception", .type "BaseException", .type "object"] :=
  ⟨PySem.F.excBase_ArithmeticError, fun s => PySem.F.store_ArithmeticError.passes s, by decide +kernel, by decide +kernel⟩
/-- what the written part says of the error class at C, right below the class at B -/
structure EC (K : PySem.W.Frag) (C B : Addr) (newId : String) (bmB : List Value) : Prop where
  look : ∃ nm q N bs sn sub ab col dd k0 k1 k2 k3 k5, K.lookup C = some (excClassObj nm q C N bs (.ref B :: bmB) true sn sub ab col dd k0 k1 k2 k3 k5 newId)
  sa : PySem.W.findIn K (.ref C) "__setattr__" = some (some (.builtin "object.__setattr__"))
  ga : PySem.W.findIn K (.ref C) "__getattribute__" = some (some (.builtin "BaseException.__getattribute__"))
  gg : PySem.W.findIn K (.ref C) "__getattr__" = some none
  cl : PySem.W.findIn K (.ref C) "__class__" = some (some (.builtin "object.__class__"))
  kp : PySem.W.keepIn K (.ref C) = true
/-- of the word __class__ -/
structure CW (K : PySem.W.Frag) : Prop where
  get : PySem.W.specialIn K (.builtin "object.__class__") "__get__" = some (some (.builtin "getset_descriptor.__get__"))
  take : PySem.W.takesIn K (.builtin "object.__class__") = some true
section
variable {K : PySem.W.Frag} {C B D : Addr} {newId initId b : String} {bmB : List Value}
theorem EC.cls (T : EC K C B newId bmB) : ∃ cd, PySem.W.clsIn K C = some cd ∧ cd.mro = .ref C :: .ref B :: bmB ∧ cd.hasDict = true := by
  obtain ⟨nm, q, N, bs, sn, sub, ab, col, dd, k0, k1, k2, k3, k5, hC⟩ := T.look
  refine ⟨{ name := nm, bases := bs, mro := .ref C :: .ref B :: bmB, ns := N, qualname := q, hasDict := true, slotNames := sn, subclasses := sub, abstract := ab, collection := col, hasDel := false }, ?_, rfl, rfl⟩
  unfold PySem.W.clsIn
  rw [hC] <;> rfl
theorem EC.ty (T : EC K C B newId bmB) : PySem.W.typeIn K (.ref C) = some (.type "type") := by
  obtain ⟨nm, q, N, bs, sn, sub, ab, col, dd, k0, k1, k2, k3, k5, hC⟩ := T.look
  show (K.lookup C).map (·.cls) = _
  rw [hC] <;> rfl
theorem EC.is (T : EC K C B newId bmB) : PySem.W.isClsIn K C = true := by
  obtain ⟨cd, e, _, _⟩ := T.cls
  show (PySem.W.clsIn K C).isSome = true
  rw [e] <;> rfl
theorem EC.mro (T : EC K C B newId bmB) (x : Value) : PySem.W.mroIn K C x = some ((Value.ref C :: .ref B :: bmB).contains x) := by
  obtain ⟨cd, e, m, _⟩ := T.cls
  unfold PySem.W.mroIn
  rw [e, Option.bind_some, m]
  rfl
theorem EC.sub (T : EC K C B newId bmB) (x : Value) : PySem.W.subIn K (.ref C) x = some ((Value.ref C :: .ref B :: bmB).contains x) := T.mro x
theorem has_ty {C B : Addr} {bmB : List Value} (X : String) : (Value.ref C :: .ref B :: bmB).contains (.type X) = bmB.contains (.type X) := by
  rw [List.contains_cons, List.contains_cons] <;> rfl
theorem EC.exc (T : EC K C B newId bmB) (b0 : EBase b newId initId bmB) : PySem.W.subIn K (.ref C) (.type "BaseException") = some true := by
  rw [T.sub, has_ty, b0.exc]
theorem EC.obj (T : EC K C B newId bmB) (b0 : EBase b newId initId bmB) : PySem.W.mroIn K C (.type "object") = some true := by
  rw [T.mro, has_ty, b0.obj]
theorem EC.hd (T : EC K C B newId bmB) : PySem.W.hasDictIn K C = true := by
  obtain ⟨cd, e, _, h⟩ := T.cls
  show (PySem.W.clsIn K C).any (fun cd => cd.hasDict) = true
  rw [e]
  exact h
/-- an error of the class at C against the class at D -/
theorem EC.kit (T : EC K C B newId bmB) (hc : PySem.W.isClsIn K D = true) (ht : PySem.W.typeIn K (.ref D) = some (.type "type")) (hn : ∀ x : Addr, bmB.contains (.ref x) = false) :
    PySem.W.kitOne K (.ref C) (.ref D) = some (D == C || D == B) := by
  unfold PySem.W.kitOne
  by_cases h : C = D
  · rw [if_pos (by rw [h]; simp), h]
    simp
  · rw [if_neg (by simpa using h)]
    show (if ((PySem.W.clsIn K D).isSome && PySem.W.typeIn K (.ref D) == some (.type "type")) = true then PySem.W.subIn K (.ref C) (.ref D) else none) = _
    have hc' : (PySem.W.clsIn K D).isSome = true := hc
    rw [if_pos (by rw [hc', ht]; rfl), T.sub, List.contains_cons, List.contains_cons, hn]
    have e1 : (Value.ref D == Value.ref C) = (D == C) := by
      by_cases q : D = C
      · simp [q]
      · rw [beq_eq_false_iff_ne.mpr q]
        exact beq_eq_false_iff_ne.mpr (fun z => q (Value.ref.inj z))
    have e2 : (Value.ref D == Value.ref B) = (D == B) := by
      by_cases q : D = B
      · simp [q]
      · rw [beq_eq_false_iff_ne.mpr q]
        exact beq_eq_false_iff_ne.mpr (fun z => q (Value.ref.inj z))
    rw [e1, e2, Bool.or_false]
/-- .. against a class that stands above errors itself -/
theorem EC.kitT (T : EC K C B newId bmB) (X : String) (hm : PySem.W.kitMeta X = true) : PySem.W.kitOne K (.ref C) (.type X) = some (bmB.contains (.type X)) := by
  unfold PySem.W.kitOne
  rw [if_neg (by intro z; cases eq_of_beq z)]
  show (if PySem.W.kitMeta X = true then PySem.W.subIn K (.ref C) (.type X) else none) = _
  rw [if_pos hm, T.sub, has_ty]
end

/-! ### stores -/
section
variable {X : Cx} {pins : List (Addr × Obj)} {σ : L2.St} {H : Hp} {s : Shared} {a C B dx : Addr} {f : Str} {y : V} {u : Value} {fs : List (Str × V)} {newId initId b : String} {bmB : List Value}
  {Q : Unit → Shared → Prop} {E : Value → Shared → Prop} {A : Around}
theorem EC.lets (T : EC X.K C B newId bmB) (b0 : EBase b newId initId bmB) : ∃ cd, PySem.W.clsIn X.K C = some cd ∧ cd.hasDict = true ∧ (∀ self, refuseLoop self "__setattr__" cd.mro = pure ()) ∧
    cd.mro.contains (.type "object") = true ∧ cd.mro.isEmpty = false := by
  obtain ⟨cd, e, m, h⟩ := T.cls
  refine ⟨cd, e, h, fun self => ?_, ?_, ?_⟩
  · rw [m, refuseLoop_ref, refuseLoop_ref]
    exact b0.pass self
  · rw [m, has_ty, b0.obj]
  · rw [m] <;> rfl
theorem set_first (T : EC X.K C B newId bmB) (b0 : EBase b newId initId bmB) (I : Inv X pins σ H s) (e : H a = some (exo a C none)) (hno : PySem.W.findIn X.K (.ref C) f = some none) (ry : RelV y u)
    (h : ∀ dx s', H dx = none → dx ≠ a → Inv X pins σ (upd (upd H dx (exd dx [(f, y)])) a (exo a C (some dx))) s' → Q () s') :
    wpAny (model X.prog X.w) A (setAttr (.ref a) f u) Q E s := by
  obtain ⟨cd, hcl, hhd, hps, hob, hem⟩ := T.lets b0
  obtain ⟨t1, ho⟩ := exo_at I.hok e
  obtain ⟨hp, gs, dr, tk, os⟩ := s
  refine PySem.W.set_plain I.kIn (od := none) ⟨ho, rfl, rfl, trivial⟩ T.sa ?_
  refine osa_first I.kIn ho hcl (hps _) hob hem hhd hno (fun h' tk' dx k dn dne hx hn => ?_)
  have hnd : H dx = none := I.hok.fresh dn
  have nd : ∀ {c : Addr} {o : Obj}, hp.get? c = some o → c ≠ dx := fun {c o} q =>
    Nat.ne_of_lt (Nat.lt_of_lt_of_le (Heap.lt_size q) dn)
  have na : ∀ {c : Addr}, H c = none → c ≠ a := fun {c} n z => by
    subst z
    rw [e] at n
    cases n
  have U : Un X.fs [] H (upd (upd H dx (exd dx [(f, y)])) a (exo a C (some dx))) hp h' := {
    keep := fun c o q n _ _ => k c o (na n) q
    slot := fun c o q n _ _ => ⟨o.slots, k c o (na n) q⟩
    free := fun c o q n _ => by
      rw [upd_ne (na n), upd_ne (nd q)]
      exact n
    there := fun c o q _ => by
      by_cases hc : c = a
      · subst hc
        exact ⟨_, hx⟩
      · exact ⟨o, k c o hc q⟩
    tups := fun c xs q => by
      rw [upd_ne (at_ne e q exo_tup), upd_ne (ne_of_none q hnd)]
      exact q
    frzs := fun c o v q => by
      rw [upd_ne (at_ne e q exo_frz), upd_ne (ne_of_none q hnd)]
      exact q
    tbls := fun c ps q => by
      refine ⟨#[], ?_⟩
      rw [upd_ne (at_ne e q exo_tbl), upd_ne (ne_of_none q hnd), q]
      simp }
  refine h dx _ hnd dne (I.un (t' := tk') U fun c o q => ?_)
  by_cases hc : c = a
  · subst hc
    rw [upd_same] at q
    cases q
    exact exo_ok hx
  · rw [upd_ne hc] at q
    by_cases hd : c = dx
    · subst hd
      rw [upd_same] at q
      cases q
      exact exd_ok hn (relO_put (fs := []) ry fun g => True.intro)
    · rw [upd_ne hd] at q
      refine (I.hok c o q).stay (fun e1 v he z => k e1 v ?_ z) (fun e1 he => ?_) fun e1 xs he => ?_
      · rcases he with he | he
        · subst he
          exact hc
        · exact at_ne e he exo_own
      · rw [upd_ne (at_ne e he exo_own), upd_ne (ne_of_none he hnd)]
        exact he
      · rw [upd_ne (at_ne e he exo_tup), upd_ne (ne_of_none he hnd)]
        exact he
theorem set_next (T : EC X.K C B newId bmB) (b0 : EBase b newId initId bmB) (I : Inv X pins σ H s) (e : H a = some (exo a C (some dx))) (ed : H dx = some (exd dx fs)) (hl : fs.length ≤ 900)
    (hno : PySem.W.findIn X.K (.ref C) f = some none) (ry : RelV y u) (h : ∀ s', Inv X pins σ (upd H dx (exd dx ((f, y) :: fs))) s' → Q () s') :
    wpAny (model X.prog X.w) A (setAttr (.ref a) f u) Q E s := by
  obtain ⟨cd, hcl, hhd, hps, hob, hem⟩ := T.lets b0
  obtain ⟨t1, ho⟩ := exo_at I.hok e
  obtain ⟨mA, hns, rel⟩ := exd_at I.hok ed
  have hw := within_of rel
  obtain ⟨hp, gs, dr, tk, os⟩ := s
  obtain ⟨oD, _, _, hoD, _, _⟩ := hns.count hw
  refine PySem.W.set_plain I.kIn (od := some oD) ⟨ho, rfl, rfl, hoD⟩ T.sa ?_
  refine osa_next I.kIn ho hns hw (by rw [List.length_map]; omega) hcl (hps _) hob hem hhd hno (fun h' tk' k hn => ?_)
  have hd : ∃ o, h'.get? dx = some o := by
    obtain ⟨o, _, _, e', _⟩ := hn
    exact ⟨o, e'⟩
  refine h _ (I.write (t' := tk') (x := dx) (e := dx) (o := exd dx ((f, y) :: fs)) ?_ (.inl rfl) k hd (exd_ok hn (relO_put ry rel)))
  rw [ed]
  exact True.intro
/-- self.f = e in an error's __init__: the first store, a further one -/
def tEst (K : PySem.W.Frag) (f : Str) (to te : TE) : TS := fun D σ H => te σ H fun y H1 => to σ H1 fun x H2 => ∃ (a C B : Addr) (b newId initId : String) (bmB : List Value), x = .ref a ∧ EC K C B newId bmB ∧ EBase b newId initId bmB ∧
  PySem.W.findIn K (.ref C) f = some none ∧
  ((H2 a = some (exo a C none) ∧ ∀ dx, H2 dx = none → dx ≠ a → D.nx σ (upd (upd H2 dx (exd dx [(f, y)])) a (exo a C (some dx)))) ∨
    ∃ (dx : Addr) (fs : List (Str × V)), H2 a = some (exo a C (some dx)) ∧ H2 dx = some (exd dx fs) ∧ fs.length ≤ 900 ∧ D.nx σ (upd H2 dx (exd dx ((f, y) :: fs))))
theorem ps_est {o e : Expr} {to te : TE} {p' pos : Pos} (ho : PE X o to) (he : PE X e te) (hs : swapsWith e (some (.Attribute o f p')) pos.line X.env = pure false := by rfl) :
    PS X (.Assign [.Attribute o f p'] e pos) (tEst X.K f to te) := by
  refine ⟨fun pins s σ H D I h => ?_⟩
  refine plainObj_wpAny_Assign_Attribute (thn (he.run pins s σ H _ I h) fun v s1 ⟨y, H1, I1, r1, q1⟩ => ?_) hs
  refine thn (ho.run pins s1 σ H1 _ I1 q1) fun u s2 ⟨x, H2, I2, r2, q2⟩ => ?_
  obtain ⟨a, C, B, b, newId, initId, bmB, rfl, T, b0, hno, q⟩ := q2
  obtain rfl : u = Value.ref a := r2
  rcases q with ⟨ea, q⟩ | ⟨dx, fs, ea, ed, hl, q⟩
  · exact set_first T b0 I2 ea hno r1 fun dx s' n ne J => ⟨σ, _, J, q dx n ne⟩
  · exact set_next T b0 I2 ea ed hl hno r1 fun s' J => ⟨σ, _, J, q⟩
end
end Jo

set_option Elab.async false
set_option linter.all false
set_option maxRecDepth 100000
set_option maxHeartbeats 2000000
/-! Errors that were caught, as values: their class, their field. -/
namespace Jo
open PySem PySem.Spec PyProof.Rows L2
/-- at a stands an error that was caught, of the class at C, with y in its field f -/
def CauAt (H : Hp) (a C : Addr) (f : Str) (y : V) : Prop := ∃ d, H a = some (exq a (.ref C) (some d)) ∧ H d = some (.xd [(f, y)])
theorem EC.oex {K : PySem.W.Frag} {C B : Addr} (T : EC K C B "ValueError.__new__" [.type "ValueError", .type "Exception", .type "BaseException", .type "object"]) : OexC K C := by
  obtain ⟨nm, q, N, bs, sn, sub, ab, col, dd, k0, k1, k2, k3, k5, h⟩ := T.look
  exact ⟨⟨nm, q, N, bs, _, sn, sub, ab, col, dd, k0, k1, k2, k3, k5, h, by rfl⟩, T.sa, T.exc ebV, T.ty, T.kp⟩
section
variable {X : Cx} {pins : List (Addr × Obj)} {σ : L2.St} {H : Hp} {s : Shared} {a C : Addr} {f : Str} {y : V} {pos : Pos} {e : Expr}
theorem CauAt.same {H H' : Hp} (h : CauAt H a C f y) (s : Same H H') : CauAt H' a C f y := let ⟨d, e1, e2⟩ := h; ⟨d, s _ _ e1, s _ _ e2⟩
theorem CauAt.inst (h : CauAt H a C f y) (I : Inv X pins σ H s) : ∃ (oe od : Obj) (mA : Str → Option Value), PySem.W.InstAt s.heap a oe C (some od) ∧ (∀ x, PySem.W.lookIn x od = some (mA x)) ∧ ∀ g, RelO (List.lookup g [(f, y)]) (mA g) := by
  obtain ⟨d, e1, e2⟩ := h
  obtain ⟨oe, vs, he, hc, hd, hv⟩ := exq_at I.hok e1
  obtain ⟨mA, hns, rel⟩ := (show ObjOk X.prog X.w H s.heap d (.xd [(f, y)]) from I.hok _ _ e2)
  obtain ⟨od, hod, hl⟩ := lookIn_ns hns
  refine ⟨oe, od, mA, ⟨he, hc, ?_, ?_⟩, hl, rel⟩
  · obtain ⟨c, dd, dt, sl⟩ := oe
    dsimp only at hv
    subst hv
    rfl
  · rw [hd]
    exact hod
/-- isinstance(e, c) of an error that was caught -/
def rIsQ (K : PySem.W.Frag) : List V → Hp → VK → Prop := fun xs H Q => ∃ (a C B : Addr) (b newId initId : String) (bmB : List Value) (f : Str) (y c : V) (u : Value) (r : Bool), xs = [.ref a, c] ∧ CauAt H a C f y ∧
  EC K C B newId bmB ∧ EBase b newId initId bmB ∧ CW K ∧ ClsV c u ∧ PySem.W.kitOne K (.ref C) u = some r ∧ Q (.bl r) H
theorem call_isQ : CallR X (.builtin "isinstance") (rIsQ X.K) := by
  intro pins s σ H xs us Q I r h
  obtain ⟨a, C, B, b, newId, initId, bmB, f, y, c, u, v, rfl, he, T, eb, cw, k, ek, q⟩ := h
  obtain ⟨u1, u2, rfl, r1, r2⟩ := vals2 r
  have e2 := k.eq r2
  subst e2
  cases (show u1 = Value.ref a from r1)
  obtain ⟨oe, od, mA, J, _, _⟩ := he.inst I
  obtain ⟨cd, hcd, _, _⟩ := T.cls
  refine PySem.W.kia_one (PySem.W.kitx_exc (ox := oe) (od := some od) ?_ T.ga T.gg (T.exc eb) T.cl cw.get cw.take (T.obj eb)) I.kIn J ek (fun z => nomatch z) fun tk => ⟨.bl v, H, I.tok tk, rfl, q⟩
  rw [hcd] <;> rfl
/-- e.f -/
def tQf (K : PySem.W.Frag) (f : Str) (te : TE) : TE := fun σ H Q => te σ H fun x H1 => ∃ (a C B : Addr) (b newId initId : String) (bmB : List Value) (y : V), x = .ref a ∧ CauAt H1 a C f y ∧
  EC K C B newId bmB ∧ EBase b newId initId bmB ∧ PySem.W.findIn K (.ref C) f = some none ∧ Q y H1
theorem pe_qf {te : TE} (he : PE X e te) (hb : attributeBase e f X.env (eval e X.env) = eval e X.env := by rfl) : PE X (.Attribute e f pos) (tQf X.K f te) := by
  refine ⟨fun pins s σ H Q I h => attr_of hb (thn (he.run pins s σ H _ I h) fun u s1 hh => ?_)⟩
  obtain ⟨x, H1, I1, rx, a, C, B, b, newId, initId, bmB, y, ex, ha, T, eb, hno, q⟩ := hh
  subst ex
  obtain rfl : u = Value.ref a := rx
  obtain ⟨oe, od, mA, J, hl, rel⟩ := ha.inst I1
  obtain ⟨u, hu, ru⟩ := RelO.some_of (v := y) (o := mA f) (by
    have z := rel f
    rw [show List.lookup f [(f, y)] = some y by simp [List.lookup]] at z
    exact z)
  exact HandSPX.exc_get I1.kIn J T.ga T.gg (T.exc eb) (PySem.W.findObj_own T.hd hno rfl (by rw [hl, hu])) (handed_of ru) ⟨y, H1, I1.tok _, ru, q⟩
end
end Jo

set_option Elab.async false
set_option linter.all false
set_option maxRecDepth 100000
set_option maxHeartbeats 1000000
namespace Jo
open PySem PySem.Spec PyProof.Rows L2
/-- the error classes of the module: Cs, Cb, Cv, Cm below Br; Bs and Bl aside -/
structure ETxt (P : Program) (w : World) (K : PySem.W.Frag) (mg : Str → Option Value) (base : Heap) (Cs Cb Cv Cm Br Bs Bl : Addr) : Prop where
  cw : CW K
  eS : ErX P w K mg base "InvalidSteps" Cs "index"
  eB : ErX P w K mg base "InvalidBad" Cb "index"
  eV : ErX P w K mg base "InvalidValue" Cv "value"
  eM : ErX P w K mg base "InvalidMove" Cm "value"
  cS : EC K Cs Br "ValueError.__new__" bmV
  cB : EC K Cb Br "ValueError.__new__" bmV
  cV : EC K Cv Br "ValueError.__new__" bmV
  cM : EC K Cm Br "ValueError.__new__" bmV
  gR : mg "ReentryError" = some (.ref Br)
  gS : mg "StateError" = some (.ref Bs)
  gL : mg "LimitError" = some (.ref Bl)
  gVE : mg "ValueError" = none
  xSS : PySem.W.exmOne K (.ref Cs) (.ref Cs) = some true
  xBS : PySem.W.exmOne K (.ref Cb) (.ref Cs) = some false
  xBB : PySem.W.exmOne K (.ref Cb) (.ref Cb) = some true
  xVV : PySem.W.exmOne K (.ref Cv) (.ref Cv) = some true
  xMV : PySem.W.exmOne K (.ref Cm) (.ref Cv) = some false
  xMM : PySem.W.exmOne K (.ref Cm) (.ref Cm) = some true
  kS : PySem.W.kitOne K (.ref Cs) (.ref Bs) = some false ∧ PySem.W.kitOne K (.ref Cs) (.ref Bl) = some false ∧ PySem.W.kitOne K (.ref Cs) (.ref Cv) = some false ∧ PySem.W.kitOne K (.ref Cs) (.ref Cs) = some true ∧ PySem.W.kitOne K (.ref Cs) (.ref Cb) = some false ∧ PySem.W.kitOne K (.ref Cs) (.ref Br) = some true
  kB : PySem.W.kitOne K (.ref Cb) (.ref Bs) = some false ∧ PySem.W.kitOne K (.ref Cb) (.ref Bl) = some false ∧ PySem.W.kitOne K (.ref Cb) (.ref Cv) = some false ∧ PySem.W.kitOne K (.ref Cb) (.ref Cs) = some false ∧ PySem.W.kitOne K (.ref Cb) (.ref Br) = some true
  kV : PySem.W.kitOne K (.ref Cv) (.ref Bs) = some false ∧ PySem.W.kitOne K (.ref Cv) (.ref Bl) = some false ∧ PySem.W.kitOne K (.ref Cv) (.ref Cs) = some false ∧ PySem.W.kitOne K (.ref Cv) (.ref Br) = some true
  kM : PySem.W.kitOne K (.ref Cm) (.ref Bs) = some false ∧ PySem.W.kitOne K (.ref Cm) (.ref Bl) = some false ∧ PySem.W.kitOne K (.ref Cm) (.ref Cs) = some false ∧ PySem.W.kitOne K (.ref Cm) (.ref Br) = some true
theorem kit_ve {K : PySem.W.Frag} {C B : Addr} (T : EC K C B "ValueError.__new__" bmV) : PySem.W.kitOne K (.ref C) (.type "ValueError") = some true := by
  rw [T.kitT "ValueError" (by decide +kernel)]
  rfl
theorem takes_none {X : Cx} : L2N.Takes X (fun _ _ _ _ => False) := fun u s' ⟨_, _, _, _, _, _, _, _, _, _, _, _, _, _, _, _, w⟩ => w.elim
section
variable {P : Program} {w : World} {K : PySem.W.Frag} {mg : Str → Option Value} {base : Heap} {C fi Cs Cb Cv Cm Br Bs Bl : Addr}
theorem isq {H : Hp} {Q : VK} {C B a : Addr} {f : Str} {y c : V} {u : Value} {r : Bool} (T : EC K C B "ValueError.__new__" bmV) (cw : CW K) (ha : CauAt H a C f y) (k : ClsV c u) (ek : PySem.W.kitOne K (.ref C) u = some r) (q : Q (.bl r) H) : rIsQ K [.ref a, c] H Q :=
  ⟨a, C, B, _, _, _, _, f, y, c, u, r, rfl, ha, T, ebV, cw, k, ek, q⟩
theorem tc1 {σ : L2.St} {H : Hp} {v : V} {k : List V → Hp → Prop} (h : k [v] H) : tCons (tC v) tNil σ H k := h
def n_error : List Str := ["_law_rows", "_law_marks", "_law_found", "_law_word", "error", "_law_mixed", "_law_both"]
theorem sc_error : FnScope n_error ["_law_rows", "_law_marks"] (defScope s_error) := ⟨rfl, rfl, rfl, by decide +kernel, rfl, by decide +kernel, by decide +kernel⟩
def spError : Sp := fun vs H Q _ => ∃ x y : V, vs = [x, y] ∧
  ((∃ v, StBad H x v ∧ ∀ t H', Same H H' → H' t = some (.tup [.str "steps", v, .bl true, .bl true, .bl false]) → Q (.ref t) H') ∨
   (∃ S L v, StOk H x S L ∧ MkBad H y v ∧ ∀ t H', Same H H' → H' t = some (.tup [.str "bad", v, .bl true, .bl true, .bl false]) → Q (.ref t) H') ∨
   ∃ S L M ms, StOk H x S L ∧ MkOk H y M ms ∧ ∀ t H', Same H H' → H' t = some (.tup [.str "none"]) → Q (.ref t) H')
theorem ok_error (T : Txt K mg) (ET : ETxt P w K mg base Cs Cb Cv Cm Br Bs Bl) (RT : RTxt K mg C) (M0 : Mk K C fi) (D : Dfn K mg "_law_error" s_error ["_law_rows", "_law_marks"])
    (m_init : MtX P w K mg base 5 C "__init__" ["self", "steps", "bad"] (spInit C Cs Cb)) : CalG P w K mg base 7 "_law_error" ["_law_rows", "_law_marks"] spError := by
  refine D.ok sc_error (fun vs H Q E h => ?_) (fun f cdv A fr s H vs Q E hr hgd h => ?_)
  · obtain ⟨x, y, rfl, _⟩ := h
    rfl
  · obtain ⟨x, y, rfl, h⟩ := h
    refine ⟨_, pss_cons (ps_asg (pe_tup (pa_cons pe_non (pa_cons pe_str pa_nil))) (pg_tup rfl (pgs_cons (pg_name (i := 2) sc_error.nd rfl (.inl rfl)) (pgs_cons (pg_name (i := 3) sc_error.nd rfl (.inl rfl)) pgs_nil))))
      (pss_cons (ps_try_keep (i := 4) (n := "error") (Wout := fun _ _ _ _ => False) rfl rfl rfl sc_error.nd rfl rfl takes_none
          (fun W pn xe tk _ => pss_one (ps_expr (pe_mkX M0 m_init hr (by decide) (passW tk) rfl RT.mgC (pa_cons (pv 0) (pa_cons (pv 1) pa_nil)))))
          (.cons (c := .ref Cs) ⟨rfl, by decide, .inl ET.eS.gm⟩ (fun a oe cls d pn hz hv => pss_one (ps_parH (i := 2) (j := 3) (hotC hz hv) sc_error.nd rfl rfl (by decide) rfl rfl (pa_cons (pv 4) (pa_cons pe_str pa_nil)) rfl))
            (.cons (c := .ref Cb) ⟨rfl, by decide, .inl ET.eB.gm⟩ (fun a oe cls d pn hz hv => pss_one (ps_parH (i := 2) (j := 3) (hotC hz hv) sc_error.nd rfl rfl (by decide) rfl rfl (pa_cons (pv 4) (pa_cons pe_str pa_nil)) rfl)) .nil)))
      (pss_cons (ps_if (pt_cmpR op_isN (pv 2) pe_non (nomark _))
        (pss_one (ps_ret (pe_tup (pa_cons (pv 3) pa_nil))))
        (pss_nil))
      (pss_cons (ps_set (i := 5) sc_error.nd rfl (.inl rfl) (pe_or (pe_callB (id := "isinstance") (r := rIsQ K) call_isQ rfl T.b_isinstance (by decide +kernel) (pa_cons (pv 2) (pa_cons (C8.pe_gc (v := .ref Bs) rfl ⟨_, ET.gS, rfl⟩) pa_nil))) (pe_or (pe_callB (id := "isinstance") (r := rIsQ K) call_isQ rfl T.b_isinstance (by decide +kernel) (pa_cons (pv 2) (pa_cons (C8.pe_gc (v := .ref Bl) rfl ⟨_, ET.gL, rfl⟩) pa_nil))) (pe_one (pe_callB (id := "isinstance") (r := rIsQ K) call_isQ rfl T.b_isinstance (by decide +kernel) (pa_cons (pv 2) (pa_cons (C8.pe_gc (v := .ref Cv) rfl ⟨_, ET.eV.gm, rfl⟩) pa_nil)))))))
      (pss_cons (ps_set (i := 6) sc_error.nd rfl (.inl rfl) (pe_and (pe_callB (id := "isinstance") (r := rIsQ K) call_isQ rfl T.b_isinstance (by decide +kernel) (pa_cons (pv 2) (pa_cons (C8.pe_gc (v := .ref Cs) rfl ⟨_, ET.eS.gm, rfl⟩) pa_nil))) (pe_one (pe_callB (id := "isinstance") (r := rIsQ K) call_isQ rfl T.b_isinstance (by decide +kernel) (pa_cons (pv 2) (pa_cons (C8.pe_gc (v := .ref Cb) rfl ⟨_, ET.eB.gm, rfl⟩) pa_nil))))))
      (pss_one (ps_ret (pe_tup (pa_cons (pv 3) (pa_cons (pe_qf (pv 2)) (pa_cons (pe_callB (id := "isinstance") (r := rIsQ K) call_isQ rfl T.b_isinstance (by decide +kernel) (pa_cons (pv 2) (pa_cons (C8.pe_gc (v := .ref Br) rfl ⟨_, ET.gR, rfl⟩) pa_nil))) (pa_cons (pe_callB (id := "isinstance") (r := rIsQ K) call_isQ rfl T.b_isinstance (by decide +kernel) (pa_cons (pv 2) (pa_cons (pe_bltn (v := .ty "ValueError") (u := .type "ValueError") rfl ET.gVE (by decide +kernel) rfl) pa_nil))) (pa_cons (pe_or (pv 5) (pe_one (pv 6))) pa_nil)))))))))))), ?_⟩
    refine ⟨(show 2 ≤ sizeLine by decide), fun t0 ht0 => ?_⟩
    have s0 : Same H (upd H t0 (.tup [.non, .str "none"])) := same_new ht0
    refine ⟨t0, _, rfl, .inl (.inl upd_same), rfl, ?_⟩
    refine ⟨_, _, rfl, _, _, rfl, rfl, ?_⟩
    refine ⟨_, rfl, _, rfl, ?_⟩
    dsimp only [tNil]
    intro o dx no nd ne
    have s1 : Same (upd H t0 (.tup [.non, .str "none"])) (upd (upd (upd H t0 (.tup [.non, .str "none"])) dx (.own o)) o (.ins C dx [])) := fun b z e => by
      rw [upd_ne (ne_of_none e no), upd_ne (ne_of_none e nd)]
      exact e
    have s2 := s0.trans s1
    refine ⟨o, dx, x, y, rfl, upd_same, ?_⟩
    rcases h with ⟨v, hx, q⟩ | ⟨S, L, v, hx, hy, q⟩ | ⟨S, L, M, ms, hx, hy, q⟩
    · refine .inl ⟨v, hx.same s2, fun H1 d e1 hd => ?_⟩
      refine ⟨true, ET.xSS, fun _ a na => ?_, fun z => by cases z⟩
      have na2 : d ≠ a := ne_of_none hd na
      have s3 : Same H1 (upd H1 a (exq a (.ref Cs) (some d))) := same_new na
      have ca : CauAt (upd H1 a (exq a (.ref Cs) (some d))) a Cs "index" v := ⟨d, upd_same, by rw [upd_ne na2]; exact hd⟩
      refine ⟨_, rfl, _, _, rfl, ?_⟩
      refine ⟨_, rfl, rfl, _, rfl, iteF ?_⟩
      refine ⟨_, rfl, ?_⟩
      refine tc1 (isq ET.cS ET.cw ca (.own Bs) ET.kS.1 ?_)
      refine ⟨_, rfl, iteF ?_⟩
      refine ⟨_, rfl, ?_⟩
      refine tc1 (isq ET.cS ET.cw ca (.own Bl) ET.kS.2.1 ?_)
      refine ⟨_, rfl, iteF ?_⟩
      refine ⟨_, rfl, ?_⟩
      refine tc1 (isq ET.cS ET.cw ca (.own Cv) ET.kS.2.2.1 ?_)
      refine ⟨_, rfl, ?_⟩
      refine tc1 (isq ET.cS ET.cw ca (.own Cs) ET.kS.2.2.2.1 ?_)
      refine ⟨_, rfl, iteT ?_⟩
      refine ⟨_, rfl, ?_⟩
      refine tc1 (isq ET.cS ET.cw ca (.own Cb) ET.kS.2.2.2.2.1 ?_)
      refine ⟨_, rfl, ?_⟩
      refine ⟨_, rfl, a, Cs, Br, _, _, _, _, v, rfl, ca, ET.cS, ebV, ET.eS.no, ?_⟩
      refine ⟨_, rfl, ?_⟩
      refine tc1 (isq ET.cS ET.cw ca (.own Br) ET.kS.2.2.2.2.2 ?_)
      refine ⟨_, rfl, ?_⟩
      refine tc1 (isq ET.cS ET.cw ca (.ty "ValueError") (kit_ve ET.cS) ?_)
      refine ⟨_, rfl, false, rfl, iteF ⟨_, rfl, ?_⟩⟩
      refine ⟨(show 5 ≤ sizeLine by decide), fun t nt => q t _ (((s2.trans e1).trans s3).trans (same_new nt)) upd_same⟩
    · refine .inr (.inl ⟨S, L, v, hx.same s2, hy.same s2, fun H1 d e1 hd => ?_⟩)
      refine ⟨false, ET.xBS, (fun z => by cases z), fun _ => ⟨true, ET.xBB, fun _ a na => ?_, fun z => by cases z⟩⟩
      have na2 : d ≠ a := ne_of_none hd na
      have s3 : Same H1 (upd H1 a (exq a (.ref Cb) (some d))) := same_new na
      have ca : CauAt (upd H1 a (exq a (.ref Cb) (some d))) a Cb "index" v := ⟨d, upd_same, by rw [upd_ne na2]; exact hd⟩
      refine ⟨_, rfl, _, _, rfl, ?_⟩
      refine ⟨_, rfl, rfl, _, rfl, iteF ?_⟩
      refine ⟨_, rfl, ?_⟩
      refine tc1 (isq ET.cB ET.cw ca (.own Bs) ET.kB.1 ?_)
      refine ⟨_, rfl, iteF ?_⟩
      refine ⟨_, rfl, ?_⟩
      refine tc1 (isq ET.cB ET.cw ca (.own Bl) ET.kB.2.1 ?_)
      refine ⟨_, rfl, iteF ?_⟩
      refine ⟨_, rfl, ?_⟩
      refine tc1 (isq ET.cB ET.cw ca (.own Cv) ET.kB.2.2.1 ?_)
      refine ⟨_, rfl, ?_⟩
      refine tc1 (isq ET.cB ET.cw ca (.own Cs) ET.kB.2.2.2.1 ?_)
      refine ⟨_, rfl, iteF ?_⟩
      refine ⟨_, rfl, ?_⟩
      refine ⟨_, rfl, a, Cb, Br, _, _, _, _, v, rfl, ca, ET.cB, ebV, ET.eB.no, ?_⟩
      refine ⟨_, rfl, ?_⟩
      refine tc1 (isq ET.cB ET.cw ca (.own Br) ET.kB.2.2.2.2 ?_)
      refine ⟨_, rfl, ?_⟩
      refine tc1 (isq ET.cB ET.cw ca (.ty "ValueError") (kit_ve ET.cB) ?_)
      refine ⟨_, rfl, false, rfl, iteF ⟨_, rfl, ?_⟩⟩
      refine ⟨(show 5 ≤ sizeLine by decide), fun t nt => q t _ (((s2.trans e1).trans s3).trans (same_new nt)) upd_same⟩
    · refine .inr (.inr ⟨S, L, M, ms, hx.same s2, hy.same s2, fun H1 hR keep => ⟨rfl, ?_⟩⟩)
      have s3 : Same H H1 := fun b z e => by
        have n1 : b ≠ o := by
          intro e2
          rw [e2] at e
          rw [s0 _ _ e] at no
          cases no
        exact keep b z (s2 b z e) n1
      refine ⟨_, rfl, rfl, _, rfl, iteT ?_⟩
      refine ⟨_, rfl, ?_⟩
      refine ⟨(show 1 ≤ sizeLine by decide), fun t nt => q t _ (s3.trans (same_new nt)) upd_same⟩
end
end Jo

set_option Elab.async false
set_option linter.all false
set_option maxRecDepth 100000
set_option maxHeartbeats 4000000
/-! A call of an error class with keywords. -/
namespace Jo
open PySem PySem.Spec L2
section
open Builtin PySem.Calls PySem.HandSPX
variable {M : Model} {prog : Program} {w : World} {A : Around} {E : Value → Shared → Prop} {R : Result → Shared → Prop} {h : Heap} {g : Array GenState} {d : Drawn} {t : Nat} {os : OsState}
variable {nm q : Str} {C N : Addr} {bs bm bmB : List Value} {hdct : Bool} {sn : List Str} {sub : List Value} {ab : Bool} {col : Option Bool} {dd : Option Addr}
  {k0 k1 k2 k3 k5 : Option Value} {B newId initId : String} {rest : List Value} {kw : List (Str × Value)}
theorem check_newK (F : ExcBaseFacts B newId initId bmB) (hT : ∀ X : String, bm.contains (.type X) = bmB.contains (.type X)) {Q : Unit → Shared → Prop}
    (hC : h.get? C = some (excClassObj nm q C N bs bm hdct sn sub ab col dd k0 k1 k2 k3 k5 newId)) (hq : Q () ⟨h, g, d, t, os⟩) :
    wpAny M A (checkBuiltinCall newId ⟨.ref C :: rest, kw⟩) Q E ⟨h, g, d, t, os⟩ := by
  have hB : (Value.ref C :: bm).contains (.type B) = true := by rw [List.contains_cons, hT, F.hasB, Bool.or_true]
  have hst := F.noStar
  simp only [checkBuiltinCall, F.newKind, F.newSplit, F.newRow]
  repeat (first
    | refine wpAny_loadPart_at hC ?_
    | (refine wpAny_isSubtype_exc hC ?_; rw [hB])
    | refine wpAny_staticBase_exc hC ?_
    | refine wpAny_madeBy_exc hC ?_
    | simp only [bne_self_eq_false, Bool.false_eq_true, if_false]
    | wp_step)
  exact hq
theorem newK (F : ExcBaseFacts B newId initId bmB) (hT : ∀ X : String, bm.contains (.type X) = bmB.contains (.type X))
    (hC : h.get? C = some (excClassObj nm q C N bs bm hdct sn sub ab col dd k0 k1 k2 k3 k5 newId))
    (hq : R (.ok (.ret (.ref (h.objs.size + 1)))) ⟨(h.push (PySem.W.kdv_tup rest)).push (excO C h.objs.size), g, d, t, os⟩) (hrest : rest.length ≤ sizeLine) :
    codeAny (model prog w) A (.builtin newId ⟨.ref C :: rest, kw⟩) R ⟨h, g, d, t, os⟩ := by
  have hen := F.ends
  have hB : (Value.ref C :: bm).contains (.type B) = true := by rw [List.contains_cons, hT, F.hasB, Bool.or_true]
  have hA : (Value.ref C :: bm).contains (.type "AttributeError") = false := by
    rw [List.contains_cons, hT, F.noAttr]
    rfl
  have hN : (Value.ref C :: bm).contains (.type "NameError") = false := by
    rw [List.contains_cons, hT, F.noName]
    rfl
  refine codeAny_builtinAt F.entry ?_
  unfold Builtin.«BaseException.__new__»
  refine PySem.wpAt_bind ?_
  show PySem.wpAt _ _ _ (stack >>= _) _ _ _
  refine PySem.wpAt_bind (wpAt_stack fun p below => wpAt_of_wpAny ?_)
  wp_walk
  refine wpAt_of_wpAny ?_
  rw [F.owner]
  repeat (first
    | with_reducible refine wpAny_madeHere_exc F.canon hC ?_
    | with_reducible refine wpAny_loadPart_at hC ?_
    | (with_reducible refine wpAny_isSubtype_exc hC ?_; first | rw [hB] | rw [hA] | rw [hN])
    | wp_step)
  show R _ _
  rw [Heap.size_push]
  exact hq
theorem type_callK (F : ExcBaseFacts B newId initId bmB) (hT : ∀ X : String, bm.contains (.type X) = bmB.contains (.type X)) {fI : Addr} {Q : Fin → Shared → Prop}
    (hC : h.get? C = some (excClassObj nm q C N bs bm hdct sn sub ab col dd k0 k1 k2 k3 k5 newId))
    (hi : PySem.W.Looks (model prog w) h (typeLookup (.ref C) "__init__") (some (.ref fI))) (hb : ∀ self, PySem.W.Looks (model prog w) h (bindSpecial (.ref fI) self) (.ref fI, [self]))
    (hrest : rest.length ≤ sizeLine)
    (hq : codeAny (model prog w) A (.call (.ref fI) ⟨.ref (h.objs.size + 1) :: rest, kw⟩)
      (fun r s' => match r with | .ok (.ret v) => v = .none ∧ Q (.done (.ret (.ref (h.objs.size + 1)))) s' | .ok _ => False | .error e => E e s')
      ⟨(h.push (PySem.W.kdv_tup rest)).push (excO C h.objs.size), g, d, t, os⟩) :
    wpAny (model prog w) A (Builtin.«type.__call__» ⟨.ref C :: rest, kw⟩) Q E ⟨h, g, d, t, os⟩ := by
  repeat (first
    | with_reducible refine wpAny_loadPart_at hC ?_
    | with_reducible refine wpAny_madeBy_exc hC ?_
    | wp_step)
  refine codeAny_call_builtin_code (Code.quiet_builtin _ F.quiet) (check_newK F hT hC ?_)
  refine newK F hT hC ?_ hrest
  show wpAny _ _ _ _ _ _
  have kp : ∀ b o, h.get? b = some o → ((h.push (PySem.W.kdv_tup rest)).push (excO C h.objs.size)).get? b = some o := fun b o e =>
    Heap.get?_push_of_some _ (Heap.get?_push_of_some _ e)
  have hC1 := kp _ _ hC
  have hnew : ((h.push (PySem.W.kdv_tup rest)).push (excO C h.objs.size)).get? (h.objs.size + 1) = some (excO C h.objs.size) := by heap_get
  have hcc : (Value.ref C :: bm).contains (.ref C) = true := by simp
  have i1 := hi.keeps kp
  have b1 := (hb (.ref (h.objs.size + 1))).keeps kp
  unfold isInstance
  repeat (first
    | with_reducible refine wpAny_loadPart_at hnew ?_
    | (with_reducible refine wpAny_isSubtype_exc hC1 ?_; rw [hcc])
    | wp_step)
  show wpAny _ _ (typeLookup (.ref C) _) _ _ _
  refine i1.at (wpAny_holding (wpAny_bind (b1.at ?_)))
  refine wpAny_bind (wpAny_call (codeAny_mono hq fun r s' z => ?_))
  match r, z with
  | .error e, z => exact z
  | .ok .next, z => exact (show False from z).elim
  | .ok .brk, z => exact (show False from z).elim
  | .ok .cont, z => exact (show False from z).elim
  | .ok (.ret v), z =>
    obtain ⟨rfl, z⟩ := z
    first
      | exact wpAny_pure (wpAny_pure z)
      | (wp_walk; exact z)
theorem check_callK {Q : Unit → Shared → Prop} (hC : h.get? C = some (excClassObj nm q C N bs bm hdct sn sub ab col dd k0 k1 k2 k3 k5 newId)) (hq : Q () ⟨h, g, d, t, os⟩) :
    wpAny M A (checkBuiltinCall "type.__call__" ⟨.ref C :: rest, kw⟩) Q E ⟨h, g, d, t, os⟩ := by
  have f3 := tc_sub
  have hTy : (⟨h, g, d, t, os⟩ : Shared).TypeIs (.ref C) "type" := ⟨_, hC, rfl⟩
  simp only [checkBuiltinCall, tc_kind, tc_split]
  repeat (any_goals (first
    | assumption
    | with_reducible refine wpAny_loadPart_at hC ?_
    | with_reducible refine wpAny_onRaise ?_
    | with_reducible refine wpAny_map ?_
    | wp_step))
theorem callK (F : ExcBaseFacts B newId initId bmB) (hT : ∀ X : String, bm.contains (.type X) = bmB.contains (.type X)) {fI : Addr}
    (hC : h.get? C = some (excClassObj nm q C N bs bm hdct sn sub ab col dd k0 k1 k2 k3 k5 newId))
    (hi : PySem.W.Looks (model prog w) h (typeLookup (.ref C) "__init__") (some (.ref fI))) (hb : ∀ self, PySem.W.Looks (model prog w) h (bindSpecial (.ref fI) self) (.ref fI, [self]))
    (hrest : rest.length ≤ sizeLine)
    (hq : codeAny (model prog w) (A.under (.builtin "type.__call__" ⟨.ref C :: rest, kw⟩)) (.call (.ref fI) ⟨.ref (h.objs.size + 1) :: rest, kw⟩) (PySem.W.InitBack (h.objs.size + 1) R)
      ⟨(h.push (PySem.W.kdv_tup rest)).push (excO C h.objs.size), g, d, t, os⟩) :
    codeAny (model prog w) A (.call (.ref C) ⟨rest, kw⟩) R ⟨h, g, d, t, os⟩ := by
  have f1 := tc_lookup
  have f2 := tc_bind (.ref C)
  have hTy : (⟨h, g, d, t, os⟩ : Shared).TypeIs (.ref C) "type" := ⟨_, hC, rfl⟩
  refine codeAny_of_tree ?_
  show wpAny _ _ (callAny (.ref C) _) _ _ _
  repeat (any_goals (first
    | assumption
    | with_reducible refine wpAny_loadPart_at hC ?_
    | wp_step))
  refine ⟨rfl, ?_⟩
  refine codeAny_call_builtin_at (Code.quiet_builtin _ (by decide +kernel)) entry_typeCall ?_
  refine check_callK hC (type_callK F hT hC hi hb hrest (codeAny_mono hq fun r s' z => ?_))
  match r, z with
  | .error e, z => exact z
  | .ok .next, z => exact z
  | .ok .brk, z => exact z
  | .ok .cont, z => exact z
  | .ok (.ret v), z => exact z
end
end Jo

set_option Elab.async false
set_option linter.all false
set_option maxRecDepth 100000
set_option maxHeartbeats 2000000
/-! Errors as values: C(e, ..), C(k = e, ..), C(), e.f, isinstance(e, C). -/
namespace Jo
open PySem PySem.Spec PyProof.Rows L2
/-- at a stands an error of the class at C with these fields, and perhaps more -/
def ErrAt (H : Hp) (a C : Addr) (fs : List (Str × V)) : Prop := (H a = some (exo a C none) ∧ fs = []) ∨
  ∃ (dx : Addr) (gs : List (Str × V)), H a = some (exo a C (some dx)) ∧ H dx = some (exd dx gs) ∧ ∀ f v, (f, v) ∈ fs → gs.lookup f = some v
theorem ErrAt.same {H H' : Hp} {a C : Addr} {fs : List (Str × V)} (h : ErrAt H a C fs) (s : Same H H') : ErrAt H' a C fs := by
  rcases h with ⟨e, q⟩ | ⟨dx, gs, e, ed, l⟩
  · exact .inl ⟨s _ _ e, q⟩
  · exact .inr ⟨dx, gs, s _ _ e, s _ _ ed, l⟩
/-- the __init__ of an error class at C that keeps its arguments as the fields ps -/
def spErr (C : Addr) (ps : List Str) : Sp := fun vs H Q _ => ∃ (a : Addr) (ys : List V), vs = .ref a :: ys ∧ ys.length = ps.length ∧ H a = some (exo a C none) ∧
  ∀ H', ErrAt H' a C (ps.zip ys) → (∀ b o, H b = some o → b ≠ a → H' b = some o) → Q .non H'
/-- the class x at C, below B, whose __init__ keeps its arguments as the fields ps -/
structure Err (P : Program) (w : World) (K : PySem.W.Frag) (mg : Str → Option Value) (base : Heap) (x : Str) (C B : Addr) (b newId initId : String) (bmB : List Value) (ps : List Str) : Prop where
  gm : mg x = some (.ref C)
  ec : EC K C B newId bmB
  eb : EBase b newId initId bmB
  mt : MtF P w K mg base 1 C "__init__" ("self" :: ps) (spErr C ps)
/-- C(e, ..) or C(k = e, ..) -/
def tEr (C : Addr) (ps : List Str) (g : List V → List V) (t : TA) : TE := fun σ H Q => t σ H fun vs H1 => vs.length = ps.length ∧ vs.length ≤ 1000 ∧
  ∀ a H2, Same H1 H2 → ErrAt H2 a C (ps.zip (g vs)) → Q (.ref a) H2
section
variable {X : Cx} {j : Nat} {x : Str} {C B : Addr} {b newId initId : String} {bmB : List Value} {ps : List Str} {p pos : Pos} {e : Expr} {es : List Expr} {kws : List Keyword} {t : TA}
  {pins : List (Addr × Obj)} {σ : L2.St} {H : Hp} {s : Shared} {Q : VK} {us : List Value} {vs : List V} {kw : List (Str × Value)}
theorem run_err (c : Err X.prog X.w X.K X.mg X.base x C B b newId initId bmB ps) (hr : Room j X.A) (hk : 2 ≤ j) (I : Inv X pins σ H s) (hus : us.length ≤ sizeLine) {ws : List Value} (r : Vals vs ws) (hl : vs.length = ps.length)
    (bt : ∀ (fI : Addr) (fd : FuncData) (u : Value), Binds X.K fd ("self" :: ps) [] →
      (∀ (s : Shared) (u : Value) (us : List Value), (u :: us).length = (("self" : Str) :: ps).length → BindsTo s fd ⟨[u], ((("self" : Str) :: ps).drop 1).reverse.zip us.reverse⟩ ((("self" : Str) :: ps).zip (u :: us))) →
      ∀ s' : Shared, X.K.In s'.heap → BindsTo s' fd ⟨u :: us, kw⟩ ((("self" : Str) :: ps).zip (u :: ws)))
    (h : ∀ a H2, Same H H2 → ErrAt H2 a C (ps.zip vs) → Q (.ref a) H2) :
    wpAny (model X.prog X.w) X.A (call (.ref C) us kw) (EP X pins σ Q) X.xe s := by
  obtain ⟨nm, q, N, bs, sn, sub, ab, col, dd, k0, k1, k2, k3, k5, hC⟩ := c.ec.look
  obtain ⟨fI, fd, F1, mt, b1, b2⟩ := c.mt.ex
  obtain ⟨hp, gs, dr, tk, os⟩ := s
  have hsz : hp.objs.size ≤ hp.objs.size + 1 := Nat.le_succ _
  have hn : H (hp.objs.size + 1) = none := I.hok.fresh hsz
  have kk : ∀ c o, hp.get? c = some o → ((hp.push (PySem.W.kdv_tup us)).push (PySem.HandSPX.excO C hp.objs.size)).get? c = some o := fun c o e =>
    Heap.get?_push_of_some _ (Heap.get?_push_of_some _ e)
  have hget : ((hp.push (PySem.W.kdv_tup us)).push (PySem.HandSPX.excO C hp.objs.size)).get? (hp.objs.size + 1) = some (PySem.HandSPX.excO C hp.objs.size) := by heap_get
  have I2 : Inv X pins σ (upd H (hp.objs.size + 1) (exo (hp.objs.size + 1) C none)) ⟨(hp.push (PySem.W.kdv_tup us)).push (PySem.HandSPX.excO C hp.objs.size), gs, dr, tk, os⟩ :=
    I.laid (t' := tk) kk hsz (exo_ok hget)
  have r2 : Vals (V.ref (hp.objs.size + 1) :: vs) (Value.ref (hp.objs.size + 1) :: ws) := .cons rfl r
  have hC2 := I.kIn _ _ hC
  have tI : PySem.W.typeIn X.K (.ref fI) = some (.type "function") := beq_iff_eq.mp mt.fn
  refine wpAny_call (callK c.eb.f (fun Y => ?_) hC2 (PySem.W.looks_findIn I.kIn mt.at_) (fun self => PySem.W.bind_fn I.kIn self tI) hus ?_)
  · rw [List.contains_cons] <;> rfl
  have hr2 : Room (1 + 1) X.A := hr.mono hk
  refine codeAny_mono (F1.run _ X.stack _ _ ⟨Value.ref (hp.objs.size + 1) :: us, kw⟩ (Value.ref (hp.objs.size + 1) :: ws) (V.ref (hp.objs.size + 1) :: vs) (fun v H2 => v = .non ∧ Q (.ref (hp.objs.size + 1)) H2) E0
    (hr2.make C us kw) (I2.env0.make C us kw) (bt fI fd _ b1 b2 _ I2.kIn) r2 ⟨_, vs, rfl, hl, upd_same, fun H' he hs => ⟨rfl, h _ H' (fun c o e => ?_) he⟩⟩) fun r' s' hq => ?_
  · have nc : c ≠ hp.objs.size + 1 := ne_of_none e hn
    exact hs c o (by rw [upd_ne nc]; exact e) nc
  · match r', hq with
    | .error er, hq => exact (pass0 : Passes CX0 X E0) pins σ _ _ er s' I2 hq
    | .ok .next, hq => exact (show False from hq).elim
    | .ok .brk, hq => exact (show False from hq).elim
    | .ok .cont, hq => exact (show False from hq).elim
    | .ok (.ret u), hq =>
      obtain ⟨v, H', I3, rv, ev, q3⟩ := I2.after hq
      subst ev
      exact ⟨rv, ⟨V.ref (hp.objs.size + 1), H', I3, rfl, q3⟩⟩
/-- C(e, ..) -/
theorem pe_er (c : Err X.prog X.w X.K X.mg X.base x C B b newId initId bmB ps) (hr : Room j X.A) (hk : 2 ≤ j) (hg : Gl X x) (ha : PA X (e :: es) t) (hdb : (x == ("__debug__" : Str)) = false := by decide)
    (he : starEach (e :: es) X.env = (false, eval e X.env) :: starEach es X.env := by rfl) (hpl : (backTo pos (starEach es X.env)).any (·.1) = false := by rfl) :
    PE X (.Call (.Name x p) (e :: es) [] pos) (tEr C ps id t) := by
  refine ⟨fun pins s σ H Q I h => wpAny_Call_Name_kw (ld_glob I hg c.gm ?_ hdb)⟩
  refine PySem.W.callWith_K (h₀ := X.base) I.ok.mod.kin c.ec.kp (thn (ha.run pos pins s σ H _ I h) fun us s1 ⟨vs, H1, I1, r, l1, l2, q⟩ => ⟨I1.kIn, ?_⟩) he hpl
  refine run_err c hr hk I1 ?_ r l1 (fun fI fd u b1 _ s' hin => ?_) q
  · show us.length ≤ sizeLine
    rw [← r.length, sizeLine_eq]
    omega
  · have hl : (u :: us ++ []).length = (("self" : Str) :: ps).length := by
      rw [List.append_nil, List.length_cons, List.length_cons, ← r.length, l1]
    have z := b1 s' (u :: us) hin hl
    rw [List.append_nil] at z
    exact z
/-- C(b = .., a = ..): the last ahead -/
theorem pe_erK (c : Err X.prog X.w X.K X.mg X.base x C B b newId initId bmB ps) (hr : Room j X.A) (hk : 2 ≤ j) (hg : Gl X x) (hkw : PK X kws t)
    (hall : (backToKw pos (keywordEach kws X.env)).all (·.1.isSome) = true := by rfl)
    (hks : (backToKw pos (keywordEach kws X.env)).filterMap (·.1) = ps.reverse := by rfl)
    (hdb : (x == ("__debug__" : Str)) = false := by decide)
    (hpl : ((backTo pos (starEach [] X.env)).any (·.1) || (backToKw pos (keywordEach kws X.env)).any (·.1.isNone)) = false := by rfl) :
    PE X (.Call (.Name x p) [] kws pos) (tEr C ps List.reverse t) := by
  refine ⟨fun pins s σ H Q I h => wpAny_Call_Name_kw (ld_glob I hg c.gm ?_ hdb)⟩
  refine PySem.W.callWith_KW0 (h₀ := X.base) I.ok.mod.kin c.ec.kp hall (thn (hkw.run pos pins s σ H _ I h) fun ws s2 ⟨zs, H2, I2, rz, l1, l2, q⟩ => ⟨I2.kIn, ?_⟩) hpl
  rw [hks]
  refine run_err (us := []) (ws := ws.reverse) c hr hk I2 (by rw [sizeLine_eq]; show 0 ≤ _; omega) rz.reverse (by rw [List.length_reverse]; exact l1) (fun fI fd u _ b2 s' hin => ?_) q
  have z := b2 s' u ws.reverse (by rw [List.length_cons, List.length_cons, List.length_reverse, ← rz.length, l1])
  rw [List.reverse_reverse] at z
  exact z
/-- C(), no __init__ below the built-in base's -/
theorem pe_er0 (gm : X.mg x = some (.ref C)) (eb : EBase b newId initId bmB) (q : PySem.W.excIn X.K C bmB newId = true) (kp : PySem.W.keepIn X.K (.ref C) = true) (hg : Gl X x) (hdb : (x == ("__debug__" : Str)) = false := by decide) :
    PE X (.Call (.Name x p) [] [] pos) (fun _ H Q => ∀ a H2, Same H H2 → ErrAt H2 a C [] → Q (.ref a) H2) := by
  refine ⟨fun pins s σ H Q I h => wpAny_Call_Name_kw (ld_glob I hg gm (PySem.W.callWith_K0 I.kIn kp ?_) hdb)⟩
  obtain ⟨bm, N, nm, qn, bs, hdct, sn, sub, ab, col, dd, k0, k1, k2, k3, k5, mN, hC, hN, hni, T⟩ := exc_obj I.kIn q
  refine wpAny_call_exc_subT eb.f T hC hN hni (fun h' a hm => ?_) (by rw [sizeLine_eq]; show 0 ≤ _; omega)
  have hn : H a = none := I.hok.gone hm.new
  obtain ⟨t, ht, _, _⟩ := hm.there
  refine ⟨.ref a, upd H a (exo a C none), I.laidN hm.keeps hm.new hn (exo_ok ht), rfl, h _ _ (same_new hn) (.inl ⟨upd_same, rfl⟩)⟩
/-! ### its class, its fields -/
theorem ErrAt.inst {a : Addr} {fs : List (Str × V)} (h : ErrAt H a C fs) (I : Inv X pins σ H s) : ∃ oe od, PySem.W.InstAt s.heap a oe C od := by
  rcases h with ⟨e, _⟩ | ⟨dx, gs, e, ed, l⟩
  · obtain ⟨t1, ho⟩ := exo_at I.hok e
    exact ⟨_, none, ho, rfl, rfl, trivial⟩
  · obtain ⟨t1, ho⟩ := exo_at I.hok e
    obtain ⟨mA, hns, rel⟩ := exd_at I.hok ed
    obtain ⟨oD, _, _, hoD, _, _⟩ := hns.count (within_of rel)
    exact ⟨_, some oD, ho, rfl, rfl, hoD⟩
/-- isinstance(e, c) of an error -/
def rIsE (K : PySem.W.Frag) : List V → Hp → VK → Prop := fun xs H Q => ∃ (a C B : Addr) (b newId initId : String) (bmB : List Value) (fs : List (Str × V)) (c : V) (u : Value) (r : Bool), xs = [.ref a, c] ∧ ErrAt H a C fs ∧
  EC K C B newId bmB ∧ EBase b newId initId bmB ∧ CW K ∧ ClsV c u ∧ PySem.W.kitOne K (.ref C) u = some r ∧ Q (.bl r) H
theorem call_isE : CallR X (.builtin "isinstance") (rIsE X.K) := by
  intro pins s σ H xs us Q I r h
  obtain ⟨a, C, B, b, newId, initId, bmB, fs, c, u, v, rfl, he, T, eb, cw, k, ek, q⟩ := h
  obtain ⟨u1, u2, rfl, r1, r2⟩ := vals2 r
  have e2 := k.eq r2
  subst e2
  cases (show u1 = Value.ref a from r1)
  obtain ⟨oe, od, J⟩ := he.inst I
  obtain ⟨cd, hcd, _, _⟩ := T.cls
  refine PySem.W.kia_one (PySem.W.kitx_exc (ox := oe) (od := od) ?_ T.ga T.gg (T.exc eb) T.cl cw.get cw.take (T.obj eb)) I.kIn J ek (fun z => nomatch z) fun tk => ⟨.bl v, H, I.tok tk, rfl, q⟩
  rw [hcd] <;> rfl
/-- e.f -/
def tEf (K : PySem.W.Frag) (f : Str) (te : TE) : TE := fun σ H Q => te σ H fun x H1 => ∃ (a C B : Addr) (b newId initId : String) (bmB : List Value) (fs : List (Str × V)) (v : V), x = .ref a ∧ ErrAt H1 a C fs ∧ (f, v) ∈ fs ∧
  EC K C B newId bmB ∧ EBase b newId initId bmB ∧ PySem.W.findIn K (.ref C) f = some none ∧ Q v H1
theorem pe_ef {f : Str} {te : TE} (he : PE X e te) (hb : attributeBase e f X.env (eval e X.env) = eval e X.env := by rfl) : PE X (.Attribute e f pos) (tEf X.K f te) := by
  refine ⟨fun pins s σ H Q I h => attr_of hb (thn (he.run pins s σ H _ I h) fun u s1 hh => ?_)⟩
  obtain ⟨x, H1, I1, rx, a, C, B, b, newId, initId, bmB, fs, v, ex, ha, hv, T, eb, hno, q⟩ := hh
  subst ex
  obtain rfl : u = Value.ref a := rx
  rcases ha with ⟨e, rfl⟩ | ⟨dx, gs, e, ed, l⟩
  · cases hv
  · obtain ⟨t1, ho⟩ := exo_at I1.hok e
    obtain ⟨mA, hns, rel⟩ := exd_at I1.hok ed
    obtain ⟨od, hod, hl⟩ := lookIn_ns hns
    obtain ⟨u, hu, ru⟩ := RelO.some_of (v := v) (o := mA f) (by rw [← l f v hv]; exact rel f)
    have J : PySem.W.InstAt s1.heap a _ C (some od) := ⟨ho, rfl, rfl, hod⟩
    exact HandSPX.exc_get I1.kIn J T.ga T.gg (T.exc eb) (PySem.W.findObj_own T.hd hno rfl (by rw [hl, hu])) (handed_of ru) ⟨v, H1, I1.tok _, ru, q⟩
end
end Jo

set_option Elab.async false
set_option linter.all false
set_option maxRecDepth 100000
set_option maxHeartbeats 2000000
/-! repr of lists that hold dicts; list.count of flat values. -/
namespace Jo
open PySem PySem.Spec PyProof.Rows L2
def kD : Key → PyData
  | .inl i => .int i
  | .inr x => .str x
/-- x is the data d, nested less than n deep; dicts with keys ints and texts among it -/
def ShD (K : PySem.W.Frag) (H : Hp) : Nat → V → PyData → Prop
  | 0 => fun _ _ => False
  | n + 1 => fun x d =>
    (x = .non ∧ d = .none) ∨ (∃ b, x = .bl b ∧ d = .bool b) ∨ (∃ i, x = .int i ∧ d = .int i) ∨ (∃ z, x = .str z ∧ d = .str z) ∨
    (∃ a xs ds, x = .ref a ∧ d = .list ds ∧ (a == sysModules) = false ∧ SqL K H a xs ∧ Paired (ShD K H n) xs ds) ∨
    (∃ a xs ds, x = .ref a ∧ d = .tuple ds ∧ SqT K H a xs ∧ Paired (ShD K H n) xs ds) ∨
    (∃ a kvs ds, x = .ref a ∧ d = .dict ds ∧ H a = some (.dK kvs) ∧ Paired (fun (p : Key × V) (q : PyData × PyData) => q.1 = kD p.1 ∧ ShD K H n p.2 q.2) kvs ds)
section
variable {X : Cx} {pins : List (Addr × Obj)} {σ : L2.St} {H : Hp} {s : Shared}
theorem rdAll {F : V → PyData → Prop} {h : Heap} (f : ∀ x d v, F x d → RelV x v → ∃ as, Reads h v d as ∧ sysModules ∉ as) {xs : List V} {ds : List PyData} (p : Paired F xs ds) :
    ∀ {us : List Value}, Vals xs us → ∃ as, ReadsAll h us ds as ∧ sysModules ∉ as := by
  induction p with
  | nil =>
    intro us r
    cases r
    exact ⟨_, .nil, by simp⟩
  | cons q _ ih =>
    intro us r
    cases r with
    | cons r1 r2 =>
      obtain ⟨as, h1, n1⟩ := f _ _ _ q r1
      obtain ⟨bs, h2, n2⟩ := ih r2
      exact ⟨_, .cons h1 h2, fun z => (List.mem_append.mp z).elim n1 n2⟩
theorem rdPairs {P : Program} {w : World} {F : V → PyData → Prop} {h : Heap} (f : ∀ x d v, F x d → RelV x v → ∃ as, Reads h v d as ∧ sysModules ∉ as) {kvs : List (Key × V)} {ds : List (PyData × PyData)}
    (p : Paired (fun (p : Key × V) (q : PyData × PyData) => q.1 = kD p.1 ∧ F p.2 q.2) kvs ds) : ∀ {vs : List (Key × Value)} {es : List DictEntry}, KV kvs vs → Pairs (mixKind P w) es vs →
    ∃ as bs, ReadsAll h (es.map (·.key)) (ds.map (·.1)) as ∧ ReadsAll h (es.map (·.val)) (ds.map (·.2)) bs ∧ sysModules ∉ as ∧ sysModules ∉ bs := by
  induction p with
  | nil =>
    intro vs es k q
    cases k
    cases q
    exact ⟨_, _, .nil, .nil, by simp, by simp⟩
  | @cons kv pd kvs ds q _ ih =>
    intro vs es k q2
    cases k with
    | cons k1 k2 =>
      cases q2 with
      | cons e1 e2 e3 =>
        obtain ⟨as, bs, h1, h2, n1, n2⟩ := ih k2 e3
        obtain ⟨qk, qv⟩ := q
        obtain ⟨kk, kr⟩ := k1
        obtain ⟨cs, h3, n3⟩ := f _ _ _ qv kr
        rw [← e2] at h3
        have hk : ∀ (k : Key) (u : Value), keyIs k u = true → Reads h u (kD k) [] := fun k u hu => by
          rcases keyIs_shape hu with ⟨i, t, rfl, rfl⟩ | ⟨x, t, rfl, rfl⟩
          · exact .int i t
          · exact .str x t
        have h4 := hk _ _ e1
        rw [← kk, ← qk] at h4
        exact ⟨_, _, .cons h4 h1, .cons h3 h2, by simpa using n1, fun z => (List.mem_append.mp z).elim n3 n2⟩
theorem rd_of (I : Inv X pins σ H s) : ∀ (n : Nat) (x : V) (d : PyData) (v : Value), ShD X.K H n x d → RelV x v → ∃ as, Reads s.heap v d as ∧ sysModules ∉ as
  | 0, _, _, _, h, _ => (show False from h).elim
  | n + 1, x, d, v, h, r => by
    rcases h with ⟨rfl, rfl⟩ | ⟨b, rfl, rfl⟩ | ⟨i, rfl, rfl⟩ | ⟨z, rfl, rfl⟩ | ⟨a, xs, ds, rfl, rfl, ha, hs, p⟩ | ⟨a, xs, ds, rfl, rfl, hs, p⟩ | ⟨a, kvs, ds, rfl, rfl, hd, p⟩
    · cases (show v = Value.none from r)
      exact ⟨_, .none, by simp⟩
    · cases (show v = Value.bool b from r)
      exact ⟨_, .bool b, by simp⟩
    · obtain ⟨t, rfl⟩ := (show ∃ t, v = Value.int i t from r)
      exact ⟨_, .int i t, by simp⟩
    · obtain ⟨t, rfl⟩ := (show ∃ t, v = Value.str z t from r)
      exact ⟨_, .str z t, by simp⟩
    · cases (show v = Value.ref a from r)
      obtain ⟨its, rv, ⟨o, c, e1, e2, _, e4⟩, _⟩ := I.list hs
      obtain ⟨as, ra, na⟩ := rdAll (rd_of I n) p rv
      refine ⟨_, .list e1 e2 e4 (by simpa using ra), fun z => ?_⟩
      rcases List.mem_cons.mp z with z | z
      · exact absurd z.symm (beq_eq_false_iff_ne.mp ha)
      · exact na z
    · cases (show v = Value.ref a from r)
      obtain ⟨its, rv, ⟨o, e1, e2, c, e4⟩, _⟩ := I.tuple hs
      obtain ⟨as, ra, na⟩ := rdAll (rd_of I n) p rv
      exact ⟨_, .tuple e1 e2 e4 (by simpa using ra), na⟩
    · cases (show v = Value.ref a from r)
      obtain ⟨_, hne, vs, kv, o, es, ep, e1, e2, e3, _, hp, _⟩ := (show ObjOk X.prog X.w H s.heap a (.dK kvs) from I.hok a _ hd)
      obtain ⟨as, bs, h1, h2, n1, n2⟩ := rdPairs (rd_of I n) p kv hp
      refine ⟨_, .dict e1 e2.1 e3 h1 h2, fun z => ?_⟩
      rcases List.mem_append.mp z with z | z
      · rcases List.mem_cons.mp z with z | z
        · exact absurd z.symm (beq_eq_false_iff_ne.mp hne)
        · exact n1 z
      · exact n2 z
/-- repr(xs) where dicts may be in it -/
def rReprD (K : PySem.W.Frag) : List V → Hp → VK → Prop := fun xs H Q => ∃ (a : Addr) (d : PyData) (n : Nat),
  xs = [.ref a] ∧ ShD K H n (.ref a) d ∧ d.showable = true ∧ d.depth ≤ 60 ∧ d.shown.length ≤ sizeLine ∧ Q (.str d.shown) H
theorem call_reprD (hgd : X.A.guards = some []) (hu : X.A.units + 64 < cLine) : CallR X (.builtin "repr") (rReprD X.K) := by
  intro pins s σ H xs us Q I r h
  obtain ⟨a, d, n, rfl, hw, h1, h3, h4, q⟩ := h
  obtain ⟨u, rfl, ru⟩ := vals1 r
  cases (show u = Value.ref a from ru)
  obtain ⟨as, rd, na⟩ := rd_of I n _ d _ hw rfl
  exact repr_of_reads' rd h1 (fun _ => na) hgd (by omega) (fun _ _ e => e)
    (fun h' u tk hk => ⟨.str d.shown, H, I.kept hk, ⟨_, rfl⟩, q⟩) h4
/-- [a, b]: no list that is laid here is the module table -/
def tLstN (t : TA) : TE := fun σ H Q => t σ H fun xs H1 => xs.length ≤ sizeLine ∧ ∀ p, H1 p = none → (p == sysModules) = false → Q (.ref p) (upd H1 p (.lst xs))
theorem pe_lstN {es : List Expr} {t : TA} {pos : Pos} (h : PA X es t) : PE X (.List es pos) (tLstN t) := by
  refine ⟨fun pins s σ H Q I hq => ?_⟩
  refine wpAny_List_spliced (thn (h.run pos pins s σ H _ I hq) fun us s1 ⟨xs, H1, I1, r, z, q⟩ => ⟨by rw [← r.length]; exact z, ?_⟩)
  have hf : H1 s1.heap.objs.size = none := I1.hok.fresh (Nat.le_refl _)
  have hs : (s1.heap.objs.size == sysModules) = false := beq_eq_false_iff_ne.mpr (Nat.ne_of_gt I1.big)
  have J := I1.laid (a := s1.heap.objs.size) (o := .lst xs) (h' := s1.heap.push { cls := .type "list", data := .seq us.toArray }) (t' := s1.toks)
    (fun b u e => Heap.get?_push_of_some _ e) (Nat.le_refl _) ⟨z, us, 0, r, Heap.get?_push_size _ rfl⟩
  exact ⟨.ref s1.heap.objs.size, upd H1 s1.heap.objs.size (.lst xs), J, rfl, q _ hf hs⟩
/-- l.count(y), flat values -/
def rCntF (K : PySem.W.Frag) : V → List V → Hp → VK → Prop := fun x xs H Q => ∃ (p : Addr) (ys : List V) (y : V), x = .ref p ∧ xs = [y] ∧ SqL K H p ys ∧ flatV y = true ∧ ys.all flatV = true ∧ Q (.int (ys.countP (fun z => eqV z y) : Nat)) H
theorem mt_countF : MtR X "list.count" (rCntF X.K) := by
  intro pins s σ H x xs v us Q I rx rxs h
  obtain ⟨p, ys, y, rfl, rfl, hs, fy, fys, q⟩ := h
  cases rx
  obtain ⟨u, rfl, ru⟩ := rxs.one
  obtain ⟨its, rv, ⟨⟨cls, dd, data, sl⟩, n, ho, hc, hdn, hd⟩, hlen⟩ := I.list hs
  simp only at hc hd
  subst hc hd
  have ec : ∀ (ys : List V) (its : List Value), Vals ys its → ys.all flatV = true → its.countP (eqU y) = ys.countP (fun z => eqV z y) := by
    intro ys its r
    induction r with
    | nil =>
      intro _
      rfl
    | @cons z w zs ws r1 _ ih =>
      intro hf
      rw [List.all_cons, Bool.and_eq_true] at hf
      rw [List.countP_cons, List.countP_cons, ih hf.2, eqU_of r1 hf.1]
  refine call_meets PySem.F.slot_list_count ⟨_, ho, rfl⟩ PySem.F.entry_list_count (PySem.F.args_list_count_2 _ _)
    (SeqAt.list_countAt p its.toArray n dd sl u (eqU y)) ⟨ho, fun u' hu' => mem_eqAt ru fy rv fys u' (by simpa using hu'), ?_⟩
  refine ⟨.int (ys.countP (fun z => eqV z y) : Nat), H, I.tok _, ⟨s.toks, ?_⟩, q⟩
  show Value.int ((its.toArray.toList.countP (eqU y) : Nat) : Int) s.toks = Value.int ((ys.countP (fun z => eqV z y) : Nat) : Int) s.toks
  rw [show its.toArray.toList = its by simp, ec ys its rv fys]
end
end Jo

set_option Elab.async false
set_option linter.all false
set_option maxRecDepth 100000
set_option maxHeartbeats 2000000
/-! How long what is shown may be, how deep the data, which signs are in it; repr of a value of any kind. -/
namespace Jo
open PySem PySem.Spec PyProof.Rows L2
/-- the signs of a text are no greater than signs are -/
def Lo (z : Str) : Prop := ∀ c ∈ z.cps.toList, c < 16 ^ 8
theorem lo_add {a b : Str} (ha : Lo a) (hb : Lo b) : Lo (a ++ b) := fun c hc => by
  rw [Str.cps_append, Array.toList_append] at hc
  exact (List.mem_append.mp hc).elim (ha c) (hb c)
theorem char_lo (c : Char) : c.toNat < 16 ^ 8 := by
  have h := c.valid
  rcases h with h | ⟨_, h⟩
  · exact Nat.lt_trans h (by decide)
  · exact Nat.lt_trans h (by decide)
theorem lo_of (s : String) : Lo (Str.ofString s) := fun c hc => by
  have e : (Str.ofString s).cps.toList = s.toList.map Char.toNat := PySem.cpsOfBytes_string s
  rw [e] at hc
  obtain ⟨x, _, rfl⟩ := List.mem_map.mp hc
  exact char_lo x
theorem char_lo2 {q c : Nat} (hq : q < 16 ^ 8) (hc : c < 16 ^ 8) : ∀ x ∈ Builtin.Str.reprChar q c, x < 16 ^ 8 := by
  intro x hx
  have dg : ∀ {w : Nat}, x ∈ List.replicate (w - ((Nat.toDigits 16 c).map Char.toNat).length) 48 ++ (Nat.toDigits 16 c).map Char.toNat → x < 16 ^ 8 := fun {w} h => by
    rcases List.mem_append.mp h with h | h
    · rw [(List.mem_replicate.mp h).2]; decide
    · obtain ⟨y, _, rfl⟩ := List.mem_map.mp h
      exact char_lo y
  unfold Builtin.Str.reprChar at hx
  dsimp only at hx
  have two : ∀ {a b : Nat}, a < 16 ^ 8 → b < 16 ^ 8 → x ∈ [a, b] → x < 16 ^ 8 := fun {a b} h1 h2 h => by
    rcases List.mem_cons.mp h with rfl | h
    · exact h1
    · rw [List.mem_singleton.mp h]; exact h2
  repeat' split at hx
  · exact two (by decide) hc hx
  · exact two (by decide) (by decide) hx
  · exact two (by decide) (by decide) hx
  · exact two (by decide) (by decide) hx
  · rw [List.mem_singleton.mp hx]; exact hc
  · rcases List.mem_append.mp hx with h | h
    · exact two (by decide) (by decide) h
    · exact dg h
  · rcases List.mem_append.mp hx with h | h
    · exact two (by decide) (by decide) h
    · exact dg h
  · rcases List.mem_append.mp hx with h | h
    · exact two (by decide) (by decide) h
    · exact dg h
theorem fold_lo {q : Nat} (hq : q < 16 ^ 8) : ∀ (l : List Nat) (acc : Array Nat), (∀ c ∈ l, c < 16 ^ 8) → (∀ c ∈ acc.toList, c < 16 ^ 8) → ∀ c ∈ (l.foldl (fun out c => out ++ (Builtin.Str.reprChar q c).toArray) acc).toList, c < 16 ^ 8
  | [], acc, _, ha => ha
  | y :: r, acc, h, ha => by
    rw [List.foldl_cons]
    refine fold_lo hq r _ (fun c hc => h c (List.mem_cons_of_mem _ hc)) fun c hc => ?_
    rw [Array.toList_append] at hc
    rcases List.mem_append.mp hc with hc | hc
    · exact ha c hc
    · exact char_lo2 hq (h y List.mem_cons_self) c (by simpa using hc)
theorem lo_repr {z : Str} (h : Lo z) : Lo (reprText z) := by
  have hq : reprQuote z < 16 ^ 8 := by unfold reprQuote; split <;> decide
  intro c hc
  unfold reprText at hc
  have hc2 : c ∈ (z.cps.foldl (fun out c => out ++ (Builtin.Str.reprChar (reprQuote z) c).toArray) #[reprQuote z]).toList ++ [reprQuote z] := by simpa using hc
  rw [← Array.foldl_toList] at hc2
  rcases List.mem_append.mp hc2 with h2 | h2
  · exact fold_lo hq _ _ h (fun c hc => by rw [show c = reprQuote z by simpa using hc]; exact hq) c h2
  · rw [List.mem_singleton.mp h2]; exact hq
theorem lo_join : ∀ {ts : List Str}, (∀ t ∈ ts, Lo t) → Lo (Str.join ", " ts)
  | [], _ => lo_of ""
  | [x], h => h x List.mem_cons_self
  | x :: y :: r, h => by
    show Lo (x ++ ", " ++ Str.join ", " (y :: r))
    exact lo_add (lo_add (h x List.mem_cons_self) (lo_of ", ")) (lo_join fun t ht => h t (List.mem_cons_of_mem _ ht))
theorem lo_tup {ts : List Str} (h : ∀ t ∈ ts, Lo t) : Lo (tupleText ts) := lo_add (lo_add (lo_of "(") (lo_join h)) (lo_of _)
theorem lo_from : ∀ {ts : List Str} {k : Nat} {acc : Str}, (∀ t ∈ ts, Lo t) → Lo acc → Lo (textFrom k acc ts)
  | [], _, _, _, ha => ha
  | t :: r, k, acc, h, ha => by
    unfold textFrom
    exact lo_from (fun t ht => h t (List.mem_cons_of_mem _ ht)) (lo_add (lo_add ha (lo_of _)) (h t List.mem_cons_self))
theorem lo_lst {ts : List Str} (h : ∀ t ∈ ts, Lo t) : Lo (listText ts) := lo_add (lo_from h (lo_of "[")) (lo_of "]")
theorem tupT_le (ts : List Str) : (tupleText ts).length ≤ 3 + piled ts := by
  unfold tupleText
  rw [Str.length_append, Str.length_append]
  have h1 : (("(" : Str)).length = 1 := by decide
  have h2 : (Str.ofString (if (ts.length == 1) = true then ",)" else ")")).length ≤ 2 := by
    by_cases h : (ts.length == 1) = true
    · rw [if_pos h]; decide
    · rw [if_neg h]; decide
  have h3 : (Str.join ", " ts).length ≤ piled ts := by
    by_cases h : ts = []
    · subst h; exact Nat.le_refl _
    · have := join_length_add ts h
      omega
  rw [h1]
  omega
theorem from_le : ∀ (ts : List Str) (k : Nat) (acc : Str), (textFrom k acc ts).length ≤ acc.length + piled ts
  | [], _, acc => by show acc.length ≤ _; omega
  | t :: r, k, acc => by
    unfold textFrom
    refine Nat.le_trans (from_le r _ _) ?_
    rw [piled_cons]
    have h2 : ((if k > 0 then ", " else "" : String) : Str).length ≤ 2 := by
      by_cases h : k > 0
      · rw [if_pos h]; decide
      · rw [if_neg h]; decide
    simp only [Str.length_append]
    omega
theorem lstT_le (ts : List Str) : (listText ts).length ≤ 2 + piled ts := by
  unfold listText
  rw [Str.length_append]
  have h1 := from_le ts 0 "["
  have h2 : (("[" : Str)).length = 1 := by decide
  have h3 : (("]" : Str)).length = 1 := by decide
  omega
/-- data that may be shown: how long at most, how deep at most -/
structure Sz (d : PyData) (n k : Nat) : Prop where
  ok : d.showable = true
  dp : d.depth ≤ k
  len : d.shown.length ≤ n
  lo : Lo d.shown
theorem Sz.le {d : PyData} {n k m j : Nat} (h : Sz d n k) (hn : n ≤ m) (hk : k ≤ j) : Sz d m j := ⟨h.ok, Nat.le_trans h.dp hk, Nat.le_trans h.len hn, h.lo⟩
theorem Sz.non : Sz .none 5 0 := ⟨rfl, Nat.le_refl _, by decide, lo_of "None"⟩
theorem Sz.bl (b : Bool) : Sz (.bool b) 5 0 := ⟨rfl, Nat.le_refl _, by cases b <;> decide, by cases b <;> exact lo_of _⟩
theorem Sz.int {i : Int} (h : i.natAbs.log2 < 1920) : Sz (.int i) 1921 0 := ⟨decide_eq_true h, Nat.le_refl _, int_text_len_1921 h, lo_of _⟩
theorem Sz.str {z : Str} {n m : Nat} (hz : Lo z) (hl : z.length ≤ n) (hm : 10 * n + 2 ≤ m) : Sz (.str z) m 0 := by
  refine ⟨rfl, Nat.le_refl _, ?_, lo_repr hz⟩
  have h1 := StrLaws.reprText_len z hz
  show (reprText z).length ≤ _
  omega
inductive SzAll : List PyData → Nat → Nat → Prop where
  | nil {k : Nat} : SzAll [] 0 k
  | cons {d : PyData} {ds : List PyData} {n m k j : Nat} : Sz d n k → SzAll ds m j → SzAll (d :: ds) (n + 2 + m) (max k j)
theorem SzAll.all {ds : List PyData} {m k : Nat} (h : SzAll ds m k) : PyData.showableAll ds = true ∧ PyData.depthAll ds ≤ k ∧ piled (PyData.shownAll ds) ≤ m ∧ ∀ t ∈ PyData.shownAll ds, Lo t := by
  induction h with
  | nil => exact ⟨rfl, Nat.zero_le _, Nat.le_refl _, fun t ht => by cases ht⟩
  | @cons d ds n m k j h1 h2 ih =>
    refine ⟨?_, ?_, ?_, ?_⟩
    · show (PyData.showable d && PyData.showableAll ds) = true
      rw [h1.ok, ih.1]; rfl
    · show max (PyData.depth d) (PyData.depthAll ds) ≤ _
      have := h1.dp
      have := ih.2.1
      omega
    · show piled (PyData.shown d :: PyData.shownAll ds) ≤ _
      rw [piled_cons]
      have := h1.len
      have := ih.2.2.1
      omega
    · intro t ht
      rcases List.mem_cons.mp (show t ∈ PyData.shown d :: PyData.shownAll ds from ht) with rfl | ht
      · exact h1.lo
      · exact ih.2.2.2 t ht
theorem Sz.tup {ds : List PyData} {m n k j : Nat} (h : SzAll ds m k) (hn : 3 + m ≤ n) (hj : k + 1 ≤ j) : Sz (.tuple ds) n j :=
  ⟨h.all.1, Nat.le_trans (Nat.succ_le_succ h.all.2.1) hj, Nat.le_trans (tupT_le _) (Nat.le_trans (Nat.add_le_add_left h.all.2.2.1 3) hn), lo_tup h.all.2.2.2⟩
theorem Sz.lst {ds : List PyData} {m n k j : Nat} (h : SzAll ds m k) (hn : 2 + m ≤ n) (hj : k + 1 ≤ j) : Sz (.list ds) n j :=
  ⟨h.all.1, Nat.le_trans (Nat.succ_le_succ h.all.2.1) hj, Nat.le_trans (lstT_le _) (Nat.le_trans (Nat.add_le_add_left h.all.2.2.1 2) hn), lo_lst h.all.2.2.2⟩
theorem Sz.dct0 : Sz (.dict []) 2 1 := ⟨rfl, by decide, by decide, lo_of "{}"⟩
/-- repr(x) of any value -/
def rReprA (K : PySem.W.Frag) : List V → Hp → VK → Prop := fun xs H Q => ∃ (x : V) (d : PyData) (n : Nat),
  xs = [x] ∧ ShD K H n x d ∧ d.showable = true ∧ d.depth ≤ 60 ∧ d.shown.length ≤ sizeLine ∧ Q (.str d.shown) H
section
variable {X : Cx}
theorem call_reprA (hgd : X.A.guards = some []) (hu : X.A.units + 64 < cLine) : CallR X (.builtin "repr") (rReprA X.K) := by
  intro pins s σ H xs us Q I r h
  obtain ⟨x, d, n, rfl, hw, h1, h3, h4, q⟩ := h
  obtain ⟨u, rfl, ru⟩ := vals1 r
  have tok : Inv X pins σ H { s with toks := s.toks + 1 } := I.tok _
  cases n with
  | zero => exact (show False from hw).elim
  | succ n =>
    rcases hw with ⟨rfl, rfl⟩ | ⟨b, rfl, rfl⟩ | ⟨i, rfl, rfl⟩ | ⟨z, rfl, rfl⟩ | hw
    · cases (show u = Value.none from ru)
      exact PySem.P.repr_of_none ⟨.str (PyData.none).shown, H, tok, ⟨_, rfl⟩, q⟩
    · cases (show u = Value.bool b from ru)
      exact PySem.P.repr_of_bool ⟨.str (PyData.bool b).shown, H, tok, ⟨_, rfl⟩, q⟩
    · obtain ⟨t, rfl⟩ := (show ∃ t, u = Value.int i t from ru)
      exact PySem.P.repr_of_int (of_decide_eq_true h1) ⟨.str (PyData.int i).shown, H, tok, ⟨_, rfl⟩, q⟩
    · obtain ⟨t, rfl⟩ := (show ∃ t, u = Value.str z t from ru)
      exact PySem.P.repr_of_str ⟨.str (PyData.str z).shown, H, tok, ⟨_, rfl⟩, q⟩ h4
    · have isr : ∃ a, x = .ref a := by
        rcases hw with ⟨a, xs, ds, rfl, _⟩ | ⟨a, xs, ds, rfl, _⟩ | ⟨a, kvs, ds, rfl, _⟩ <;> exact ⟨a, rfl⟩
      obtain ⟨a, rfl⟩ := isr
      have hw2 : ShD X.K H (n + 1) (.ref a) d := .inr (.inr (.inr (.inr hw)))
      cases (show u = Value.ref a from ru)
      obtain ⟨as, rd, na⟩ := rd_of I (n + 1) _ d _ hw2 rfl
      exact repr_of_reads' rd h1 (fun _ => na) hgd (by omega) (fun _ _ e => e)
        (fun h' u tk hk => ⟨.str d.shown, H, I.kept hk, ⟨_, rfl⟩, q⟩) h4
end
end Jo

set_option Elab.async false
set_option linter.all false
set_option maxRecDepth 100000
set_option maxHeartbeats 1000000
namespace Jo
open PySem PySem.Spec PyProof.Rows L2
theorem AnyD.shd {K : PySem.W.Frag} {H : Hp} : ∀ {n : Nat} {x : V} {d : PyData}, AnyD H n x d → ShD K H n x d
  | 0, _, _, h => (show False from h).elim
  | n + 1, x, d, h => by
    rcases h with h | h | h | h | ⟨a, xs, ds, rfl, rfl, ha, hs, p⟩ | ⟨a, xs, ds, rfl, rfl, hs, p⟩ | ⟨a, rfl, rfl, hd⟩
    · exact .inl h
    · exact .inr (.inl h)
    · exact .inr (.inr (.inl h))
    · exact .inr (.inr (.inr (.inl h)))
    · exact .inr (.inr (.inr (.inr (.inl ⟨a, xs, ds, rfl, rfl, ha, .inl (.inl hs), pairs_imp (fun _ _ q => AnyD.shd q) p⟩))))
    · exact .inr (.inr (.inr (.inr (.inr (.inl ⟨a, xs, ds, rfl, rfl, .inl (.inl hs), pairs_imp (fun _ _ q => AnyD.shd q) p⟩)))))
    · exact .inr (.inr (.inr (.inr (.inr (.inr ⟨a, [], [], rfl, rfl, hd, .nil⟩)))))
section
variable {P : Program} {w : World} {K : PySem.W.Frag} {mg : Str → Option Value} {base : Heap} {C fi Cs Cb Cv Cm Br Bs Bl : Addr}
theorem repr_a {H : Hp} {Q : VK} {n : Nat} {x : V} {d : PyData} {m k : Nat} (h : AnyD H n x d) (z : Sz d m k) (hm : m ≤ 2000000) (hk : k ≤ 60) (q : Q (.str d.shown) H) : rReprA K [x] H Q :=
  ⟨x, d, n, rfl, h.shd, z.ok, Nat.le_trans z.dp hk, Nat.le_trans z.len (Nat.le_trans hm (by decide)), q⟩
theorem tn {σ : L2.St} {H : Hp} {k : List V → Hp → Prop} (h : k [] H) : tNil σ H k := h
def n_asked : List Str := ["_law_rule", "_law_here", "_law_happens", "_law_found", "_law_word", "error", "_law_mixed"]
theorem sc_asked : FnScope n_asked ["_law_rule", "_law_here", "_law_happens"] (defScope s_asked) := ⟨rfl, rfl, rfl, by decide +kernel, rfl, by decide +kernel, by decide +kernel⟩
def spAsked (C : Addr) : Sp := fun vs H Q _ => ∃ (o S M : Addr) (L : List Row) (ms : List Int) (x y : V), vs = [.ref o, x, y] ∧ RuleAt C H o S M L ms ∧
  ((∃ d n, AnyD H n x d ∧ stD d = false ∧ Sz d 100000 40 ∧ ∀ t H', Same H H' → H' t = some (.tup [.str "state", .str d.shown, .bl true, .bl false]) → Q (.ref t) H') ∨
   (∃ st d n, x = .int st ∧ 0 ≤ st ∧ st ≤ 99 ∧ AnyD H n y d ∧ Short d ∧ fullD d = false ∧ Sz d 100000 40 ∧ ∀ t H', Same H H' → H' t = some (.tup [.str "event", .str d.shown, .bl true, .bl false]) → Q (.ref t) H') ∨
   ∃ st e es, x = .int st ∧ 0 ≤ st ∧ st ≤ 99 ∧ y = .ref e ∧ H e = some (.tup es) ∧ EvS es ∧ es.length ≠ 2 ∧ ∀ t H', Same H H' → H' t = some (.tup [.str "none"]) → Q (.ref t) H')
theorem ok_asked (T : Txt K mg) (ET : ETxt P w K mg base Cs Cb Cv Cm Br Bs Bl) (RT : RTxt K mg C) (D : Dfn K mg "_law_asked" s_asked ["_law_rule", "_law_here", "_law_happens"])
    (m_after : MtX P w K mg base 4 C "after" ["self", "state", "event"] (spRAfter C Cv Cm)) : CalG P w K mg base 7 "_law_asked" ["_law_rule", "_law_here", "_law_happens"] (spAsked C) := by
  refine D.ok sc_asked (fun vs H Q E h => ?_) (fun f cdv A fr s H vs Q E hr hgd h => ?_)
  · obtain ⟨o, S, M, L, ms, x, y, rfl, _⟩ := h
    rfl
  · obtain ⟨o, S, M, L, ms, x, y, rfl, RA, h⟩ := h
    refine ⟨_, pss_cons (ps_asg (pe_tup (pa_cons pe_non (pa_cons pe_str pa_nil))) (pg_tup rfl (pgs_cons (pg_name (i := 3) sc_asked.nd rfl (.inl rfl)) (pgs_cons (pg_name (i := 4) sc_asked.nd rfl (.inl rfl)) pgs_nil))))
      (pss_cons (ps_try_keep (i := 5) (n := "error") (Wout := fun _ _ _ _ => False) rfl rfl rfl sc_asked.nd rfl rfl takes_none
          (fun W pn xe tk _ => pss_one (ps_expr (pe_mX (pv 0) RT.cl m_after hr (by decide) (passW tk) (pa_cons (pv 1) (pa_cons (pv 2) pa_nil)))))
          (.cons (c := .ref Cv) ⟨rfl, by decide, .inl ET.eV.gm⟩ (fun a oe cls d pn hz hv => pss_one (ps_parH (i := 3) (j := 4) (hotC hz hv) sc_asked.nd rfl rfl (by decide) rfl rfl (pa_cons (pv 5) (pa_cons pe_str pa_nil)) rfl))
            (.cons (c := .ref Cm) ⟨rfl, by decide, .inl ET.eM.gm⟩ (fun a oe cls d pn hz hv => pss_one (ps_parH (i := 3) (j := 4) (hotC hz hv) sc_asked.nd rfl rfl (by decide) rfl rfl (pa_cons (pv 5) (pa_cons pe_str pa_nil)) rfl)) .nil)))
      (pss_cons (ps_if (pt_cmpR op_isN (pv 3) pe_non (nomark _))
        (pss_one (ps_ret (pe_tup (pa_cons (pv 4) pa_nil))))
        (pss_nil))
      (pss_cons (ps_set (i := 6) sc_asked.nd rfl (.inl rfl) (pe_or (pe_callB (id := "isinstance") (r := rIsQ K) call_isQ rfl T.b_isinstance (by decide +kernel) (pa_cons (pv 3) (pa_cons (C8.pe_gc (v := .ref Bs) rfl ⟨_, ET.gS, rfl⟩) pa_nil))) (pe_or (pe_callB (id := "isinstance") (r := rIsQ K) call_isQ rfl T.b_isinstance (by decide +kernel) (pa_cons (pv 3) (pa_cons (C8.pe_gc (v := .ref Bl) rfl ⟨_, ET.gL, rfl⟩) pa_nil))) (pe_one (pe_callB (id := "isinstance") (r := rIsQ K) call_isQ rfl T.b_isinstance (by decide +kernel) (pa_cons (pv 3) (pa_cons (C8.pe_gc (v := .ref Cs) rfl ⟨_, ET.eS.gm, rfl⟩) pa_nil)))))))
      (pss_one (ps_ret (pe_tup (pa_cons (pv 4) (pa_cons (pe_callB (id := "repr") (r := rReprA K) (call_reprA hgd hr.units) rfl T.b_repr (by decide +kernel) (pa_cons (pe_qf (pv 3)) pa_nil)) (pa_cons (pe_callB (id := "isinstance") (r := rIsQ K) call_isQ rfl T.b_isinstance (by decide +kernel) (pa_cons (pv 3) (pa_cons (C8.pe_gc (v := .ref Br) rfl ⟨_, ET.gR, rfl⟩) pa_nil))) (pa_cons (pv 6) pa_nil)))))))))), ?_⟩
    refine ⟨(show 2 ≤ sizeLine by decide), fun t0 ht0 => ?_⟩
    have s0 : Same H (upd H t0 (.tup [.non, .str "none"])) := same_new ht0
    refine ⟨t0, _, rfl, .inl (.inl upd_same), rfl, ?_⟩
    refine ⟨_, _, rfl, _, _, rfl, rfl, ?_⟩
    obtain ⟨dx, ho⟩ := (RA.same s0).ob
    refine ⟨_, rfl, o, dx, _, rfl, ho, fld_no _ _ (by decide +kernel) (by decide +kernel), _, rfl, _, rfl, ?_⟩
    refine ⟨o, S, M, L, ms, x, y, rfl, RA.same s0, ?_⟩
    rcases h with ⟨v, n, hx, hb, hz, q⟩ | ⟨st, v, n, rfl, h0, h1, hy, hsh, hb, hz, q⟩ | ⟨st, e, es, rfl, h0, h1, rfl, he, ev, hne, q⟩
    · refine .inl ⟨v, n, hx.same s0, hb, fun H1 d e1 hd => ?_⟩
      refine ⟨true, ET.xVV, fun _ a na => ?_, fun z => by cases z⟩
      have na2 : d ≠ a := ne_of_none hd na
      have s3 : Same H1 (upd H1 a (exq a (.ref Cv) (some d))) := same_new na
      have ca : CauAt (upd H1 a (exq a (.ref Cv) (some d))) a Cv "value" _ := ⟨d, upd_same, by rw [upd_ne na2]; exact hd⟩
      have s4 := (s0.trans e1).trans s3
      refine ⟨_, rfl, _, _, rfl, ?_⟩
      refine ⟨_, rfl, rfl, _, rfl, iteF ?_⟩
      refine ⟨_, rfl, ?_⟩
      refine tc1 (isq ET.cV ET.cw ca (.own Bs) ET.kV.1 ?_)
      refine ⟨_, rfl, iteF ?_⟩
      refine ⟨_, rfl, ?_⟩
      refine tc1 (isq ET.cV ET.cw ca (.own Bl) ET.kV.2.1 ?_)
      refine ⟨_, rfl, iteF ?_⟩
      refine ⟨_, rfl, ?_⟩
      refine tc1 (isq ET.cV ET.cw ca (.own Cs) ET.kV.2.2.1 ?_)
      refine ⟨_, rfl, ?_⟩
      refine ⟨_, rfl, a, Cv, Br, _, _, _, _, _, rfl, ca, ET.cV, ebV, ET.eV.no, ?_⟩
      refine tn (repr_a (hx.same s4) hz (by decide) (by decide) ?_)
      refine ⟨_, rfl, ?_⟩
      refine tc1 (isq ET.cV ET.cw ca (.own Br) ET.kV.2.2.2 ?_)
      refine ⟨_, rfl, ?_⟩
      refine ⟨(show 4 ≤ sizeLine by decide), fun t nt => q t _ (s4.trans (same_new nt)) upd_same⟩
    · refine .inr (.inl ⟨st, v, n, rfl, h0, h1, hy.same s0, hsh, hb, fun H1 d e1 hd => ?_⟩)
      refine ⟨false, ET.xMV, (fun z => by cases z), fun _ => ⟨true, ET.xMM, fun _ a na => ?_, fun z => by cases z⟩⟩
      have na2 : d ≠ a := ne_of_none hd na
      have s3 : Same H1 (upd H1 a (exq a (.ref Cm) (some d))) := same_new na
      have ca : CauAt (upd H1 a (exq a (.ref Cm) (some d))) a Cm "value" _ := ⟨d, upd_same, by rw [upd_ne na2]; exact hd⟩
      have s4 := (s0.trans e1).trans s3
      refine ⟨_, rfl, _, _, rfl, ?_⟩
      refine ⟨_, rfl, rfl, _, rfl, iteF ?_⟩
      refine ⟨_, rfl, ?_⟩
      refine tc1 (isq ET.cM ET.cw ca (.own Bs) ET.kM.1 ?_)
      refine ⟨_, rfl, iteF ?_⟩
      refine ⟨_, rfl, ?_⟩
      refine tc1 (isq ET.cM ET.cw ca (.own Bl) ET.kM.2.1 ?_)
      refine ⟨_, rfl, iteF ?_⟩
      refine ⟨_, rfl, ?_⟩
      refine tc1 (isq ET.cM ET.cw ca (.own Cs) ET.kM.2.2.1 ?_)
      refine ⟨_, rfl, ?_⟩
      refine ⟨_, rfl, a, Cm, Br, _, _, _, _, _, rfl, ca, ET.cM, ebV, ET.eM.no, ?_⟩
      refine tn (repr_a (hy.same s4) hz (by decide) (by decide) ?_)
      refine ⟨_, rfl, ?_⟩
      refine tc1 (isq ET.cM ET.cw ca (.own Br) ET.kM.2.2.2 ?_)
      refine ⟨_, rfl, ?_⟩
      refine ⟨(show 4 ≤ sizeLine by decide), fun t nt => q t _ (s4.trans (same_new nt)) upd_same⟩
    · refine .inr (.inr ⟨st, e, es, rfl, h0, h1, rfl, s0 _ _ he, ev, hne, fun v H1 s1 => ?_⟩)
      refine ⟨_, rfl, rfl, _, rfl, iteT ?_⟩
      refine ⟨_, rfl, ?_⟩
      refine ⟨(show 1 ≤ sizeLine by decide), fun t nt => q t _ ((s0.trans s1).trans (same_new nt)) upd_same⟩
end
end Jo

set_option Elab.async false
set_option linter.all false
set_option maxRecDepth 100000
set_option maxHeartbeats 1000000
namespace Jo
open PySem PySem.Spec PyProof.Rows L2
/-! ### what stands beside the bag -/
def Off (p : Addr) (H : Hp) : Hp := del H p
theorem off_get {p a : Addr} {H : Hp} {o : HO} (h : Off p H a = some o) : a ≠ p ∧ H a = some o := by
  by_cases e : a = p
  · rw [e] at h
    cases (show del H p p = some o from h).symm.trans del_same
  · exact ⟨e, (del_ne e).symm.trans h⟩
theorem off_of {p a : Addr} {H : Hp} {o : HO} (n : a ≠ p) (h : H a = some o) : Off p H a = some o := (del_ne n).trans h
theorem off_same {p : Addr} {H : Hp} : Same (Off p H) H := fun _ _ e => (off_get e).2
theorem off_kp {p : Addr} {H H' : Hp} (k : Kp p H H') : Same (Off p H) (Off p H') := fun b o e => off_of (off_get e).1 (k b o (off_get e).2 (off_get e).1)
theorem bag_ne {p a : Addr} {H : Hp} (hp : BagAt H p) (na : H a = none) : a ≠ p := fun e => by
  obtain ⟨_, _, _, h⟩ := hp
  rw [← e, na] at h
  cases h
theorem kp_new {p a : Addr} {H : Hp} {o : HO} (na : H a = none) : Kp p H (upd H a o) := kp_of (same_new na)
theorem off_new {p a : Addr} {H : Hp} {o : HO} (hp : BagAt H p) (na : H a = none) : Off p (upd H a o) a = some o := off_of (bag_ne hp na) upd_same
theorem bag_new {p a : Addr} {H : Hp} {o : HO} (hp : BagAt H p) (na : H a = none) : BagAt (upd H a o) p := hp.same (same_new na)
/-! ### displays of values, by their data -/
/-- te makes a value with the data d, beside the bag -/
def MkV (p : Addr) (n : Nat) (d : PyData) (σ : L2.St) (te : TE) : Prop := ∀ (H : Hp) (Q : VK), BagAt H p → (∀ x H', BagAt H' p → Kp p H H' → AnyD (Off p H') n x d → Q x H') → te σ H Q
def MkA (p : Addr) (n : Nat) (ds : List PyData) (σ : L2.St) (ta : TA) : Prop := ∀ (H : Hp) (Q : List V → Hp → Prop), BagAt H p → (∀ xs H', BagAt H' p → Kp p H H' → Paired (AnyD (Off p H') n) xs ds → Q xs H') → ta σ H Q
section
variable {p : Addr} {n : Nat} {d : PyData} {ds : List PyData} {σ : L2.St} {te : TE} {ta : TA}
theorem mk_non : MkV p (n + 1) .none σ (tC .non) := fun H Q hp q => q _ H hp (.refl _ _) .non
theorem mk_bl {b : Bool} : MkV p (n + 1) (.bool b) σ (tC (.bl b)) := fun H Q hp q => q _ H hp (.refl _ _) (.bl b)
theorem mk_int {i : Int} : MkV p (n + 1) (.int i) σ (tC (.int i)) := fun H Q hp q => q _ H hp (.refl _ _) (.int i)
theorem mk_str {z : Str} : MkV p (n + 1) (.str z) σ (tC (.str z)) := fun H Q hp q => q _ H hp (.refl _ _) (.str z)
theorem mk_var {i : Nat} {z : Str} (h : σ[i]? = some (some (.str z))) : MkV p (n + 1) (.str z) σ (tVar i) := fun H Q hp q => ⟨_, h, q _ H hp (.refl _ _) (.str z)⟩
theorem mka_nil : MkA p n [] σ tNil := fun H Q hp q => q _ H hp (.refl _ _) .nil
theorem mka_cons (h : MkV p n d σ te) (r : MkA p n ds σ ta) : MkA p n (d :: ds) σ (tCons te ta) := fun H Q hp q =>
  h H _ hp fun x H1 b1 k1 a1 => r H1 _ b1 fun xs H2 b2 k2 a2 => q (x :: xs) H2 b2 (k1.trans k2) (.cons (a1.same (off_kp k2)) a2)
theorem mk_tup (h : MkA p n ds σ ta) (hl : ds.length ≤ 100) : MkV p (n + 1) (.tuple ds) σ (tTup ta) := fun H Q hp q =>
  h H _ hp fun xs H1 b1 k1 a1 => ⟨by rw [a1.length]; exact Nat.le_trans hl (by decide), fun a na =>
    q _ _ (bag_new b1 na) (k1.trans (kp_new na)) (.tup (off_new b1 na) (pairs_imp (fun _ _ z => z.same (off_kp (kp_new na))) a1))⟩
theorem mk_lst (h : MkA p n ds σ ta) (hl : ds.length ≤ 100) : MkV p (n + 1) (.list ds) σ (tLstN ta) := fun H Q hp q =>
  h H _ hp fun xs H1 b1 k1 a1 => ⟨by rw [a1.length]; exact Nat.le_trans hl (by decide), fun a na hs =>
    q _ _ (bag_new b1 na) (k1.trans (kp_new na)) (.lst hs (off_new b1 na) (pairs_imp (fun _ _ z => z.same (off_kp (kp_new na))) a1))⟩
theorem mk_dct : MkV p (n + 1) (.dict []) σ tDNewK := fun H Q hp q a na => q _ _ (bag_new hp na) (kp_new na) (.dct (off_new hp na))
/-- a list with these data, beside the bag -/
def LsP (p : Addr) (n : Nat) (H : Hp) (l : Addr) (ds : List PyData) : Prop := ∃ xs, Off p H l = some (.lst xs) ∧ Paired (AnyD (Off p H) n) xs ds
theorem LsP.kp {H H' : Hp} {l : Addr} (h : LsP p n H l ds) (k : Kp p H H') : LsP p n H' l ds :=
  let ⟨xs, e, a⟩ := h
  ⟨xs, off_kp k _ _ e, pairs_imp (fun _ _ z => z.same (off_kp k)) a⟩
/-- a display of values as a list that is kept in a name -/
theorem ls_new {H : Hp} {Q : VK} (h : MkA p n ds σ ta) (hl : ds.length ≤ 100) (hp : BagAt H p) (q : ∀ l H', BagAt H' p → Kp p H H' → LsP p n H' l ds → Q (.ref l) H') : tLst ta σ H Q :=
  h H _ hp fun xs H1 b1 k1 a1 => ⟨by rw [a1.length]; exact Nat.le_trans hl (by decide), fun a na =>
    q a _ (bag_new b1 na) (k1.trans (kp_new na)) ⟨xs, off_new b1 na, pairs_imp (fun _ _ z => z.same (off_kp (kp_new na))) a1⟩⟩
/-- name + a display -/
theorem ls_cat {H : Hp} {Q : VK} {i : Nat} {l : Addr} {cs : List PyData} (hi : σ[i]? = some (some (.ref l))) (hc : LsP p n H l cs) (h : MkA p n ds σ ta) (hl : ds.length ≤ 100) (hl2 : cs.length ≤ 100) (hp : BagAt H p)
    (q : ∀ l H', BagAt H' p → Kp p H H' → LsP p n H' l (cs ++ ds) → Q (.ref l) H') : tOp rCat (tVar i) (tLst ta) σ H Q := by
  refine ⟨_, hi, ls_new h hl hp fun l2 H1 b1 k1 h1 => ?_⟩
  obtain ⟨xs, ex, ax⟩ := hc.kp k1
  obtain ⟨ys, ey, ay⟩ := h1
  have pr : ∀ {α β : Type} {F : α → β → Prop} {a c : List α} {b d : List β}, Paired F a b → Paired F c d → Paired F (a ++ c) (b ++ d) := fun {α β F a c b d} u v => by
    induction u with
    | nil => exact v
    | cons q _ ih => exact .cons q ih
  refine ⟨l, l2, xs, ys, rfl, rfl, (off_get ex).2, (off_get ey).2, ?_, fun a na => ?_⟩
  · rw [ax.length, ay.length]
    exact Nat.le_trans (Nat.add_le_add hl2 hl) (by decide)
  · exact q a _ (bag_new b1 na) (k1.trans (kp_new na)) ⟨xs ++ ys, off_new b1 na, pairs_imp (fun _ _ z => z.same (off_kp (kp_new na))) (pr ax ay)⟩
theorem pair_get {α β : Type} {F : α → β → Prop} {xs : List α} {ys : List β} (p : Paired F xs ys) : ∀ {i : Nat}, i < ys.length → ∃ x y, xs[i]? = some x ∧ ys[i]? = some y ∧ F x y := by
  induction p with
  | nil => intro i h; cases h
  | @cons x y xs ys q _ ih =>
    intro i h
    cases i with
    | zero => exact ⟨x, y, rfl, rfl, q⟩
    | succ i =>
      obtain ⟨a, b, e1, e2, e3⟩ := ih (Nat.lt_of_succ_lt_succ h)
      exact ⟨a, b, e1, e2, e3⟩
/-- name[pick(bag, len(name))] -/
theorem ls_pick {K : PySem.W.Frag} {H : Hp} {Q : VK} {i j : Nat} {l : Addr} (hj : σ[j]? = some (some (.ref p))) (hi : σ[i]? = some (some (.ref l))) (hp : BagAt H p) (hc : LsP p n H l ds) (h0 : 0 < ds.length) (h1 : ds.length ≤ 100)
    (q : ∀ x d H', d ∈ ds → BagAt H' p → Kp p H H' → AnyD (Off p H') n x d → Q x H') :
    tOp (rIxL K) (tVar i) (tCall spPick [] E0 (tCons (tVar j) (tCons (tCB (fun xs H Q => ∃ x n, xs = [x] ∧ LenV K x H n ∧ Q (.int n) H) (tCons (tVar i) tNil)) tNil))) σ H Q := by
  obtain ⟨xs, ex, ax⟩ := id hc
  refine ⟨_, hi, _, hj, _, hi, ?_⟩
  refine ⟨_, xs.length, rfl, .inl ⟨xs, SqL.of (off_get ex).2, rfl⟩, ?_⟩
  have hl : xs.length = ds.length := ax.length
  refine ⟨p, (xs.length : Int), rfl, hp, by omega, by omega, fun d H1 d0 d1 b1 k1 => ?_⟩
  obtain ⟨m, rfl⟩ := Int.eq_ofNat_of_zero_le d0
  obtain ⟨ys, ey, ay⟩ := hc.kp k1
  have e2 := off_kp k1 _ _ ex
  rw [e2] at ey
  cases ey
  obtain ⟨x, y, e3, e4, e5⟩ := pair_get ay (i := m) (by omega)
  exact ⟨l, xs, (m : Int), x, rfl, rfl, SqL.of (off_get e2).2, atI_nat e3, q x y H1 (List.mem_of_getElem? e4) b1 k1 e5⟩
end
end Jo

set_option Elab.async false
set_option linter.all false
set_option maxRecDepth 100000
set_option maxHeartbeats 1000000
namespace Jo
open PySem PySem.Spec PyProof.Rows L2
section
variable {p : Addr} {n : Nat} {σ : L2.St}
theorem mk_neg {i : Int} : MkV p (n + 1) (.int (-i)) σ (tUn (rU fun i => .int (-i)) (tC (.int i))) := fun H Q hp q => ⟨_, rfl, q _ H hp (.refl _ _) (.int _)⟩
theorem mk_pow {i j : Int} (h : CPow i j) : MkV p (n + 1) (.int (i ^ j.toNat)) σ (tOp (rI CPow fun i j => .int (i ^ j.toNat)) (tC (.int i)) (tC (.int j))) := fun H Q hp q => ⟨_, _, rfl, rfl, h, q _ H hp (.refl _ _) (.int _)⟩
theorem allc {α : Type} {P : α → Prop} {a : α} {r : List α} (h : P a) (h2 : ∀ d ∈ r, P d) : ∀ d ∈ a :: r, P d := fun d hd => by
  rcases List.mem_cons.mp hd with rfl | hd
  · exact h
  · exact h2 d hd
theorem alln {α : Type} {P : α → Prop} : ∀ d ∈ ([] : List α), P d := fun d hd => by cases hd
end
section
variable {σ : L2.St} {H : Hp} {te : TE} {i : Nat} {t u : TS} {n b c : L2.St → Hp → Prop} {r : VK}
theorem asg_of (h : te σ H fun x H1 => n (σ.set i (some x)) H1) : tAsg te (gName i) ⟨n, r, b, c⟩ σ H := h
theorem seq_of (h : t ⟨u ⟨n, r, b, c⟩, r, b, c⟩ σ H) : tSeq t u ⟨n, r, b, c⟩ σ H := h
theorem next_of (h : n σ H) : tNext ⟨n, r, b, c⟩ σ H := h
theorem ret_of (h : te σ H r) : tRet te ⟨n, r, b, c⟩ σ H := h
end
/-- no state; short -/
structure Wst (d : PyData) : Prop where
  no : stD d = false
  sz : Sz d 2500 2
  sh : Short d
theorem short_no {d : PyData} (h : ∀ ds, d ≠ .tuple ds) : Short d := fun ds _ e => absurd e (h ds)
section
variable {P : Program} {w : World} {K : PySem.W.Frag} {mg : Str → Option Value} {base : Heap}
def stMenu : List PyData := [.int (-1), .int 100, .bool true, .bool false, .none, .str "0", .tuple [.int 0], .list [.int 0], .dict [], .int (10 ^ (50 : Int).toNat), .int 101]
theorem sz_i {i : Int} (h : i.natAbs.log2 < 1920) : Sz (.int i) 2500 2 := (Sz.int h).le (by decide) (by decide)
theorem stMenu_ok : ∀ d ∈ stMenu, Wst d :=
  allc ⟨by decide, sz_i (by decide +kernel), short_no (fun _ e => by cases e)⟩ <|
  allc ⟨by decide, sz_i (by decide +kernel), short_no (fun _ e => by cases e)⟩ <|
  allc ⟨by decide, (Sz.bl _).le (by decide) (by decide), short_no (fun _ e => by cases e)⟩ <|
  allc ⟨by decide, (Sz.bl _).le (by decide) (by decide), short_no (fun _ e => by cases e)⟩ <|
  allc ⟨by decide, Sz.non.le (by decide) (by decide), short_no (fun _ e => by cases e)⟩ <|
  allc ⟨by decide, (Sz.str (n := 1) (m := 12) (lo_of "0") (by decide) (by decide)).le (by decide) (by decide), short_no (fun _ e => by cases e)⟩ <|
  allc ⟨by decide, .tup (.cons (Sz.int (i := 0) (by decide +kernel)) (.nil (k := 0))) (by decide) (by decide), fun ds z e m => by cases e; simp at m⟩ <|
  allc ⟨by decide, .lst (.cons (Sz.int (i := 0) (by decide +kernel)) (.nil (k := 0))) (by decide) (by decide), short_no (fun _ e => by cases e)⟩ <|
  allc ⟨by decide, Sz.dct0.le (by decide) (by decide), short_no (fun _ e => by cases e)⟩ <|
  allc ⟨by decide +kernel, sz_i (by decide +kernel), short_no (fun _ e => by cases e)⟩ <|
  allc ⟨by decide, sz_i (by decide +kernel), short_no (fun _ e => by cases e)⟩ alln
def n_wrong_state : List Str := ["_law_bag_here", "_law_menu"]
theorem sc_wrong_state : FnScope n_wrong_state ["_law_bag_here"] (defScope s_wrong_state) := ⟨rfl, rfl, rfl, by decide +kernel, rfl, by decide +kernel, by decide +kernel⟩
def spWrongS : Sp := fun vs H Q _ => ∃ p, vs = [.ref p] ∧ BagAt H p ∧ ∀ x d H', BagAt H' p → Kp p H H' → AnyD (Off p H') 4 x d → Wst d → Q x H'
theorem ok_wrong_state (T : Txt K mg) (D : Dfn K mg "_law_wrong_state" s_wrong_state ["_law_bag_here"]) (c_pick : CalG P w K mg base 1 "_law_pick" ["_law_bag_here", "_law_many"] spPick) :
    CalG P w K mg base 2 "_law_wrong_state" ["_law_bag_here"] spWrongS := by
  refine D.ok sc_wrong_state (fun vs H Q E h => ?_) (fun f cdv A fr s H vs Q E hr hgd h => ?_)
  · obtain ⟨p, rfl, _⟩ := h
    rfl
  · obtain ⟨p, rfl, hp, q⟩ := h
    refine ⟨_, pss_cons (ps_set (i := 1) sc_wrong_state.nd rfl (.inl rfl) (pe_lst (pa_cons (pe_un un_neg pe_int) (pa_cons pe_int (pa_cons pe_bl (pa_cons pe_bl (pa_cons pe_non (pa_cons pe_str (pa_cons (pe_tup (pa_cons pe_int pa_nil)) (pa_cons (pe_lstN (pa_cons pe_int pa_nil)) (pa_cons pe_dnewK (pa_cons (pe_op op_pow pe_int pe_int) (pa_cons pe_int pa_nil)))))))))))))
      (pss_one (ps_ret (pe_ix ix_list (pv 1) (pe_cG c_pick hr (by decide) hgd rfl (pa_cons (pv 0) (pa_cons (pe_callB call_len rfl T.b_len (by decide +kernel) (pa_cons (pv 1) pa_nil)) pa_nil))) (fun _ _ => rfl)))), ?_⟩
    refine seq_of (asg_of ?_)
    have hA : MkA p 4 stMenu [some (.ref p), none] _ := mka_cons mk_neg <| mka_cons mk_int <| mka_cons mk_bl <| mka_cons mk_bl <| mka_cons mk_non <| mka_cons mk_str <| mka_cons (mk_tup (mka_cons mk_int mka_nil) (by decide)) <|
      mka_cons (mk_lst (mka_cons mk_int mka_nil) (by decide)) <| mka_cons mk_dct <| mka_cons (mk_pow ⟨by decide, by decide, by decide⟩) <| mka_cons mk_int mka_nil
    refine ls_new hA (by decide) hp fun l H1 b1 k1 h1 => ret_of ?_
    exact ls_pick rfl rfl b1 h1 (by decide) (by decide) fun x d H2 hd b2 k2 a2 => q x d H2 b2 (k1.trans k2) a2 (stMenu_ok d hd)
end
end Jo

set_option Elab.async false
set_option linter.all false
set_option maxRecDepth 100000
set_option maxHeartbeats 1000000
namespace Jo
open PySem PySem.Spec PyProof.Rows L2
/-! ### names -/
theorem nm_parts {z : Str} (h : nmS z = true) : 1 ≤ z.length ∧ z.length ≤ 8 ∧ z.cps.getD 0 0 ∈ letters.cps.toList ∧ ∀ c ∈ z.cps.toList, c ∈ signs.cps.toList := by
  unfold nmS at h
  rw [Bool.and_eq_true, Bool.and_eq_true, Bool.and_eq_true] at h
  obtain ⟨⟨h1, h2⟩, h3, h4⟩ := h
  rw [List.all_eq_true] at h4
  refine ⟨by have := of_decide_eq_true h1; omega, by have := of_decide_eq_true h2; omega, of_decide_eq_true h3, fun c hc => ?_⟩
  obtain ⟨i, hi, rfl⟩ := List.mem_iff_getElem.mp hc
  have hi2 : i < z.cps.size := by simpa using hi
  have h5 := of_decide_eq_true (h4 (decide (z.cps.getD i 0 ∈ signs.cps.toList)) (List.mem_map.mpr ⟨i, List.mem_range.mpr hi2, rfl⟩))
  have h6 : z.cps.getD i 0 = z.cps.toList[i] := by simp [Array.getD_eq_getD_getElem?, hi2]
  rw [h6] at h5
  exact h5
theorem sign_low : ∀ c ∈ signs.cps.toList, c < 128 := by decide +kernel
theorem strOk_of {z : Str} (h : ∀ c ∈ z.cps.toList, c < 128) : PyData.strOk z = true := by
  unfold PyData.strOk
  rw [Array.all_eq_true]
  intro i hi
  exact decide_eq_true (Nat.lt_trans (h _ (by simp)) (by decide))
theorem lo_low {z : Str} (h : ∀ c ∈ z.cps.toList, c < 128) : Lo z := fun c hc => Nat.lt_trans (h c hc) (by decide)
theorem low_add {a b : Str} (ha : ∀ c ∈ a.cps.toList, c < 128) (hb : ∀ c ∈ b.cps.toList, c < 128) : ∀ c ∈ (a ++ b).cps.toList, c < 128 := fun c hc => by
  rw [Str.cps_append, Array.toList_append] at hc
  exact (List.mem_append.mp hc).elim (ha c) (hb c)
theorem up_facts {z : Str} (h : nmS z = true) : (Txt.upper z).length = z.length ∧ (∀ c ∈ (Txt.upper z).cps.toList, c < 128) ∧ nmS (Txt.upper z) = false := by
  obtain ⟨h1, h2, h3, h4⟩ := nm_parts h
  have lw : ∀ c ∈ z.cps.toList, c < 128 := fun c hc => sign_low c (h4 c hc)
  have e := PyProof.Rows.upper_ascii lw
  have up_lt : ∀ c, c < 128 → PyProof.Rows.up1 c < 128 := by decide +kernel
  have up_no : ∀ c ∈ letters.cps.toList, ¬ PyProof.Rows.up1 c ∈ letters.cps.toList := by decide +kernel
  have h0 : 0 < z.cps.size := by rw [← len_cps]; exact h1
  rw [e]
  refine ⟨by show (z.cps.map _).size = z.cps.size; rw [Array.size_map], fun c hc => ?_, ?_⟩
  · rw [Array.toList_map] at hc
    obtain ⟨y, hy, rfl⟩ := List.mem_map.mp hc
    exact up_lt y (lw y hy)
  · have e0 : (⟨z.cps.map PyProof.Rows.up1⟩ : Str).cps.getD 0 0 = PyProof.Rows.up1 (z.cps.getD 0 0) := by
      show (z.cps.map PyProof.Rows.up1).getD 0 0 = _
      simp [Array.getD_eq_getD_getElem?, h0]
    unfold nmS
    rw [e0, decide_eq_false (up_no _ h3), Bool.false_and, Bool.and_false]
theorem nm_long {z : Str} (h : 8 < z.length) : nmS z = false := by
  unfold nmS
  rw [decide_eq_false (show ¬ (z.length : Int) ≤ 8 by omega), Bool.and_false, Bool.false_and]
/-! ### the wrong events -/
def ShE (y : PyData) : Prop := ∀ z, y = .str z → z.length ≤ 1000 ∧ PyData.strOk z = true
theorem short_tup {ds : List PyData} (h : ∀ y ∈ ds, ShE y) : Short (.tuple ds) := fun ds2 z e m => by
  cases e
  exact h _ m z rfl
theorem she_s {z : Str} (h1 : z.length ≤ 1000) (h2 : ∀ c ∈ z.cps.toList, c < 128) : ShE (.str z) := fun y e => by
  cases e
  exact ⟨h1, strOk_of h2⟩
theorem she_i {i : Int} : ShE (.int i) := fun _ e => by cases e
theorem she_b {b : Bool} : ShE (.bool b) := fun _ e => by cases e
theorem she_n : ShE .none := fun _ e => by cases e
theorem she_t {ds : List PyData} : ShE (.tuple ds) := fun _ e => by cases e
theorem she_l {ds : List PyData} : ShE (.list ds) := fun _ e => by cases e
theorem szs {z : Str} (h1 : z.length ≤ 16) (h2 : ∀ c ∈ z.cps.toList, c < 128) : Sz (.str z) 162 0 := .str (lo_low h2) h1 (by decide)
theorem szi {i : Int} (h : i.natAbs.log2 < 1920) : Sz (.int i) 1921 0 := .int h
theorem szn : SzAll [] 0 0 := .nil
/-- no event; short -/
structure Wev (d : PyData) : Prop where
  no : evD d = false
  sz : Sz d 10000 4
  sh : Short d
def evMenu1 (z : Str) : List PyData := [.tuple [], .tuple [.str "hang", .int 1], .tuple [.str "hang", .str z], .tuple [.str "call"], .tuple [.str "call", .str z, .str "1"], .tuple [.str "call", .str z, .bool true], .tuple [.str "call", .str z, .none]]
def evMenu2 (z : Str) : List PyData := [.tuple [.str "call", .str z, .int 1, .int 2], .list [.str "call", .str z], .tuple [.str "stop", .str z], .str "hang", .none, .tuple [.str "back", .str z, .tuple [.int 0]]]
def evMenu3 (z : Str) : List PyData := [.tuple [.str "out", .str (z ++ ("aaaaaaaa" : Str))], .tuple [.str "out", .str ""], .tuple [.str "answer", .str "1a"], .tuple [.str "hangs", .str z], .tuple [.str "answer", .none]]
def evMenu4 (z : Str) : List PyData := [.tuple [.str "Call", .str z], .tuple [.str "hang "]]
def evMenu5 (z : Str) : List PyData := [.tuple [.list [.str "call"], .str z], .tuple [.str "call", .list [.str z], .int 0], .int 7, .dict [], .tuple [.tuple [.str "call"], .str z], .tuple [.str "answer", .str (Txt.upper z), .int 1]]
theorem ev3f {w : Str} {y v : PyData} (h : intD v = false) : evD (.tuple [.str w, y, v]) = false := by
  have e : evD (.tuple [.str w, y, v]) = (decide (w ∈ wordsE) && (nmD y && intD v)) := rfl
  rw [e, h, Bool.and_false, Bool.and_false]
theorem ev3n {w : Str} {y v : PyData} (h : nmD y = false) : evD (.tuple [.str w, y, v]) = false := by
  have e : evD (.tuple [.str w, y, v]) = (decide (w ∈ wordsE) && (nmD y && intD v)) := rfl
  rw [e, h, Bool.false_and, Bool.and_false]
theorem ev2n {w : Str} {y : PyData} (h : nmD y = false) : evD (.tuple [.str w, y]) = false := by
  have e : evD (.tuple [.str w, y]) = (decide (w ∈ wordsE) && nmD y) := rfl
  rw [e, h, Bool.and_false]
theorem evMenu_ok {z : Str} (h : nmS z = true) : ∀ d ∈ (((evMenu1 z ++ evMenu2 z) ++ evMenu3 z) ++ evMenu4 z) ++ evMenu5 z, Wev d := by
  obtain ⟨h1, h2, h3, h4⟩ := nm_parts h
  have lw : ∀ c ∈ z.cps.toList, c < 128 := fun c hc => sign_low c (h4 c hc)
  obtain ⟨u1, u2, u3⟩ := up_facts h
  have Sz1 : Sz (.str z) 162 0 := szs (by omega) lw
  have Se : ShE (.str z) := she_s (by omega) lw
  have a8 : ∀ c ∈ ("aaaaaaaa" : Str).cps.toList, c < 128 := by decide
  have l8 : (z ++ ("aaaaaaaa" : Str)).length = z.length + 8 := by rw [Str.length_append]; rfl
  have w1 : ∀ {s : Str}, s.length ≤ 16 → (∀ c ∈ s.cps.toList, c < 128) → Sz (.str s) 162 0 := fun a b => szs a b
  have app : ∀ {as bs : List PyData}, (∀ d ∈ as, Wev d) → (∀ d ∈ bs, Wev d) → ∀ d ∈ as ++ bs, Wev d := fun a b d hd => (List.mem_append.mp hd).elim (a d) (b d)
  refine app (app (app (app ?_ ?_) ?_) ?_) ?_
  · refine allc ⟨rfl, .tup szn (by decide) (by decide), short_tup alln⟩ <| allc ⟨rfl, .tup (.cons (szs (by decide) (by decide)) (.cons (szi (by decide +kernel)) szn)) (by decide) (by decide), short_tup (allc (she_s (by decide) (by decide)) (allc she_i alln))⟩ <|
      allc ⟨rfl, .tup (.cons (szs (by decide) (by decide)) (.cons Sz1 szn)) (by decide) (by decide), short_tup (allc (she_s (by decide) (by decide)) (allc Se alln))⟩ <|
      allc ⟨rfl, .tup (.cons (szs (by decide) (by decide)) szn) (by decide) (by decide), short_tup (allc (she_s (by decide) (by decide)) alln)⟩ <|
      allc ⟨ev3f rfl, .tup (.cons (szs (by decide) (by decide)) (.cons Sz1 (.cons (szs (by decide) (by decide)) szn))) (by decide) (by decide), short_tup (allc (she_s (by decide) (by decide)) (allc Se (allc (she_s (by decide) (by decide)) alln)))⟩ <|
      allc ⟨ev3f rfl, .tup (.cons (szs (by decide) (by decide)) (.cons Sz1 (.cons (Sz.bl _) szn))) (by decide) (by decide), short_tup (allc (she_s (by decide) (by decide)) (allc Se (allc she_b alln)))⟩ <|
      allc ⟨ev3f rfl, .tup (.cons (szs (by decide) (by decide)) (.cons Sz1 (.cons Sz.non szn))) (by decide) (by decide), short_tup (allc (she_s (by decide) (by decide)) (allc Se (allc she_n alln)))⟩ alln
  · refine allc ⟨rfl, .tup (.cons (szs (by decide) (by decide)) (.cons Sz1 (.cons (szi (by decide +kernel)) (.cons (szi (by decide +kernel)) szn)))) (by decide) (by decide), short_tup (allc (she_s (by decide) (by decide)) (allc Se (allc she_i (allc she_i alln))))⟩ <|
      allc ⟨rfl, .lst (.cons (szs (by decide) (by decide)) (.cons Sz1 szn)) (by decide) (by decide), short_no (fun _ e => by cases e)⟩ <|
      allc ⟨rfl, .tup (.cons (szs (by decide) (by decide)) (.cons Sz1 szn)) (by decide) (by decide), short_tup (allc (she_s (by decide) (by decide)) (allc Se alln))⟩ <|
      allc ⟨rfl, (szs (by decide) (by decide)).le (by decide) (by decide), short_no (fun _ e => by cases e)⟩ <|
      allc ⟨rfl, Sz.non.le (by decide) (by decide), short_no (fun _ e => by cases e)⟩ <|
      allc ⟨ev3f rfl, .tup (.cons (szs (by decide) (by decide)) (.cons Sz1 (.cons (.tup (n := 2000) (j := 1) (.cons (szi (by decide +kernel)) szn) (by decide) (by decide)) szn))) (by decide) (by decide), short_tup (allc (she_s (by decide) (by decide)) (allc Se (allc she_t alln)))⟩ alln
  · refine allc ⟨?_, .tup (.cons (szs (by decide) (by decide)) (.cons (szs (by omega) (low_add lw a8)) szn)) (by decide) (by decide), short_tup (allc (she_s (by decide) (by decide)) (allc (she_s (by omega) (low_add lw a8)) alln))⟩ <|
      allc ⟨by decide +kernel, .tup (.cons (szs (by decide) (by decide)) (.cons (szs (by decide) (by decide)) szn)) (by decide) (by decide), short_tup (allc (she_s (by decide) (by decide)) (allc (she_s (by decide) (by decide)) alln))⟩ <|
      allc ⟨by decide +kernel, .tup (.cons (szs (by decide) (by decide)) (.cons (szs (by decide) (by decide)) szn)) (by decide) (by decide), short_tup (allc (she_s (by decide) (by decide)) (allc (she_s (by decide) (by decide)) alln))⟩ <|
      allc ⟨rfl, .tup (.cons (szs (by decide) (by decide)) (.cons Sz1 szn)) (by decide) (by decide), short_tup (allc (she_s (by decide) (by decide)) (allc Se alln))⟩ <|
      allc ⟨by decide +kernel, .tup (.cons (szs (by decide) (by decide)) (.cons Sz.non szn)) (by decide) (by decide), short_tup (allc (she_s (by decide) (by decide)) (allc she_n alln))⟩ alln
    exact ev2n (nm_long (by omega))
  · exact allc ⟨rfl, .tup (.cons (szs (by decide) (by decide)) (.cons Sz1 szn)) (by decide) (by decide), short_tup (allc (she_s (by decide) (by decide)) (allc Se alln))⟩ <|
      allc ⟨by decide +kernel, .tup (.cons (szs (by decide) (by decide)) szn) (by decide) (by decide), short_tup (allc (she_s (by decide) (by decide)) alln)⟩ alln
  · refine allc ⟨rfl, .tup (.cons (.lst (n := 200) (j := 1) (.cons (szs (by decide) (by decide)) szn) (by decide) (by decide)) (.cons Sz1 szn)) (by decide) (by decide), short_tup (allc she_l (allc Se alln))⟩ <|
      allc ⟨?_, .tup (.cons (szs (by decide) (by decide)) (.cons (.lst (n := 200) (j := 1) (.cons Sz1 szn) (by decide) (by decide)) (.cons (szi (by decide +kernel)) szn))) (by decide) (by decide), short_tup (allc (she_s (by decide) (by decide)) (allc she_l (allc she_i alln)))⟩ <|
      allc ⟨rfl, (szi (by decide +kernel)).le (by decide) (by decide), short_no (fun _ e => by cases e)⟩ <|
      allc ⟨rfl, Sz.dct0.le (by decide) (by decide), short_no (fun _ e => by cases e)⟩ <|
      allc ⟨rfl, .tup (.cons (.tup (n := 200) (j := 1) (.cons (szs (by decide) (by decide)) szn) (by decide) (by decide)) (.cons Sz1 szn)) (by decide) (by decide), short_tup (allc she_t (allc Se alln))⟩ <|
      allc ⟨?_, .tup (.cons (szs (by decide) (by decide)) (.cons (szs (by omega) u2) (.cons (szi (by decide +kernel)) szn))) (by decide) (by decide), short_tup (allc (she_s (by decide) (by decide)) (allc (she_s (by omega) u2) (allc she_i alln)))⟩ alln
    · exact ev3n rfl
    · exact ev3n u3
end Jo

set_option Elab.async false
set_option linter.all false
set_option maxRecDepth 100000
set_option maxHeartbeats 1000000
namespace Jo
open PySem PySem.Spec PyProof.Rows L2
section
variable {p : Addr} {n : Nat} {σ : L2.St} {i : Nat} {z s : Str}
theorem mk_adds (h : σ[i]? = some (some (.str z))) (hl : z.length + s.length ≤ sizeLine) : MkV p (n + 1) (.str (z ++ s)) σ (tOp (fun x y H Q => ∃ i j, x = .str i ∧ y = .str j ∧ i.length + j.length ≤ sizeLine ∧ Q (.str (i ++ j)) H) (tVar i) (tC (.str s))) :=
  fun H Q hp q => ⟨_, h, z, s, rfl, rfl, hl, q _ H hp (.refl _ _) (.str _)⟩
theorem mk_up (h : σ[i]? = some (some (.str z))) (hl : z.length ≤ 5592405) : MkV p (n + 1) (.str (Txt.upper z)) σ (tM0 (fun x xs H Q => ∃ a, x = .str a ∧ xs = [] ∧ a.length ≤ 5592405 ∧ Q (.str (Txt.upper a)) H) (tVar i)) :=
  fun H Q hp q => ⟨_, h, ⟨z, rfl⟩, z, rfl, rfl, hl, q _ H hp (.refl _ _) (.str _)⟩
end
section
variable {P : Program} {w : World} {K : PySem.W.Frag} {mg : Str → Option Value} {base : Heap}
def n_wrong_event : List Str := ["_law_bag_here", "_law_name_here", "_law_menu"]
theorem sc_wrong_event : FnScope n_wrong_event ["_law_bag_here", "_law_name_here"] (defScope s_wrong_event) := ⟨rfl, rfl, rfl, by decide +kernel, rfl, by decide +kernel, by decide +kernel⟩
def spWrongE : Sp := fun vs H Q _ => ∃ p z, vs = [.ref p, .str z] ∧ BagAt H p ∧ nmS z = true ∧ ∀ x d H', BagAt H' p → Kp p H H' → AnyD (Off p H') 4 x d → Wev d → Q x H'
theorem ok_wrong_event (T : Txt K mg) (D : Dfn K mg "_law_wrong_event" s_wrong_event ["_law_bag_here", "_law_name_here"]) (c_pick : CalG P w K mg base 1 "_law_pick" ["_law_bag_here", "_law_many"] spPick) :
    CalG P w K mg base 2 "_law_wrong_event" ["_law_bag_here", "_law_name_here"] spWrongE := by
  refine D.ok sc_wrong_event (fun vs H Q E h => ?_) (fun f cdv A fr s H vs Q E hr hgd h => ?_)
  · obtain ⟨p, z, rfl, _⟩ := h
    rfl
  · obtain ⟨p, z, rfl, hp, hz, q⟩ := h
    refine ⟨_, pss_cons (ps_set (i := 2) sc_wrong_event.nd rfl (.inl rfl) (pe_lst (pa_cons (pe_tup pa_nil) (pa_cons (pe_tup (pa_cons pe_str (pa_cons pe_int pa_nil))) (pa_cons (pe_tup (pa_cons pe_str (pa_cons (pv 1) pa_nil))) (pa_cons (pe_tup (pa_cons pe_str pa_nil)) (pa_cons (pe_tup (pa_cons pe_str (pa_cons (pv 1) (pa_cons pe_str pa_nil)))) (pa_cons (pe_tup (pa_cons pe_str (pa_cons (pv 1) (pa_cons pe_bl pa_nil)))) (pa_cons (pe_tup (pa_cons pe_str (pa_cons (pv 1) (pa_cons pe_non pa_nil)))) pa_nil)))))))))
      (pss_cons (ps_set (i := 2) sc_wrong_event.nd rfl (.inl rfl) (pe_op op_cat (pv 2) (pe_lst (pa_cons (pe_tup (pa_cons pe_str (pa_cons (pv 1) (pa_cons pe_int (pa_cons pe_int pa_nil))))) (pa_cons (pe_lstN (pa_cons pe_str (pa_cons (pv 1) pa_nil))) (pa_cons (pe_tup (pa_cons pe_str (pa_cons (pv 1) pa_nil))) (pa_cons pe_str (pa_cons pe_non (pa_cons (pe_tup (pa_cons pe_str (pa_cons (pv 1) (pa_cons (pe_tup (pa_cons pe_int pa_nil)) pa_nil)))) pa_nil)))))))))
      (pss_cons (ps_set (i := 2) sc_wrong_event.nd rfl (.inl rfl) (pe_op op_cat (pv 2) (pe_lst (pa_cons (pe_tup (pa_cons pe_str (pa_cons (pe_op op_add_str (pv 1) pe_str) pa_nil))) (pa_cons (pe_tup (pa_cons pe_str (pa_cons pe_str pa_nil))) (pa_cons (pe_tup (pa_cons pe_str (pa_cons pe_str pa_nil))) (pa_cons (pe_tup (pa_cons pe_str (pa_cons (pv 1) pa_nil))) (pa_cons (pe_tup (pa_cons pe_str (pa_cons pe_non pa_nil))) pa_nil))))))))
      (pss_cons (ps_set (i := 2) sc_wrong_event.nd rfl (.inl rfl) (pe_op op_cat (pv 2) (pe_lst (pa_cons (pe_tup (pa_cons pe_str (pa_cons (pv 1) pa_nil))) (pa_cons (pe_tup (pa_cons pe_str pa_nil)) pa_nil)))))
      (pss_cons (ps_set (i := 2) sc_wrong_event.nd rfl (.inl rfl) (pe_op op_cat (pv 2) (pe_lst (pa_cons (pe_tup (pa_cons (pe_lstN (pa_cons pe_str pa_nil)) (pa_cons (pv 1) pa_nil))) (pa_cons (pe_tup (pa_cons pe_str (pa_cons (pe_lstN (pa_cons (pv 1) pa_nil)) (pa_cons pe_int pa_nil)))) (pa_cons pe_int (pa_cons pe_dnewK (pa_cons (pe_tup (pa_cons (pe_tup (pa_cons pe_str pa_nil)) (pa_cons (pv 1) pa_nil))) (pa_cons (pe_tup (pa_cons pe_str (pa_cons (pe_upper (pv 1)) (pa_cons pe_int pa_nil)))) pa_nil)))))))))
      (pss_one (ps_ret (pe_ix ix_list (pv 2) (pe_cG c_pick hr (by decide) hgd rfl (pa_cons (pv 0) (pa_cons (pe_callB call_len rfl T.b_len (by decide +kernel) (pa_cons (pv 2) pa_nil)) pa_nil))) (fun _ _ => rfl)))))))), ?_⟩
    obtain ⟨n1, n2, _, _⟩ := nm_parts hz
    have l8 : z.length + ("aaaaaaaa" : Str).length ≤ sizeLine := Nat.le_trans (show _ ≤ 16 by have e : ("aaaaaaaa" : Str).length = 8 := rfl; omega) (by decide)
    have Mv : ∀ {y : Option V} {n : Nat}, MkV p (n + 1) (.str z) [some (.ref p), some (.str z), y] (tVar 1) := fun {y n} => mk_var rfl
    refine seq_of (asg_of ?_)
    refine ls_new (n := 4) (ds := evMenu1 z) (mka_cons (mk_tup mka_nil (Nat.le_of_ble_eq_true rfl)) <| mka_cons (mk_tup (mka_cons mk_str <| mka_cons mk_int mka_nil) (Nat.le_of_ble_eq_true rfl)) <| mka_cons (mk_tup (mka_cons mk_str <| mka_cons Mv mka_nil) (Nat.le_of_ble_eq_true rfl)) <|
      mka_cons (mk_tup (mka_cons mk_str mka_nil) (Nat.le_of_ble_eq_true rfl)) <| mka_cons (mk_tup (mka_cons mk_str <| mka_cons Mv <| mka_cons mk_str mka_nil) (Nat.le_of_ble_eq_true rfl)) <| mka_cons (mk_tup (mka_cons mk_str <| mka_cons Mv <| mka_cons mk_bl mka_nil) (Nat.le_of_ble_eq_true rfl)) <|
      mka_cons (mk_tup (mka_cons mk_str <| mka_cons Mv <| mka_cons mk_non mka_nil) (Nat.le_of_ble_eq_true rfl)) mka_nil) (Nat.le_of_ble_eq_true rfl) hp fun l1 H1 b1 k1 h1 => ?_
    refine seq_of (asg_of ?_)
    refine ls_cat (ds := evMenu2 z) rfl h1 (mka_cons (mk_tup (mka_cons mk_str <| mka_cons Mv <| mka_cons mk_int <| mka_cons mk_int mka_nil) (Nat.le_of_ble_eq_true rfl)) <| mka_cons (mk_lst (mka_cons mk_str <| mka_cons Mv mka_nil) (Nat.le_of_ble_eq_true rfl)) <|
      mka_cons (mk_tup (mka_cons mk_str <| mka_cons Mv mka_nil) (Nat.le_of_ble_eq_true rfl)) <| mka_cons mk_str <| mka_cons mk_non <| mka_cons (mk_tup (mka_cons mk_str <| mka_cons Mv <| mka_cons (mk_tup (mka_cons mk_int mka_nil) (Nat.le_of_ble_eq_true rfl)) mka_nil) (Nat.le_of_ble_eq_true rfl)) mka_nil) (Nat.le_of_ble_eq_true rfl) (Nat.le_of_ble_eq_true rfl) b1 fun l2 H2 b2 k2 h2 => ?_
    refine seq_of (asg_of ?_)
    refine ls_cat (ds := evMenu3 z) rfl h2 (mka_cons (mk_tup (mka_cons mk_str <| mka_cons (mk_adds rfl l8) mka_nil) (Nat.le_of_ble_eq_true rfl)) <| mka_cons (mk_tup (mka_cons mk_str <| mka_cons mk_str mka_nil) (Nat.le_of_ble_eq_true rfl)) <|
      mka_cons (mk_tup (mka_cons mk_str <| mka_cons mk_str mka_nil) (Nat.le_of_ble_eq_true rfl)) <| mka_cons (mk_tup (mka_cons mk_str <| mka_cons Mv mka_nil) (Nat.le_of_ble_eq_true rfl)) <| mka_cons (mk_tup (mka_cons mk_str <| mka_cons mk_non mka_nil) (Nat.le_of_ble_eq_true rfl)) mka_nil) (Nat.le_of_ble_eq_true rfl) (Nat.le_of_ble_eq_true rfl) b2 fun l3 H3 b3 k3 h3 => ?_
    refine seq_of (asg_of ?_)
    refine ls_cat (ds := evMenu4 z) rfl h3 (mka_cons (mk_tup (mka_cons mk_str <| mka_cons Mv mka_nil) (Nat.le_of_ble_eq_true rfl)) <| mka_cons (mk_tup (mka_cons mk_str mka_nil) (Nat.le_of_ble_eq_true rfl)) mka_nil) (Nat.le_of_ble_eq_true rfl) (Nat.le_of_ble_eq_true rfl) b3 fun l4 H4 b4 k4 h4 => ?_
    refine seq_of (asg_of ?_)
    refine ls_cat (ds := evMenu5 z) rfl h4 (mka_cons (mk_tup (mka_cons (mk_lst (mka_cons mk_str mka_nil) (Nat.le_of_ble_eq_true rfl)) <| mka_cons Mv mka_nil) (Nat.le_of_ble_eq_true rfl)) <| mka_cons (mk_tup (mka_cons mk_str <| mka_cons (mk_lst (mka_cons Mv mka_nil) (Nat.le_of_ble_eq_true rfl)) <| mka_cons mk_int mka_nil) (Nat.le_of_ble_eq_true rfl)) <|
      mka_cons mk_int <| mka_cons mk_dct <| mka_cons (mk_tup (mka_cons (mk_tup (mka_cons mk_str mka_nil) (Nat.le_of_ble_eq_true rfl)) <| mka_cons Mv mka_nil) (Nat.le_of_ble_eq_true rfl)) <|
      mka_cons (mk_tup (mka_cons mk_str <| mka_cons (mk_up rfl (by omega)) <| mka_cons mk_int mka_nil) (Nat.le_of_ble_eq_true rfl)) mka_nil) (Nat.le_of_ble_eq_true rfl) (Nat.le_of_ble_eq_true rfl) b4 fun l5 H5 b5 k5 h5 => ret_of ?_
    exact ls_pick rfl rfl b5 h5 (Nat.le_of_ble_eq_true rfl) (Nat.le_of_ble_eq_true rfl) fun x d H6 hd b6 k6 a6 => q x d H6 b6 (((((k1.trans k2).trans k3).trans k4).trans k5).trans k6) a6 (evMenu_ok hz d hd)
end
end Jo

set_option Elab.async false
set_option linter.all false
set_option maxRecDepth 100000
set_option maxHeartbeats 1000000
namespace Jo
open PySem PySem.Spec PyProof.Rows L2
/-- te makes a value whose data are of this kind, beside the bag -/
def MkP (p : Addr) (n : Nat) (F : PyData → Prop) (σ : L2.St) (te : TE) : Prop := ∀ (H : Hp) (Q : VK), BagAt H p → (∀ x d H', BagAt H' p → Kp p H H' → AnyD (Off p H') n x d → F d → Q x H') → te σ H Q
section
variable {p : Addr} {n : Nat} {σ : L2.St} {F F1 F2 F3 : PyData → Prop} {te t1 t2 t3 : TE} {d : PyData}
theorem mkp_of (h : MkV p n d σ te) (f : F d) : MkP p n F σ te := fun H Q hp q => h H Q hp fun x H1 b1 k1 a1 => q x d H1 b1 k1 a1 f
theorem mkp3 (h1 : MkP p n F1 σ t1) (h2 : MkP p n F2 σ t2) (h3 : MkP p n F3 σ t3) (f : ∀ a b c, F1 a → F2 b → F3 c → F (.tuple [a, b, c])) : MkP p (n + 1) F σ (tTup (tCons t1 (tCons t2 (tCons t3 tNil)))) := fun H Q hp q =>
  h1 H _ hp fun x a H1 b1 k1 a1 f1 => h2 H1 _ b1 fun y b H2 b2 k2 a2 f2 => h3 H2 _ b2 fun z c H3 b3 k3 a3 f3 => ⟨show 3 ≤ sizeLine by decide, fun t nt =>
    q (.ref t) (.tuple [a, b, c]) _ (bag_new b3 nt) (((k1.trans k2).trans k3).trans (kp_new nt))
      (.tup (off_new b3 nt) (.cons (a1.same (off_kp ((k2.trans k3).trans (kp_new nt)))) (.cons (a2.same (off_kp (k3.trans (kp_new nt)))) (.cons (a3.same (off_kp (kp_new nt))) .nil)))) (f a b c f1 f2 f3)⟩
theorem mkp_st {i : Nat} (h : σ[i]? = some (some (.ref p))) : MkP p 4 Wst σ (tCall spWrongS [] E0 (tCons (tVar i) tNil)) := fun H Q hp q => ⟨_, h, p, rfl, hp, q⟩
theorem mkp_ev {i j : Nat} {z : Str} (h : σ[i]? = some (some (.ref p))) (hj : σ[j]? = some (some (.str z))) (hz : nmS z = true) : MkP p 4 Wev σ (tCall spWrongE [] E0 (tCons (tVar i) (tCons (tVar j) tNil))) :=
  fun H Q hp q => ⟨_, h, _, hj, p, z, rfl, hp, hz, q⟩
end
/-- no step; short -/
structure Wsp (d : PyData) : Prop where
  no : spD d = false
  sz : Sz d 20000 6
  sh : Short2 d
theorem short2_tup {ds : List PyData} (h : ∀ y ∈ ds, Short y) : Short2 (.tuple ds) := fun ds2 z e m => by
  cases e
  exact h _ m
theorem short2_no {d : PyData} (h : ∀ ds, d ≠ .tuple ds) : Short2 d := fun ds _ e => absurd e (h ds)
def hangD : PyData := .tuple [.str "hang"]
theorem hang_sz : Sz hangD 200 1 := .tup (.cons (szs (by decide) (by decide)) szn) (by decide) (by decide)
theorem hang_sh : Short hangD := short_tup (allc (she_s (by decide) (by decide)) alln)
theorem sz0 : Sz (.int 0) 1921 0 := szi (by decide +kernel)
theorem sz1 : Sz (.int 1) 1921 0 := szi (by decide +kernel)
theorem step_a {a : PyData} (h : Wst a) : Wsp (.tuple [a, hangD, .int 0]) := ⟨by
    have e : spD (.tuple [a, hangD, .int 0]) = (stD a && (evD hangD && stD (.int 0))) := rfl
    rw [e, h.no, Bool.false_and], .tup (.cons h.sz (.cons hang_sz (.cons sz0 szn))) (by decide) (by decide), short2_tup (allc h.sh (allc hang_sh (allc (short_int _) alln)))⟩
theorem step_b {a : PyData} (h : Wst a) : Wsp (.tuple [.int 0, hangD, a]) := ⟨by
    have e : spD (.tuple [.int 0, hangD, a]) = (stD (.int 0) && (evD hangD && stD a)) := rfl
    rw [e, h.no, Bool.and_false, Bool.and_false], .tup (.cons sz0 (.cons hang_sz (.cons h.sz szn))) (by decide) (by decide), short2_tup (allc (short_int _) (allc hang_sh (allc h.sh alln)))⟩
theorem step_c {a : PyData} (h : Wev a) : Wsp (.tuple [.int 0, a, .int 1]) := ⟨by
    have e : spD (.tuple [.int 0, a, .int 1]) = (stD (.int 0) && (evD a && stD (.int 1))) := rfl
    rw [e, h.no, Bool.false_and, Bool.and_false], .tup (.cons sz0 (.cons h.sz (.cons sz1 szn))) (by decide) (by decide), short2_tup (allc (short_int _) (allc h.sh (allc (short_int _) alln)))⟩
def spMenu : List PyData := [.none, .tuple [.int 0, hangD], .tuple [.int 0, hangD, .int 0, .int 0], .list [.int 0, hangD, .int 0], .tuple [], .str "step", .int 0, .tuple [hangD, .int 0, .int 0], .dict [], .bool true]
theorem spMenu_ok : ∀ d ∈ spMenu, Wsp d :=
  allc ⟨rfl, Sz.non.le (by decide) (by decide), short2_no (fun _ e => by cases e)⟩ <|
  allc ⟨rfl, .tup (.cons sz0 (.cons hang_sz szn)) (by decide) (by decide), short2_tup (allc (short_int _) (allc hang_sh alln))⟩ <|
  allc ⟨rfl, .tup (.cons sz0 (.cons hang_sz (.cons sz0 (.cons sz0 szn)))) (by decide) (by decide), short2_tup (allc (short_int _) (allc hang_sh (allc (short_int _) (allc (short_int _) alln))))⟩ <|
  allc ⟨rfl, .lst (.cons sz0 (.cons hang_sz (.cons sz0 szn))) (by decide) (by decide), short2_no (fun _ e => by cases e)⟩ <|
  allc ⟨rfl, .tup szn (by decide) (by decide), short2_tup alln⟩ <|
  allc ⟨rfl, (szs (by decide) (by decide)).le (by decide) (by decide), short2_no (fun _ e => by cases e)⟩ <|
  allc ⟨rfl, sz0.le (by decide) (by decide), short2_no (fun _ e => by cases e)⟩ <|
  allc ⟨rfl, .tup (.cons hang_sz (.cons sz0 (.cons sz0 szn))) (by decide) (by decide), short2_tup (allc hang_sh (allc (short_int _) (allc (short_int _) alln)))⟩ <|
  allc ⟨rfl, Sz.dct0.le (by decide) (by decide), short2_no (fun _ e => by cases e)⟩ <|
  allc ⟨rfl, (Sz.bl _).le (by decide) (by decide), short2_no (fun _ e => by cases e)⟩ alln
section
variable {P : Program} {w : World} {K : PySem.W.Frag} {mg : Str → Option Value} {base : Heap}
def n_wrong_step : List Str := ["_law_bag_here", "_law_name_here", "_law_way", "_law_menu"]
theorem sc_wrong_step : FnScope n_wrong_step ["_law_bag_here", "_law_name_here"] (defScope s_wrong_step) := ⟨rfl, rfl, rfl, by decide +kernel, rfl, by decide +kernel, by decide +kernel⟩
def spWrongP : Sp := fun vs H Q _ => ∃ p z, vs = [.ref p, .str z] ∧ BagAt H p ∧ nmS z = true ∧ ∀ x d H', BagAt H' p → Kp p H H' → AnyD (Off p H') 5 x d → Wsp d → Q x H'
theorem ok_wrong_step (T : Txt K mg) (D : Dfn K mg "_law_wrong_step" s_wrong_step ["_law_bag_here", "_law_name_here"]) (c_pick : CalG P w K mg base 1 "_law_pick" ["_law_bag_here", "_law_many"] spPick)
    (c_wrong_state : CalG P w K mg base 2 "_law_wrong_state" ["_law_bag_here"] spWrongS) (c_wrong_event : CalG P w K mg base 2 "_law_wrong_event" ["_law_bag_here", "_law_name_here"] spWrongE) :
    CalG P w K mg base 3 "_law_wrong_step" ["_law_bag_here", "_law_name_here"] spWrongP := by
  refine D.ok sc_wrong_step (fun vs H Q E h => ?_) (fun f cdv A fr s H vs Q E hr hgd h => ?_)
  · obtain ⟨p, z, rfl, _⟩ := h
    rfl
  · obtain ⟨p, z, rfl, hp, hz, q⟩ := h
    refine ⟨_, pss_cons (ps_set (i := 2) sc_wrong_step.nd rfl (.inl rfl) (pe_cG c_pick hr (by decide) hgd rfl (pa_cons (pv 0) (pa_cons pe_int pa_nil))))
      (pss_cons (ps_if (pt_cmpR op_eq (pv 2) pe_int (nomark _))
        (pss_one (ps_ret (pe_tup (pa_cons (pe_cG c_wrong_state hr (by decide) hgd rfl (pa_cons (pv 0) pa_nil)) (pa_cons (pe_tup (pa_cons pe_str pa_nil)) (pa_cons pe_int pa_nil))))))
        (pss_nil))
      (pss_cons (ps_if (pt_cmpR op_eq (pv 2) pe_int (nomark _))
        (pss_one (ps_ret (pe_tup (pa_cons pe_int (pa_cons (pe_tup (pa_cons pe_str pa_nil)) (pa_cons (pe_cG c_wrong_state hr (by decide) hgd rfl (pa_cons (pv 0) pa_nil)) pa_nil))))))
        (pss_nil))
      (pss_cons (ps_if (pt_cmpR op_eq (pv 2) pe_int (nomark _))
        (pss_one (ps_ret (pe_tup (pa_cons pe_int (pa_cons (pe_cG c_wrong_event hr (by decide) hgd rfl (pa_cons (pv 0) (pa_cons (pv 1) pa_nil))) (pa_cons pe_int pa_nil))))))
        (pss_nil))
      (pss_cons (ps_set (i := 3) sc_wrong_step.nd rfl (.inl rfl) (pe_lst (pa_cons pe_non (pa_cons (pe_tup (pa_cons pe_int (pa_cons (pe_tup (pa_cons pe_str pa_nil)) pa_nil))) (pa_cons (pe_tup (pa_cons pe_int (pa_cons (pe_tup (pa_cons pe_str pa_nil)) (pa_cons pe_int (pa_cons pe_int pa_nil))))) (pa_cons (pe_lstN (pa_cons pe_int (pa_cons (pe_tup (pa_cons pe_str pa_nil)) (pa_cons pe_int pa_nil)))) (pa_cons (pe_tup pa_nil) (pa_cons pe_str (pa_cons pe_int (pa_cons (pe_tup (pa_cons (pe_tup (pa_cons pe_str pa_nil)) (pa_cons pe_int (pa_cons pe_int pa_nil)))) (pa_cons pe_dnewK (pa_cons pe_bl pa_nil))))))))))))
      (pss_one (ps_ret (pe_ix ix_list (pv 3) (pe_cG c_pick hr (by decide) hgd rfl (pa_cons (pv 0) (pa_cons (pe_callB call_len rfl T.b_len (by decide +kernel) (pa_cons (pv 3) pa_nil)) pa_nil))) (fun _ _ => rfl)))))))), ?_⟩
    have mkh : ∀ {σ : L2.St}, MkV p 4 hangD σ (tTup (tCons (tC (.str "hang")) tNil)) := fun {σ} => mk_tup (mka_cons mk_str mka_nil) (Nat.le_of_ble_eq_true rfl)
    refine seq_of (asg_of ?_)
    refine ⟨_, rfl, p, 4, rfl, hp, by decide, by decide, fun k H1 k0 k4 b1 c1 => ?_⟩
    refine seq_of ⟨_, rfl, rfl, _, rfl, ite2 (fun _ => ret_of ?_) (fun _ => next_of ?_)⟩
    · exact mkp3 (F := Wsp) (mkp_st rfl) (mkp_of (F := fun d => d = hangD) mkh rfl) (mkp_of (F := fun d => d = .int 0) mk_int rfl) (fun a b c h1 h2 h3 => by subst h2; subst h3; exact step_a h1) H1 Q b1 fun x d H2 b2 c2 a2 f2 => q x d H2 b2 (c1.trans c2) a2 f2
    refine seq_of ⟨_, rfl, rfl, _, rfl, ite2 (fun _ => ret_of ?_) (fun _ => next_of ?_)⟩
    · exact mkp3 (F := Wsp) (mkp_of (F := fun d => d = .int 0) mk_int rfl) (mkp_of (F := fun d => d = hangD) mkh rfl) (mkp_st rfl) (fun a b c h1 h2 h3 => by subst h1; subst h2; exact step_b h3) H1 Q b1 fun x d H2 b2 c2 a2 f2 => q x d H2 b2 (c1.trans c2) a2 f2
    refine seq_of ⟨_, rfl, rfl, _, rfl, ite2 (fun _ => ret_of ?_) (fun _ => next_of ?_)⟩
    · exact mkp3 (F := Wsp) (mkp_of (F := fun d => d = .int 0) mk_int rfl) (mkp_ev rfl rfl hz) (mkp_of (F := fun d => d = .int 1) mk_int rfl) (fun a b c h1 h2 h3 => by subst h1; subst h3; exact step_c h2) H1 Q b1 fun x d H2 b2 c2 a2 f2 => q x d H2 b2 (c1.trans c2) a2 f2
    refine seq_of (asg_of ?_)
    refine ls_new (n := 5) (ds := spMenu) (mka_cons mk_non <| mka_cons (mk_tup (mka_cons mk_int <| mka_cons mkh mka_nil) (Nat.le_of_ble_eq_true rfl)) <| mka_cons (mk_tup (mka_cons mk_int <| mka_cons mkh <| mka_cons mk_int <| mka_cons mk_int mka_nil) (Nat.le_of_ble_eq_true rfl)) <|
      mka_cons (mk_lst (mka_cons mk_int <| mka_cons mkh <| mka_cons mk_int mka_nil) (Nat.le_of_ble_eq_true rfl)) <| mka_cons (mk_tup mka_nil (Nat.le_of_ble_eq_true rfl)) <| mka_cons mk_str <| mka_cons mk_int <|
      mka_cons (mk_tup (mka_cons mkh <| mka_cons mk_int <| mka_cons mk_int mka_nil) (Nat.le_of_ble_eq_true rfl)) <| mka_cons mk_dct <| mka_cons mk_bl mka_nil) (Nat.le_of_ble_eq_true rfl) b1 fun l H2 b2 c2 h2 => ret_of ?_
    exact ls_pick rfl rfl b2 h2 (by decide) (by decide) fun x d H3 hd b3 c3 a3 => q x d H3 b3 ((c1.trans c2).trans c3) a3 (spMenu_ok d hd)
end
end Jo

set_option Elab.async false
set_option linter.all false
set_option maxRecDepth 100000
set_option maxHeartbeats 1000000
namespace Jo
open PySem PySem.Spec PyProof.Rows L2
/-! ### what is due: lists of things with a property -/
/-- F goes on where the bag alone may change -/
def Stay (p : Addr) (F : V → Hp → Prop) : Prop := ∀ x H H', Kp p H H' → F x H → F x H'
/-- te, run at H or later, makes a value with F -/
def MG (p : Addr) (H : Hp) (F : V → Hp → Prop) (σ : L2.St) (te : TE) : Prop := ∀ (H1 : Hp) (Q : VK), BagAt H1 p → Kp p H H1 → (∀ x H', BagAt H' p → Kp p H1 H' → F x H' → Q x H') → te σ H1 Q
def MGA (p : Addr) (H : Hp) (F : V → Hp → Prop) (n : Nat) (σ : L2.St) (ta : TA) : Prop := ∀ (H1 : Hp) (Q : List V → Hp → Prop), BagAt H1 p → Kp p H H1 → (∀ xs H', BagAt H' p → Kp p H1 H' → (∀ x ∈ xs, F x H') → xs.length = n → Q xs H') → ta σ H1 Q
/-- a tuple of these values stands at x -/
def TupV (p : Addr) (es : List V) : V → Hp → Prop := fun x H => ∃ a, x = .ref a ∧ Off p H a = some (.tup es)
theorem TupV.stay {p : Addr} {es : List V} : Stay p (TupV p es) := fun x H H' k ⟨a, e, h⟩ => ⟨a, e, off_kp k _ _ h⟩
section
variable {p : Addr} {H : Hp} {F F1 F2 F3 : V → Hp → Prop} {σ : L2.St} {te t1 t2 t3 : TE} {ta : TA} {n : Nat}
theorem mg_var {i : Nat} {x : V} (h : σ[i]? = some (some x)) (s : Stay p F) (f : F x H) : MG p H F σ (tVar i) := fun H1 Q b k q => ⟨x, h, q x H1 b (.refl _ _) (s _ _ _ k f)⟩
theorem mg_c {v : V} (f : ∀ H, F v H) : MG p H F σ (tC v) := fun H1 Q b k q => q v H1 b (.refl _ _) (f _)
theorem mga_nil : MGA p H F 0 σ tNil := fun H1 Q b k q => q [] H1 b (.refl _ _) (fun x hx => by cases hx) rfl
theorem mga_cons (s : Stay p F) (h : MG p H F σ te) (r : MGA p H F n σ ta) : MGA p H F (n + 1) σ (tCons te ta) := fun H1 Q b k q =>
  h H1 _ b k fun x H2 b2 k2 f2 => r H2 _ b2 (k.trans k2) fun xs H3 b3 k3 f3 l3 => q (x :: xs) H3 b3 (k2.trans k3) (fun y hy => by
    rcases List.mem_cons.mp hy with rfl | hy
    · exact s _ _ _ k3 f2
    · exact f3 y hy) (by rw [List.length_cons, l3])
/-- (a, b, c) -/
theorem mg_tup3 (h1 : MG p H F1 σ t1) (s1 : Stay p F1) (h2 : MG p H F2 σ t2) (s2 : Stay p F2) (h3 : MG p H F3 σ t3) (s3 : Stay p F3)
    (f : ∀ x y z t H', F1 x H' → F2 y H' → F3 z H' → Off p H' t = some (.tup [x, y, z]) → F (.ref t) H') : MG p H F σ (tTup (tCons t1 (tCons t2 (tCons t3 tNil)))) := fun H1 Q b k q =>
  h1 H1 _ b k fun x H2 b2 k2 f2 => h2 H2 _ b2 (k.trans k2) fun y H3 b3 k3 f3 => h3 H3 _ b3 ((k.trans k2).trans k3) fun z H4 b4 k4 f4 => ⟨show 3 ≤ sizeLine by decide, fun t nt =>
    q (.ref t) _ (bag_new b4 nt) (((k2.trans k3).trans k4).trans (kp_new nt))
      (f x y z t _ (s1 _ _ _ ((k3.trans k4).trans (kp_new nt)) f2) (s2 _ _ _ (k4.trans (kp_new nt)) f3) (s3 _ _ _ (kp_new nt) f4) (off_new b4 nt))⟩
/-- tuple(name) of a list -/
theorem mg_tuple {K : PySem.W.Frag} {i : Nat} {l : Addr} {xs : List V} (h : σ[i]? = some (some (.ref l))) (hl : Off p H l = some (.lst xs)) :
    MG p H (TupV p xs) σ (tCB (fun xs H Q => ∃ p ys, xs = [.ref p] ∧ ((SqL K H p ys ∧ ∀ l, H l = none → Q (.ref l) (upd H l (.tup ys))) ∨ (SqT K H p ys ∧ Q (.ref p) H))) (tCons (tVar i) tNil)) := fun H1 Q b k q =>
  ⟨_, h, l, xs, rfl, .inl ⟨SqL.of (off_get (off_kp k _ _ hl)).2, fun t nt => q _ _ (bag_new b nt) (kp_new nt) ⟨t, rfl, off_new b nt⟩⟩⟩
/-- a list of n things with F, beside the bag -/
def LsG (p : Addr) (H : Hp) (l : Addr) (F : V → Hp → Prop) (n : Nat) : Prop := ∃ xs, Off p H l = some (.lst xs) ∧ (∀ x ∈ xs, F x H) ∧ xs.length = n
theorem LsG.kp {H' : Hp} {l : Addr} (h : LsG p H l F n) (s : Stay p F) (k : Kp p H H') : LsG p H' l F n :=
  let ⟨xs, e, a, z⟩ := h
  ⟨xs, off_kp k _ _ e, fun x hx => s _ _ _ k (a x hx), z⟩
theorem lg_new {Q : VK} (s : Stay p F) (h : MGA p H F n σ ta) (hn : n ≤ 100) (hp : BagAt H p) (q : ∀ l H', BagAt H' p → Kp p H H' → LsG p H' l F n → Q (.ref l) H') : tLst ta σ H Q :=
  h H _ hp (.refl _ _) fun xs H1 b1 k1 f1 l1 => ⟨by rw [l1]; exact Nat.le_trans hn (by decide), fun a na => q a _ (bag_new b1 na) (k1.trans (kp_new na)) ⟨xs, off_new b1 na, fun x hx => s _ _ _ (kp_new na) (f1 x hx), l1⟩⟩
theorem lg_cat {Q : VK} {i m : Nat} {l : Addr} (s : Stay p F) (hi : σ[i]? = some (some (.ref l))) (hc : LsG p H l F m) (h : MGA p H F n σ ta) (hn : n ≤ 100) (hm : m ≤ 100) (hp : BagAt H p)
    (q : ∀ l H', BagAt H' p → Kp p H H' → LsG p H' l F (m + n) → Q (.ref l) H') : tOp rCat (tVar i) (tLst ta) σ H Q := by
  refine ⟨_, hi, lg_new s h hn hp fun l2 H1 b1 k1 h1 => ?_⟩
  obtain ⟨xs, ex, ax, lx⟩ := hc.kp s k1
  obtain ⟨ys, ey, ay, ly⟩ := h1
  refine ⟨l, l2, xs, ys, rfl, rfl, (off_get ex).2, (off_get ey).2, ?_, fun a na => ?_⟩
  · rw [lx, ly]
    exact Nat.le_trans (Nat.add_le_add hm hn) (by decide)
  · refine q a _ (bag_new b1 na) (k1.trans (kp_new na)) ⟨xs ++ ys, off_new b1 na, fun x hx => s _ _ _ (kp_new na) ((List.mem_append.mp hx).elim (ax x) (ay x)), by rw [List.length_append, lx, ly]⟩
end
/-- a comprehension whose condition is never true, what stood being kept -/
theorem lc_none {J : It} {n : Nat} {G : Hp → Prop} {Y : Nat → Hp → V → Hp → Prop} (w : Walk J n G Y) {g : TG} {tt : TT} {te : TE} {vs : List Nat} {σ : L2.St}
    {H0 : Hp} {D : Addr} {Qd : Hp → Prop} (hD : H0 D = none) (hG : ∀ H, Same H0 H → G H)
    (hs : ∀ (i : Nat) (x : V) (H H' : Hp) (Q : L2.St → Bool → Hp → Prop), i < n → Same H0 H → Y i H x H' → (∀ σ2 H2, Same H H2 → Q σ2 false H2) → g x (wipe σ vs) H' fun σ2 H2 => wipe σ2 vs = wipe σ vs ∧ tt σ2 H2 (Q σ2))
    (hd : ∀ H, Same H0 H → H D = some (.lst []) → Qd H) :
    ∃ W : Nat → Nat → Hp → Prop, (∃ m, W 0 m (upd H0 D (.lst []))) ∧ ∀ i m H, W i m H →
      (J.stop i H ∧ Qd H) ∨ (J.go i H ∧ ∃ Nx : Hp → Prop, (∀ H', Nx H' → ∃ m', m' < m ∧ W (i + 1) m' H') ∧
        ∀ x H', J.yld i H x H' → g x (wipe σ vs) H' fun σ2 H2 => wipe σ2 vs = wipe σ vs ∧ tt σ2 H2 fun b H3 =>
          if b = true then te σ2 H3 fun y H4 => ∃ acc, H4 D = some (.lst acc) ∧ acc.length < sizeLine ∧ Nx (upd H4 D (.lst (acc ++ [y]))) else Nx H3) := by
  refine lc_it w (fun i H => Same H0 H ∧ H D = some (.lst [])) ⟨same_new hD, upd_same⟩ (fun i H _ hp => hG H hp.1) (fun i x H H' hi hp hy => ?_) (fun H hp => hd H hp.1 hp.2)
  refine hs i x H H' (fun σ2 b H3 => if b = true then te σ2 H3 fun y H4 => ∃ acc, H4 D = some (.lst acc) ∧ acc.length < sizeLine ∧ (Same H0 (upd H4 D (.lst (acc ++ [y]))) ∧ upd H4 D (.lst (acc ++ [y])) D = some (.lst [])) else Same H0 H3 ∧ H3 D = some (.lst [])) hi hp.1 hy fun σ2 H2 s2 => ?_
  refine iteF ?_
  exact ⟨hp.1.trans s2, s2 _ _ hp.2⟩
/-! ### slices -/
theorem cutTk {xs : List V} {d : Nat} (h : d ≤ xs.length) : cutV xs none (some (d : Int)) = xs.take d := by
  unfold cutV
  rw [HT.sIx_nat, HT.sIx_none, Nat.sub_zero, List.drop_zero, Nat.min_eq_left h]
theorem cutDr {xs : List V} {d : Nat} (h : d ≤ xs.length) : cutV xs (some (d : Int)) none = xs.drop d := by
  unfold cutV
  rw [HT.sIx_nat, HT.sIx_none, Nat.min_eq_left h]
  exact List.take_of_length_le (by rw [List.length_drop]; exact Nat.le_refl _)
end Jo

set_option Elab.async false
set_option linter.all false
set_option maxRecDepth 100000
set_option maxHeartbeats 1000000
namespace Jo
open PySem PySem.Spec PyProof.Rows L2
abbrev rLn (K : PySem.W.Frag) : List V → Hp → VK → Prop := fun xs H Q => ∃ x n, xs = [x] ∧ LenV K x H n ∧ Q (.int n) H
abbrev rTp (K : PySem.W.Frag) : List V → Hp → VK → Prop := fun xs H Q => ∃ p ys, xs = [.ref p] ∧ ((SqL K H p ys ∧ ∀ l, H l = none → Q (.ref l) (upd H l (.tup ys))) ∨ (SqT K H p ys ∧ Q (.ref p) H))
abbrev rLs (K : PySem.W.Frag) : List V → Hp → VK → Prop := fun xs H Q => ∃ p ys, xs = [.ref p] ∧ (SqL K H p ys ∨ SqT K H p ys) ∧ ∀ l, H l = none → Q (.ref l) (upd H l (.lst ys))
section
variable {K : PySem.W.Frag} {p l : Addr} {H : Hp} {Q : VK} {σ : L2.St} {i j d n : Nat} {xs : List V} {te : TE} {ta : TA} {F : PyData → Prop}
theorem sq_off (h : Off p H l = some (.lst xs)) : SqL K H l xs := SqL.of (off_get h).2
/-- pick(bag, len(name) + 1) -/
theorem pk_len1 (hj : σ[j]? = some (some (.ref p))) (hi : σ[i]? = some (some (.ref l))) (hp : BagAt H p) (hl : Off p H l = some (.lst xs)) (hx : xs.length ≤ 1000)
    (q : ∀ (d : Nat) H', d ≤ xs.length → BagAt H' p → Kp p H H' → Q (.int (d : Int)) H') :
    tCall spPick [] E0 (tCons (tVar j) (tCons (tOp (rI0 fun i j => .int (i + j)) (tCB (rLn K) (tCons (tVar i) tNil)) (tC (.int 1))) tNil)) σ H Q := by
  refine ⟨_, hj, _, hi, _, xs.length, rfl, .inl ⟨xs, sq_off hl, rfl⟩, _, _, rfl, rfl, p, _, rfl, hp, by omega, by omega, fun d H1 d0 d1 b1 k1 => ?_⟩
  obtain ⟨m, rfl⟩ := Int.eq_ofNat_of_zero_le d0
  exact q m H1 (by omega) b1 k1
/-- pick(bag, n) -/
theorem pk_n {m : Int} (hj : σ[j]? = some (some (.ref p))) (hp : BagAt H p) (h0 : 0 < m) (h1 : m < 1073741824) (q : ∀ (d : Nat) H', (d : Int) < m → BagAt H' p → Kp p H H' → Q (.int (d : Int)) H') :
    tCall spPick [] E0 (tCons (tVar j) (tCons (tC (.int m)) tNil)) σ H Q := by
  refine ⟨_, hj, p, m, rfl, hp, h0, h1, fun d H1 d0 d1 b1 k1 => ?_⟩
  obtain ⟨c, rfl⟩ := Int.eq_ofNat_of_zero_le d0
  exact q c H1 d1 b1 k1
/-- tuple(name[:d] + [x] + name[d:]) -/
theorem splice (hi : σ[i]? = some (some (.ref l))) (hj : σ[j]? = some (some (.int (d : Int)))) (hd : d ≤ xs.length) (hx : xs.length ≤ 100) (hp : BagAt H p) (hl : Off p H l = some (.lst xs)) (m : MkP p n F σ te)
    (q : ∀ S x e H', BagAt H' p → Kp p H H' → AnyD (Off p H') n x e → F e → Off p H' S = some (.tup (xs.take d ++ x :: xs.drop d)) → Q (.ref S) H') :
    tCB (rTp K) (tCons (tOp rCat (tOp rCat (tSl (rSlL K) (tVar i) tNoPart (tPart (tVar j))) (tLst (tCons te tNil))) (tSl (rSlL K) (tVar i) (tPart (tVar j)) tNoPart)) tNil) σ H Q := by
  have lt : (xs.take d).length ≤ 100 := by rw [List.length_take]; omega
  have ld : (xs.drop d).length ≤ 100 := by rw [List.length_drop]; omega
  refine ⟨_, hi, _, hj, _, rfl, l, xs, rfl, sq_off hl, fun a na => ?_⟩
  rw [cutTk hd]
  have ba := bag_new (o := .lst (xs.take d)) hp na
  have ka : Kp p H (upd H a (.lst (xs.take d))) := kp_new na
  have ea := off_new (o := .lst (xs.take d)) hp na
  refine m _ _ ba fun x e H1 b1 k1 a1 f1 => ⟨show 1 ≤ sizeLine by decide, fun b nb => ?_⟩
  have bb := bag_new (o := .lst [x]) b1 nb
  have kb : Kp p H1 (upd H1 b (.lst [x])) := kp_new nb
  have eb := off_new (o := .lst [x]) b1 nb
  have ea2 := off_kp kb _ _ (off_kp k1 _ _ ea)
  refine ⟨a, b, _, _, rfl, rfl, (off_get ea2).2, (off_get eb).2, Nat.le_trans (Nat.add_le_add lt (Nat.le_refl 1)) (by decide), fun c nc => ?_⟩
  have bc := bag_new (o := .lst (xs.take d ++ [x])) bb nc
  have kc : Kp p (upd H1 b (.lst [x])) (upd (upd H1 b (.lst [x])) c (.lst (xs.take d ++ [x]))) := kp_new nc
  have ec := off_new (o := .lst (xs.take d ++ [x])) bb nc
  have kac := ((ka.trans k1).trans kb).trans kc
  have hl2 := off_kp kac _ _ hl
  refine ⟨_, hi, _, hj, _, rfl, l, xs, rfl, sq_off hl2, fun g ng => ?_⟩
  rw [cutDr hd]
  have bg := bag_new (o := .lst (xs.drop d)) bc ng
  have kg : Kp p (upd (upd H1 b (.lst [x])) c (.lst (xs.take d ++ [x]))) (upd (upd (upd H1 b (.lst [x])) c (.lst (xs.take d ++ [x]))) g (.lst (xs.drop d))) := kp_new ng
  have eg := off_new (o := .lst (xs.drop d)) bc ng
  have ec2 := off_kp kg _ _ ec
  have l2 : (xs.take d ++ [x]).length ≤ 101 := by rw [List.length_append]; exact Nat.add_le_add lt (Nat.le_refl 1)
  refine ⟨c, g, _, _, rfl, rfl, (off_get ec2).2, (off_get eg).2, Nat.le_trans (Nat.add_le_add l2 ld) (by decide), fun h nh => ?_⟩
  have bh := bag_new (o := .lst (xs.take d ++ [x] ++ xs.drop d)) bg nh
  have kh : Kp p (upd (upd (upd H1 b (.lst [x])) c (.lst (xs.take d ++ [x]))) g (.lst (xs.drop d))) (upd (upd (upd (upd H1 b (.lst [x])) c (.lst (xs.take d ++ [x]))) g (.lst (xs.drop d))) h (.lst (xs.take d ++ [x] ++ xs.drop d))) := kp_new nh
  have eh := off_new (o := .lst (xs.take d ++ [x] ++ xs.drop d)) bg nh
  refine ⟨h, _, rfl, .inl ⟨sq_off eh, fun S nS => ?_⟩⟩
  have kS := kp_new (p := p) (o := .tup (xs.take d ++ [x] ++ xs.drop d)) nS
  refine q S x e _ (bag_new bh nS) (((kac.trans kg).trans kh).trans kS) (a1.same (off_kp ((((kb.trans kc).trans kg).trans kh).trans kS))) f1 ?_
  rw [off_new bh nS, List.append_assoc]
  rfl
/-- tuple(name + [x]) -/
theorem splast {x : V} (hi : σ[i]? = some (some (.ref l))) (hj : σ[j]? = some (some x)) (hx : xs.length ≤ 100) (hp : BagAt H p) (hl : Off p H l = some (.lst xs))
    (q : ∀ S H', BagAt H' p → Kp p H H' → Off p H' S = some (.tup (xs ++ [x])) → Q (.ref S) H') : tCB (rTp K) (tCons (tOp rCat (tVar i) (tLst (tCons (tVar j) tNil))) tNil) σ H Q := by
  refine ⟨_, hi, _, hj, show 1 ≤ sizeLine by decide, fun b nb => ?_⟩
  have bb := bag_new (o := .lst [x]) hp nb
  have kb : Kp p H (upd H b (.lst [x])) := kp_new nb
  have eb := off_new (o := .lst [x]) hp nb
  have hl2 := off_kp kb _ _ hl
  refine ⟨l, b, _, _, rfl, rfl, (off_get hl2).2, (off_get eb).2, Nat.le_trans (Nat.add_le_add hx (Nat.le_refl 1)) (by decide), fun c nc => ?_⟩
  have bc := bag_new (o := .lst (xs ++ [x])) bb nc
  have kc : Kp p (upd H b (.lst [x])) (upd (upd H b (.lst [x])) c (.lst (xs ++ [x]))) := kp_new nc
  have ec := off_new (o := .lst (xs ++ [x])) bb nc
  exact ⟨c, _, rfl, .inl ⟨sq_off ec, fun S nS => q S _ (bag_new bc nS) ((kb.trans kc).trans (kp_new nS)) (off_new bc nS)⟩⟩
/-- te, ta make just these values, from H on -/
def Pu (p : Addr) (H : Hp) (v : V) (σ : L2.St) (te : TE) : Prop := ∀ (H1 : Hp) (Q : VK), Kp p H H1 → Q v H1 → te σ H1 Q
def PuA (p : Addr) (H : Hp) (vs : List V) (σ : L2.St) (ta : TA) : Prop := ∀ (H1 : Hp) (Q : List V → Hp → Prop), Kp p H H1 → Q vs H1 → ta σ H1 Q
theorem pu_c {v : V} : Pu p H v σ (tC v) := fun H1 Q k q => q
theorem pu_var {v : V} (h : σ[i]? = some (some v)) : Pu p H v σ (tVar i) := fun H1 Q k q => ⟨v, h, q⟩
theorem pu_len (h : σ[i]? = some (some (.ref l))) (hl : Off p H l = some (.lst xs)) : Pu p H (.int (xs.length : Nat)) σ (tCB (rLn K) (tCons (tVar i) tNil)) := fun H1 Q k q =>
  ⟨_, h, _, xs.length, rfl, .inl ⟨xs, sq_off (off_kp k _ _ hl), rfl⟩, q⟩
theorem pua_nil : PuA p H [] σ tNil := fun H1 Q k q => q
theorem pua_cons {v : V} {vs : List V} (h : Pu p H v σ te) (r : PuA p H vs σ ta) : PuA p H (v :: vs) σ (tCons te ta) := fun H1 Q k q => h H1 _ k (r H1 _ k q)
theorem mg_pt {vs : List V} (h : PuA p H vs σ ta) (hl : vs.length ≤ 100) : MG p H (TupV p vs) σ (tTup ta) := fun H1 Q b k q =>
  h H1 _ k ⟨Nat.le_trans hl (by decide), fun t nt => q _ _ (bag_new b nt) (kp_new nt) ⟨t, rfl, off_new b nt⟩⟩
/-- [..][pick(bag, n)] -/
theorem lg_pick {G : V → Hp → Prop} {m : Int} (s : Stay p G) (h : MGA p H G n σ ta) (hj : σ[j]? = some (some (.ref p))) (hm : m = (n : Int)) (h0 : 0 < n) (hn : n ≤ 100) (hp : BagAt H p) (q : ∀ x H', BagAt H' p → Kp p H H' → G x H' → Q x H') :
    tOp (rIxL K) (tLst ta) (tCall spPick [] E0 (tCons (tVar j) (tCons (tC (.int m)) tNil))) σ H Q := by
  refine lg_new s h hn hp fun l H1 b1 k1 h1 => ?_
  refine pk_n hj b1 (by omega) (by omega) fun d H2 d1 b2 k2 => ?_
  obtain ⟨xs, e, a, z⟩ := h1.kp s k2
  have hd : d < xs.length := by omega
  exact ⟨l, xs, (d : Int), xs[d], rfl, rfl, sq_off e, atI_nat (by simp [hd]), q _ H2 b2 (k1.trans k2) (a _ (List.getElem_mem hd))⟩
end
end Jo

set_option Elab.async false
set_option linter.all false
set_option maxRecDepth 100000
set_option maxHeartbeats 1000000
namespace Jo
open PySem PySem.Spec PyProof.Rows L2
def marksM : List (List Int) := [[], [5], [5, 0], [99, 7, 1]]
theorem marks_ok : ∀ ms ∈ marksM, MsOk ms ∧ ms.length ≤ 3 ∧ SeqAt.shaped (.list (ms.map PyData.int)) = true ∧ PyData.eqv (.list (ms.map PyData.int)) (.list []) = decide (ms = []) := by
  refine allc ⟨⟨?_, ?_⟩, ?_, ?_, ?_⟩ <| allc ⟨⟨?_, ?_⟩, ?_, ?_, ?_⟩ <| allc ⟨⟨?_, ?_⟩, ?_, ?_, ?_⟩ <| allc ⟨⟨?_, ?_⟩, ?_, ?_, ?_⟩ alln
  all_goals first | decide | decide +kernel
section
variable {K : PySem.W.Frag} {p l : Addr} {H : Hp} {Q : VK} {σ : L2.St}
theorem dp_ints : ∀ {ms : List Int}, DpAll K H (ms.map V.int) (ms.map PyData.int)
  | [] => .nil
  | m :: r => .cons (.int m) dp_ints
/-- name[pick(bag, len(name))] if name != [] and pick(bag, 2) == 0 else wrong_state(bag) -/
theorem again {i j : Nat} {ms : List Int} (hj : σ[j]? = some (some (.ref p))) (hi : σ[i]? = some (some (.ref l))) (hp : BagAt H p) (hm : ms ∈ marksM) (hl : Off p H l = some (.lst (ms.map V.int)))
    (q : ∀ x e H', BagAt H' p → Kp p H H' → AnyD (Off p H') 4 x e → (stD e = false ∨ ∃ m ∈ ms, x = .int m) → Q x H') :
    tIf (tAnd (tTest (tOp (rNeD K) (tVar i) (tLst tNil))) (tTest (tOp rEq (tCall spPick [] E0 (tCons (tVar j) (tCons (tC (.int 2)) tNil))) (tC (.int 0)))))
      (tOp (rIxL K) (tVar i) (tCall spPick [] E0 (tCons (tVar j) (tCons (tCB (rLn K) (tCons (tVar i) tNil)) tNil)))) (tCall spWrongS [] E0 (tCons (tVar j) tNil)) σ H Q := by
  obtain ⟨okM, m3, sh, ev⟩ := marks_ok ms hm
  refine ⟨_, hi, show 0 ≤ sizeLine by decide, fun b nb => ?_⟩
  have bb := bag_new (o := .lst []) hp nb
  have kb : Kp p H (upd H b (.lst [])) := kp_new nb
  have eb := off_new (o := .lst []) hp nb
  have hl2 := off_kp kb _ _ hl
  refine ⟨_, _, .lst (sq_off hl2) dp_ints, .lst (sq_off eb) .nil, sh, by decide, _, rfl, ?_⟩
  rw [ev]
  have wrong : ∀ H1, BagAt H1 p → Kp p H H1 → tCall spWrongS [] E0 (tCons (tVar j) tNil) σ H1 Q := fun H1 b1 k1 => ⟨_, hj, p, rfl, b1, fun x d H2 b2 k2 a2 w2 => q x d H2 b2 (k1.trans k2) a2 (.inl w2.no)⟩
  by_cases h0 : ms = []
  · rw [decide_eq_true h0]
    exact iteF (iteF (wrong _ bb kb))
  · rw [decide_eq_false h0]
    refine iteT ?_
    refine pk_n (p := p) hj bb (by decide) (by decide) fun d H1 d1 b1 k1 => ?_
    refine ⟨rfl, _, rfl, ite2 (fun _ => ?_) (fun _ => wrong _ b1 (kb.trans k1))⟩
    have hl3 := off_kp k1 _ _ hl2
    have pos : 0 < ms.length := List.length_pos_iff.mpr h0
    refine ⟨_, hi, _, hj, _, hi, _, _, rfl, .inl ⟨_, sq_off hl3, rfl⟩, p, _, rfl, b1, by rw [List.length_map]; omega, by rw [List.length_map]; omega, fun d2 H2 e0 e1 b2 k2 => ?_⟩
    obtain ⟨c, rfl⟩ := Int.eq_ofNat_of_zero_le e0
    have hc : c < ms.length := by rw [List.length_map] at e1; omega
    refine ⟨l, _, (c : Int), .int ms[c], rfl, rfl, sq_off (off_kp k2 _ _ hl3), atI_nat (by rw [List.getElem?_map, List.getElem?_eq_getElem hc]; rfl), ?_⟩
    exact q _ _ H2 b2 ((kb.trans k1).trans k2) (.int _) (.inr ⟨_, List.getElem_mem hc, rfl⟩)
end
end Jo

set_option Elab.async false
set_option linter.all false
set_option maxRecDepth 100000
set_option maxHeartbeats 8000000
namespace Jo
open PySem PySem.Spec PyProof.Rows L2
/-- an int of few digits, or None -/
def IV (v : V) : Prop := v = .non ∨ ∃ k : Nat, v = .int (k : Int) ∧ k ≤ 99
/-- what is due of steps and bad states -/
def DueE (p : Addr) : V → Hp → Prop := fun t H => ∃ a x y r, t = .ref a ∧ Off p H a = some (.tup [x, y, .ref r]) ∧
  ((∃ v, StBad (Off p H) x v ∧ IV v ∧ Off p H r = some (.tup [.str "steps", v, .bl true, .bl true, .bl false])) ∨
   (∃ S L v, StOk (Off p H) x S L ∧ MkBad (Off p H) y v ∧ IV v ∧ Off p H r = some (.tup [.str "bad", v, .bl true, .bl true, .bl false])) ∨
   ∃ S L M ms, StOk (Off p H) x S L ∧ MkOk (Off p H) y M ms ∧ Off p H r = some (.tup [.str "none"]))
theorem DueE.stay {p : Addr} : Stay p (DueE p) := fun t H H' k ⟨a, x, y, r, e, h, w⟩ => by
  have s := off_kp k
  refine ⟨a, x, y, r, e, s _ _ h, ?_⟩
  rcases w with ⟨v, h1, h2, h3⟩ | ⟨S, L, v, h1, h2, h3, h4⟩ | ⟨S, L, M, ms, h1, h2, h3⟩
  · exact .inl ⟨v, h1.same s, h2, s _ _ h3⟩
  · exact .inr (.inl ⟨S, L, v, h1.same s, h2.same s, h3, s _ _ h4⟩)
  · exact .inr (.inr ⟨S, L, M, ms, h1.same s, h2.same s, s _ _ h3⟩)
section
variable {p : Addr} {H : Hp} {F G : V → Hp → Prop} {σ : L2.St} {te : TE} {ta tb : TA} {K : PySem.W.Frag} {n b c : L2.St → Hp → Prop} {r : VK} {i j : Nat}
theorem par_of (h : ta σ H fun vs H1 => ∃ v w, vs = [v, w] ∧ n ((σ.set i (some v)).set j (some w)) H1) : tPar i j ta ⟨n, r, b, c⟩ σ H := h
theorem cons_of {Q : List V → Hp → Prop} (h : te σ H fun x H1 => ta σ H1 fun xs H2 => Q (x :: xs) H2) : tCons te ta σ H Q := h
theorem mg_mono (h : MG p H F σ te) (g : ∀ x H', Kp p H H' → F x H' → G x H') : MG p H G σ te := fun H1 Q b k q => h H1 Q b k fun x H' b' k' f => q x H' b' k' (g x H' (k.trans k') f)
theorem mkp_sp {z : Str} (h : σ[i]? = some (some (.ref p))) (hj : σ[j]? = some (some (.str z))) (hz : nmS z = true) : MkP p 5 Wsp σ (tCall spWrongP [] E0 (tCons (tVar i) (tCons (tVar j) tNil))) :=
  fun H Q hp q => ⟨_, h, _, hj, p, z, rfl, hp, hz, q⟩
/-- no tuple -/
def NoT (p : Addr) : V → Hp → Prop := fun x H => NoTup (Off p H) x
theorem NoT.stay : Stay p (NoT p) := fun x H H' k h => NoTup.same h (off_kp k)
theorem mg_list {l : Addr} {xs : List V} (h : σ[i]? = some (some (.ref l))) (hl : Off p H l = some (.lst xs)) : MG p H (NoT p) σ (tCB (rLs K) (tCons (tVar i) tNil)) := fun H1 Q b k q =>
  ⟨_, h, l, xs, rfl, .inl (sq_off (off_kp k _ _ hl)), fun t nt => q _ _ (bag_new b nt) (kp_new nt) (.inr (.inr (.inr (.inr (.inl ⟨t, xs, rfl, off_new b nt⟩)))))⟩
theorem mg_dct : MG p H (NoT p) σ tDNewK := fun H1 Q b k q t nt => q _ _ (bag_new b nt) (kp_new nt) (.inr (.inr (.inr (.inr (.inr ⟨t, [], rfl, off_new b nt⟩)))))
theorem st_stay {v : V} : Stay p (fun x H => StBad (Off p H) x v) := fun x H H' k h => h.same (off_kp k)
theorem mb_stay {v : V} : Stay p (fun x H => MkBad (Off p H) x v) := fun x H H' k h => h.same (off_kp k)
theorem so_stay {L : List Row} : Stay p (fun x H => ∃ S, StOk (Off p H) x S L) := fun x H H' k ⟨S, h⟩ => ⟨S, h.same (off_kp k)⟩
theorem mo_stay {ms : List Int} : Stay p (fun x H => ∃ M, MkOk (Off p H) x M ms) := fun x H H' k ⟨M, h⟩ => ⟨M, h.same (off_kp k)⟩
theorem due_s {x y z v : V} {t : Addr} (h1 : StBad (Off p H) x v) (iv : IV v) (h3 : TupV p [.str "steps", v, .bl true, .bl true, .bl false] z H) (h4 : Off p H t = some (.tup [x, y, z])) : DueE p (.ref t) H := by
  obtain ⟨r, rfl, hr⟩ := h3
  exact ⟨t, x, y, r, rfl, h4, .inl ⟨v, h1, iv, hr⟩⟩
theorem due_b {x y z v : V} {L : List Row} {t : Addr} (h1 : ∃ S, StOk (Off p H) x S L) (h2 : MkBad (Off p H) y v) (iv : IV v) (h3 : TupV p [.str "bad", v, .bl true, .bl true, .bl false] z H) (h4 : Off p H t = some (.tup [x, y, z])) : DueE p (.ref t) H := by
  obtain ⟨r, rfl, hr⟩ := h3
  obtain ⟨S, h1⟩ := h1
  exact ⟨t, x, y, r, rfl, h4, .inr (.inl ⟨S, L, v, h1, h2, iv, hr⟩)⟩
theorem due_n {x y z : V} {L : List Row} {ms : List Int} {t : Addr} (h1 : ∃ S, StOk (Off p H) x S L) (h2 : ∃ M, MkOk (Off p H) y M ms) (h3 : TupV p [.str "none"] z H) (h4 : Off p H t = some (.tup [x, y, z])) : DueE p (.ref t) H := by
  obtain ⟨r, rfl, hr⟩ := h3
  obtain ⟨S, h1⟩ := h1
  obtain ⟨M, h2⟩ := h2
  exact ⟨t, x, y, r, rfl, h4, .inr (.inr ⟨S, L, M, ms, h1, h2, hr⟩)⟩
theorem MsOk.take {ms : List Int} (h : MsOk ms) (n : Nat) : MsOk (ms.take n) := ⟨h.1.sublist (List.take_sublist _ _), fun m hm => h.2 m (List.mem_of_mem_take hm)⟩
end
def ivD : V → PyData | .int k => .int k | _ => .none
theorem iv_any {v : V} (h : IV v) {H : Hp} {n : Nat} : AnyD H (n + 1) v (ivD v) := by
  rcases h with rfl | ⟨k, rfl, _⟩
  · exact .non
  · exact .int _
theorem iv_sz {v : V} (h : IV v) : Sz (ivD v) 1921 0 := by
  rcases h with rfl | ⟨k, rfl, hk⟩
  · exact Sz.non.le (by decide) (by decide)
  · exact szi (Nat.lt_of_lt_of_le (PySem.Flt.log2_lt_of (k := 7) (by decide) (show (k : Int).natAbs < 2 ^ 7 by omega)) (by decide))
def rowE (z : Str) (v : V) : List PyData := [.str z, ivD v, .bool true, .bool true, .bool false]
theorem rowE_any {z : Str} {v : V} (h : IV v) {H : Hp} : Paired (AnyD H 2) [.str z, v, .bl true, .bl true, .bl false] (rowE z v) := .cons (.str _) (.cons (iv_any h) (.cons (.bl _) (.cons (.bl _) (.cons (.bl _) .nil))))
theorem rowE_sz {z : Str} {v : V} (h : IV v) (h1 : z.length ≤ 16) (h2 : ∀ c ∈ z.cps.toList, c < 128) : Sz (.tuple (rowE z v)) 10000 4 := .tup (.cons (szs h1 h2) (.cons (iv_sz h) (.cons (Sz.bl _) (.cons (Sz.bl _) (.cons (Sz.bl _) szn))))) (by decide) (by decide)
theorem ne_self {z : Str} : (!decide (V.str z = V.str z)) = false := by rw [decide_eq_true rfl]; rfl
theorem due_comp {K : PySem.W.Frag} {p l : Addr} {H : Hp} {Q : VK} {xs : List V} {s0 s1 s2 s3 s4 s5 s6 s7 s8 s9 s10 s12 : Option V} (bp : BagAt H p) (ex : Off p H l = some (.lst xs)) (ax : ∀ x ∈ xs, DueE p x H)
    (q : ∀ H', BagAt H' p → Kp p H H' → Q (.bl true) H') :
    tOp (rEqD K) (tLc (iList K (tVar 11)) (gName 12) (tTest (tOp rNe (tCB (rReprA K) (tCons (tCall spError [] E0 (tCons (tOp (rIxT K) (tVar 12) (tC (.int 0))) (tCons (tOp (rIxT K) (tVar 12) (tC (.int 1))) tNil))) tNil))
      (tCB (rReprA K) (tCons (tOp (rIxT K) (tVar 12) (tC (.int 2))) tNil)))) (tVar 12) [12]) (tLst tNil) [s0, s1, s2, s3, s4, s5, s6, s7, s8, s9, s10, some (.ref l), s12] H Q := by
  refine ⟨_, rfl, l, rfl, ⟨_, sq_off ex⟩, fun Dl hD => lc_none walk_list hD (fun H2 s2 => SqL.of (s2 _ _ (off_get ex).2)) (fun i x Hc Hc' Qc hi s1 hy hq => ?_) (fun H2 s2 hD2 => ?_)⟩
  · obtain ⟨rfl, eb⟩ := hy
    have eb2 : xs[i]? = some x := eb
    obtain ⟨a, cx, cy, r, rfl, ha, wd⟩ := DueE.stay x _ _ (kp_of s1) (ax x (List.mem_of_getElem? eb2))
    refine ⟨rfl, ?_⟩
    refine ⟨_, rfl, a, _, 0, cx, rfl, rfl, .inl (.inl (off_same _ _ ha)), atI_nat (j := 0) rfl, ?_⟩
    refine ⟨_, rfl, a, _, 1, cy, rfl, rfl, .inl (.inl (off_same _ _ ha)), atI_nat (j := 1) rfl, ?_⟩
    refine ⟨cx, cy, rfl, ?_⟩
    rcases wd with ⟨v, h1, h2, hr2⟩ | ⟨S, L2, v, h1, h2, h3, hr2⟩ | ⟨S, L2, M2, ms2, h1, h2, hr2⟩
    · refine .inl ⟨v, h1.same off_same, fun t H2 s2 ht => ?_⟩
      refine tn (repr_a (n := 3) (.tup ht (rowE_any h2)) (rowE_sz h2 (by decide) (by decide)) (by decide) (by decide) ?_)
      refine ⟨_, rfl, a, _, 2, .ref r, rfl, rfl, .inl (.inl (s2 _ _ (off_same _ _ ha))), atI_nat (j := 2) rfl, ?_⟩
      refine tn (repr_a (n := 3) (.tup (s2 _ _ (off_same _ _ hr2)) (rowE_any h2)) (rowE_sz h2 (by decide) (by decide)) (by decide) (by decide) ?_)
      refine ⟨rfl, _, rfl, ?_⟩
      rw [ne_self]
      exact hq _ _ s2
    · refine .inr (.inl ⟨S, L2, v, h1.same off_same, h2.same off_same, fun t H2 s2 ht => ?_⟩)
      refine tn (repr_a (n := 3) (.tup ht (rowE_any h3)) (rowE_sz h3 (by decide) (by decide)) (by decide) (by decide) ?_)
      refine ⟨_, rfl, a, _, 2, .ref r, rfl, rfl, .inl (.inl (s2 _ _ (off_same _ _ ha))), atI_nat (j := 2) rfl, ?_⟩
      refine tn (repr_a (n := 3) (.tup (s2 _ _ (off_same _ _ hr2)) (rowE_any h3)) (rowE_sz h3 (by decide) (by decide)) (by decide) (by decide) ?_)
      refine ⟨rfl, _, rfl, ?_⟩
      rw [ne_self]
      exact hq _ _ s2
    · refine .inr (.inr ⟨S, L2, M2, ms2, h1.same off_same, h2.same off_same, fun t H2 s2 ht => ?_⟩)
      refine tn (repr_a (n := 3) (.tup ht (.cons (.str _) .nil)) ((Sz.tup (.cons (szs (by decide) (by decide)) szn) (Nat.le_refl _) (Nat.le_refl _)).le (m := 10000) (j := 4) (by decide) (by decide)) (by decide) (by decide) ?_)
      refine ⟨_, rfl, a, _, 2, .ref r, rfl, rfl, .inl (.inl (s2 _ _ (off_same _ _ ha))), atI_nat (j := 2) rfl, ?_⟩
      refine tn (repr_a (n := 3) (.tup (s2 _ _ (off_same _ _ hr2)) (.cons (.str _) .nil)) ((Sz.tup (.cons (szs (by decide) (by decide)) szn) (Nat.le_refl _) (Nat.le_refl _)).le (m := 10000) (j := 4) (by decide) (by decide)) (by decide) (by decide) ?_)
      refine ⟨rfl, _, rfl, ?_⟩
      rw [ne_self]
      exact hq _ _ s2
  · refine ⟨show 0 ≤ sizeLine by decide, fun b nb => ?_⟩
    refine ⟨.list [], .list [], .lst (SqL.of (same_new nb _ _ hD2)) .nil, .lst (SqL.of upd_same) .nil, by decide, by decide, ?_⟩
    have bH2 : BagAt H2 p := bp.same s2
    exact q _ (bag_new bH2 nb) ((kp_of s2).trans (kp_new nb))
section
variable {P : Program} {w : World} {K : PySem.W.Frag} {mg : Str → Option Value} {base : Heap} {C Cs Cb Cv Cm Br Bs Bl : Addr}
def n_made_right : List Str := ["_law_bag_here", "_law_rows", "_law_marks", "_law_name_here", "_law_at", "_law_far", "_law_wrong", "_law_again", "_law_last", "_law_odd", "_law_none", "_law_due", "_law_row"]
theorem sc_made_right : FnScope n_made_right ["_law_bag_here", "_law_rows", "_law_marks", "_law_name_here"] (defScope s_made_right) := ⟨rfl, rfl, rfl, by decide +kernel, rfl, by decide +kernel, by decide +kernel⟩
def spMade : Sp := fun vs H Q _ => ∃ (p R M : Addr) (z : Str) (L : List Row) (ms : List Int), vs = [.ref p, .ref R, .ref M, .str z] ∧ BagAt H p ∧ nmS z = true ∧ L.length ≤ 4 ∧ ms ∈ marksM ∧
  (∀ r ∈ L, RowAt (Off p H) r) ∧ Off p H R = some (.lst (L.map fun r => .ref r.t)) ∧ Off p H M = some (.lst (ms.map V.int)) ∧ ∀ H', BagAt H' p → Kp p H H' → Q (.bl true) H'
theorem ok_made_right (T : Txt K mg) (bL : mg "list" = none) (D : Dfn K mg "_law_made_right" s_made_right ["_law_bag_here", "_law_rows", "_law_marks", "_law_name_here"])
    (c_pick : CalG P w K mg base 1 "_law_pick" ["_law_bag_here", "_law_many"] spPick) (c_wrong_state : CalG P w K mg base 2 "_law_wrong_state" ["_law_bag_here"] spWrongS)
    (c_wrong_step : CalG P w K mg base 3 "_law_wrong_step" ["_law_bag_here", "_law_name_here"] spWrongP) (c_error : CalG P w K mg base 7 "_law_error" ["_law_rows", "_law_marks"] spError) :
    CalG P w K mg base 8 "_law_made_right" ["_law_bag_here", "_law_rows", "_law_marks", "_law_name_here"] spMade := by
  refine D.ok sc_made_right (fun vs H Q E h => ?_) (fun f cdv A fr s H vs Q E hr hgd h => ?_)
  · obtain ⟨p, R, M, z, L, ms, rfl, _⟩ := h
    rfl
  · obtain ⟨p, R, M, z, L, ms, rfl, hp, hz, l4, hm, hL, hR, hM, q⟩ := h
    refine ⟨_, pss_cons (ps_par (i := 4) (j := 5) rfl sc_made_right.nd rfl rfl (by decide) rfl rfl (pa_cons (pe_cG c_pick hr (by decide) hgd rfl (pa_cons (pv 0) (pa_cons (pe_op op_add (pe_callB call_len rfl T.b_len (by decide +kernel) (pa_cons (pv 1) pa_nil)) pe_int) pa_nil))) (pa_cons (pe_cG c_pick hr (by decide) hgd rfl (pa_cons (pv 0) (pa_cons (pe_op op_add (pe_callB call_len rfl T.b_len (by decide +kernel) (pa_cons (pv 2) pa_nil)) pe_int) pa_nil))) pa_nil)) rfl)
      (pss_cons (ps_set (i := 6) sc_made_right.nd rfl (.inl rfl) (pe_callTy call_tuple_of rfl T.b_tuple (by decide +kernel) (pa_cons (pe_op op_cat (pe_op op_cat (pe_slice sl_list (pv 1) po_none (po_some (pv 4))) (pe_lst (pa_cons (pe_cG c_wrong_step hr (by decide) hgd rfl (pa_cons (pv 0) (pa_cons (pv 3) pa_nil))) pa_nil))) (pe_slice sl_list (pv 1) (po_some (pv 4)) po_none)) pa_nil)))
      (pss_cons (ps_set (i := 7) sc_made_right.nd rfl (.inl rfl) (pe_ifExp (PW.pt (pw_and (pt_cmpR (op_neD hr.units) (pv 2) (pe_lst pa_nil) (nomark _)) (pw_and1 (pt_cmpR op_eq (pe_cG c_pick hr (by decide) hgd rfl (pa_cons (pv 0) (pa_cons pe_int pa_nil))) pe_int (nomark _))))) (pe_ix ix_list (pv 2) (pe_cG c_pick hr (by decide) hgd rfl (pa_cons (pv 0) (pa_cons (pe_callB call_len rfl T.b_len (by decide +kernel) (pa_cons (pv 2) pa_nil)) pa_nil))) (fun _ _ => rfl)) (pe_cG c_wrong_state hr (by decide) hgd rfl (pa_cons (pv 0) pa_nil))))
      (pss_cons (ps_set (i := 8) sc_made_right.nd rfl (.inl rfl) (pe_callTy call_tuple_of rfl T.b_tuple (by decide +kernel) (pa_cons (pe_op op_cat (pv 2) (pe_lst (pa_cons (pv 7) pa_nil))) pa_nil)))
      (pss_cons (ps_set (i := 9) sc_made_right.nd rfl (.inl rfl) (pe_callTy call_tuple_of rfl T.b_tuple (by decide +kernel) (pa_cons (pe_op op_cat (pe_op op_cat (pe_slice sl_list (pv 2) po_none (po_some (pv 5))) (pe_lst (pa_cons (pe_cG c_wrong_state hr (by decide) hgd rfl (pa_cons (pv 0) pa_nil)) pa_nil))) (pe_slice sl_list (pv 2) (po_some (pv 5)) po_none)) pa_nil)))
      (pss_cons (ps_set (i := 10) sc_made_right.nd rfl (.inl rfl) (pe_ix ix_list (pe_lst (pa_cons pe_non (pa_cons (pe_callTy call_list_of rfl bL (by decide +kernel) (pa_cons (pv 1) pa_nil)) (pa_cons pe_str (pa_cons pe_int (pa_cons pe_dnewK (pa_cons pe_bl pa_nil))))))) (pe_cG c_pick hr (by decide) hgd rfl (pa_cons (pv 0) (pa_cons pe_int pa_nil))) (fun _ _ => rfl)))
      (pss_cons (ps_set (i := 11) sc_made_right.nd rfl (.inl rfl) (pe_lst (pa_cons (pe_tup (pa_cons (pv 6) (pa_cons (pe_callTy call_tuple_of rfl T.b_tuple (by decide +kernel) (pa_cons (pv 2) pa_nil)) (pa_cons (pe_tup (pa_cons pe_str (pa_cons (pv 4) (pa_cons pe_bl (pa_cons pe_bl (pa_cons pe_bl pa_nil)))))) pa_nil)))) (pa_cons (pe_tup (pa_cons (pv 6) (pa_cons (pv 9) (pa_cons (pe_tup (pa_cons pe_str (pa_cons (pv 4) (pa_cons pe_bl (pa_cons pe_bl (pa_cons pe_bl pa_nil)))))) pa_nil)))) pa_nil))))
      (pss_cons (ps_set (i := 11) sc_made_right.nd rfl (.inl rfl) (pe_op op_cat (pv 11) (pe_lst (pa_cons (pe_tup (pa_cons (pe_callTy call_tuple_of rfl T.b_tuple (by decide +kernel) (pa_cons (pv 1) pa_nil)) (pa_cons (pv 9) (pa_cons (pe_tup (pa_cons pe_str (pa_cons (pv 5) (pa_cons pe_bl (pa_cons pe_bl (pa_cons pe_bl pa_nil)))))) pa_nil)))) (pa_cons (pe_tup (pa_cons (pv 10) (pa_cons (pv 9) (pa_cons (pe_tup (pa_cons pe_str (pa_cons pe_non (pa_cons pe_bl (pa_cons pe_bl (pa_cons pe_bl pa_nil)))))) pa_nil)))) pa_nil)))))
      (pss_cons (ps_set (i := 11) sc_made_right.nd rfl (.inl rfl) (pe_op op_cat (pv 11) (pe_lst (pa_cons (pe_tup (pa_cons (pe_callTy call_tuple_of rfl T.b_tuple (by decide +kernel) (pa_cons (pv 1) pa_nil)) (pa_cons (pv 8) (pa_cons (pe_tup (pa_cons pe_str (pa_cons (pe_callB call_len rfl T.b_len (by decide +kernel) (pa_cons (pv 2) pa_nil)) (pa_cons pe_bl (pa_cons pe_bl (pa_cons pe_bl pa_nil)))))) pa_nil)))) (pa_cons (pe_tup (pa_cons (pe_callTy call_tuple_of rfl T.b_tuple (by decide +kernel) (pa_cons (pv 1) pa_nil)) (pa_cons (pe_callTy call_tuple_of rfl T.b_tuple (by decide +kernel) (pa_cons (pv 2) pa_nil)) (pa_cons (pe_tup (pa_cons pe_str pa_nil)) pa_nil)))) pa_nil)))))
      (pss_cons (ps_set (i := 11) sc_made_right.nd rfl (.inl rfl) (pe_op op_cat (pv 11) (pe_lst (pa_cons (pe_tup (pa_cons (pe_callTy call_tuple_of rfl T.b_tuple (by decide +kernel) (pa_cons (pv 1) pa_nil)) (pa_cons (pv 10) (pa_cons (pe_tup (pa_cons pe_str (pa_cons pe_non (pa_cons pe_bl (pa_cons pe_bl (pa_cons pe_bl pa_nil)))))) pa_nil)))) (pa_cons (pe_tup (pa_cons (pv 6) (pa_cons (pv 10) (pa_cons (pe_tup (pa_cons pe_str (pa_cons (pv 4) (pa_cons pe_bl (pa_cons pe_bl (pa_cons pe_bl pa_nil)))))) pa_nil)))) pa_nil)))))
      (pss_one (ps_ret (pe_cmpR (op_eqD hr.units) (pe_lc (own := [("_law_row", 12)]) (g := gName 12) rfl sc_made_right.nd (pi_list (pv 11)) (blkOk_by (N := n_made_right) (sc := defScope s_made_right) (by decide +kernel)) (fun _ _ _ _ _ => pg_name (i := 12) sc_made_right.nd rfl (Or.inl rfl)) (fun _ _ _ _ _ => (pts_one (pt_cmpR op_ne (pe_callB (id := "repr") (r := rReprA K) (call_reprA hgd hr.units) rfl T.b_repr (by decide +kernel) (pa_cons (pe_cG c_error hr (by decide) hgd rfl (pa_cons (pe_ix (r := rIxT K) ix_tup (pv 12) pe_int (fun _ _ => rfl)) (pa_cons (pe_ix (r := rIxT K) ix_tup (pv 12) pe_int (fun _ _ => rfl)) pa_nil))) pa_nil)) (pe_callB (id := "repr") (r := rReprA K) (call_reprA hgd hr.units) rfl T.b_repr (by decide +kernel) (pa_cons (pe_ix (r := rIxT K) ix_tup (pv 12) pe_int (fun _ _ => rfl)) pa_nil)) (nomark _)))) (fun _ _ _ _ _ => (pv 12))) (pe_lst pa_nil) (nomark _))))))))))))), ?_⟩
    obtain ⟨okM, m3, _, _⟩ := marks_ok ms hm
    have lR : (L.map fun r => V.ref r.t).length = L.length := List.length_map ..
    have lM : (ms.map V.int).length = ms.length := List.length_map ..
    refine seq_of (par_of (cons_of ?_))
    refine pk_len1 rfl rfl hp hR (by omega) fun at_ H1 hat b1 k1 => cons_of ?_
    refine pk_len1 rfl rfl b1 (off_kp k1 _ _ hM) (by omega) fun far H2 hfar b2 k2 => ?_
    refine ⟨_, _, rfl, ?_⟩
    change (_ : L2.St → Hp → Prop) [some (.ref p), some (.ref R), some (.ref M), some (.str z), some (.int (at_ : Int)), some (.int (far : Int)), none, none, none, none, none, none, none] H2
    have k02 := k1.trans k2
    refine seq_of (asg_of ?_)
    refine splice (F := Wsp) rfl rfl hat (by omega) b2 (off_kp k02 _ _ hR) (mkp_sp rfl rfl hz) fun S1 x1 e1 H3 b3 k3 a1 f1 hS1 => ?_
    change (_ : L2.St → Hp → Prop) [some (.ref p), some (.ref R), some (.ref M), some (.str z), some (.int (at_ : Int)), some (.int (far : Int)), some (.ref S1), none, none, none, none, none, none] H3
    have k03 := k02.trans k3
    have hL3 : ∀ r ∈ L, RowAt (Off p H3) r := fun r hr2 => (hL r hr2).same (off_kp k03)
    have st3 : StBad (Off p H3) (.ref S1) (.int (at_ : Int)) := .inr ⟨S1, L.take at_, x1, e1, 5, (L.map fun r => V.ref r.t).drop at_, rfl, by rw [hS1, List.map_take], fun r hr2 => hL3 r (List.mem_of_mem_take hr2), a1, f1.sh, f1.no, by rw [List.length_take, Nat.min_eq_left (by omega)]⟩
    have iat : IV (.int (at_ : Int)) := .inr ⟨at_, rfl, by omega⟩
    have ifar : IV (.int (far : Int)) := .inr ⟨far, rfl, by omega⟩
    have iml : IV (.int ((ms.map V.int).length : Nat)) := .inr ⟨_, rfl, by omega⟩
    refine seq_of (asg_of ?_)
    refine again rfl rfl b3 hm (off_kp k03 _ _ hM) fun xa ea H4 b4 k4 aa fa => ?_
    change (_ : L2.St → Hp → Prop) [some (.ref p), some (.ref R), some (.ref M), some (.str z), some (.int (at_ : Int)), some (.int (far : Int)), some (.ref S1), some (xa), none, none, none, none, none] H4
    have k04 := k03.trans k4
    refine seq_of (asg_of ?_)
    refine splast rfl rfl (by omega) b4 (off_kp k04 _ _ hM) fun S2 H5 b5 k5 hS2 => ?_
    change (_ : L2.St → Hp → Prop) [some (.ref p), some (.ref R), some (.ref M), some (.str z), some (.int (at_ : Int)), some (.int (far : Int)), some (.ref S1), some (xa), some (.ref S2), none, none, none, none] H5
    have k05 := k04.trans k5
    have mb5 : MkBad (Off p H5) (.ref S2) (.int ((ms.map V.int).length : Nat)) := .inr ⟨S2, ms, xa, ea, 4, [], rfl, hS2, okM, aa.same (off_kp k5), fa, by rw [lM]⟩
    refine seq_of (asg_of ?_)
    refine splice (F := Wst) rfl rfl hfar (by omega) b5 (off_kp k05 _ _ hM) (mkp_st rfl) fun S3 x3 e3 H6 b6 k6 a3 f3 hS3 => ?_
    change (_ : L2.St → Hp → Prop) [some (.ref p), some (.ref R), some (.ref M), some (.str z), some (.int (at_ : Int)), some (.int (far : Int)), some (.ref S1), some (xa), some (.ref S2), some (.ref S3), none, none, none] H6
    have k06 := k05.trans k6
    have mb6 : MkBad (Off p H6) (.ref S3) (.int (far : Int)) := .inr ⟨S3, ms.take far, x3, e3, 4, (ms.map V.int).drop far, rfl, by rw [hS3, List.map_take], okM.take far, a3, .inl f3.no, by rw [List.length_take, Nat.min_eq_left (by omega)]⟩
    refine seq_of (asg_of ?_)
    refine lg_pick (G := NoT p) NoT.stay (mga_cons NoT.stay (mg_c fun _ => .inl rfl) <| mga_cons NoT.stay (mg_list rfl (off_kp k06 _ _ hR)) <| mga_cons NoT.stay (mg_c fun _ => .inr (.inr (.inr (.inl ⟨_, rfl⟩)))) <|
      mga_cons NoT.stay (mg_c fun _ => .inr (.inr (.inl ⟨_, rfl⟩))) <| mga_cons NoT.stay mg_dct <| mga_cons NoT.stay (mg_c fun _ => .inr (.inl ⟨_, rfl⟩)) mga_nil) rfl rfl (by decide) (by decide) b6 fun xn H7 b7 k7 nt => ?_
    change (_ : L2.St → Hp → Prop) [some (.ref p), some (.ref R), some (.ref M), some (.str z), some (.int (at_ : Int)), some (.int (far : Int)), some (.ref S1), some (xa), some (.ref S2), some (.ref S3), some (xn), none, none] H7
    have k07 := k06.trans k7
    have st7 : StBad (Off p H7) (.ref S1) (.int (at_ : Int)) := st3.same (off_kp (((k4.trans k5).trans k6).trans k7))
    have mb7 : MkBad (Off p H7) (.ref S3) (.int (far : Int)) := mb6.same (off_kp k7)
    have la7 : MkBad (Off p H7) (.ref S2) (.int ((ms.map V.int).length : Nat)) := mb5.same (off_kp (k6.trans k7))
    have stn : StBad (Off p H7) xn .non := .inl ⟨nt, rfl⟩
    have mbn : MkBad (Off p H7) xn .non := .inl ⟨nt, rfl⟩
    -- what is due
    have toS : ∀ {Hb : Hp}, Kp p H Hb → ∀ x H', Kp p Hb H' → TupV p (L.map fun r => V.ref r.t) x H' → ∃ S, StOk (Off p H') x S L := fun {Hb} kb x H' k ⟨S, e, h⟩ => ⟨S, e, h, fun r hr2 => (hL r hr2).same (off_kp (kb.trans k))⟩
    have toM : ∀ {Hb : Hp}, Kp p H Hb → ∀ x H', Kp p Hb H' → TupV p (ms.map V.int) x H' → ∃ M, MkOk (Off p H') x M ms := fun {Hb} kb x H' k ⟨M, e, h⟩ => ⟨M, e, h, okM⟩
    refine seq_of (asg_of ?_)
    refine lg_new (DueE.stay (p := p)) (mga_cons DueE.stay (mg_tup3 (F1 := fun x H => StBad (Off p H) x (.int (at_ : Int))) (mg_var rfl st_stay st7) st_stay (mg_tuple rfl (off_kp k07 _ _ hM)) TupV.stay
        (mg_pt (pua_cons pu_c <| pua_cons (pu_var rfl) <| pua_cons pu_c <| pua_cons pu_c <| pua_cons pu_c pua_nil) (Nat.le_of_ble_eq_true rfl)) TupV.stay fun x y z t H' h1 h2 h3 h4 => due_s h1 iat h3 h4) <|
      mga_cons DueE.stay (mg_tup3 (F1 := fun x H => StBad (Off p H) x (.int (at_ : Int))) (F2 := fun _ _ => True) (mg_var rfl st_stay st7) st_stay (mg_var rfl (fun _ _ _ _ h => h) trivial) (fun _ _ _ _ h => h)
        (mg_pt (pua_cons pu_c <| pua_cons (pu_var rfl) <| pua_cons pu_c <| pua_cons pu_c <| pua_cons pu_c pua_nil) (Nat.le_of_ble_eq_true rfl)) TupV.stay fun x y z t H' h1 h2 h3 h4 => due_s h1 iat h3 h4) mga_nil) (by decide) b7 fun l1 H8 b8 k8 g1 => ?_
    change (_ : L2.St → Hp → Prop) [some (.ref p), some (.ref R), some (.ref M), some (.str z), some (.int (at_ : Int)), some (.int (far : Int)), some (.ref S1), some (xa), some (.ref S2), some (.ref S3), some (xn), some (.ref l1), none] H8
    have k08 := k07.trans k8
    refine seq_of (asg_of ?_)
    refine lg_cat (DueE.stay (p := p)) rfl g1 (mga_cons DueE.stay (mg_tup3 (F1 := fun x H => ∃ S, StOk (Off p H) x S L) (F2 := fun x H => MkBad (Off p H) x (.int (far : Int))) (mg_mono (mg_tuple rfl (off_kp k08 _ _ hR)) (toS k08)) so_stay (mg_var rfl mb_stay (mb7.same (off_kp k8))) mb_stay
        (mg_pt (pua_cons pu_c <| pua_cons (pu_var rfl) <| pua_cons pu_c <| pua_cons pu_c <| pua_cons pu_c pua_nil) (Nat.le_of_ble_eq_true rfl)) TupV.stay fun x y z t H' h1 h2 h3 h4 => due_b h1 h2 ifar h3 h4) <|
      mga_cons DueE.stay (mg_tup3 (F1 := fun x H => StBad (Off p H) x .non) (F2 := fun _ _ => True) (mg_var rfl st_stay (stn.same (off_kp k8))) st_stay (mg_var rfl (fun _ _ _ _ h => h) trivial) (fun _ _ _ _ h => h)
        (mg_pt (pua_cons pu_c <| pua_cons pu_c <| pua_cons pu_c <| pua_cons pu_c <| pua_cons pu_c pua_nil) (Nat.le_of_ble_eq_true rfl)) TupV.stay fun x y z t H' h1 h2 h3 h4 => due_s h1 (.inl rfl) h3 h4) mga_nil) (by decide) (by decide) b8 fun l2 H9 b9 k9 g2 => ?_
    change (_ : L2.St → Hp → Prop) [some (.ref p), some (.ref R), some (.ref M), some (.str z), some (.int (at_ : Int)), some (.int (far : Int)), some (.ref S1), some (xa), some (.ref S2), some (.ref S3), some (xn), some (.ref l2), none] H9
    have k09 := k08.trans k9
    refine seq_of (asg_of ?_)
    refine lg_cat (DueE.stay (p := p)) rfl g2 (mga_cons DueE.stay (mg_tup3 (F1 := fun x H => ∃ S, StOk (Off p H) x S L) (F2 := fun x H => MkBad (Off p H) x (.int ((ms.map V.int).length : Nat))) (mg_mono (mg_tuple rfl (off_kp k09 _ _ hR)) (toS k09)) so_stay (mg_var rfl mb_stay (la7.same (off_kp (k8.trans k9)))) mb_stay
        (mg_pt (pua_cons pu_c <| pua_cons (pu_len rfl (off_kp k09 _ _ hM)) <| pua_cons pu_c <| pua_cons pu_c <| pua_cons pu_c pua_nil) (Nat.le_of_ble_eq_true rfl)) TupV.stay fun x y z t H' h1 h2 h3 h4 => due_b h1 h2 iml h3 h4) <|
      mga_cons DueE.stay (mg_tup3 (F1 := fun x H => ∃ S, StOk (Off p H) x S L) (F2 := fun x H => ∃ M, MkOk (Off p H) x M ms) (mg_mono (mg_tuple rfl (off_kp k09 _ _ hR)) (toS k09)) so_stay (mg_mono (mg_tuple rfl (off_kp k09 _ _ hM)) (toM k09)) mo_stay
        (mg_pt (pua_cons pu_c pua_nil) (Nat.le_of_ble_eq_true rfl)) TupV.stay fun x y z t H' h1 h2 h3 h4 => due_n h1 h2 h3 h4) mga_nil) (by decide) (by decide) b9 fun l3 H10 b10 k10 g3 => ?_
    change (_ : L2.St → Hp → Prop) [some (.ref p), some (.ref R), some (.ref M), some (.str z), some (.int (at_ : Int)), some (.int (far : Int)), some (.ref S1), some (xa), some (.ref S2), some (.ref S3), some (xn), some (.ref l3), none] H10
    have k010 := k09.trans k10
    refine seq_of (asg_of ?_)
    refine lg_cat (DueE.stay (p := p)) rfl g3 (mga_cons DueE.stay (mg_tup3 (F1 := fun x H => ∃ S, StOk (Off p H) x S L) (F2 := fun x H => MkBad (Off p H) x .non) (mg_mono (mg_tuple rfl (off_kp k010 _ _ hR)) (toS k010)) so_stay (mg_var rfl mb_stay (mbn.same (off_kp ((k8.trans k9).trans k10)))) mb_stay
        (mg_pt (pua_cons pu_c <| pua_cons pu_c <| pua_cons pu_c <| pua_cons pu_c <| pua_cons pu_c pua_nil) (Nat.le_of_ble_eq_true rfl)) TupV.stay fun x y z t H' h1 h2 h3 h4 => due_b h1 h2 (.inl rfl) h3 h4) <|
      mga_cons DueE.stay (mg_tup3 (F1 := fun x H => StBad (Off p H) x (.int (at_ : Int))) (F2 := fun _ _ => True) (mg_var rfl st_stay (st7.same (off_kp ((k8.trans k9).trans k10)))) st_stay (mg_var rfl (fun _ _ _ _ h => h) trivial) (fun _ _ _ _ h => h)
        (mg_pt (pua_cons pu_c <| pua_cons (pu_var rfl) <| pua_cons pu_c <| pua_cons pu_c <| pua_cons pu_c pua_nil) (Nat.le_of_ble_eq_true rfl)) TupV.stay fun x y z t H' h1 h2 h3 h4 => due_s h1 iat h3 h4) mga_nil) (by decide) (by decide) b10 fun l4 H11 b11 k11 g4 => ?_
    change (_ : L2.St → Hp → Prop) [some (.ref p), some (.ref R), some (.ref M), some (.str z), some (.int (at_ : Int)), some (.int (far : Int)), some (.ref S1), some (xa), some (.ref S2), some (.ref S3), some (xn), some (.ref l4), none] H11
    have k011 := k010.trans k11
    refine ret_of ?_
    obtain ⟨xs, ex, ax, lx⟩ := g4
    exact due_comp b11 ex ax fun H' b k => q H' b (k011.trans k)
end
end Jo

set_option Elab.async false
set_option linter.all false
set_option maxRecDepth 100000
set_option maxHeartbeats 4000000
namespace Jo
open PySem PySem.Spec PyProof.Rows L2
/-- what is due of states and events, in the heap G -/
def DueAt (G : Hp) (t : V) : Prop := ∃ a x y r, t = .ref a ∧ G a = some (.tup [x, y, .ref r]) ∧
  ((∃ d n, AnyD G n x d ∧ stD d = false ∧ Sz d 10000 4 ∧ G r = some (.tup [.str "state", .str d.shown, .bl true, .bl false])) ∨
   (∃ st d n, x = .int st ∧ 0 ≤ st ∧ st ≤ 99 ∧ AnyD G n y d ∧ Short d ∧ fullD d = false ∧ Sz d 10000 4 ∧ G r = some (.tup [.str "event", .str d.shown, .bl true, .bl false])) ∨
   ∃ st e es, x = .int st ∧ 0 ≤ st ∧ st ≤ 99 ∧ y = .ref e ∧ G e = some (.tup es) ∧ EvS es ∧ es.length ≠ 2 ∧ G r = some (.tup [.str "none"]))
theorem DueAt.same {G G' : Hp} {t : V} (s : Same G G') (h : DueAt G t) : DueAt G' t := by
  obtain ⟨a, x, y, r, e, h, w⟩ := h
  refine ⟨a, x, y, r, e, s _ _ h, ?_⟩
  rcases w with ⟨d, n, h1, h2, h3, h4⟩ | ⟨st, d, n, h1, h2, h3, h4, h5, h6, h7, h8⟩ | ⟨st, e, es, h1, h2, h3, h4, h5, h6, h7, h8⟩
  · exact .inl ⟨d, n, h1.same s, h2, h3, s _ _ h4⟩
  · exact .inr (.inl ⟨st, d, n, h1, h2, h3, h4.same s, h5, h6, h7, s _ _ h8⟩)
  · exact .inr (.inr ⟨st, e, es, h1, h2, h3, h4, s _ _ h5, h6, h7, s _ _ h8⟩)
def DueA (p : Addr) : V → Hp → Prop := fun t H => DueAt (Off p H) t
theorem DueA.stay {p : Addr} : Stay p (DueA p) := fun t H H' k h => h.same (off_kp k)
theorem full_no {d : PyData} (h : evD d = false) : fullD d = false := by
  cases d with
  | tuple ds => exact (congrArg (fun z => z && decide (ds.length ≠ 2)) h).trans (Bool.false_and _)
  | _ => rfl
section
variable {p : Addr} {H : Hp} {F G : V → Hp → Prop} {σ : L2.St} {te : TE} {ta tb : TA} {K : PySem.W.Frag} {n b c : L2.St → Hp → Prop} {r : VK} {i j m : Nat}
theorem par3_of {l : Nat} (h : ta σ H fun vs H1 => ∃ u v w, vs = [u, v, w] ∧ n (((σ.set i (some u)).set j (some v)).set l (some w)) H1) : tPar3 i j l ta ⟨n, r, b, c⟩ σ H := h
theorem nx_of (h : n σ H) : (Ends.mk n r b c).nx σ H := h
theorem drop_of (h : te σ H fun _ H1 => n σ H1) : tDrop te ⟨n, r, b, c⟩ σ H := h
theorem for_li {g : TG} {tb : TS} {D : Ends} (h : te σ H fun x H1 => ∃ p, x = .ref p ∧ (∃ xs, SqL K H1 p xs) ∧ tFor (fun _ H Q => Q (Itl K p) H) g tb D σ H1) : tFor (iList K te) g tb D σ H := h
/-- x is this value of these data -/
def IsV (p : Addr) (y : V) (d : PyData) (k : Nat) : V → Hp → Prop := fun x H => x = y ∧ AnyD (Off p H) k y d
theorem IsV.stay {p : Addr} {y : V} {d : PyData} {k : Nat} : Stay p (IsV p y d k) := fun x H H' k h => ⟨h.1, h.2.same (off_kp k)⟩
theorem pu_repr {x : V} {d : PyData} {k a b : Nat} (h : σ[i]? = some (some x)) (hd : AnyD (Off p H) k x d) (z : Sz d a b) (ha : a ≤ 2000000) (hb : b ≤ 60) : Pu p H (.str d.shown) σ (tCB (rReprA K) (tCons (tVar i) tNil)) := fun H1 Q k q =>
  ⟨_, h, repr_a ((hd.same (off_kp k)).same off_same) z ha hb q⟩
theorem lg_newN {Q : VK} {k : Nat} (s : Stay p F) (h : MGA p H F k σ ta) (hn : k ≤ 100) (hp : BagAt H p) (q : ∀ l H', H l = none → BagAt H' p → Kp p H H' → LsG p H' l F k → Q (.ref l) H') : tLst ta σ H Q :=
  h H _ hp (.refl _ _) fun xs H1 b1 k1 f1 l1 => ⟨by rw [l1]; exact Nat.le_trans hn (by decide), fun a na => q a _ (by
    cases e : H a with
    | none => rfl
    | some o => rw [k1 a o e (bag_ne b1 na)] at na; cases na) (bag_new b1 na) (k1.trans (kp_new na)) ⟨xs, off_new b1 na, fun x hx => s _ _ _ (kp_new na) (f1 x hx), l1⟩⟩
/-! beside the bag and one list -/
theorem off2_get {l a : Addr} {o : HO} (h : Off l (Off p H) a = some o) : a ≠ l ∧ a ≠ p ∧ H a = some o := ⟨(off_get h).1, off_get (off_get h).2⟩
theorem off2_of {l a : Addr} {o : HO} (h1 : a ≠ l) (h : Off p H a = some o) : Off l (Off p H) a = some o := off_of h1 h
theorem off2_new {H' : Hp} {l : Addr} (nl : H l = none) (k : Kp p H H') : Same (Off p H) (Off l (Off p H')) := fun b o e => by
  have e2 := off_get e
  refine off_of (fun z => ?_) (off_kp k b o e)
  rw [z, nl] at e2
  cases e2.2
theorem off2_kp {H' : Hp} {l : Addr} (k : Kp p H H') : Same (Off l (Off p H)) (Off l (Off p H')) := fun b o e => off_of (off_get e).1 (off_kp k b o (off_get e).2)
theorem off2_put {l : Addr} {o : HO} : Same (Off l (Off p H)) (Off l (Off p (upd H l o))) := fun b x e => by
  obtain ⟨h1, h2, h3⟩ := off2_get e
  exact off_of h1 (off_of h2 (by rw [upd_ne h1]; exact h3))
theorem app_row {l : Addr} {y : V} {d : PyData} {k : Nat} {xs : List V} (h6 : σ[6]? = some (some (.ref l))) (hj : σ[j]? = some (some y)) (hp : BagAt H p) (hl : Off p H l = some (.lst xs)) (hx : xs.length ≤ 100)
    (hy : AnyD (Off l (Off p H)) k y d) (hs : Short d) (hf : fullD d = false) (hz : Sz d 10000 4)
    (q : ∀ a H', BagAt H' p → Same (Off l (Off p H)) (Off l (Off p H')) → Off p H' l = some (.lst (xs ++ [.ref a])) → DueAt (Off l (Off p H')) (.ref a) → n σ H') :
    tDrop (tBM K "list" rAppend (tVar 6) (tCons (tTup (tCons (tC (.int 3)) (tCons (tVar j) (tCons (tTup (tCons (tC (.str "event")) (tCons (tCB (rReprA K) (tCons (tVar j) tNil)) (tCons (tC (.bl true)) (tCons (tC (.bl false)) tNil))))) tNil)))) tNil)) ⟨n, r, b, c⟩ σ H := by
  refine drop_of ⟨_, h6, .inl ⟨rfl, xs, sq_off hl⟩, cons_of (cons_of ⟨_, hj, cons_of (cons_of ⟨_, hj, tn (repr_a ((hy.same off_same).same off_same) hz (by decide) (by decide) ?_)⟩)⟩)⟩
  refine ⟨show 4 ≤ sizeLine by decide, fun r nr => ⟨show 3 ≤ sizeLine by decide, fun t nt => ?_⟩⟩
  have br := bag_new (o := .tup [.str "event", .str d.shown, .bl true, .bl false]) hp nr
  have kr : Kp p H (upd H r (.tup [.str "event", .str d.shown, .bl true, .bl false])) := kp_new nr
  have er := off_new (o := .tup [.str "event", .str d.shown, .bl true, .bl false]) hp nr
  have bt := bag_new (o := .tup [.int 3, y, .ref r]) br nt
  have kt : Kp p (upd H r (.tup [.str "event", .str d.shown, .bl true, .bl false])) (upd (upd H r (.tup [.str "event", .str d.shown, .bl true, .bl false])) t (.tup [.int 3, y, .ref r])) := kp_new nt
  have et := off_new (o := .tup [.int 3, y, .ref r]) br nt
  have er2 := off_kp kt _ _ er
  have el2 := off_kp (kr.trans kt) _ _ hl
  have ne1 : r ≠ l := ne_of er2 el2 (by intro z; cases z)
  have ne2 : t ≠ l := ne_of et el2 (by intro z; cases z)
  have nlp : l ≠ p := (off_get hl).1
  refine ⟨l, xs, .ref t, rfl, rfl, (off_get el2).2, Nat.lt_of_le_of_lt hx (by decide), ?_⟩
  have s1 := (off2_kp (l := l) (kr.trans kt)).trans (off2_put (p := p) (H := upd (upd H r (.tup [.str "event", .str d.shown, .bl true, .bl false])) t (.tup [.int 3, y, .ref r])) (l := l) (o := .lst (xs ++ [.ref t])))
  refine q t _ ?_ s1 (off_of nlp upd_same) ⟨t, .int 3, y, r, rfl, off2_put t _ (off2_of ne2 et), .inr (.inl ⟨3, d, k, rfl, by decide, by decide, hy.same s1, hs, hf, hz, off2_put r _ (off2_of ne1 er2)⟩)⟩
  obtain ⟨x, y, z, e⟩ := bt
  exact ⟨x, y, z, (upd_ne nlp.symm).trans e⟩
end
theorem dueA_comp {K : PySem.W.Frag} {C p l o S M : Addr} {L : List Row} {ms : List Int} {H : Hp} {Q : VK} {xs : List V} {s0 s2 s3 s4 s5 s7 s8 : Option V} (bp : BagAt H p) (RA : RuleAt C (Off p H) o S M L ms) (ex : Off p H l = some (.lst xs)) (ax : ∀ x ∈ xs, DueA p x H)
    (q : ∀ H', BagAt H' p → Kp p H H' → Q (.bl true) H') :
    tOp (rEqD K) (tLc (iList K (tVar 6)) (gName 8) (tTest (tOp rNe (tCB (rReprA K) (tCons (tCall (spAsked C) [] E0 (tCons (tVar 1) (tCons (tOp (rIxT K) (tVar 8) (tC (.int 0))) (tCons (tOp (rIxT K) (tVar 8) (tC (.int 1))) tNil)))) tNil))
      (tCB (rReprA K) (tCons (tOp (rIxT K) (tVar 8) (tC (.int 2))) tNil)))) (tVar 8) [8]) (tLst tNil) [s0, some (.ref o), s2, s3, s4, s5, some (.ref l), s7, s8] H Q := by
  refine ⟨_, rfl, l, rfl, ⟨_, sq_off ex⟩, fun Dl hD => lc_none walk_list hD (fun H2 s2 => SqL.of (s2 _ _ (off_get ex).2)) (fun i x Hc Hc' Qc hi s1 hy hq => ?_) (fun H2 s2 hD2 => ?_)⟩
  · obtain ⟨rfl, eb⟩ := hy
    have eb2 : xs[i]? = some x := eb
    obtain ⟨a, cx, cy, r, rfl, ha, wd⟩ := DueA.stay x _ _ (kp_of s1) (ax x (List.mem_of_getElem? eb2))
    refine ⟨rfl, ?_⟩
    refine ⟨_, rfl, ?_⟩
    refine ⟨_, rfl, a, _, 0, cx, rfl, rfl, .inl (.inl (off_same _ _ ha)), atI_nat (j := 0) rfl, ?_⟩
    refine ⟨_, rfl, a, _, 1, cy, rfl, rfl, .inl (.inl (off_same _ _ ha)), atI_nat (j := 1) rfl, ?_⟩
    refine ⟨o, S, M, L, ms, cx, cy, rfl, (RA.same (off_kp (kp_of s1))).same off_same, ?_⟩
    rcases wd with ⟨d, n, h1, h2, h3, hr2⟩ | ⟨st, d, n, h1, h2, h3, h4, h5, h6, h7, hr2⟩ | ⟨st, e, es, h1, h2, h3, h4, h5, h6, h7, hr2⟩
    · refine .inl ⟨d, n, h1.same off_same, h2, h3.le (by decide) (by decide), fun t H2 s2 ht => ?_⟩
      refine tn (repr_a (n := 3) (.tup ht (.cons (.str _) (.cons (.str _) (.cons (.bl _) (.cons (.bl _) .nil))))) (Sz.tup (n := 200000) (j := 4) (.cons (szs (by decide) (by decide)) (.cons (.str (n := 10000) (m := 100002) h3.lo h3.len (by decide)) (.cons (Sz.bl _) (.cons (Sz.bl _) szn)))) (by decide) (by decide)) (by decide) (by decide) ?_)
      refine ⟨_, rfl, a, _, 2, .ref r, rfl, rfl, .inl (.inl (s2 _ _ (off_same _ _ ha))), atI_nat (j := 2) rfl, ?_⟩
      refine tn (repr_a (n := 3) (.tup (s2 _ _ (off_same _ _ hr2)) (.cons (.str _) (.cons (.str _) (.cons (.bl _) (.cons (.bl _) .nil))))) (Sz.tup (n := 200000) (j := 4) (.cons (szs (by decide) (by decide)) (.cons (.str (n := 10000) (m := 100002) h3.lo h3.len (by decide)) (.cons (Sz.bl _) (.cons (Sz.bl _) szn)))) (by decide) (by decide)) (by decide) (by decide) ?_)
      refine ⟨rfl, _, rfl, ?_⟩
      rw [ne_self]
      exact hq _ _ s2
    · refine .inr (.inl ⟨st, d, n, h1, h2, h3, h4.same off_same, h5, h6, h7.le (by decide) (by decide), fun t H2 s2 ht => ?_⟩)
      refine tn (repr_a (n := 3) (.tup ht (.cons (.str _) (.cons (.str _) (.cons (.bl _) (.cons (.bl _) .nil))))) (Sz.tup (n := 200000) (j := 4) (.cons (szs (by decide) (by decide)) (.cons (.str (n := 10000) (m := 100002) h7.lo h7.len (by decide)) (.cons (Sz.bl _) (.cons (Sz.bl _) szn)))) (by decide) (by decide)) (by decide) (by decide) ?_)
      refine ⟨_, rfl, a, _, 2, .ref r, rfl, rfl, .inl (.inl (s2 _ _ (off_same _ _ ha))), atI_nat (j := 2) rfl, ?_⟩
      refine tn (repr_a (n := 3) (.tup (s2 _ _ (off_same _ _ hr2)) (.cons (.str _) (.cons (.str _) (.cons (.bl _) (.cons (.bl _) .nil))))) (Sz.tup (n := 200000) (j := 4) (.cons (szs (by decide) (by decide)) (.cons (.str (n := 10000) (m := 100002) h7.lo h7.len (by decide)) (.cons (Sz.bl _) (.cons (Sz.bl _) szn)))) (by decide) (by decide)) (by decide) (by decide) ?_)
      refine ⟨rfl, _, rfl, ?_⟩
      rw [ne_self]
      exact hq _ _ s2
    · refine .inr (.inr ⟨st, e, es, h1, h2, h3, h4, off_same _ _ h5, h6, h7, fun t H2 s2 ht => ?_⟩)
      refine tn (repr_a (n := 3) (.tup ht (.cons (.str _) .nil)) ((Sz.tup (.cons (szs (by decide) (by decide)) szn) (Nat.le_refl _) (Nat.le_refl _)).le (m := 10000) (j := 4) (by decide) (by decide)) (by decide) (by decide) ?_)
      refine ⟨_, rfl, a, _, 2, .ref r, rfl, rfl, .inl (.inl (s2 _ _ (off_same _ _ ha))), atI_nat (j := 2) rfl, ?_⟩
      refine tn (repr_a (n := 3) (.tup (s2 _ _ (off_same _ _ hr2)) (.cons (.str _) .nil)) ((Sz.tup (.cons (szs (by decide) (by decide)) szn) (Nat.le_refl _) (Nat.le_refl _)).le (m := 10000) (j := 4) (by decide) (by decide)) (by decide) (by decide) ?_)
      refine ⟨rfl, _, rfl, ?_⟩
      rw [ne_self]
      exact hq _ _ s2
  · refine ⟨show 0 ≤ sizeLine by decide, fun b nb => ?_⟩
    refine ⟨.list [], .list [], .lst (SqL.of (same_new nb _ _ hD2)) .nil, .lst (SqL.of upd_same) .nil, by decide, by decide, ?_⟩
    have bH2 : BagAt H2 p := bp.same s2
    exact q _ (bag_new bH2 nb) ((kp_of s2).trans (kp_new nb))
/-- a row with the value xo and these words -/
def RowS (p : Addr) (xo : V) (es : List V) : V → Hp → Prop := fun t H => ∃ a r y, t = .ref a ∧ Off p H a = some (.tup [xo, y, .ref r]) ∧ Off p H r = some (.tup es)
theorem RowS.stay {p : Addr} {xo : V} {es : List V} : Stay p (RowS p xo es) := fun t H H' k ⟨a, r, y, e, h1, h2⟩ => ⟨a, r, y, e, off_kp k _ _ h1, off_kp k _ _ h2⟩
def Sht (p : Addr) (z : Str) : V → Hp → Prop := fun t H => ∃ w, w ∈ wordsE ∧ TupV p [.str w, .str z] t H
theorem Sht.stay {p : Addr} {z : Str} : Stay p (Sht p z) := fun t H H' k ⟨w, hw, h⟩ => ⟨w, hw, TupV.stay _ _ _ k h⟩
theorem sht_data {w z : Str} (hw : w ∈ wordsE) (hz : nmS z = true) : Short (.tuple [.str w, .str z]) ∧ fullD (.tuple [.str w, .str z]) = false ∧ Sz (.tuple [.str w, .str z]) 10000 4 := by
  obtain ⟨n1, n2, _, n4⟩ := nm_parts hz
  have lw : ∀ c ∈ z.cps.toList, c < 128 := fun c hc => sign_low c (n4 c hc)
  have ww : ∀ w ∈ wordsE, w.length ≤ 16 ∧ ∀ c ∈ w.cps.toList, c < 128 := by decide +kernel
  obtain ⟨w1, w2⟩ := ww w hw
  refine ⟨short_tup (allc (she_s (by omega) w2) (allc (she_s (by omega) lw) alln)), ?_, .tup (.cons (szs w1 w2) (.cons (szs (by omega) lw) szn)) (by decide) (by decide)⟩
  exact Bool.and_false _
section
variable {P : Program} {w : World} {K : PySem.W.Frag} {mg : Str → Option Value} {base : Heap} {C Cs Cb Cv Cm Br Bs Bl : Addr}
def n_after_right : List Str := ["_law_bag_here", "_law_rule", "_law_name_here", "_law_odd", "_law_thing", "_law_good", "_law_due", "_law_short", "_law_row"]
theorem sc_after_right : FnScope n_after_right ["_law_bag_here", "_law_rule", "_law_name_here"] (defScope s_after_right) := ⟨rfl, rfl, rfl, by decide +kernel, rfl, by decide +kernel, by decide +kernel⟩
def spAfterR (C : Addr) : Sp := fun vs H Q _ => ∃ (p o S M : Addr) (z : Str) (L : List Row) (ms : List Int), vs = [.ref p, .ref o, .str z] ∧ BagAt H p ∧ nmS z = true ∧ RuleAt C (Off p H) o S M L ms ∧ ∀ H', BagAt H' p → Kp p H H' → Q (.bl true) H'
theorem ok_after_right (T : Txt K mg) (D : Dfn K mg "_law_after_right" s_after_right ["_law_bag_here", "_law_rule", "_law_name_here"])
    (c_wrong_state : CalG P w K mg base 2 "_law_wrong_state" ["_law_bag_here"] spWrongS)
    (c_wrong_event : CalG P w K mg base 2 "_law_wrong_event" ["_law_bag_here", "_law_name_here"] spWrongE) (c_asked : CalG P w K mg base 7 "_law_asked" ["_law_rule", "_law_here", "_law_happens"] (spAsked C)) :
    CalG P w K mg base 8 "_law_after_right" ["_law_bag_here", "_law_rule", "_law_name_here"] (spAfterR C) := by
  refine D.ok sc_after_right (fun vs H Q E h => ?_) (fun f cdv A fr s H vs Q E hr hgd h => ?_)
  · obtain ⟨p, o, S, M, z, L, ms, rfl, _⟩ := h
    rfl
  · obtain ⟨p, o, S, M, z, L, ms, rfl, hp, hz, RA, q⟩ := h
    refine ⟨_, pss_cons (ps_par3 (i := 3) (j := 4) (l := 5) rfl sc_after_right.nd rfl rfl rfl (by decide) (by decide) (by decide) rfl rfl rfl (pa_cons (pe_cG c_wrong_state hr (by decide) hgd rfl (pa_cons (pv 0) pa_nil)) (pa_cons (pe_cG c_wrong_event hr (by decide) hgd rfl (pa_cons (pv 0) (pa_cons (pv 2) pa_nil))) (pa_cons (pe_tup (pa_cons pe_str (pa_cons (pv 2) (pa_cons pe_int pa_nil)))) pa_nil))) rfl)
      (pss_cons (ps_set (i := 6) sc_after_right.nd rfl (.inl rfl) (pe_lst (pa_cons (pe_tup (pa_cons (pv 3) (pa_cons (pv 5) (pa_cons (pe_tup (pa_cons pe_str (pa_cons (pe_callB (id := "repr") (r := rReprA K) (call_reprA hgd hr.units) rfl T.b_repr (by decide +kernel) (pa_cons (pv 3) pa_nil)) (pa_cons pe_bl (pa_cons pe_bl pa_nil))))) pa_nil)))) (pa_cons (pe_tup (pa_cons (pv 3) (pa_cons (pv 4) (pa_cons (pe_tup (pa_cons pe_str (pa_cons (pe_callB (id := "repr") (r := rReprA K) (call_reprA hgd hr.units) rfl T.b_repr (by decide +kernel) (pa_cons (pv 3) pa_nil)) (pa_cons pe_bl (pa_cons pe_bl pa_nil))))) pa_nil)))) pa_nil))))
      (pss_cons (ps_expr (pe_bm PySem.F.plainAttrs_list PySem.F.slot_list_append PySem.F.type_list_append mt_append (pv 6) (pa_cons (pe_tup (pa_cons pe_int (pa_cons (pv 4) (pa_cons (pe_tup (pa_cons pe_str (pa_cons (pe_callB (id := "repr") (r := rReprA K) (call_reprA hgd hr.units) rfl T.b_repr (by decide +kernel) (pa_cons (pv 4) pa_nil)) (pa_cons pe_bl (pa_cons pe_bl pa_nil))))) pa_nil)))) pa_nil)))
      (pss_cons (ps_for PassesOwn.never rfl (pi_list (pe_lst (pa_cons (pe_tup (pa_cons pe_str (pa_cons (pv 2) pa_nil))) (pa_cons (pe_tup (pa_cons pe_str (pa_cons (pv 2) pa_nil))) (pa_cons (pe_tup (pa_cons pe_str (pa_cons (pv 2) pa_nil))) (pa_cons (pe_tup (pa_cons pe_str (pa_cons (pv 2) pa_nil))) pa_nil)))))) (pg_name (i := 7) sc_after_right.nd rfl (.inl rfl))
        (pss_one (ps_expr (pe_bm PySem.F.plainAttrs_list PySem.F.slot_list_append PySem.F.type_list_append mt_append (pv 6) (pa_cons (pe_tup (pa_cons pe_int (pa_cons (pv 7) (pa_cons (pe_tup (pa_cons pe_str (pa_cons (pe_callB (id := "repr") (r := rReprA K) (call_reprA hgd hr.units) rfl T.b_repr (by decide +kernel) (pa_cons (pv 7) pa_nil)) (pa_cons pe_bl (pa_cons pe_bl pa_nil))))) pa_nil)))) pa_nil)))))
      (pss_cons (ps_set (i := 6) sc_after_right.nd rfl (.inl rfl) (pe_op op_cat (pv 6) (pe_lst (pa_cons (pe_tup (pa_cons pe_int (pa_cons (pv 5) (pa_cons (pe_tup (pa_cons pe_str pa_nil)) pa_nil)))) (pa_cons (pe_tup (pa_cons pe_int (pa_cons (pe_tup (pa_cons pe_str pa_nil)) (pa_cons (pe_tup (pa_cons pe_str pa_nil)) pa_nil)))) pa_nil)))))
      (pss_one (ps_ret (pe_cmpR (op_eqD hr.units) (pe_lc (own := [("_law_row", 8)]) (g := gName 8) rfl sc_after_right.nd (pi_list (pv 6)) (blkOk_by (N := n_after_right) (sc := defScope s_after_right) (by decide +kernel)) (fun _ _ _ _ _ => pg_name (i := 8) sc_after_right.nd rfl (Or.inl rfl)) (fun _ _ _ _ _ => (pts_one (pt_cmpR op_ne (pe_callB (id := "repr") (r := rReprA K) (call_reprA hgd hr.units) rfl T.b_repr (by decide +kernel) (pa_cons (pe_cG c_asked hr (by decide) hgd rfl (pa_cons (pv 1) (pa_cons (pe_ix (r := rIxT K) ix_tup (pv 8) pe_int (fun _ _ => rfl)) (pa_cons (pe_ix (r := rIxT K) ix_tup (pv 8) pe_int (fun _ _ => rfl)) pa_nil)))) pa_nil)) (pe_callB (id := "repr") (r := rReprA K) (call_reprA hgd hr.units) rfl T.b_repr (by decide +kernel) (pa_cons (pe_ix (r := rIxT K) ix_tup (pv 8) pe_int (fun _ _ => rfl)) pa_nil)) (nomark _)))) (fun _ _ _ _ _ => (pv 8))) (pe_lst pa_nil) (nomark _)))))))), ?_⟩
    obtain ⟨nz1, nz2, _, _⟩ := nm_parts hz
    refine seq_of (par3_of (cons_of ⟨_, rfl, p, rfl, hp, fun xo d_o H1 b1 k1 ao wo => cons_of ⟨_, rfl, _, rfl, p, z, rfl, b1, hz, fun xt dt H2 b2 k2 at_ wt => cons_of ?_⟩⟩))
    refine mg_pt (p := p) (H := H2) (vs := [.str "out", .str z, .int 4]) (pua_cons pu_c <| pua_cons (pu_var rfl) <| pua_cons pu_c pua_nil) (Nat.le_of_ble_eq_true rfl) H2 _ b2 (.refl _ _) fun xg H3 b3 k3 hg => ?_
    obtain ⟨g, rfl, eg⟩ := hg
    refine ⟨_, _, _, rfl, ?_⟩
    have evg : EvS [.str "out", .str z, .int 4] := .three (by decide +kernel) hz nz2 (by decide)
    have k03 := (k1.trans k2).trans k3
    have ao3 := ao.same (off_kp (k2.trans k3))
    have at3 := at_.same (off_kp k3)
    have Zo : Sz d_o 10000 4 := wo.sz.le (by decide) (by decide)
    have Zt : Sz dt 10000 4 := wt.sz
    change (_ : L2.St → Hp → Prop) [some (.ref p), some (.ref o), some (.str z), some xo, some xt, some (.ref g), none, none, none] H3
    refine seq_of (asg_of ?_)
    refine lg_newN (F := RowS p xo [.str "state", .str d_o.shown, .bl true, .bl false]) RowS.stay (mga_cons RowS.stay (mg_tup3 (F1 := IsV p xo d_o 4) (F2 := fun _ _ => True) (mg_var rfl IsV.stay ⟨rfl, ao3⟩) IsV.stay (mg_var rfl (fun _ _ _ _ h => h) trivial) (fun _ _ _ _ h => h)
        (mg_pt (pua_cons pu_c <| pua_cons (pu_repr rfl ao3 Zo (by decide) (by decide)) <| pua_cons pu_c <| pua_cons pu_c pua_nil) (Nat.le_of_ble_eq_true rfl)) TupV.stay fun x y z t H' h1 h2 h3 h4 => by
          obtain ⟨r, rfl, hr⟩ := h3
          obtain ⟨rfl, h1⟩ := h1
          exact ⟨t, r, y, rfl, h4, hr⟩) <|
      mga_cons RowS.stay (mg_tup3 (F1 := IsV p xo d_o 4) (F2 := fun _ _ => True) (mg_var rfl IsV.stay ⟨rfl, ao3⟩) IsV.stay (mg_var rfl (fun _ _ _ _ h => h) trivial) (fun _ _ _ _ h => h)
        (mg_pt (pua_cons pu_c <| pua_cons (pu_repr rfl ao3 Zo (by decide) (by decide)) <| pua_cons pu_c <| pua_cons pu_c pua_nil) (Nat.le_of_ble_eq_true rfl)) TupV.stay fun x y z t H' h1 h2 h3 h4 => by
          obtain ⟨r, rfl, hr⟩ := h3
          obtain ⟨rfl, h1⟩ := h1
          exact ⟨t, r, y, rfl, h4, hr⟩) mga_nil) (by decide) b3 fun l H4 nl b4 k4 g1 => ?_
    change (_ : L2.St → Hp → Prop) [some (.ref p), some (.ref o), some (.str z), some xo, some xt, some (.ref g), some (.ref l), none, none] H4
    -- beside the list, too
    have s34 : Same (Off p H3) (Off l (Off p H4)) := off2_new nl k4
    obtain ⟨xs, ex, ax, lx⟩ := g1
    have ao4 := ao3.same s34
    have at4 := at3.same s34
    have ax2 : ∀ x ∈ xs, DueAt (Off l (Off p H4)) x := fun x hx => by
      obtain ⟨a, r, y, rfl, h1, h2⟩ := ax x hx
      exact ⟨a, xo, y, r, rfl, off2_of (ne_of h1 ex (by intro z; cases z)) h1, .inl ⟨d_o, 4, ao4, wo.no, Zo, off2_of (ne_of h2 ex (by intro z; cases z)) h2⟩⟩
    refine seq_of ?_
    refine app_row (j := 4) rfl rfl b4 ex (by rw [lx]; decide) at4 wt.sh (full_no wt.no) Zt fun a5 H5 b5 s5 e5 d5 => ?_
    have ax5 : ∀ x ∈ xs ++ [.ref a5], DueAt (Off l (Off p H5)) x := fun x hx => by
      rcases List.mem_append.mp hx with hx | hx
      · exact (ax2 x hx).same s5
      · rw [List.mem_singleton.mp hx]
        exact d5
    -- the short ones
    refine seq_of ?_
    refine for_li ?_
    refine lg_newN (F := Sht p z) Sht.stay (mga_cons Sht.stay (mg_mono (mg_pt (vs := [.str "call", .str z]) (pua_cons pu_c <| pua_cons (pu_var rfl) pua_nil) (Nat.le_of_ble_eq_true rfl)) fun x H' _ h => ⟨_, by decide +kernel, h⟩) <|
      mga_cons Sht.stay (mg_mono (mg_pt (vs := [.str "answer", .str z]) (pua_cons pu_c <| pua_cons (pu_var rfl) pua_nil) (Nat.le_of_ble_eq_true rfl)) fun x H' _ h => ⟨_, by decide +kernel, h⟩) <|
      mga_cons Sht.stay (mg_mono (mg_pt (vs := [.str "out", .str z]) (pua_cons pu_c <| pua_cons (pu_var rfl) pua_nil) (Nat.le_of_ble_eq_true rfl)) fun x H' _ h => ⟨_, by decide +kernel, h⟩) <|
      mga_cons Sht.stay (mg_mono (mg_pt (vs := [.str "back", .str z]) (pua_cons pu_c <| pua_cons (pu_var rfl) pua_nil) (Nat.le_of_ble_eq_true rfl)) fun x H' _ h => ⟨_, by decide +kernel, h⟩) mga_nil) (by decide) b5 fun q6 H6 nq6 b6 k6 g6 => ?_
    obtain ⟨ys, ey, ay, ly⟩ := g6
    have s56 : Same (Off l (Off p H5)) (Off l (Off p H6)) := off2_kp k6
    have e6 := off_kp k6 _ _ e5
    have nql : q6 ≠ l := fun z => by
      have h := (off_get e5).2
      rw [← z, nq6] at h
      cases h
    have hq6 : Off l (Off p H6) q6 = some (.lst ys) := off2_of nql ey
    have ay2 : ∀ x ∈ ys, ∃ w t, w ∈ wordsE ∧ x = .ref t ∧ Off l (Off p H6) t = some (.tup [.str w, .str z]) := fun x hx => by
      obtain ⟨w, hw, t, rfl, h⟩ := ay x hx
      exact ⟨w, t, hw, rfl, off2_of (ne_of h e6 (by intro z; cases z)) h⟩
    refine ⟨q6, rfl, ⟨_, sq_off ey⟩, for_list (xs := ys) (fun i σ H7 => BagAt H7 p ∧ Same (Off l (Off p H6)) (Off l (Off p H7)) ∧ (∃ zs, Off p H7 l = some (.lst zs) ∧ (∀ x ∈ zs, DueAt (Off l (Off p H7)) x) ∧ zs.length = 3 + i) ∧
        ∃ y7, σ = [some (.ref p), some (.ref o), some (.str z), some xo, some xt, some (.ref g), some (.ref l), y7, none])
      ⟨b6, .refl _, ⟨_, e6, fun x hx => (ax5 x hx).same s56, by rw [List.length_append, lx]; rfl⟩, none, rfl⟩ (fun i σ H7 hi hp7 => SqL.of (off2_get (hp7.2.1 _ _ hq6)).2.2) (fun i x σ H7 hx hp7 => ?_) (fun σ H7 hp7 => ?_)⟩
    · obtain ⟨b7, s7, ⟨zs, e7, a7, l7⟩, y7, rfl⟩ := hp7
      obtain ⟨w, t, hw, rfl, ht⟩ := ay2 x (List.mem_of_getElem? hx)
      obtain ⟨f1, f2, f3⟩ := sht_data hw hz
      have hi4 : i < 4 := by
        have := (List.getElem?_eq_some_iff.mp hx).1
        omega
      refine app_row (j := 7) (k := 2) rfl rfl b7 e7 (by omega) (.tup (s7 _ _ ht) (.cons (.str _) (.cons (.str _) .nil))) f1 f2 f3 fun a8 H8 b8 s8 e8 d8 => ?_
      refine ⟨b8, s7.trans s8, ⟨_, e8, fun x hx => ?_, by rw [List.length_append, l7]; rfl⟩, _, rfl⟩
      rcases List.mem_append.mp hx with hx | hx
      · exact (a7 x hx).same s8
      · rw [List.mem_singleton.mp hx]
        exact d8
    · obtain ⟨b7, s7, ⟨zs, e7, a7, l7⟩, y7, rfl⟩ := hp7
      have sAll : Same (Off p H3) (Off l (Off p H7)) := ((s34.trans s5).trans s56).trans s7
      have k37 : Kp p H3 H7 := fun b x e n => (off2_get (sAll b x (off_of n e))).2.2
      have g7 : LsG p H7 l (DueA p) zs.length := ⟨zs, e7, fun x hx => (a7 x hx).same off_same, rfl⟩
      refine nx_of (seq_of (asg_of ?_))
      refine lg_cat (DueA.stay (p := p)) rfl g7 (mga_cons DueA.stay (mg_tup3 (F1 := fun x H => x = .int 0) (F2 := TupV p [.str "out", .str z, .int 4]) (mg_c fun _ => rfl) (fun _ _ _ _ h => h) (mg_var rfl TupV.stay ⟨g, rfl, off_kp k37 _ _ eg⟩) TupV.stay
          (mg_pt (pua_cons pu_c pua_nil) (Nat.le_of_ble_eq_true rfl)) TupV.stay fun x y zz t H' h1 h2 h3 h4 => by
            obtain ⟨r, rfl, hr⟩ := h3
            obtain ⟨e, rfl, he⟩ := h2
            subst h1
            exact ⟨t, _, _, r, rfl, h4, .inr (.inr ⟨0, e, _, rfl, by decide, by decide, rfl, he, evg, (by show 3 ≠ 2; decide), hr⟩)⟩) <|
        mga_cons DueA.stay (mg_tup3 (F1 := fun x H => x = .int 99) (F2 := TupV p [.str "hang"]) (mg_c fun _ => rfl) (fun _ _ _ _ h => h) (mg_pt (pua_cons pu_c pua_nil) (Nat.le_of_ble_eq_true rfl)) TupV.stay
          (mg_pt (pua_cons pu_c pua_nil) (Nat.le_of_ble_eq_true rfl)) TupV.stay fun x y zz t H' h1 h2 h3 h4 => by
            obtain ⟨r, rfl, hr⟩ := h3
            obtain ⟨e, rfl, he⟩ := h2
            subst h1
            exact ⟨t, _, _, r, rfl, h4, .inr (.inr ⟨99, e, _, rfl, by decide, by decide, rfl, he, .hang, by decide, hr⟩)⟩) mga_nil) (by decide) (by omega) b7 fun l9 H9 b9 k9 g9 => ?_
      change (_ : L2.St → Hp → Prop) [some (.ref p), some (.ref o), some (.str z), some xo, some xt, some (.ref g), some (.ref l9), y7, none] H9
      refine ret_of ?_
      obtain ⟨us, eu, au, _⟩ := g9
      exact dueA_comp b9 (RA.same (off_kp ((k03.trans k37).trans k9))) eu au fun H' b k => q H' b (((k03.trans k37).trans k9).trans k)
end
end Jo

set_option Elab.async false
set_option linter.all false
set_option maxRecDepth 100000
set_option maxHeartbeats 4000000
namespace Jo
open PySem PySem.Spec PyProof.Rows L2
theorem pass0N {X : Cx} : ∀ σ, PassesAt (L2N.CX X.prog X.w) X σ (fun _ _ _ => False) := fun σ pins H s e s' I c => by
  obtain ⟨_, _, _, _, _, _, _, _, _, _, _, _, z⟩ := c
  exact z.elim
section
variable {p : Addr} {H H' : Hp}
theorem ne_bag {a : Addr} {o : HO} (hp : BagAt H p) (h : H a = some o) (n : ∀ xs, o ≠ .lst xs) : a ≠ p := by
  obtain ⟨_, _, _, e⟩ := hp
  exact ne_of h e (n _)
theorem RowAt.off {r : Row} (h : RowAt H r) (hp : BagAt H p) : RowAt (Off p H) r := ⟨off_of (ne_bag hp h.row (fun _ z => by cases z)) h.row, off_of (ne_bag hp h.ev (fun _ z => by cases z)) h.ev, h.ok, h.b0, h.b1, h.l0, h.l1⟩
theorem RuleAt.off {C o S M : Addr} {L : List Row} {ms : List Int} (h : RuleAt C H o S M L ms) (hp : BagAt H p) : RuleAt C (Off p H) o S M L ms :=
  ⟨let ⟨dx, e⟩ := h.ob; ⟨dx, off_of (ne_bag hp e (fun _ z => by cases z)) e⟩, off_of (ne_bag hp h.st (fun _ z => by cases z)) h.st, off_of (ne_bag hp h.bd (fun _ z => by cases z)) h.bd, fun r hr => (h.rows r hr).off hp⟩
/-- sizes of the rows -/
theorem ev_sz {xs : List V} (h : EvS xs) : Sz (.tuple (xs.map toD)) 3000 1 := by
  have ww : ∀ w ∈ wordsE, w.length ≤ 16 ∧ ∀ c ∈ w.cps.toList, c < 128 := by decide +kernel
  cases h with
  | hang => exact .tup (.cons (szs (by decide) (by decide)) szn) (by decide) (by decide)
  | @two w n hw hn hl =>
    obtain ⟨w1, w2⟩ := ww w hw
    exact .tup (.cons (szs w1 w2) (.cons (szs (by omega) fun c hc => sign_low c ((nm_parts hn).2.2.2 c hc)) szn)) (by decide) (by decide)
  | @three w n v hw hn hl hv =>
    obtain ⟨w1, w2⟩ := ww w hw
    exact .tup (.cons (szs w1 w2) (.cons (szs (by omega) fun c hc => sign_low c ((nm_parts hn).2.2.2 c hc)) (.cons (szi (Nat.lt_of_lt_of_le (PySem.Flt.log2_lt_of (by decide) hv) (by decide))) szn))) (by decide) (by decide)
theorem st_sz {n : Int} (h0 : 0 ≤ n) (h1 : n ≤ 99) : Sz (.int n) 1921 0 := szi (Nat.lt_of_lt_of_le (PySem.Flt.log2_lt_of (k := 7) (by decide) (show n.natAbs < 2 ^ 7 by omega)) (by decide))
theorem row_sz {r : Row} (R : RowAt H r) : Sz (rowD r) 8000 2 := .tup (.cons (st_sz R.b0 R.b1) (.cons (ev_sz R.ok) (.cons (st_sz R.l0 R.l1) szn))) (by decide) (by decide)
theorem rows_sz : ∀ {L : List Row}, (∀ r ∈ L, RowAt H r) → SzAll (L.map rowD) (8002 * L.length) 2
  | [], _ => .nil
  | r :: L, h => by
    have e : SzAll (rowD r :: L.map rowD) (8000 + 2 + 8002 * L.length) (max 2 2) := .cons (row_sz (h r List.mem_cons_self)) (rows_sz fun q hq => h q (List.mem_cons_of_mem _ hq))
    have e2 : 8002 * (r :: L).length = 8000 + 2 + 8002 * L.length := by rw [List.length_cons]; omega
    rw [e2]
    exact e
theorem ints_sz : ∀ {ms : List Int}, (∀ m ∈ ms, 0 ≤ m ∧ m ≤ 99) → SzAll (ms.map PyData.int) (1923 * ms.length) 0
  | [], _ => .nil
  | m :: r, h => by
    have e : SzAll (PyData.int m :: r.map PyData.int) (1921 + 2 + 1923 * r.length) (max 0 0) := .cons (st_sz (h m List.mem_cons_self).1 (h m List.mem_cons_self).2) (ints_sz fun q hq => h q (List.mem_cons_of_mem _ hq))
    have e2 : 1923 * (m :: r).length = 1921 + 2 + 1923 * r.length := by rw [List.length_cons]; omega
    rw [e2]
    exact e
def bothD (L : List Row) (ms : List Int) : PyData := .list [.tuple (L.map rowD), .tuple (ms.map PyData.int)]
theorem both_sz {L : List Row} {ms : List Int} (h : ∀ r ∈ L, RowAt H r) (l4 : L.length ≤ 4) (hm : MsOk ms) (m3 : ms.length ≤ 3) : Sz (bothD L ms) 100000 4 :=
  .lst (.cons (.tup (n := 40000) (j := 3) (rows_sz h) (by omega) (by decide)) (.cons (.tup (n := 10000) (j := 1) (ints_sz hm.2) (by omega) (by decide)) szn)) (by decide) (by decide)
theorem both_any {a S M : Addr} {L : List Row} {ms : List Int} (ha : (a == sysModules) = false) (h : H a = some (.lst [.ref S, .ref M])) (hS : H S = some (.tup (L.map fun r => .ref r.t))) (hM : H M = some (.tup (ms.map V.int))) (hL : ∀ r ∈ L, RowAt H r) : AnyD H 6 (.ref a) (bothD L ms) := by
  have rows : ∀ {L : List Row}, (∀ r ∈ L, RowAt H r) → Paired (AnyD H 4) (L.map fun r => .ref r.t) (L.map rowD) := fun {L} => by
    induction L with
    | nil => exact fun _ => .nil
    | cons r L ih => exact fun h => .cons (AnyD.up (h r List.mem_cons_self).anyd) (ih fun q hq => h q (List.mem_cons_of_mem _ hq))
  have intz : ∀ {ms : List Int}, Paired (AnyD H 4) (ms.map V.int) (ms.map PyData.int) := fun {ms} => by
    induction ms with
    | nil => exact .nil
    | cons m r ih => exact .cons (.int _) ih
  exact .lst ha h (.cons (.tup hS (rows hL)) (.cons (.tup hM intz) .nil))
end
theorem RowAt.del {D : Addr} {H : Hp} {r : Row} (h : RowAt (del H D) r) : RowAt H r := h.same fun _ _ e => (off_get e).2
/-- a list of marks -/
def LstM (p : Addr) : V → Hp → Prop := fun x H => ∃ ms l, ms ∈ marksM ∧ x = .ref l ∧ Off p H l = some (.lst (ms.map V.int))
theorem LstM.stay {p : Addr} : Stay p (LstM p) := fun x H H' k ⟨ms, l, h1, e, h⟩ => ⟨ms, l, h1, e, off_kp k _ _ h⟩
theorem mg_lm {p : Addr} {H : Hp} {σ : L2.St} {ta : TA} {ms : List Int} (h : PuA p H (ms.map V.int) σ ta) (hm : ms ∈ marksM) : MG p H (LstM p) σ (tLst ta) := fun H1 Q b k q =>
  h H1 _ k ⟨Nat.le_trans (show (ms.map V.int).length ≤ 3 by rw [List.length_map]; exact (marks_ok ms hm).2.1) (by decide), fun t nt => q _ _ (bag_new b nt) (kp_new nt) ⟨ms, t, hm, rfl, off_new b nt⟩⟩
section
variable {P : Program} {w : World} {K : PySem.W.Frag} {mg : Str → Option Value} {base : Heap} {C fi Cs Cb Cv Cm Br Bs Bl : Addr}
def n_right : List Str := ["_law_bag_here", "_law_name_here", "_law_rows", "_law_marks", "_law_rule", "_law_k"]
theorem sc_right : FnScope n_right ["_law_bag_here"] (defScope s_right) := ⟨rfl, rfl, rfl, by decide +kernel, rfl, by decide +kernel, by decide +kernel⟩
def spRight : Sp := fun vs H Q _ => ∃ p : Addr, vs = [.ref p] ∧ BagAt H p ∧ ∀ H', Kp p H H' → Q (.bl true) H'
theorem ok_right (T : Txt K mg) (RT : RTxt K mg C) (M0 : Mk K C fi) (D : Dfn K mg "_law_right" s_right ["_law_bag_here"])
    (m_init : MtX P w K mg base 5 C "__init__" ["self", "steps", "bad"] (spInit C Cs Cb))
    (c_pick : CalG P w K mg base 1 "_law_pick" ["_law_bag_here", "_law_many"] spPick) (c_name : CalG P w K mg base 2 "_law_name" ["_law_bag_here", "_law_k"] spName)
    (c_made_right : CalG P w K mg base 8 "_law_made_right" ["_law_bag_here", "_law_rows", "_law_marks", "_law_name_here"] spMade)
    (c_after_right : CalG P w K mg base 8 "_law_after_right" ["_law_bag_here", "_law_rule", "_law_name_here"] (spAfterR C)) :
    CalG P w K mg base 9 "_law_right" ["_law_bag_here"] spRight := by
  refine D.ok sc_right (fun vs H Q E h => ?_) (fun f cdv A fr s H vs Q E hr hgd h => ?_)
  · obtain ⟨p, rfl, _⟩ := h
    rfl
  · obtain ⟨p, rfl, hp, q⟩ := h
    refine ⟨_, pss_cons (ps_set (i := 1) sc_right.nd rfl (.inr rfl) (pe_cG c_name hr (by decide) hgd rfl (pa_cons (pv 0) (pa_cons (pe_cG c_pick hr (by decide) hgd rfl (pa_cons (pv 0) (pa_cons pe_int pa_nil))) pa_nil))))
      (pss_cons (ps_setLc (i := 2) (own := [("_law_k", 5)]) (g := gName 5) (tt := tYes) rfl sc_right.nd rfl rfl (sw_true rfl rfl rfl (by decide +kernel)) (pi_range1 rfl T.b_range (pa_cons (pe_cG c_pick hr (by decide) hgd rfl (pa_cons (pv 0) (pa_cons pe_int pa_nil))) pa_nil)) (blkOk_by (N := n_right) (sc := defScope s_right) (by decide +kernel)) (fun _ _ _ _ _ => pg_name (i := 5) sc_right.nd rfl (Or.inl rfl)) (fun _ _ _ _ _ => pts_nil) (fun _ _ _ _ _ => (pe_tup (pa_cons (pv 5) (pa_cons (pe_tup (pa_cons pe_str (pa_cons (pv 1) (pa_cons (pe_op op_sub (pv 5) pe_int) pa_nil)))) (pa_cons (pe_op op_add (pv 5) pe_int) pa_nil))))))
      (pss_cons (ps_set (i := 3) sc_right.nd rfl (.inl rfl) (pe_ix ix_list (pe_lst (pa_cons (pe_lst pa_nil) (pa_cons (pe_lst (pa_cons pe_int pa_nil)) (pa_cons (pe_lst (pa_cons pe_int (pa_cons pe_int pa_nil))) (pa_cons (pe_lst (pa_cons pe_int (pa_cons pe_int (pa_cons pe_int pa_nil)))) pa_nil))))) (pe_cG c_pick hr (by decide) hgd rfl (pa_cons (pv 0) (pa_cons pe_int pa_nil))) (fun _ _ => rfl)))
      (pss_cons (ps_set (i := 4) sc_right.nd rfl (.inl rfl) (pe_mkX M0 m_init hr (by decide) pass0N rfl RT.mgC (pa_cons (pe_callTy call_tuple_of rfl T.b_tuple (by decide +kernel) (pa_cons (pv 2) pa_nil)) (pa_cons (pe_callTy call_tuple_of rfl T.b_tuple (by decide +kernel) (pa_cons (pv 3) pa_nil)) pa_nil))))
      (pss_cons (ps_if (PW.pt (pw_or (pt_not (pt_val (pe_cG c_made_right hr (by decide) hgd rfl (pa_cons (pv 0) (pa_cons (pv 2) (pa_cons (pv 3) (pa_cons (pv 1) pa_nil))))))) (pw_or1 (pt_not (pt_val (pe_cG c_after_right hr (by decide) hgd rfl (pa_cons (pv 0) (pa_cons (pv 4) (pa_cons (pv 1) pa_nil)))))))))
        (pss_one (ps_ret pe_bl))
        (pss_nil))
      (pss_one (ps_ret (pe_cmpR op_eq (pe_callB (id := "repr") (r := rReprA K) (call_reprA hgd hr.units) rfl T.b_repr (by decide +kernel) (pa_cons (pe_lstN (pa_cons (pe_fld (pv 4) rfl) (pa_cons (pe_fld (pv 4) rfl) pa_nil))) pa_nil)) (pe_callB (id := "repr") (r := rReprA K) (call_reprA hgd hr.units) rfl T.b_repr (by decide +kernel) (pa_cons (pe_lstN (pa_cons (pe_callTy call_tuple_of rfl T.b_tuple (by decide +kernel) (pa_cons (pv 2) pa_nil)) (pa_cons (pe_callTy call_tuple_of rfl T.b_tuple (by decide +kernel) (pa_cons (pv 3) pa_nil)) pa_nil))) pa_nil)) (nomark _)))))))), ?_⟩
    refine seq_of (asg_of ?_)
    refine ⟨_, rfl, ?_⟩
    refine cons_of ?_
    refine pk_n (p := p) rfl hp (by decide) (by decide) fun d1 H1 e1 b1 k1 => ?_
    refine ⟨p, (d1 : Int), rfl, by omega, by omega, b1, fun z H2 hz hz8 b2 k2 => ?_⟩
    change (_ : L2.St → Hp → Prop) [some (.ref p), some (.str z), none, none, none, none] H2
    refine seq_of (asg_of ?_)
    refine ⟨_, rfl, p, 5, rfl, b2, by decide, by decide, fun d3' H3 d30 e3 b3 k3 => ?_⟩
    obtain ⟨d3, rfl⟩ := Int.eq_ofNat_of_zero_le d30
    have k03 := (k1.trans k2).trans k3
    refine ⟨(d3 : Int), rfl, by omega, by omega, fun Dl hD => lc_it walk_range (fun i H4 => Same H3 H4 ∧ ∃ L : List Row, L.length = i ∧ (∀ r ∈ L, RowAt (del H4 Dl) r) ∧ H4 Dl = some (.lst (L.map fun r => .ref r.t)))
      ⟨same_new hD, [], rfl, (fun r hr2 => by cases hr2), upd_same⟩ (fun _ _ _ _ => trivial) (fun i x H4 H4' hi hp4 hy => ?_) (fun H4 hp4 => ?_)⟩
    · obtain ⟨s4, L, lL, hL, hDl⟩ := hp4
      obtain ⟨rfl, hx⟩ := hy
      have hx2 : x = V.int (i : Int) := by
        rw [hx]
        show V.int (0 + (i : Int)) = _
        rw [Int.zero_add]
      subst hx2
      refine ⟨rfl, ?_⟩
      refine ⟨_, rfl, _, rfl, _, rfl, _, _, rfl, rfl, (show 3 ≤ sizeLine by decide), fun e ne => ?_⟩
      refine ⟨_, rfl, _, _, rfl, rfl, (show 3 ≤ sizeLine by decide), fun t nt => ?_⟩
      have se : Same H4' (upd H4' e (.tup [.str "back", .str z, .int ((i : Int) - 1)])) := same_new ne
      have st := same_new (o := .tup [.int (i : Int), .ref e, .int ((i : Int) + 1)]) nt
      have sa := se.trans st
      have hDl2 := sa _ _ hDl
      have he := st _ _ (show (upd H4' e (.tup [.str "back", .str z, .int ((i : Int) - 1)])) e = _ from upd_same)
      generalize hG : upd (upd H4' e (.tup [.str "back", .str z, .int ((i : Int) - 1)])) t (.tup [.int (i : Int), .ref e, .int ((i : Int) + 1)]) = G at sa hDl2 he ⊢
      have ht : G t = some (.tup [.int (i : Int), .ref e, .int ((i : Int) + 1)]) := by rw [← hG]; exact upd_same
      clear hG st
      refine ⟨_, hDl2, ?_, fun b ob eb => ?_, L ++ [⟨t, (i : Int), e, [.str "back", .str z, .int ((i : Int) - 1)], (i : Int) + 1⟩], by rw [List.length_append, lL]; rfl, fun r hr2 => ?_, ?_⟩
      · rw [List.length_map, lL]
        exact Nat.lt_of_le_of_lt (show i ≤ 5 by omega) (by decide)
      · rw [upd_ne (ne_of_none eb hD)]
        exact sa _ _ (s4 _ _ eb)
      · have p250 : ((i : Int) - 1).natAbs < 2 ^ 250 := by
          have h6 : ((i : Int) - 1).natAbs ≤ 6 := by omega
          exact Nat.lt_of_le_of_lt h6 (by decide)
        have keep : ∀ b ob, b ≠ Dl → G b = some ob → del (upd G Dl (.lst (L.map (fun r => V.ref r.t) ++ [.ref t]))) Dl b = some ob := fun b ob n eb => by
          rw [del_ne n, upd_ne n]
          exact eb
        rcases List.mem_append.mp hr2 with hr2 | hr2
        · exact (hL r hr2).same fun b ob eb => keep b ob (off_get eb).1 (sa _ _ (off_get eb).2)
        · rw [List.mem_singleton.mp hr2]
          exact ⟨keep _ _ (ne_of ht hDl2 (by intro z; cases z)) ht, keep _ _ (ne_of he hDl2 (by intro z; cases z)) he, .three (by decide +kernel) hz hz8 p250, by show (0 : Int) ≤ (i : Int); omega, by show (i : Int) ≤ 99; omega, by show (0 : Int) ≤ (i : Int) + 1; omega, by show (i : Int) + 1 ≤ 99; omega⟩
      · rw [upd_same, List.map_append]
        rfl
    · obtain ⟨s4, L, lL, hL, hDl⟩ := hp4
      have b4 := b3.same s4
      have nDp : Dl ≠ p := bag_ne b3 hD
      have hR : Off p H4 Dl = some (.lst (L.map fun r => .ref r.t)) := off_of nDp hDl
      have hL2 : ∀ r ∈ L, RowAt (Off p H4) r := fun r hr2 => (hL r hr2).del.off b4
      have l4 : L.length ≤ 4 := by omega
      have k04 := k03.trans (kp_of s4)
      change (_ : L2.St → Hp → Prop) [some (.ref p), some (.str z), some (.ref Dl), none, none, none] H4
      refine seq_of (asg_of ?_)
      refine lg_pick (G := LstM p) LstM.stay (mga_cons LstM.stay (mg_lm (ms := []) pua_nil (by decide)) <| mga_cons LstM.stay (mg_lm (ms := [5]) (pua_cons pu_c pua_nil) (by decide)) <|
        mga_cons LstM.stay (mg_lm (ms := [5, 0]) (pua_cons pu_c <| pua_cons pu_c pua_nil) (by decide)) <| mga_cons LstM.stay (mg_lm (ms := [99, 7, 1]) (pua_cons pu_c <| pua_cons pu_c <| pua_cons pu_c pua_nil) (by decide)) mga_nil) rfl rfl (by decide) (by decide) b4 fun xm H5 b5 k5 hm5 => ?_
      obtain ⟨ms, M, hm, rfl, hM⟩ := hm5
      obtain ⟨okM, m3, _, _⟩ := marks_ok ms hm
      change (_ : L2.St → Hp → Prop) [some (.ref p), some (.str z), some (.ref Dl), some (.ref M), none, none] H5
      refine seq_of (asg_of ?_)
      refine cons_of (mg_tuple (p := p) (H := H5) (xs := L.map fun r => .ref r.t) rfl (off_kp k5 _ _ hR) H5 _ b5 (.refl _ _) fun xS H6 b6 k6 hS => ?_)
      refine cons_of (mg_tuple (p := p) (H := H6) (xs := ms.map V.int) rfl (off_kp k6 _ _ hM) H6 _ b6 (.refl _ _) fun xM H7 b7 k7 hM2 => ?_)
      refine tn ?_
      intro o dx no nd ne
      obtain ⟨S, rfl, hS⟩ := hS
      obtain ⟨M2, rfl, hM2⟩ := hM2
      have sm : Same H7 (upd (upd H7 dx (.own o)) o (.ins C dx [])) := fun b z e => by
        rw [upd_ne (ne_of_none e no), upd_ne (ne_of_none e nd)]
        exact e
      have k67 := kp_of (p := p) sm
      have k57 := k6.trans k7
      refine ⟨o, dx, .ref S, .ref M2, rfl, upd_same, .inr (.inr ⟨S, L, M2, ms, ⟨rfl, sm _ _ (off_same _ _ (off_kp k7 _ _ hS)), fun r hr2 => (((hL2 r hr2).same (off_kp (k5.trans k57))).same off_same).same sm⟩, ⟨rfl, sm _ _ (off_same _ _ hM2), okM⟩, fun H8 hRA keep => ⟨rfl, ?_⟩⟩)⟩
      have k78 : Kp p H7 H8 := fun b x e n => keep b x (sm _ _ e) (ne_of_none e no)
      have b8 : BagAt H8 p := by
        obtain ⟨i, j, k, e⟩ := b7
        exact ⟨i, j, k, keep _ _ (sm _ _ e) (ne_of_none e no)⟩
      have k58 := k57.trans k78
      have k48 := k5.trans k58
      dsimp only
      change (_ : L2.St → Hp → Prop) [some (.ref p), some (.str z), some (.ref Dl), some (.ref M), some (.ref o), none] H8
      refine seq_of ?_
      refine ⟨_, rfl, _, rfl, _, rfl, _, rfl, ?_⟩
      refine ⟨p, Dl, M, z, L, ms, rfl, b8, hz, l4, hm, fun r hr2 => (hL2 r hr2).same (off_kp k48), off_kp k48 _ _ hR, off_kp k58 _ _ hM, fun H9 b9 k9 => ⟨true, rfl, iteF ?_⟩⟩
      refine ⟨_, rfl, _, rfl, _, rfl, ?_⟩
      refine ⟨p, o, S, M2, z, L, ms, rfl, b9, hz, (hRA.off b8).same (off_kp k9), fun H10 b10 k10 => ⟨true, rfl, iteF (next_of ?_)⟩⟩
      refine ret_of ?_
      have RA10 := (hRA.off b8).same (off_kp (k9.trans k10))
      obtain ⟨dx10, ho10⟩ := RA10.ob
      have ho := off_same _ _ ho10
      have RA := RA10.same off_same
      have hR10 := (off_get (off_kp (k48.trans (k9.trans k10)) _ _ hR)).2
      have hM10 := (off_get (off_kp (k58.trans (k9.trans k10)) _ _ hM)).2
      refine ⟨_, rfl, o, C, dx10, _, _, rfl, ho, RT.cl, RT.nS, fld_steps _ _, ?_⟩
      refine ⟨_, rfl, o, C, dx10, _, _, rfl, ho, RT.cl, RT.nB, fld_bad _ _, ?_⟩
      refine ⟨show 2 ≤ sizeLine by decide, fun a na sa => ?_⟩
      have s1 : Same H10 (upd H10 a (.lst [.ref S, .ref M2])) := same_new na
      have sz := both_sz RA.rows l4 okM m3
      refine tn (repr_a (n := 6) (both_any sa upd_same (s1 _ _ RA.st) (s1 _ _ RA.bd) fun r hr2 => (RA.rows r hr2).same s1) sz (by decide) (by decide) ?_)
      refine ⟨_, rfl, Dl, _, rfl, .inl ⟨SqL.of (s1 _ _ hR10), fun S' nS' => ?_⟩⟩
      have s2 := s1.trans (same_new (o := .tup (L.map fun r => V.ref r.t)) nS')
      have hS' : upd (upd H10 a (.lst [.ref S, .ref M2])) S' (.tup (L.map fun r => V.ref r.t)) S' = _ := upd_same
      refine ⟨_, rfl, M, _, rfl, .inl ⟨SqL.of (s2 _ _ hM10), fun M' nM' => ?_⟩⟩
      have s3 := s2.trans (same_new (o := .tup (ms.map V.int)) nM')
      have hS2 := same_new (o := .tup (ms.map V.int)) nM' _ _ hS'
      refine ⟨show 2 ≤ sizeLine by decide, fun b nb sb => ?_⟩
      have s4 := s3.trans (same_new (o := .lst [.ref S', .ref M']) nb)
      have sb1 : ∀ {H'' : Hp} {c : Addr} {oc : HO}, H'' b = none → H'' c = some oc → upd H'' b (.lst [.ref S', .ref M']) c = some oc := fun n e => same_new n _ _ e
      refine tn (repr_a (n := 6) (both_any sb upd_same (sb1 nb hS2) (sb1 nb upd_same) fun r hr2 => (RA.rows r hr2).same s4) sz (by decide) (by decide) ?_)
      refine ⟨rfl, ?_⟩
      rw [decide_eq_true rfl]
      exact q _ ((k04.trans (k48.trans (k9.trans k10))).trans (kp_of s4))
end
end Jo

set_option Elab.async false
set_option linter.all false
set_option maxRecDepth 100000
set_option maxHeartbeats 1000000
namespace Jo
open PySem PySem.Spec PyProof.Rows L2
/-- a comprehension whose items are all True, what stood being kept -/
theorem lc_trues {J : It} {n : Nat} {G : Hp → Prop} {Y : Nat → Hp → V → Hp → Prop} (w : Walk J n G Y) {g : TG} {te : TE} {vs : List Nat} {σ : L2.St}
    {H0 : Hp} {D : Addr} {Qd : Hp → Prop} (hD : H0 D = none) (hn : n < sizeLine) (hG : ∀ H, Same H0 H → G H)
    (hs : ∀ (i : Nat) (x : V) (H H' : Hp) (Q : VK), i < n → Same H0 H → Y i H x H' → (∀ H2, Same H H2 → Q (.bl true) H2) →
      g x (wipe σ vs) H' fun σ2 H2 => wipe σ2 vs = wipe σ vs ∧ te σ2 H2 Q)
    (hd : ∀ H, Same H0 H → H D = some (.lst ((List.replicate n true).map V.bl)) → Qd H) :
    ∃ W : Nat → Nat → Hp → Prop, (∃ m, W 0 m (upd H0 D (.lst []))) ∧ ∀ i m H, W i m H →
      (J.stop i H ∧ Qd H) ∨ (J.go i H ∧ ∃ Nx : Hp → Prop, (∀ H', Nx H' → ∃ m', m' < m ∧ W (i + 1) m' H') ∧
        ∀ x H', J.yld i H x H' → g x (wipe σ vs) H' fun σ2 H2 => wipe σ2 vs = wipe σ vs ∧ tYes σ2 H2 fun b H3 =>
          if b = true then te σ2 H3 fun y H4 => ∃ acc, H4 D = some (.lst acc) ∧ acc.length < sizeLine ∧ Nx (upd H4 D (.lst (acc ++ [y]))) else Nx H3) := by
  refine lc_it w (fun i H => Same H0 H ∧ i ≤ n ∧ H D = some (.lst ((List.replicate i true).map V.bl))) ⟨same_new hD, Nat.zero_le _, upd_same⟩ (fun i H _ hp => hG H hp.1) (fun i x H H' hi hp hy => ?_) (fun H hp => ?_)
  · obtain ⟨s1, _, hDl⟩ := hp
    refine hs i x H H' (fun y H4 => ∃ acc, H4 D = some (.lst acc) ∧ acc.length < sizeLine ∧ (Same H0 (upd H4 D (.lst (acc ++ [y]))) ∧ i + 1 ≤ n ∧ upd H4 D (.lst (acc ++ [y])) D = some (.lst ((List.replicate (i + 1) true).map V.bl)))) hi s1 hy (fun H2 s2 => ?_)
    refine ⟨_, s2 _ _ hDl, ?_, fun b o e => ?_, hi, ?_⟩
    · rw [List.length_map, List.length_replicate]
      exact Nat.lt_trans hi hn
    · rw [upd_ne (ne_of_none e hD)]
      exact s2 _ _ (s1 _ _ e)
    · rw [upd_same, List.replicate_succ', List.map_append]
      rfl
  · exact hd H hp.1 hp.2.2
theorem all_rep : ∀ n : Nat, (List.replicate n true).all id = true
  | 0 => rfl
  | n + 1 => by rw [List.replicate_succ, List.all_cons, all_rep n]; rfl
theorem turns63 {L : Int} (h0 : 0 ≤ L) : -(2 ^ 62) ≤ (if (if (63 : Int) < L then (63 : Int) else L) > 2 then (if (63 : Int) < L then (63 : Int) else L) else 2) ∧
    (if (if (63 : Int) < L then (63 : Int) else L) > 2 then (if (63 : Int) < L then (63 : Int) else L) else 2) < 2 ^ 62 ∧
    (if (if (63 : Int) < L then (63 : Int) else L) > 2 then (if (63 : Int) < L then (63 : Int) else L) else 2).toNat ≤ 63 := by
  by_cases h1 : (63 : Int) < L
  · rw [if_pos h1]; decide
  · rw [if_neg h1]
    by_cases h2 : L > 2
    · rw [if_pos h2]; omega
    · rw [if_neg h2]; decide
section
variable {P : Program} {w : World} {K : PySem.W.Frag} {mg : Str → Option Value} {base : Heap}
def n_law : List Str := ["_law_script", "_law_k"]
theorem sc_law : FnScope n_law ["_law_script"] (defScope s_law) := ⟨rfl, rfl, rfl, by decide +kernel, rfl, by decide +kernel, by decide +kernel⟩
def spLaw (K : PySem.W.Frag) : Sp := fun vs H Q _ => ∃ (a : Addr) (ns : List Int), vs = [.ref a] ∧ SqL K H a (ns.map V.int) ∧ ns.length ≤ 63 ∧ ∀ H', Q (.bl true) H'
theorem ok_law {fl : Addr} {fd : FuncData} (F : Fun K "law" "law" s_law fl fd) (T : Txt K mg) (c_bag : CalG P w K mg base 1 "_law_bag" ["_law_script", "_law_k"] (spBag K)) (c_right : CalG P w K mg base 9 "_law_right" ["_law_bag_here"] spRight) :
    FnG P w K mg base 10 fl fd ["_law_script"] (spLaw K) := by
  refine fun_okG F sc_law (fun vs H Q E h => ?_) (fun cdv A fr s H vs Q E hr hgd h => ?_)
  · obtain ⟨a, ns, rfl, _⟩ := h
    rfl
  · obtain ⟨a, ns, rfl, hS, hl, q⟩ := h
    refine ⟨_, pss_one (ps_ret (pe_callB (cr_all rfl) rfl T.b_all (by decide +kernel) (pa_cons (pe_lc (own := [("_law_k", 1)]) (g := gName 1) (tt := tYes) rfl sc_law.nd (pi_range1 rfl T.b_range (pa_cons (pe_callB (call_max2 rfl) rfl T.b_max (by decide +kernel) (pa_cons pe_int (pa_cons (pe_callB (call_min2 rfl) rfl T.b_min (by decide +kernel) (pa_cons (pe_callB call_len rfl T.b_len (by decide +kernel) (pa_cons (pv 0) pa_nil)) (pa_cons pe_int pa_nil))) pa_nil))) pa_nil)) (blkOk_by (N := n_law) (sc := defScope s_law) (by decide +kernel)) (fun _ _ _ _ _ => pg_name (i := 1) sc_law.nd rfl (Or.inl rfl)) (fun _ _ _ _ _ => pts_nil) (fun _ _ _ _ _ => (pe_cG c_right hr (by decide) hgd rfl (pa_cons (pe_cG c_bag hr (by decide) hgd rfl (pa_cons (pv 0) (pa_cons (pv 1) pa_nil))) pa_nil)))) pa_nil))), ?_⟩
    obtain ⟨t1, t2, t3⟩ := turns63 (L := ((ns.map V.int).length : Int)) (by omega)
    refine ⟨_, rfl, _, _, rfl, .inl ⟨_, hS, rfl⟩, _, _, rfl, _, _, rfl, _, rfl, t1, t2, fun D3 hD5 => lc_trues walk_range hD5 (small1000 (by omega)) (fun _ _ => trivial) (fun i x H6 H6' Q6 hi s10 hy hq => ?_) (fun H6 s10 hD6 => ?_)⟩
    · obtain ⟨rfl, hx⟩ := hy
      have hx2 : x = V.int (i : Int) := by
        rw [hx]
        show V.int (0 + (i : Int)) = _
        rw [Int.zero_add]
      subst hx2
      refine ⟨rfl, _, rfl, _, rfl, a, ns, i, rfl, s10.seq hS, hl, by omega, fun p H7 s11 hp p7 => ?_⟩
      refine ⟨p, rfl, p7, fun H8 k8 => hq H8 fun b ob e => ?_⟩
      exact k8 _ _ (s11 _ _ e) (ne_of_none e hp)
    · refine ⟨D3, _, rfl, SqL.of hD6, ?_⟩
      rw [all_rep]
      exact q _
end
end Jo

set_option Elab.async false
set_option linter.all false
set_option maxRecDepth 100000
/-! A law's end over a head that is run by the kernel. -/
namespace Jo
open PySem PySem.Spec PyProof.Rows L2
theorem walk_ofEG {l : PySem.W.OpenLaw} {n k : Nat} {q : Program} {loose : List Str} {XP : (Str → Option Value) → Heap → Prop} {YP : World → Heap → Prop} {d : DefRec} {x : Str}
    (hn : l.most = some n) (hn2 : n ≤ sizeLine) (hdf : d.params.defaults = []) (hr : Room k callerA)
    (F : ∀ (w : World) (mg : Str → Option Value) (fa : Addr) (h : Heap), YP w h → h.Ns mainGlobals mg → mg d.name = some (.ref fa) →
      ∃ (K : PySem.W.Frag) (fd : FuncData) (sp : Sp), K.In h ∧ (∀ (s : Shared) (u : Value), BindsTo s fd ⟨[u], []⟩ [(x, u)]) ∧
        (∀ (H : Hp) (a : Addr) (ns : List Int), ns.length ≤ n → (∀ z ∈ ns, Builtin.Int.intBits z ≤ 1048576) → Only H → SqL K H a (ns.map V.int) → sp [.ref a] H (fun v _ => v = .bl true) fun _ _ _ => False) ∧
        ∀ base : Heap, K.In base → base.Ns mainGlobals mg → FnG l.prog w K mg base k fa fd [x] sp) :
    PySem.W.WalkO q loose XP YP l.row.toRowW d [] (fun f vs => PySem.call f vs) := by
  refine Att.attach_callB hn hdf fun w s₀ s₁ mg mb fa o pm cd doc a vs ns G Y ho hd hcd hmg hobj hints hlen hbits hg => ?_
  obtain ⟨K, fd, sp, KX, hb, hsp, hF⟩ := F w mg fa _ Y G.T.g hmg
  exact law_callG KX G.T.g G.T.b G.T.builtins G.T.nolimit hg hobj hints (Nat.le_trans hlen hn2) hr hF hb fun H hO hS => hsp H a ns hlen hbits hO hS
end Jo

set_option Elab.async false
set_option linter.all false
set_option maxRecDepth 100000
set_option maxHeartbeats 2000000
namespace Jo
open PySem PySem.Spec PyProof.Rows L2
theorem lookB_ok {K : PySem.W.Frag} {C B : Addr} {newId : String} {bmB : List Value} (h : lookB K C B newId bmB = true) :
    ∃ nm q N bs sn sub ab col dd k0 k1 k2 k3 k5, K.lookup C = some (excClassObj nm q C N bs (.ref B :: bmB) true sn sub ab col dd k0 k1 k2 k3 k5 newId) := by
  unfold lookB at h
  split at h
  · rename_i t dd cd sl ho
    obtain ⟨h1, h⟩ := He.ba h
    obtain ⟨h2, h⟩ := He.ba h
    obtain ⟨h3, h⟩ := He.ba h
    obtain ⟨h4, h⟩ := He.ba h
    split at h
    · rename_i k0 k1 k2 k3 n k5 hs
      have e1 := of_decide_eq_true h1
      have e2 := of_decide_eq_true h2
      have e5 := of_decide_eq_true h
      rw [Bool.not_eq_true'] at h4
      obtain ⟨nm, bs, mro, ns, qn, hd, sn, sub, ab, col, del⟩ := cd
      dsimp only at e2 h3 h4
      subst e1 e2 e5 h3 h4
      have hsl : sl = #[k0, k1, k2, k3, some (.builtin n), k5] := by
        obtain ⟨l⟩ := sl
        simp only at hs
        rw [hs]
      subst hsl
      exact ⟨nm, qn, ns, bs, sn, sub, ab, col, dd, k0, k1, k2, k3, k5, ho⟩
    · cases h
  · cases h
theorem ecB_ok {K : PySem.W.Frag} {C B : Addr} {newId : String} {bmB : List Value} (h : ecB K C B newId bmB = true) : EC K C B newId bmB := by
  obtain ⟨h1, h⟩ := He.ba h
  obtain ⟨h2, h⟩ := He.ba h
  obtain ⟨h3, h⟩ := He.ba h
  obtain ⟨h4, h⟩ := He.ba h
  obtain ⟨h5, h6⟩ := He.ba h
  exact ⟨lookB_ok h1, He.eqO_ok h2, He.eqO_ok h3, He.eqO_ok h4, He.eqO_ok h5, h6⟩
theorem erB_ok {K : PySem.W.Frag} {q : Str × Str} (h : erB K q = true) : erA K q.2 (He.ga K q.1) (He.ga K "ReentryError") = true := by
  unfold erB at h
  rw [HandSHeadRun.frNat_eq, HandSHeadRun.frNat_eq] at h
  exact h
theorem cmB_ok {K : PySem.W.Frag} {t : Bool × Str × Str × Bool} (h : cmB K t = true) : (if t.1 = true then PySem.W.exmOne K (.ref (He.ga K t.2.1)) (.ref (He.ga K t.2.2.1)) else PySem.W.kitOne K (.ref (He.ga K t.2.1)) (.ref (He.ga K t.2.2.1))) = some t.2.2.2 := by
  unfold cmB at h
  rw [HandSHeadRun.frNat_eq, HandSHeadRun.frNat_eq] at h
  exact of_decide_eq_true h
theorem intB_ok {K : PySem.W.Frag} {q : Str × Int} (h : intB K q = true) : ∃ u, PySem.W.nsIn K mainGlobals q.1 = some (some u) ∧ RelV (.int q.2) u := by
  unfold intB at h
  split at h
  · rename_i j t e
    exact ⟨_, e, t, by rw [of_decide_eq_true h]⟩
  · cases h
theorem strB_ok {K : PySem.W.Frag} {q : Str × Str} (h : strB K q = true) : ∃ u, PySem.W.nsIn K mainGlobals q.1 = some (some u) ∧ RelV (.str q.2) u := by
  unfold strB at h
  split at h
  · rename_i j t e
    exact ⟨_, e, t, by rw [of_decide_eq_true h]⟩
  · cases h
theorem valsB_ok : ∀ {xs : List Str} {ys : List Value}, valsB xs ys = true → Vals (xs.map V.str) ys
  | [], [], _ => .nil
  | [], _ :: _, h => by cases h
  | _ :: _, [], h => by cases h
  | x :: xs, y :: ys, h => by
    cases y with
    | str z t =>
      obtain ⟨h1, h2⟩ := He.ba h
      exact .cons ⟨t, by rw [of_decide_eq_true h1]⟩ (valsB_ok h2)
    | _ => cases h
theorem tupB_ok {K : PySem.W.Frag} {q : Str × List Str} (h : tupB K q = true) : PySem.W.nsIn K mainGlobals q.1 = some (some (.ref (He.ga K q.1))) ∧ ∀ H, SqT K H (He.ga K q.1) (q.2.map V.str) := by
  obtain ⟨h1, h⟩ := He.ba h
  rw [HandSHeadRun.frNat_eq] at h
  unfold tupA at h
  split at h
  · rename_i t dd its n sl e
    obtain ⟨h2, h⟩ := He.ba h
    obtain ⟨h3, h4⟩ := He.ba h
    exact ⟨He.eqO_ok h1, fun H => .inr ⟨_, its, n, e, by rw [of_decide_eq_true h2], rfl, Nat.le_trans (of_decide_eq_true h3) (by decide), valsB_ok h4⟩⟩
  · cases h
theorem ruB_ok {K : PySem.W.Frag} (h : ruB K = true) : ruA K (He.ga K "Rule") = true := by
  unfold ruB at h
  rw [HandSHeadRun.frNat_eq] at h
  exact h
theorem mtB_ok {K : PySem.W.Frag} {C : Addr} {m : Str} (h : mtB K C m = true) : PySem.W.findIn K (.ref C) m = some (some (.ref (He.ma K C m))) ∧ PySem.W.isFn K (.ref (He.ma K C m)) = true := by
  obtain ⟨h1, h2⟩ := He.ba h
  exact ⟨He.eqO_ok h1, h2⟩
theorem facts {P : Program} {w : World} {K : PySem.W.Frag} {h : Heap} {mg : Str → Option Value} {fa : Addr} (X : K.In h) (G : h.Ns mainGlobals mg) (hfa : mg "law" = some (.ref fa)) (c : SaysJ okT fnT K) :
    ∃ fd : FuncData, (∀ (s : Shared) (v : Value), BindsTo s fd ⟨[v], []⟩ [("_law_script", v)]) ∧ ∀ base : Heap, K.In base → base.Ns mainGlobals mg → FnG P w K mg base 10 fa fd ["_law_script"] (spLaw K) := by
  obtain ⟨c1, r⟩ := He.ba c.1
  obtain ⟨c2, r⟩ := He.ba r
  obtain ⟨c3, r⟩ := He.ba r
  obtain ⟨c4, r⟩ := He.ba r
  obtain ⟨c5, r⟩ := He.ba r
  obtain ⟨c6, r⟩ := He.ba r
  obtain ⟨c7, r⟩ := He.ba r
  obtain ⟨c8, r⟩ := He.ba r
  obtain ⟨c9, r⟩ := He.ba r
  obtain ⟨c10, r⟩ := He.ba r
  obtain ⟨c11, c12⟩ := He.ba r
  have qc : ∀ x ∈ clT, PySem.W.nsIn K mainGlobals x = some (some (.ref (He.ga K x))) := fun x e => He.eqO_ok (List.all_eq_true.mp c1 x e)
  have qe : ∀ (i : Nat) {d : Str × Str}, erT[i]? = some d → erA K d.2 (He.ga K d.1) (He.ga K "ReentryError") = true := fun i d e => erB_ok (List.all_eq_true.mp c2 d (List.mem_of_getElem? e))
  have qm : ∀ (i : Nat) {d : Bool × Str × Str × Bool}, cmT[i]? = some d → (if d.1 = true then PySem.W.exmOne K (.ref (He.ga K d.2.1)) (.ref (He.ga K d.2.2.1)) else PySem.W.kitOne K (.ref (He.ga K d.2.1)) (.ref (He.ga K d.2.2.1))) = some d.2.2.2 := fun i d e => cmB_ok (List.all_eq_true.mp c3 d (List.mem_of_getElem? e))
  have qi : ∀ (i : Nat) {d : Str × Int}, inT[i]? = some d → ∃ u, PySem.W.nsIn K mainGlobals d.1 = some (some u) ∧ RelV (.int d.2) u := fun i d e => intB_ok (List.all_eq_true.mp c4 d (List.mem_of_getElem? e))
  have qs : ∀ (i : Nat) {d : Str × Str}, stT[i]? = some d → ∃ u, PySem.W.nsIn K mainGlobals d.1 = some (some u) ∧ RelV (.str d.2) u := fun i d e => strB_ok (List.all_eq_true.mp c5 d (List.mem_of_getElem? e))
  have qt : ∀ (i : Nat) {d : Str × List Str}, tuT[i]? = some d → PySem.W.nsIn K mainGlobals d.1 = some (some (.ref (He.ga K d.1))) ∧ ∀ H, SqT K H (He.ga K d.1) (d.2.map V.str) := fun i d e => tupB_ok (List.all_eq_true.mp c6 d (List.mem_of_getElem? e))
  have qf : ∀ (i : Nat) {d : Str}, frT[i]? = some d → PySem.W.nsIn K mainGlobals d = some none := fun i d e => He.eqO_ok (List.all_eq_true.mp c7 d (List.mem_of_getElem? e))
  have qd : ∀ (i : Nat) {d : He.FnD}, dfT[i]? = some d → PySem.W.nsIn K mainGlobals d.name = some (some (.ref (He.ga K d.name))) := fun i d e => He.eqO_ok (List.all_eq_true.mp c8 d (List.mem_of_getElem? e))
  have qn : ∀ (i : Nat) {d : He.FnD}, fnT[i]? = some d → (∃ oc od osl kV doc pm an cdv ct, K.lookup (He.fAd K d.at_) = some ⟨oc, od, .func (PySem.W.fnOf d.name d.qual d.params d.body d.scope .none kV doc pm an cdv ct), osl⟩ ∧ PySem.W.codeIn K cdv d.qual = true) ∧ PySem.W.keepIn K (.ref (He.fAd K d.at_)) = true := fun i d e => by
    obtain ⟨z1, z2⟩ := He.ba (List.all_eq_true.mp c9 d (List.mem_of_getElem? e))
    exact ⟨c.at_ i e z1, z2⟩
  have c10 := ruB_ok c10
  clear r c1 c2 c3 c4 c5 c6 c7 c8 c9
  obtain ⟨u0, g0, r0⟩ := qi 0 rfl
  obtain ⟨u1, g1, r1⟩ := qi 1 rfl
  obtain ⟨v0, e0, s0⟩ := qs 0 rfl
  obtain ⟨v1, e1, s1⟩ := qs 1 rfl
  obtain ⟨a0, t0⟩ := qt 0 rfl
  obtain ⟨a1, t1⟩ := qt 1 rfl
  have T : Txt K mg := ⟨⟨_, PySem.W.mg_of X G g0, r0⟩, ⟨_, PySem.W.mg_of X G e0, s0⟩, ⟨_, PySem.W.mg_of X G e1, s1⟩, ⟨_, PySem.W.mg_of X G g1, r1⟩, ⟨_, ⟨_, PySem.W.mg_of X G a0, rfl⟩, t0⟩, ⟨_, ⟨_, PySem.W.mg_of X G a1, rfl⟩, t1⟩, PySem.W.mg_none_of X G (qf 0 rfl), PySem.W.mg_none_of X G (qf 1 rfl), PySem.W.mg_none_of X G (qf 2 rfl), PySem.W.mg_none_of X G (qf 3 rfl), PySem.W.mg_none_of X G (qf 4 rfl), PySem.W.mg_none_of X G (qf 5 rfl), PySem.W.mg_none_of X G (qf 6 rfl), PySem.W.mg_none_of X G (qf 7 rfl), PySem.W.mg_none_of X G (qf 8 rfl), PySem.W.mg_none_of X G (qf 9 rfl), PySem.W.mg_none_of X G (qf 10 rfl), PySem.W.mg_none_of X G (qf 11 rfl), PySem.W.mg_none_of X G (qf 12 rfl)⟩
  obtain ⟨pg, y⟩ := He.ba c10
  obtain ⟨hd, y⟩ := He.ba y
  obtain ⟨po, y⟩ := He.ba y
  obtain ⟨sa, y⟩ := He.ba y
  obtain ⟨mk, y⟩ := He.ba y
  obtain ⟨kc, y⟩ := He.ba y
  obtain ⟨nS, y⟩ := He.ba y
  obtain ⟨nB, y⟩ := He.ba y
  obtain ⟨m0, y⟩ := He.ba y
  obtain ⟨m1, m2⟩ := He.ba y
  obtain ⟨m0, n0⟩ := mtB_ok m0
  obtain ⟨m1, n1⟩ := mtB_ok m1
  obtain ⟨m2, n2⟩ := mtB_ok m2
  have RT : RTxt K mg (He.ga K "Rule") := ⟨⟨pg, hd, po, He.eqO_ok sa⟩, He.eqO_ok nS, He.eqO_ok nB, PySem.W.mg_of X G (qc "Rule" (by decide))⟩
  have M0 : Mk K (He.ga K "Rule") (He.ma K (He.ga K "Rule") "__init__") := ⟨mk, m0, n0, kc⟩
  have D_is_name : Dfn K mg "is_name" s_is_name ["value"] := by
    obtain ⟨⟨oc, od, sl, kV, dc, pm, an, cd, ct, l, q⟩, k⟩ := qn 0 rfl
    exact dfn_mk X G (qd 0 rfl) l q k (fun us hl => match us, hl with | [_], _ => rfl) (fun us hl => match us, hl with | [_], _ => rfl)
  have D_is_integer : Dfn K mg "is_integer" s_is_integer ["value"] := by
    obtain ⟨⟨oc, od, sl, kV, dc, pm, an, cd, ct, l, q⟩, k⟩ := qn 1 rfl
    exact dfn_mk X G (qd 1 rfl) l q k (fun us hl => match us, hl with | [_], _ => rfl) (fun us hl => match us, hl with | [_], _ => rfl)
  have D_check_steps : Dfn K mg "check_steps" s_check_steps ["steps"] := by
    obtain ⟨⟨oc, od, sl, kV, dc, pm, an, cd, ct, l, q⟩, k⟩ := qn 2 rfl
    exact dfn_mk X G (qd 2 rfl) l q k (fun us hl => match us, hl with | [_], _ => rfl) (fun us hl => match us, hl with | [_], _ => rfl)
  have D_check_bad : Dfn K mg "check_bad" s_check_bad ["bad"] := by
    obtain ⟨⟨oc, od, sl, kV, dc, pm, an, cd, ct, l, q⟩, k⟩ := qn 3 rfl
    exact dfn_mk X G (qd 3 rfl) l q k (fun us hl => match us, hl with | [_], _ => rfl) (fun us hl => match us, hl with | [_], _ => rfl)
  have D_is_step : Dfn K mg "is_step" s_is_step ["value"] := by
    obtain ⟨⟨oc, od, sl, kV, dc, pm, an, cd, ct, l, q⟩, k⟩ := qn 4 rfl
    exact dfn_mk X G (qd 4 rfl) l q k (fun us hl => match us, hl with | [_], _ => rfl) (fun us hl => match us, hl with | [_], _ => rfl)
  have D_is_state : Dfn K mg "is_state" s_is_state ["value"] := by
    obtain ⟨⟨oc, od, sl, kV, dc, pm, an, cd, ct, l, q⟩, k⟩ := qn 5 rfl
    exact dfn_mk X G (qd 5 rfl) l q k (fun us hl => match us, hl with | [_], _ => rfl) (fun us hl => match us, hl with | [_], _ => rfl)
  have D_is_event : Dfn K mg "is_event" s_is_event ["value"] := by
    obtain ⟨⟨oc, od, sl, kV, dc, pm, an, cd, ct, l, q⟩, k⟩ := qn 6 rfl
    exact dfn_mk X G (qd 6 rfl) l q k (fun us hl => match us, hl with | [_], _ => rfl) (fun us hl => match us, hl with | [_], _ => rfl)
  have D_is_full_event : Dfn K mg "is_full_event" s_is_full_event ["value"] := by
    obtain ⟨⟨oc, od, sl, kV, dc, pm, an, cd, ct, l, q⟩, k⟩ := qn 7 rfl
    exact dfn_mk X G (qd 7 rfl) l q k (fun us hl => match us, hl with | [_], _ => rfl) (fun us hl => match us, hl with | [_], _ => rfl)
  have D_fits : Dfn K mg "fits" s_fits ["pattern", "event"] := by
    obtain ⟨⟨oc, od, sl, kV, dc, pm, an, cd, ct, l, q⟩, k⟩ := qn 8 rfl
    exact dfn_mk X G (qd 8 rfl) l q k (fun us hl => match us, hl with | [_, _], _ => rfl) (fun us hl => match us, hl with | [_, _], _ => rfl)
  have D_bag : Dfn K mg "_law_bag" s_bag ["_law_script", "_law_k"] := by
    obtain ⟨⟨oc, od, sl, kV, dc, pm, an, cd, ct, l, q⟩, k⟩ := qn 9 rfl
    exact dfn_mk X G (qd 9 rfl) l q k (fun us hl => match us, hl with | [_, _], _ => rfl) (fun us hl => match us, hl with | [_, _], _ => rfl)
  have D_pick : Dfn K mg "_law_pick" s_pick ["_law_bag_here", "_law_many"] := by
    obtain ⟨⟨oc, od, sl, kV, dc, pm, an, cd, ct, l, q⟩, k⟩ := qn 10 rfl
    exact dfn_mk X G (qd 10 rfl) l q k (fun us hl => match us, hl with | [_, _], _ => rfl) (fun us hl => match us, hl with | [_, _], _ => rfl)
  have D_name : Dfn K mg "_law_name" s_name ["_law_bag_here", "_law_k"] := by
    obtain ⟨⟨oc, od, sl, kV, dc, pm, an, cd, ct, l, q⟩, k⟩ := qn 11 rfl
    exact dfn_mk X G (qd 11 rfl) l q k (fun us hl => match us, hl with | [_, _], _ => rfl) (fun us hl => match us, hl with | [_, _], _ => rfl)
  have D_wrong_state : Dfn K mg "_law_wrong_state" s_wrong_state ["_law_bag_here"] := by
    obtain ⟨⟨oc, od, sl, kV, dc, pm, an, cd, ct, l, q⟩, k⟩ := qn 12 rfl
    exact dfn_mk X G (qd 12 rfl) l q k (fun us hl => match us, hl with | [_], _ => rfl) (fun us hl => match us, hl with | [_], _ => rfl)
  have D_wrong_event : Dfn K mg "_law_wrong_event" s_wrong_event ["_law_bag_here", "_law_name_here"] := by
    obtain ⟨⟨oc, od, sl, kV, dc, pm, an, cd, ct, l, q⟩, k⟩ := qn 13 rfl
    exact dfn_mk X G (qd 13 rfl) l q k (fun us hl => match us, hl with | [_, _], _ => rfl) (fun us hl => match us, hl with | [_, _], _ => rfl)
  have D_wrong_step : Dfn K mg "_law_wrong_step" s_wrong_step ["_law_bag_here", "_law_name_here"] := by
    obtain ⟨⟨oc, od, sl, kV, dc, pm, an, cd, ct, l, q⟩, k⟩ := qn 14 rfl
    exact dfn_mk X G (qd 14 rfl) l q k (fun us hl => match us, hl with | [_, _], _ => rfl) (fun us hl => match us, hl with | [_, _], _ => rfl)
  have D_error : Dfn K mg "_law_error" s_error ["_law_rows", "_law_marks"] := by
    obtain ⟨⟨oc, od, sl, kV, dc, pm, an, cd, ct, l, q⟩, k⟩ := qn 15 rfl
    exact dfn_mk X G (qd 15 rfl) l q k (fun us hl => match us, hl with | [_, _], _ => rfl) (fun us hl => match us, hl with | [_, _], _ => rfl)
  have D_asked : Dfn K mg "_law_asked" s_asked ["_law_rule", "_law_here", "_law_happens"] := by
    obtain ⟨⟨oc, od, sl, kV, dc, pm, an, cd, ct, l, q⟩, k⟩ := qn 16 rfl
    exact dfn_mk X G (qd 16 rfl) l q k (fun us hl => match us, hl with | [_, _, _], _ => rfl) (fun us hl => match us, hl with | [_, _, _], _ => rfl)
  have D_made_right : Dfn K mg "_law_made_right" s_made_right ["_law_bag_here", "_law_rows", "_law_marks", "_law_name_here"] := by
    obtain ⟨⟨oc, od, sl, kV, dc, pm, an, cd, ct, l, q⟩, k⟩ := qn 17 rfl
    exact dfn_mk X G (qd 17 rfl) l q k (fun us hl => match us, hl with | [_, _, _, _], _ => rfl) (fun us hl => match us, hl with | [_, _, _, _], _ => rfl)
  have D_after_right : Dfn K mg "_law_after_right" s_after_right ["_law_bag_here", "_law_rule", "_law_name_here"] := by
    obtain ⟨⟨oc, od, sl, kV, dc, pm, an, cd, ct, l, q⟩, k⟩ := qn 18 rfl
    exact dfn_mk X G (qd 18 rfl) l q k (fun us hl => match us, hl with | [_, _, _], _ => rfl) (fun us hl => match us, hl with | [_, _, _], _ => rfl)
  have D_right : Dfn K mg "_law_right" s_right ["_law_bag_here"] := by
    obtain ⟨⟨oc, od, sl, kV, dc, pm, an, cd, ct, l, q⟩, k⟩ := qn 19 rfl
    exact dfn_mk X G (qd 19 rfl) l q k (fun us hl => match us, hl with | [_], _ => rfl) (fun us hl => match us, hl with | [_], _ => rfl)
  obtain ⟨ec0, z⟩ := He.ba (qe 0 rfl)
  obtain ⟨nf0, z⟩ := He.ba z
  obtain ⟨mi0, ni0⟩ := mtB_ok z
  have EC0 := ecB_ok ec0
  have I0 : Mth K (He.ga K "InvalidValue") "__init__" "InvalidValue.__init__" i_InvalidValue ["self", "value"] := by
    obtain ⟨⟨oc, od, sl, kV, dc, pm, an, cd, ct, l, q⟩, k⟩ := qn 21 rfl
    exact mth_mk (h := h) mi0 ni0 l q k (fun us hl => match us, hl with | [_, _], _ => rfl) (fun u us hl => match us, hl with | [_], _ => rfl)
  obtain ⟨ec1, z⟩ := He.ba (qe 1 rfl)
  obtain ⟨nf1, z⟩ := He.ba z
  obtain ⟨mi1, ni1⟩ := mtB_ok z
  have EC1 := ecB_ok ec1
  have I1 : Mth K (He.ga K "InvalidMove") "__init__" "InvalidMove.__init__" i_InvalidMove ["self", "value"] := by
    obtain ⟨⟨oc, od, sl, kV, dc, pm, an, cd, ct, l, q⟩, k⟩ := qn 22 rfl
    exact mth_mk (h := h) mi1 ni1 l q k (fun us hl => match us, hl with | [_, _], _ => rfl) (fun u us hl => match us, hl with | [_], _ => rfl)
  obtain ⟨ec2, z⟩ := He.ba (qe 2 rfl)
  obtain ⟨nf2, z⟩ := He.ba z
  obtain ⟨mi2, ni2⟩ := mtB_ok z
  have EC2 := ecB_ok ec2
  have I2 : Mth K (He.ga K "InvalidSteps") "__init__" "InvalidSteps.__init__" i_InvalidSteps ["self", "index"] := by
    obtain ⟨⟨oc, od, sl, kV, dc, pm, an, cd, ct, l, q⟩, k⟩ := qn 23 rfl
    exact mth_mk (h := h) mi2 ni2 l q k (fun us hl => match us, hl with | [_, _], _ => rfl) (fun u us hl => match us, hl with | [_], _ => rfl)
  obtain ⟨ec3, z⟩ := He.ba (qe 3 rfl)
  obtain ⟨nf3, z⟩ := He.ba z
  obtain ⟨mi3, ni3⟩ := mtB_ok z
  have EC3 := ecB_ok ec3
  have I3 : Mth K (He.ga K "InvalidBad") "__init__" "InvalidBad.__init__" i_InvalidBad ["self", "index"] := by
    obtain ⟨⟨oc, od, sl, kV, dc, pm, an, cd, ct, l, q⟩, k⟩ := qn 24 rfl
    exact mth_mk (h := h) mi3 ni3 l q k (fun us hl => match us, hl with | [_, _], _ => rfl) (fun u us hl => match us, hl with | [_], _ => rfl)
  have E_init : Mth K (He.ga K "Rule") "__init__" "Rule.__init__" s_init ["self", "steps", "bad"] := by
    obtain ⟨⟨oc, od, sl, kV, dc, pm, an, cd, ct, l, q⟩, k⟩ := qn 25 rfl
    exact mth_mk (h := h) m0 n0 l q k (fun us hl => match us, hl with | [_, _, _], _ => rfl) (fun u us hl => match us, hl with | [_, _], _ => rfl)
  have E_rafter : Mth K (He.ga K "Rule") "after" "Rule.after" s_rafter ["self", "state", "event"] := by
    obtain ⟨⟨oc, od, sl, kV, dc, pm, an, cd, ct, l, q⟩, k⟩ := qn 26 rfl
    exact mth_mk (h := h) m1 n1 l q k (fun us hl => match us, hl with | [_, _, _], _ => rfl) (fun u us hl => match us, hl with | [_, _], _ => rfl)
  have E_next_state : Mth K (He.ga K "Rule") "next_state" "Rule.next_state" s_next_state ["self", "state", "event"] := by
    obtain ⟨⟨oc, od, sl, kV, dc, pm, an, cd, ct, l, q⟩, k⟩ := qn 27 rfl
    exact mth_mk (h := h) m2 n2 l q k (fun us hl => match us, hl with | [_, _, _], _ => rfl) (fun u us hl => match us, hl with | [_, _], _ => rfl)
  obtain ⟨⟨oc, od, sl, kV, dc, pm, an, cd, ct, ll, lc⟩, lk⟩ := qn 20 rfl
  have eL : fa = He.ga K "law" := by
    have e := hfa.symm.trans (PySem.W.mg_of X G (qd 20 rfl))
    cases e
    rfl
  subst eL
  refine ⟨PySem.W.fnOf "law" "law" (defArgs s_law) (defBody s_law) (defScope s_law) .none kV dc pm an cd ct, fun s v => .of_eq rfl, fun base _ _ => ?_⟩
  have X0 : ErX P w K mg base "InvalidValue" (He.ga K "InvalidValue") "value" := ⟨PySem.W.mg_of X G (qc "InvalidValue" (by decide)), EC0.oex, He.eqO_ok nf0, ini_V I0 EC0.oex (He.eqO_ok nf0)⟩
  have X1 : ErX P w K mg base "InvalidMove" (He.ga K "InvalidMove") "value" := ⟨PySem.W.mg_of X G (qc "InvalidMove" (by decide)), EC1.oex, He.eqO_ok nf1, ini_M I1 EC1.oex (He.eqO_ok nf1)⟩
  have X2 : ErX P w K mg base "InvalidSteps" (He.ga K "InvalidSteps") "index" := ⟨PySem.W.mg_of X G (qc "InvalidSteps" (by decide)), EC2.oex, He.eqO_ok nf2, ini_S I2 EC2.oex (He.eqO_ok nf2)⟩
  have X3 : ErX P w K mg base "InvalidBad" (He.ga K "InvalidBad") "index" := ⟨PySem.W.mg_of X G (qc "InvalidBad" (by decide)), EC3.oex, He.eqO_ok nf3, ini_B I3 EC3.oex (He.eqO_ok nf3)⟩
  have ET : ETxt P w K mg base (He.ga K "InvalidSteps") (He.ga K "InvalidBad") (He.ga K "InvalidValue") (He.ga K "InvalidMove") (He.ga K "ReentryError") (He.ga K "StateError") (He.ga K "LimitError") := ⟨⟨of_decide_eq_true c11, of_decide_eq_true c12⟩, X2, X3, X0, X1, EC2, EC3, EC0, EC1, PySem.W.mg_of X G (qc "ReentryError" (by decide)), PySem.W.mg_of X G (qc "StateError" (by decide)), PySem.W.mg_of X G (qc "LimitError" (by decide)), PySem.W.mg_none_of X G (qf 14 rfl), qm 0 rfl, qm 1 rfl, qm 2 rfl, qm 3 rfl, qm 4 rfl, qm 5 rfl, ⟨qm 6 rfl, qm 7 rfl, qm 8 rfl, qm 9 rfl, qm 10 rfl, qm 11 rfl⟩, ⟨qm 12 rfl, qm 13 rfl, qm 14 rfl, qm 15 rfl, qm 16 rfl⟩, ⟨qm 17 rfl, qm 18 rfl, qm 19 rfl, qm 20 rfl⟩, ⟨qm 21 rfl, qm 22 rfl, qm 23 rfl, qm 24 rfl⟩⟩
  have p1 := ok_is_integer (P := P) (w := w) (base := base) T D_is_integer
  have p2 := ok_is_name (P := P) (w := w) (base := base) T D_is_name
  have p3 := ok_is_state T D_is_state p1
  have p4 := ok_is_event T D_is_event p1 p2
  have p5 := ok_is_full_event T D_is_full_event p4
  have p6 := ok_is_step T D_is_step p4 p3
  have p7 := ok_check_steps T D_check_steps X2 p6
  have p8 := ok_check_bad T D_check_bad X3 p3
  have p9 := ok_fits (P := P) (w := w) (base := base) T D_fits
  have m1' := ok_init T RT E_init p7 p8
  have m2' := ok_next_state T RT E_next_state p9
  have m3' := ok_rafter T RT E_rafter X0 X1 p3 p5 m2'
  have j1 := ok_bag (P := P) (w := w) (base := base) T D_bag
  have j2 := ok_pick (P := P) (w := w) (base := base) T D_pick
  have j3 := ok_name T D_name j2
  have j4 := ok_wrong_state T D_wrong_state j2
  have j5 := ok_wrong_event T D_wrong_event j2
  have j6 := ok_wrong_step T D_wrong_step j2 j4 j5
  have j7 := ok_error T ET RT M0 D_error m1'
  have j8 := ok_asked T ET RT D_asked m3'
  have j9 := ok_made_right T (PySem.W.mg_none_of X G (qf 13 rfl)) D_made_right j2 j4 j6 j7
  have j10 := ok_after_right T D_after_right j4 j5 j8
  have j11 := ok_right T RT M0 D_right m1' j2 j3 j9 j10
  exact ok_law (fun_mk (st := s_law) ll lc lk) T j1 j11
end Jo

set_option Elab.async false
set_option linter.all false
set_option maxRecDepth 100000
set_option maxHeartbeats 2000000
open PySem PySem.W PySem.Calls PyProof.Rows
theorem PySem.Challenge.cw_reentry_k26_rules_refused_holds : PySem.Challenge.rw_reentry_k26_rules_refused.Holds := by
  w_on; o_law
  refine HandSHeadRun.head_any (r := OpenLaw.row PySem.Challenge.rw_reentry_k26_rules_refused) (q := view (OpenLaw.row PySem.Challenge.rw_reentry_k26_rules_refused).prog [38]) (H := Jo.hk) (ob := Jo.ob) (M := 11000) (loose := Jo.namesA) (d := HandSHeadRun.topDef (OpenLaw.row PySem.Challenge.rw_reentry_k26_rules_refused).prog 38) (kwd := []) Jo.ob_eq
    (by kernel_rfl) (fun s => by kernel_rfl) Jo.run (by kernel_rfl) (by kernel_rfl) (by kernel_rfl) (by rfl) (by first | assumption | decide +kernel) (by decide +kernel) ⟨rfl, rfl, rfl, rfl, rfl, by decide +kernel⟩ ?hw ?hc
  case hw => w_witness2
  case hc =>
    refine Jo.walk_ofEG (l := PySem.Challenge.rw_reentry_k26_rules_refused) (n := 63) (k := 10) (x := "_law_script") rfl (by decide) (by kernel_rfl) ⟨rfl, by decide, by decide⟩ ?F
    intro w mg fa h Y G hmg0
    obtain ⟨K, KX, c⟩ := Y
    have hmg : mg ("law" : PySem.Str) = some (.ref fa) := by
      have e : (HandSHeadRun.topDef (OpenLaw.row PySem.Challenge.rw_reentry_k26_rules_refused).prog 38).name = ("law" : PySem.Str) := by kernel_rfl
      rw [← e]
      exact hmg0
    obtain ⟨fd, hb, hF⟩ := Jo.facts (P := (PySem.Challenge.rw_reentry_k26_rules_refused).prog) (w := w) KX G hmg c
    exact ⟨K, fd, Jo.spLaw K, KX, hb, fun H a ns hl _ _ hS => ⟨a, ns, rfl, hS, hl, fun _ => rfl⟩, hF⟩

