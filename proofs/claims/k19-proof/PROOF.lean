import PyProof.Rows.All
import Wide.All
import OpenK.AllK
import Wide.FinOn
import KE.KStateDown
import HandS.ForMost
import HandS.ForExc
import HandS.IsInst
import HandS.Defaults
import HandS.Head0
import HandS.Head1
import HandS.Head2
import HandS.HeadEnd
import HandS.HeadHook1
import HandS.HeadHook2
import HandS.HeadHook3
import KE.KExcSuper
import HandS.ExcField
import HandS.EndTab
import HandS.Wide
import HandS.Flow
import HandS.ExcInit
import HandS.Nested
import HandS.FStr
import KE.KDictOf
import HandS.More
import HandS.Zip
import KE.KExcIs
import HandS.ExcIs
import HandS.Lambda
import HandS.SetFor
import HandS.StrMore
import KE.GoesEnum
import KE.GoesMore
import KE.GoesZip
import HandS.Set
import HandS.Strs
import HandS.Dict
import HandS.Star
import HandS.Walk
import HandS.CallLocal
import HandS.Text
import HandS.RaiseMore
import HandS.Conv
import KE.IntTextText
import PyProof.ListStr
import HandS.Style
import PyProof.StrBlock2
import KE.DataEq
import PySem.Challenge.RW_whatremains_k19_texts_that_are_none
set_option Elab.async false
set_option linter.all false
set_option maxRecDepth 100000
set_option maxHeartbeats 4000000
/-! a head's facts: defs, constants, tables with text keys, and tests of one's own -/
namespace Wr
open PySem PySem.Spec PyProof.Rows L2
abbrev AlX : Type := (He.AlD × Bool) × List (Option (List (Option (Str × Int))))
def obsX (fa : List He.Fa) (fn : List He.DefD) (ex : List (PySem.W.Frag → Bool)) (ts : List He.Tab) (K : PySem.W.Frag) : AlX := ((He.obsD fa fn K, ex.all fun f => f K), ts.map fun t => He.dicW K (t.1 K))
def valX (fn : List He.DefD) (ts : List He.Tab) (w : World) : AlX := ((He.valD fn, true), ts.map fun t => some (He.keysIn w.params t.2))
def SaysX (fa : List He.Fa) (fn : List He.DefD) (ex : List (PySem.W.Frag → Bool)) (ts : List He.Tab) (w : World) (K : PySem.W.Frag) : Prop := obsX fa fn ex ts K = valX fn ts w
def hookX (adrs : List Addr) (fa : List He.Fa) (fn : List He.DefD) (ex : List (PySem.W.Frag → Bool)) (ts : List He.Tab) : PySem.W.Hook where
  α := AlX
  obs := fun s => obsX fa fn ex ts (He.frG s.heap.get? adrs)
  val := fun w => valX fn ts w
  says := fun w h => ∃ K : PySem.W.Frag, K.In h ∧ SaysX fa fn ex ts w K
  of := fun _ _ e => ⟨_, He.frG_in, e⟩
  keeps := fun _ _ _ ⟨K, hK, c⟩ k => ⟨K, PySem.W.Frag.In.keeps hK k, c⟩
section
variable {fa : List He.Fa} {fn : List He.DefD} {ex : List (PySem.W.Frag → Bool)} {ts : List He.Tab} {w : World} {K : PySem.W.Frag}
theorem SaysX.d (c : SaysX fa fn ex ts w K) : He.SaysD fa fn K := congrArg (fun z : AlX => z.1.1) c
theorem SaysX.tst (c : SaysX fa fn ex ts w K) (i : Nat) {f : PySem.W.Frag → Bool} (h : ex[i]? = some f := by rfl) : f K = true :=
  List.all_eq_true.mp (congrArg (fun z : AlX => z.1.2) c) f (List.mem_of_getElem? h)
theorem SaysX.tab (c : SaysX fa fn ex ts w K) (i : Nat) {t : He.Tab} (h : ts[i]? = some t := by rfl) : ∃ es n, KDict K w (t.1 K) es n := by
  have e : ts.map (fun t => He.dicW K (t.1 K)) = ts.map fun t => some (He.keysIn w.params t.2) := congrArg (fun z : AlX => z.2) c
  have e2 : (ts.map fun t => He.dicW K (t.1 K))[i]? = (ts.map fun t => some (He.keysIn w.params t.2))[i]? := by rw [e]
  rw [List.getElem?_map, List.getElem?_map, h] at e2
  exact He.dicW_ok (Option.some.inj e2)
end
/-- a tuple of the top, of which methods are asked -/
def tupDB (K : PySem.W.Frag) (x : Str) (vs : List He.Dv) : Bool := match K.lookup (He.ga K x) with
  | some ⟨.type c, none, .seq its _, _⟩ => decide (c = "tuple") && (decide (its.size ≤ sizeLine) && He.relAll (vs.map (He.Dv.v K)) its.toList)
  | _ => false
theorem tupDB_ok {K : PySem.W.Frag} {x : Str} {vs : List He.Dv} (h : tupDB K x vs = true) : ∃ (o : Obj) (its : Array Value) (n : Nat), K.lookup (He.ga K x) = some o ∧ o.cls = .type "tuple" ∧ o.dict = none ∧ o.data = .seq its n ∧ its.size ≤ sizeLine ∧ Vals (vs.map (He.Dv.v K)) its.toList := by
  unfold tupDB at h
  cases q : K.lookup (He.ga K x) with
  | none => rw [q] at h; cases h
  | some o =>
    obtain ⟨oc, od, dt, osl⟩ := o
    rw [q] at h
    cases oc with
    | type c =>
      cases od with
      | none =>
        cases dt with
        | seq its n =>
          obtain ⟨h1, h2⟩ := He.ba (show (decide (c = "tuple") && (decide (its.size ≤ sizeLine) && He.relAll (vs.map (He.Dv.v K)) its.toList)) = true from h)
          obtain ⟨h3, h4⟩ := He.ba h2
          exact ⟨_, its, n, rfl, congrArg Value.type (of_decide_eq_true h1), rfl, rfl, of_decide_eq_true h3, He.relAll_ok h4⟩
        | _ => cases h
      | some a => cases dt <;> cases h
    | _ => cases od <;> cases dt <;> cases h
/-- what the table of the top doesn't hold -/
def noneB (K : PySem.W.Frag) (x : Str) (ks : List Str) : Bool := ks.all fun k => He.eqO (PySem.W.nsIn K (He.ga K x) k) (some none)
theorem noneB_ok {K : PySem.W.Frag} {x : Str} {ks : List Str} (h : noneB K x ks = true) {k : Str} (hk : k ∈ ks) : PySem.W.nsIn K (He.ga K x) k = some none := He.eqO_ok (List.all_eq_true.mp h k hk)
end Wr
namespace Wr
open PySem PySem.Spec PyProof.Rows L2
/-! ### a table's keys are among these -/
def keysB (K : PySem.W.Frag) (a : Addr) (ks : List Str) : Bool := match K.lookup a with
  | some ⟨_, _, .dict es _, _⟩ => (es.toList.all fun e => ks.any fun k => e.key.isStr k) && !(es.toList.any (·.refKey))
  | _ => false
theorem isStr_two {v : Value} {k z : Str} (h : v.isStr k = true) (h2 : v.isStr z = true) : k = z := by
  cases v with
  | str x t =>
    have h : (x == k) = true := h
    have h2 : (x == z) = true := h2
    rw [← eq_of_beq h, ← eq_of_beq h2]
  | _ => cases h
theorem keysB_ok {K : PySem.W.Frag} {a : Addr} {ks : List Str} (h : keysB K a ks = true) {z : Str} (hz : z ∉ ks) : PySem.W.nsIn K a z = some none := by
  unfold keysB at h
  unfold PySem.W.nsIn
  split at h
  · rename_i c d es n sl e
    rw [e]
    simp only [Bool.and_eq_true, Bool.not_eq_true'] at h
    obtain ⟨h1, h2⟩ := h
    have hf : es.toList.find? (·.key.isStr z) = none := by
      rw [List.find?_eq_none]
      intro en hen hs
      obtain ⟨k, hk, hk2⟩ := List.any_eq_true.mp (List.all_eq_true.mp h1 en hen)
      exact hz (by rw [← isStr_two hk2 hs]; exact hk)
    show (match es.toList.find? (·.key.isStr z) with
      | some e => some (some e.val)
      | none => if es.toList.any (·.refKey) then none else some none) = some none
    rw [hf]
    show (if es.toList.any (·.refKey) = true then none else some none) = some none
    rw [if_neg (by rw [h2]; exact Bool.false_ne_true)]
  · cases h
end Wr
namespace Wr
open PySem PySem.Spec PyProof.Rows L2
/-! ### tests of a head: own classes, and which is which -/
def ownB (K : PySem.W.Frag) (x : Str) : Bool :=
  (match PySem.W.findIn K (.ref (He.ga K x)) "__class__" with | some (some (.builtin s)) => s == "object.__class__" | _ => false) &&
  ((match PySem.W.specialIn K (.builtin "object.__class__") "__get__" with | some (some (.builtin s)) => s == "getset_descriptor.__get__" | _ => false) &&
  ((match PySem.W.takesIn K (.builtin "object.__class__") with | some b => b | _ => false) &&
  ((match PySem.W.mroIn K (He.ga K x) (.type "object") with | some b => b | _ => false) &&
  (match PySem.W.kitOne K (.ref (He.ga K x)) (.type "int") with | some b => !b | _ => false))))
def isiB (K : PySem.W.Frag) (x y : Str) (b : Bool) : Bool := match PySem.W.kitOne K (.ref (He.ga K x)) (.ref (He.ga K y)) with | some d => d == b | _ => false
end Wr
namespace Wr
open PySem PySem.Spec PyProof.Rows L2
/-! ### a head with a table of code, exceptions' own __init__, tests of exceptions -/
abbrev IniV : Type := Option (Str × Str × Arguments × FuncBody × Scope)
def iniObs (K : PySem.W.Frag) (x : Str) : IniV := match K.lookup (He.ma K (He.ga K x) "__init__") with
  | some ⟨_, _, .func fd, _⟩ => some (fd.name, fd.qualname, fd.params, fd.body, fd.scope)
  | _ => none
def tabB (o : Option Obj) : Bool := match o with
  | some ⟨.none, none, .fields vs, sl⟩ => vs.size == 0 && sl.size == 0
  | _ => false
theorem tabB_ok {o : Option Obj} (h : tabB o = true) : o = some { cls := .none, data := .fields #[] } := by
  unfold tabB at h
  split at h
  · rename_i vs sl
    rw [Bool.and_eq_true] at h
    have h1 : vs = #[] := Array.size_eq_zero_iff.mp (eq_of_beq h.1)
    have h2 : sl = #[] := Array.size_eq_zero_iff.mp (eq_of_beq h.2)
    rw [h1, h2]
  · cases h
theorem frG_out {g : Addr → Option Obj} {a : Addr} : ∀ {as : List Addr}, a ∉ as → (He.frG g as).lookup a = none
  | [], _ => rfl
  | b :: r, n => by
    unfold He.frG
    have nb : (a == b) = false := by
      have : a ≠ b := fun z => n (by rw [z]; exact List.mem_cons_self)
      simpa using this
    have nr := frG_out (g := g) (a := a) (as := r) fun z => n (List.mem_cons_of_mem _ z)
    unfold He.frG at nr
    cases hb : g b with
    | none => rw [List.filterMap_cons, hb]; exact nr
    | some o =>
      rw [List.filterMap_cons, hb]
      show (match a == b with | true => some o | false => List.lookup a _) = none
      rw [nb]
      exact nr
/-- a part of what is seen -/
structure PartX where
  fa : List He.Fa
  fn : List He.DefD
  ex : List (PySem.W.Frag → Bool)
  ts : List He.Tab
abbrev PartX.obs (p : PartX) (K : PySem.W.Frag) : AlX := obsX p.fa p.fn p.ex p.ts K
abbrev PartX.val (p : PartX) (w : World) : AlX := valX p.fn p.ts w
abbrev PartX.Says (p : PartX) (w : World) (K : PySem.W.Frag) : Prop := SaysX p.fa p.fn p.ex p.ts w K
abbrev AlT : Type := AlX × AlX × AlX × (Bool × List IniV)
def hookP (adrs : List Addr) (p : PartX) : PySem.W.Hook where
  α := AlX
  obs := fun s => p.obs (He.frG s.heap.get? adrs)
  val := fun w => p.val w
  says := fun _ _ => True
  of := fun _ _ _ => trivial
  keeps := fun _ _ _ _ _ => trivial
def hookI (adrs : List Addr) (is : List Str) (iv : List IniV) (P : Addr) (p : PartX) : PySem.W.Hook where
  α := AlX × (Bool × List IniV)
  obs := fun s => (p.obs (He.frG s.heap.get? adrs), (tabB (s.heap.get? P), is.map fun x => iniObs (He.frG s.heap.get? adrs) x))
  val := fun w => (p.val w, (true, iv))
  says := fun _ _ => True
  of := fun _ _ _ => trivial
  keeps := fun _ _ _ _ _ => trivial
def SaysT (adrs : List Addr) (p1 p2 p3 : PartX) (is : List Str) (iv : List IniV) (P : Addr) (w : World) (h : Heap) (K : PySem.W.Frag) : Prop :=
  (p1.Says w K ∧ p2.Says w K ∧ p3.Says w K) ∧ is.map (fun x => iniObs K x) = iv ∧ h.get? P = some { cls := .none, data := .fields #[] } ∧ (∀ a ∉ adrs, K.lookup a = none)
def hookT (adrs : List Addr) (p1 p2 p3 : PartX) (is : List Str) (iv : List IniV) (P : Addr) : PySem.W.Hook where
  α := AlT
  obs := fun s => (p1.obs (He.frG s.heap.get? adrs), p2.obs (He.frG s.heap.get? adrs), p3.obs (He.frG s.heap.get? adrs), (tabB (s.heap.get? P), is.map fun x => iniObs (He.frG s.heap.get? adrs) x))
  val := fun w => (p1.val w, p2.val w, p3.val w, (true, iv))
  says := fun w h => ∃ K : PySem.W.Frag, K.In h ∧ SaysT adrs p1 p2 p3 is iv P w h K
  of := fun _ s e => ⟨_, He.frG_in, ⟨congrArg (fun z : AlT => z.1) e, congrArg (fun z : AlT => z.2.1) e, congrArg (fun z : AlT => z.2.2.1) e⟩, congrArg (fun z : AlT => z.2.2.2.2) e, tabB_ok (congrArg (fun z : AlT => z.2.2.2.1) e), fun _ n => frG_out n⟩
  keeps := fun _ _ _ ⟨K, hK, c⟩ k => ⟨K, PySem.W.Frag.In.keeps hK k, c.1, c.2.1, k _ _ c.2.2.1, c.2.2.2⟩
/-- what two runs see one run sees -/
theorem runEq_pair {r : PySem.W.OpenRow} {q : Program} {M : Nat} {loose : List PySem.Str} {w : World} {H1 H2 H : PySem.W.Hook} {o1 : PySem.W.SharedT → H1.α} {o2 : PySem.W.SharedT → H2.α} {o : PySem.W.SharedT → H.α} (f : H1.α → H2.α → H.α)
    (hf : ∀ s, o s = f (o1 s) (o2 s)) (hv : H.val w = f (H1.val w) (H2.val w)) (r1 : HandSHeadRun.RunEq r q H1 o1 M loose w) (r2 : HandSHeadRun.RunEq r q H2 o2 M loose w) : HandSHeadRun.RunEq r q H o M loose w := by
  intro os
  have a := r1 os
  have b := r2 os
  generalize HandSHeadRun.endF (HandSHeadRun.stepQ (HandSHeadRun.denQ HandSHeadRun.tabQ) r.prog w) M r.prog w os = x at a b ⊢
  cases x with
  | none => cases a
  | some s =>
    have a := Option.some.inj a
    have b := Option.some.inj b
    simp only [Prod.mk.injEq] at a b
    refine congrArg some ?_
    refine Prod.ext a.1 (Prod.ext a.2.1 ?_)
    show o s = H.val w
    rw [hf, hv, a.2.2, b.2.2]
/-! ### tests -/
def oexB (K : PySem.W.Frag) (x : Str) : Bool := (match K.lookup (He.ga K x) with
  | some ⟨.type t, _, .cls cd, sl⟩ => decide (t = "type") && (match cd.mro, sl.toList with
    | .ref C' :: bm, [_, _, _, _, some (.builtin n), _] => (C' == He.ga K x) && (n == "ValueError.__new__") && !cd.hasDel && cd.hasDict && PySem.HandSPX.refsVE bm
    | _, _ => false)
  | _ => false) && (He.eqO (PySem.W.findIn K (.ref (He.ga K x)) "__setattr__") (some (some (.builtin "object.__setattr__"))) && (decide (PySem.W.subIn K (.ref (He.ga K x)) (.type "BaseException") = some true) && (decide (PySem.W.typeIn K (.ref (He.ga K x)) = some (.type "type")) && PySem.W.keepIn K (.ref (He.ga K x)))))
/-- the __init__ of the class x, with its cell, and what super() asks -/
def iniB (mfile : Str) (K : PySem.W.Frag) (x : Str) : Bool := (match K.lookup (He.ma K (He.ga K x) "__init__") with
  | some ⟨_, _, .func fd, _⟩ => (match fd.closure with
      | [(n, cc)] => decide (n = "__class__") && (match K.lookup cc with
        | some ⟨_, _, .cell (some (.ref D)), _⟩ => D == He.ga K x
        | _ => false)
      | _ => false) && ((fd.globals == mainGlobals) && ((fd.builtins == builtinsNs) && ((match fd.defaults with
      | .none => true
      | _ => false) && (match fd.code with
      | .ref c => PySem.W.codeIn K (.ref c) fd.qualname && (match K.lookup c with
        | some ⟨_, _, .fields vs, _⟩ => (match (vs[2]? : Option Value) with
          | some (.str file _) => mfile == file
          | _ => false)
        | _ => false)
      | _ => false))))
  | _ => false) && (He.eqO (PySem.W.findIn K (.ref (He.ga K x)) "__init__") (some (some (.ref (He.ma K (He.ga K x) "__init__")))) && (decide (PySem.W.typeIn K (.ref (He.ma K (He.ga K x) "__init__")) = some (.type "function")) &&
    (He.eqO (PySem.W.ks_superIn K (He.ga K x) (He.ga K x) "__init__") (some (some (.builtin "ValueError.__init__"))) && (decide (PySem.W.subIn K (.ref (He.ga K x)) (.type "ValueError") = some true) && He.eqO (PySem.W.nsIn K cStatics "thirdparty.any") (some none)))))
/-- what isinstance asks of an exception of the class x -/
def excB (K : PySem.W.Frag) (x : Str) : Bool :=
  He.eqO (PySem.W.findIn K (.ref (He.ga K x)) "__getattribute__") (some (some (.builtin "BaseException.__getattribute__"))) && (He.eqO (PySem.W.findIn K (.ref (He.ga K x)) "__getattr__") (some none) && (decide (PySem.W.subIn K (.ref (He.ga K x)) (.type "BaseException") = some true) && (PySem.W.hasDictIn K (He.ga K x) &&
  (He.eqO (PySem.W.findIn K (.ref (He.ga K x)) "__class__") (some (some (.builtin "object.__class__"))) && (He.eqO (PySem.W.specialIn K (.builtin "object.__class__") "__get__") (some (some (.builtin "getset_descriptor.__get__"))) && (decide (PySem.W.takesIn K (.builtin "object.__class__") = some true) &&
  decide (PySem.W.mroIn K (He.ga K x) (.type "object") = some true)))))))
def kitB (K : PySem.W.Frag) (x : Str) (u : PySem.W.Frag → Value) (b : Bool) : Bool := match PySem.W.kitOne K (.ref (He.ga K x)) (u K) with | some d => d == b | _ => false
def intB (K : PySem.W.Frag) (x : Str) : Bool := match PySem.W.kitOne K (.type "int") (.ref (He.ga K x)) with | some d => d == false | _ => false
def exmB (K : PySem.W.Frag) (x y : Str) : Bool := match PySem.W.exmOne K (.ref (He.ga K x)) (.ref (He.ga K y)) with | some d => d == true | _ => false
def noB (K : PySem.W.Frag) (x f : Str) : Bool := He.eqO (PySem.W.findIn K (.ref (He.ga K x)) f) (some none)
/-- the def x's code is the code object at c, whose table is at P -/
def codB (K : PySem.W.Frag) (x : Str) (c P : Addr) : Bool := (match K.lookup (He.ga K x) with
  | some ⟨_, _, .func fd, _⟩ => (match fd.code with
    | .ref c' => c' == c
    | _ => false)
  | _ => false) && PySem.W.codeHdIn K c P
end Wr
namespace Wr
open PySem PySem.Spec PyProof.Rows L2
/-! ### a def by its name, and its use -/
/-- the def x stands as the text st says -/
def Df (K : PySem.W.Frag) (mg : Str → Option Value) (x : Str) (st : Stmt) : Prop :=
  ∃ f fd, FunD K x x (defArgs st) (defBody st) (defScope st) [] [] f fd ∧ mg x = some (.ref f)
/-- the def x may be called, by its promise -/
def Use (P : Program) (w : World) (K : PySem.W.Frag) (mg : Str → Option Value) (base : Heap) (x : Str) (ps : List Str) (k : Nat) (sp : Sp) : Prop :=
  ∃ f fd, FnOk P w K mg base CX0 k f fd ps sp ∧ mg x = some (.ref f) ∧ PySem.W.keepIn K (.ref f) = true ∧ Binds K fd ps []
abbrev BindF (x : Str) (st : Stmt) (ps : List Str) : Prop := ∀ (kV doc pm : Value) (an : Option Addr) (cdv ct : Value) (us : List Value), us.length = ps.length →
  bindArgs (PySem.W.fnOf x x (defArgs st) (defBody st) (defScope st) .none kV doc pm an cdv ct) ⟨us, []⟩ = pure (ps.zip us)
section
variable {P : Program} {w : World} {K : PySem.W.Frag} {mg : Str → Option Value} {base : Heap}
theorem Df.use {x : Str} {st : Stmt} {N ps : List Str} {k : Nat} {sp : Sp} (D : Df K mg x st) (S : FnScope N ps (defScope st)) (b : BindF x st ps) (len : ∀ vs H Q E, sp vs H Q E → vs.length = ps.length)
    (hbody : ∀ (cdv : Value) (f : Addr) (A : Around) (outer : List Env) (s : Shared) (H : Hp) (vs : List V) (Q : VK) (E : XK), Room k (A.deeper (envOfC x (defScope st) s.heap.objs.size f cdv)) → sp vs H Q E →
      ∃ t, PSs (cxOf CX0 P w K mg base N x (defScope st) f cdv A outer s H E).nox (defBody st) t ∧ t { nx := fun _ H' => Q .non H', rt := Q } (start N vs) H) : Use P w K mg base x ps (k + 1) sp := by
  obtain ⟨f, fd, F, m⟩ := D
  refine ⟨f, fd, F.ok S len fun cdv A outer s H vs Q E hr h => ?_, m, F.kp, F.bindsN b⟩
  obtain ⟨t, h1, h2⟩ := hbody cdv f A outer s H vs Q E hr h
  exact ⟨t, h1.nox, h2⟩
theorem Use.mono {x : Str} {ps : List Str} {k j : Nat} {sp : Sp} (U : Use P w K mg base x ps k sp) (h : k ≤ j) : Use P w K mg base x ps j sp := by
  obtain ⟨f, fd, F, m, kp, b⟩ := U
  exact ⟨f, fd, F.mono h, m, kp, b⟩
end
/-- a call of such a def -/
theorem pe_use {X : Cx} {x : Str} {ps : List Str} {k : Nat} {sp : Sp} {e : Expr} {es : List Expr} {t : TA} {p pos : Pos} (U : Use X.prog X.w X.K X.mg X.base x ps k sp) (hr : Room k X.A) (ha : PA X (e :: es) t) (hg : Gl X x := by rfl)
    (hdb : (x == ("__debug__" : Str)) = false := by decide) (he : starEach (e :: es) X.env = (false, eval e X.env) :: starEach es X.env := by rfl) (hpl : ((backTo pos (starEach es X.env)).any fun x => x.fst) = false := by rfl) :
    PE X (.Call (.Name x p) (e :: es) [] pos) (tCall sp [] E0 t) := by
  obtain ⟨f, fd, F, m, kp, b⟩ := U
  exact pe_call F hr hg m kp b .nil pass0 ha hdb he hpl
/-! ### heaps -/
/-- but for the things at D all that was is as it was; tuples are -/
structure Stp (D : List Addr) (H H' : Hp) : Prop where
  keep : ∀ b o, b ∉ D → H b = some o → H' b = some o
  tups : ∀ t xs, H t = some (.tup xs) → H' t = some (.tup xs)
theorem Stp.refl (D : List Addr) (H : Hp) : Stp D H H := ⟨fun _ _ _ h => h, fun _ _ h => h⟩
theorem Stp.trans {D : List Addr} {H H1 H2 : Hp} (a : Stp D H H1) (b : Stp D H1 H2) : Stp D H H2 :=
  ⟨fun c o n h => b.keep c o n (a.keep c o n h), fun t xs h => b.tups t xs (a.tups t xs h)⟩
theorem Stp.mono {D D' : List Addr} {H H' : Hp} (a : Stp D H H') (s : ∀ b ∈ D, b ∈ D') : Stp D' H H' := ⟨fun c o n h => a.keep c o (fun z => n (s c z)) h, a.tups⟩
theorem Stp.new {D : List Addr} {H : Hp} {p : Addr} (h : H p = none) (o : HO) : Stp D H (upd H p o) :=
  ⟨fun b u _ q => by rw [upd_ne (ne_of_none q h)]; exact q, fun b u q => by rw [upd_ne (ne_of_none q h)]; exact q⟩
theorem Stp.put {D : List Addr} {H : Hp} {p : Addr} (hp : p ∈ D) (hn : ∀ xs, H p ≠ some (.tup xs)) (o : HO) : Stp D H (upd H p o) :=
  ⟨fun b u n q => by rw [upd_ne (fun z => n (by rw [z]; exact hp))]; exact q, fun b u q => by rw [upd_ne (fun z => hn u (by rw [← z]; exact q))]; exact q⟩
theorem Stp.same {D : List Addr} {H H' : Hp} (h : Same H H') : Stp D H H' := ⟨fun b o _ q => h b o q, fun t xs q => h t _ q⟩
theorem Stp.nil {H H' : Hp} (a : Stp [] H H') : Same H H' := fun b o q => a.keep b o (by simp) q
theorem Stp.was {D : List Addr} {H H' : Hp} (a : Stp D H H') {p : Addr} (hp : p ∉ D) (h : H' p = none) : H p = none := by
  cases q : H p with
  | none => rfl
  | some o => rw [a.keep p o hp q] at h; cases h
theorem Stp.seq {K : PySem.W.Frag} {D : List Addr} {H H' : Hp} {a : Addr} {xs : List V} (e : Stp D H H') (ha : a ∉ D) (h : SqL K H a xs) : SqL K H' a xs := by
  rcases h with (h | ⟨o, h⟩) | h
  · exact .inl (.inl (e.keep _ _ ha h))
  · exact .inl (.inr ⟨o, e.keep _ _ ha h⟩)
  · exact .inr h
/-- a list that no store at D touches -/
def Sq2 (K : PySem.W.Frag) (H : Hp) (D : List Addr) (a : Addr) (xs : List V) : Prop :=
  (Rd H a (.lst xs) ∧ a ∉ D) ∨ ∃ (o : Obj) (its : Array Value) (n : Nat), K.lookup a = some o ∧ o.cls = .type "list" ∧ o.dict = none ∧ o.data = .seq its n ∧ its.size ≤ sizeLine ∧ Vals xs its.toList
section
variable {K : PySem.W.Frag} {H H' : Hp} {D : List Addr} {a : Addr} {xs : List V}
theorem Sq2.seq (h : Sq2 K H D a xs) : SqL K H a xs := h.imp (fun z => z.1) id
theorem Sq2.of (h : SqL K H a xs) : Sq2 K H [] a xs := h.imp (fun z => ⟨z, by simp⟩) id
theorem Sq2.step (h : Sq2 K H D a xs) (s : Stp D H H') : Sq2 K H' D a xs := h.imp (fun z => ⟨z.1.imp (fun e => s.keep _ _ z.2 e) fun ⟨o, e⟩ => ⟨o, s.keep _ _ z.2 e⟩, z.2⟩) id
theorem Sq2.new {p : Addr} {o : HO} (h : Sq2 K H D a xs) (n : H p = none) : Sq2 K (upd H p o) (p :: D) a xs := h.imp (fun ⟨z, m⟩ => by
    have ne : a ≠ p := fun e => by
      subst e
      rcases z with z | ⟨_, z⟩ <;> (rw [n] at z; cases z)
    refine ⟨z.imp (fun e => by rw [upd_ne ne]; exact e) fun ⟨o, e⟩ => ⟨o, by rw [upd_ne ne]; exact e⟩, fun q => ?_⟩
    rcases List.mem_cons.mp q with e | e
    · exact ne e
    · exact m e) id
end
/-- the dice at d over the script at a, whose numbers are ns; D: where is written -/
structure Dice (K : PySem.W.Frag) (H : Hp) (D : List Addr) (d a : Addr) (ns : List Int) : Prop where
  at_ : ∃ i m c : Int, H d = some (.lst [.ref a, .int i, .int m, .int c]) ∧ 0 ≤ i ∧ 0 ≤ m ∧ m < 2147483647 ∧ 0 ≤ c
  sq : Sq2 K H D a (ns.map V.int)
  mem : d ∈ D
  len : ns.length ≤ 63
section
variable {K : PySem.W.Frag} {H H' : Hp} {D : List Addr} {d a : Addr} {ns : List Int}
/-- stores elsewhere leave the dice -/
theorem Dice.step {D' : List Addr} (h : Dice K H D d a ns) (s : Stp D' H H') (hs : ∀ b ∈ D', b ∈ D) (hd : d ∉ D') : Dice K H' D d a ns := by
  obtain ⟨⟨i, m, c, e, r⟩, sq, mm, l⟩ := h
  exact ⟨⟨i, m, c, s.keep _ _ hd e, r⟩, sq.step (s.mono hs), mm, l⟩
theorem Dice.new {p : Addr} {o : HO} (h : Dice K H D d a ns) (n : H p = none) : Dice K (upd H p o) (p :: D) d a ns := by
  obtain ⟨⟨i, m, c, e, r⟩, sq, mm, l⟩ := h
  exact ⟨⟨i, m, c, by rw [upd_ne (ne_of_none e n)]; exact e, r⟩, sq.new n, List.mem_cons_of_mem _ mm, l⟩
theorem Dice.up {p : Addr} {o : HO} (h : Dice K H D d a ns) (n : H p = none) : Dice K (upd H p o) D d a ns := by
  obtain ⟨⟨i, m, c, e, r⟩, sq, mm, l⟩ := h
  exact ⟨⟨i, m, c, by rw [upd_ne (ne_of_none e n)]; exact e, r⟩, sq.step (.new n _), mm, l⟩
theorem Dice.is_ (h : Dice K H D d a ns) : ∃ xs, H d = some (.lst xs) := let ⟨_, _, _, e, _⟩ := h.at_; ⟨_, e⟩
end
end Wr
namespace Wr
open PySem PySem.Spec PyProof.Rows L2
def top (i : Nat) : Stmt := PySem.Challenge.pw_whatremains_k19_texts_that_are_none.main.body.getD i (.Pass ⟨0, 0, 0, 0⟩)
abbrev s_BadProgram_init : Stmt := inClass (top 2) 0
abbrev s_BadPapers_init : Stmt := inClass (top 4) 0
abbrev s_BadText_init : Stmt := inClass (top 5) 0
abbrev s_Part_init : Stmt := inClass (top 12) 0
abbrev s_Tree_init : Stmt := inClass (top 13) 0
abbrev s_Reader_init : Stmt := inClass (top 14) 0
abbrev s_Reader_part_of : Stmt := inClass (top 14) 1
abbrev s_Reader_parts_of : Stmt := inClass (top 14) 2
abbrev s_why_not : Stmt := top 15
abbrev s_has_shape : Stmt := top 16
abbrev s_fits : Stmt := top 17
abbrev s_is_whole : Stmt := top 18
abbrev s_standing : Stmt := top 19
abbrev s_tree_of : Stmt := top 20
abbrev s_written : Stmt := top 25
abbrev s_words_of : Stmt := top 26
abbrev s_is_number : Stmt := top 27
abbrev s_Reading_init : Stmt := inClass (top 28) 0
abbrev s_Reading_takes : Stmt := inClass (top 28) 1
abbrev s_Reading_takes_name : Stmt := inClass (top 28) 2
abbrev s_Reading_begin : Stmt := inClass (top 28) 3
abbrev s_Reading_put : Stmt := inClass (top 28) 4
abbrev s_place_of_next : Stmt := top 29
abbrev s_is_complete : Stmt := top 30
abbrev s_read : Stmt := top 31
abbrev s_L_dice : Stmt := top 33
abbrev s_L_next : Stmt := top 34
abbrev s_L_like : Stmt := top 35
abbrev s_L_name : Stmt := top 36
abbrev s_L_leaf : Stmt := top 37
abbrev s_L_with : Stmt := top 38
abbrev s_L_free : Stmt := top 39
abbrev s_L_expr : Stmt := top 40
abbrev s_L_let : Stmt := top 41
abbrev s_L_use : Stmt := top 42
abbrev s_L_catch : Stmt := top 43
abbrev s_L_size : Stmt := top 44
abbrev s_L_deep : Stmt := top 45
abbrev s_L_program : Stmt := top 46
abbrev s_L_loop : Stmt := top 47
abbrev s_L_again : Stmt := top 48
abbrev s_L_long : Stmt := top 49
abbrev s_L_any : Stmt := top 50
abbrev s_L_told : Stmt := top 51
abbrev s_L_wants : Stmt := top 52
abbrev s_L_figures : Stmt := top 53
abbrev s_L_spot : Stmt := top 54
abbrev s_L_built : Stmt := top 55
abbrev s_L_changed : Stmt := top 56
abbrev s_law : Stmt := top 57
end Wr
set_option maxHeartbeats 0
namespace H19
open PySem PySem.Spec PyProof.Rows L2 Wr
def adrs0 : List Addr := [mainGlobals, cStatics, 472, 6, 4, 24, 46, 58, 79, 100, 103, 104, 122, 143, 178, 187, 192, 199, 206, 211, 218, 219, 226, 233, 238, 283, 294, 301, 308, 315, 322, 329, 334, 341, 348, 355, 362, 369, 376, 383]
def adrs1 : List Addr := [388, 393, 400, 407, 414, 419, 426, 433, 440, 445, 452, 459, 466, 473, 23, 45, 57, 78, 99, 121, 142, 177, 186, 191, 198, 205, 210, 217, 225, 232, 237, 282, 293, 300, 307, 314, 321, 328, 333, 340]
def adrs2 : List Addr := [347, 354, 361, 368, 375, 382, 387, 392, 399, 406, 413, 418, 425, 432, 439, 444, 451, 458, 465, 22, 25, 43, 44, 56, 76, 77, 97, 98, 119, 120, 123, 124, 140, 141, 144, 145, 161, 168, 175, 176]
def adrs3 : List Addr := [179, 180, 252, 259, 266, 273, 280, 281, 284, 285, 42, 31, 75, 64, 96, 85, 118, 139, 160, 167, 174, 251, 258, 265, 272, 279]
def adrs : List Addr := adrs0 ++ adrs1 ++ adrs2 ++ adrs3
abbrev Pg : Program := PySem.Challenge.rw_whatremains_k19_texts_that_are_none.prog
def d_Part_init : He.DefD := ⟨("Part", some "__init__"), "__init__", "Part.__init__", defArgs s_Part_init, defBody s_Part_init, defScope s_Part_init, [], []⟩
def d_Tree_init : He.DefD := ⟨("Tree", some "__init__"), "__init__", "Tree.__init__", defArgs s_Tree_init, defBody s_Tree_init, defScope s_Tree_init, [], []⟩
def d_Reader_init : He.DefD := ⟨("Reader", some "__init__"), "__init__", "Reader.__init__", defArgs s_Reader_init, defBody s_Reader_init, defScope s_Reader_init, [], []⟩
def d_Reader_part_of : He.DefD := ⟨("Reader", some "part_of"), "part_of", "Reader.part_of", defArgs s_Reader_part_of, defBody s_Reader_part_of, defScope s_Reader_part_of, [], []⟩
def d_Reader_parts_of : He.DefD := ⟨("Reader", some "parts_of"), "parts_of", "Reader.parts_of", defArgs s_Reader_parts_of, defBody s_Reader_parts_of, defScope s_Reader_parts_of, [], []⟩
def d_why_not : He.DefD := ⟨("why_not", none), "why_not", "why_not", defArgs s_why_not, defBody s_why_not, defScope s_why_not, [], []⟩
def d_has_shape : He.DefD := ⟨("has_shape", none), "has_shape", "has_shape", defArgs s_has_shape, defBody s_has_shape, defScope s_has_shape, [], []⟩
def d_fits : He.DefD := ⟨("fits", none), "fits", "fits", defArgs s_fits, defBody s_fits, defScope s_fits, [], []⟩
def d_is_whole : He.DefD := ⟨("is_whole", none), "is_whole", "is_whole", defArgs s_is_whole, defBody s_is_whole, defScope s_is_whole, [], []⟩
def d_standing : He.DefD := ⟨("standing", none), "standing", "standing", defArgs s_standing, defBody s_standing, defScope s_standing, [], []⟩
def d_tree_of : He.DefD := ⟨("tree_of", none), "tree_of", "tree_of", defArgs s_tree_of, defBody s_tree_of, defScope s_tree_of, [], []⟩
def d_written : He.DefD := ⟨("written", none), "written", "written", defArgs s_written, defBody s_written, defScope s_written, [], []⟩
def d_words_of : He.DefD := ⟨("words_of", none), "words_of", "words_of", defArgs s_words_of, defBody s_words_of, defScope s_words_of, [], []⟩
def d_is_number : He.DefD := ⟨("is_number", none), "is_number", "is_number", defArgs s_is_number, defBody s_is_number, defScope s_is_number, [], []⟩
def d_Reading_init : He.DefD := ⟨("Reading", some "__init__"), "__init__", "Reading.__init__", defArgs s_Reading_init, defBody s_Reading_init, defScope s_Reading_init, [], []⟩
def d_Reading_takes : He.DefD := ⟨("Reading", some "takes"), "takes", "Reading.takes", defArgs s_Reading_takes, defBody s_Reading_takes, defScope s_Reading_takes, [], []⟩
def d_Reading_takes_name : He.DefD := ⟨("Reading", some "takes_name"), "takes_name", "Reading.takes_name", defArgs s_Reading_takes_name, defBody s_Reading_takes_name, defScope s_Reading_takes_name, [], []⟩
def d_Reading_begin : He.DefD := ⟨("Reading", some "begin"), "begin", "Reading.begin", defArgs s_Reading_begin, defBody s_Reading_begin, defScope s_Reading_begin, [], []⟩
def d_Reading_put : He.DefD := ⟨("Reading", some "put"), "put", "Reading.put", defArgs s_Reading_put, defBody s_Reading_put, defScope s_Reading_put, [], []⟩
def d_place_of_next : He.DefD := ⟨("place_of_next", none), "place_of_next", "place_of_next", defArgs s_place_of_next, defBody s_place_of_next, defScope s_place_of_next, [], []⟩
def d_is_complete : He.DefD := ⟨("is_complete", none), "is_complete", "is_complete", defArgs s_is_complete, defBody s_is_complete, defScope s_is_complete, [], []⟩
def d_read : He.DefD := ⟨("read", none), "read", "read", defArgs s_read, defBody s_read, defScope s_read, [], []⟩
def d_L_dice : He.DefD := ⟨("_law_dice", none), "_law_dice", "_law_dice", defArgs s_L_dice, defBody s_L_dice, defScope s_L_dice, [], []⟩
def d_L_next : He.DefD := ⟨("_law_next", none), "_law_next", "_law_next", defArgs s_L_next, defBody s_L_next, defScope s_L_next, [], []⟩
def d_L_like : He.DefD := ⟨("_law_like", none), "_law_like", "_law_like", defArgs s_L_like, defBody s_L_like, defScope s_L_like, [], []⟩
def d_L_name : He.DefD := ⟨("_law_name", none), "_law_name", "_law_name", defArgs s_L_name, defBody s_L_name, defScope s_L_name, [], []⟩
def d_L_leaf : He.DefD := ⟨("_law_leaf", none), "_law_leaf", "_law_leaf", defArgs s_L_leaf, defBody s_L_leaf, defScope s_L_leaf, [], []⟩
def d_L_with : He.DefD := ⟨("_law_with", none), "_law_with", "_law_with", defArgs s_L_with, defBody s_L_with, defScope s_L_with, [], []⟩
def d_L_free : He.DefD := ⟨("_law_free", none), "_law_free", "_law_free", defArgs s_L_free, defBody s_L_free, defScope s_L_free, [], []⟩
def d_L_expr : He.DefD := ⟨("_law_expr", none), "_law_expr", "_law_expr", defArgs s_L_expr, defBody s_L_expr, defScope s_L_expr, [], []⟩
def d_L_let : He.DefD := ⟨("_law_let", none), "_law_let", "_law_let", defArgs s_L_let, defBody s_L_let, defScope s_L_let, [], []⟩
def d_L_use : He.DefD := ⟨("_law_use", none), "_law_use", "_law_use", defArgs s_L_use, defBody s_L_use, defScope s_L_use, [], []⟩
def d_L_catch : He.DefD := ⟨("_law_catch", none), "_law_catch", "_law_catch", defArgs s_L_catch, defBody s_L_catch, defScope s_L_catch, [], []⟩
def d_L_size : He.DefD := ⟨("_law_size", none), "_law_size", "_law_size", defArgs s_L_size, defBody s_L_size, defScope s_L_size, [], []⟩
def d_L_deep : He.DefD := ⟨("_law_deep", none), "_law_deep", "_law_deep", defArgs s_L_deep, defBody s_L_deep, defScope s_L_deep, [], []⟩
def d_L_program : He.DefD := ⟨("_law_program", none), "_law_program", "_law_program", defArgs s_L_program, defBody s_L_program, defScope s_L_program, [], []⟩
def d_L_loop : He.DefD := ⟨("_law_loop", none), "_law_loop", "_law_loop", defArgs s_L_loop, defBody s_L_loop, defScope s_L_loop, [], []⟩
def d_L_again : He.DefD := ⟨("_law_again", none), "_law_again", "_law_again", defArgs s_L_again, defBody s_L_again, defScope s_L_again, [], []⟩
def d_L_long : He.DefD := ⟨("_law_long", none), "_law_long", "_law_long", defArgs s_L_long, defBody s_L_long, defScope s_L_long, [], []⟩
def d_L_any : He.DefD := ⟨("_law_any", none), "_law_any", "_law_any", defArgs s_L_any, defBody s_L_any, defScope s_L_any, [], []⟩
def d_L_told : He.DefD := ⟨("_law_told", none), "_law_told", "_law_told", defArgs s_L_told, defBody s_L_told, defScope s_L_told, [], []⟩
def d_L_wants : He.DefD := ⟨("_law_wants", none), "_law_wants", "_law_wants", defArgs s_L_wants, defBody s_L_wants, defScope s_L_wants, [], []⟩
def d_L_figures : He.DefD := ⟨("_law_figures", none), "_law_figures", "_law_figures", defArgs s_L_figures, defBody s_L_figures, defScope s_L_figures, [], []⟩
def d_L_spot : He.DefD := ⟨("_law_spot", none), "_law_spot", "_law_spot", defArgs s_L_spot, defBody s_L_spot, defScope s_L_spot, [], []⟩
def d_L_built : He.DefD := ⟨("_law_built", none), "_law_built", "_law_built", defArgs s_L_built, defBody s_L_built, defScope s_L_built, [], []⟩
def d_L_changed : He.DefD := ⟨("_law_changed", none), "_law_changed", "_law_changed", defArgs s_L_changed, defBody s_L_changed, defScope s_L_changed, [], []⟩
def d_law : He.DefD := ⟨("law", none), "law", "law", defArgs s_law, defBody s_law, defScope s_law, [], []⟩
def kv_SHAPES : List (Str × He.Dv) := [("num", .str "n"), ("name", .str "x"), ("add", .str "ee"), ("take", .str "ee"), ("less", .str "ee"), ("if", .str "eee"), ("let", .str "xee"), ("fun", .str "xe"), ("call", .str "ee"), ("say", .str "e"), ("box", .str "e"), ("look", .str "e"), ("put", .str "ee"), ("catch", .str "exxe"), ("throw", .str "e"), ("go", .str "ee"), ("drop", .str "e"), ("last", .str "ee"), ("else", .str "ee"), ("fault", .str "")]
def fn0_0 : List He.DefD := [d_Part_init, d_Tree_init, d_Reader_init, d_Reader_part_of, d_Reader_parts_of, d_why_not, d_has_shape, d_fits, d_is_whole, d_standing, d_tree_of, d_written, d_words_of, d_is_number, d_Reading_init, d_Reading_takes]
def fn0_ : List He.DefD := fn0_0
def fa0_0 : List He.Fa := [.mkr "Part", .glo "Part", .mkr "Tree", .glo "Tree", .mkr "Reader", .glo "Reader", .meth "Reader" "part_of", .meth "Reader" "parts_of", .glo "why_not", .glo "has_shape", .glo "fits", .glo "is_whole", .glo "standing", .glo "tree_of", .glo "written", .glo "words_of", .glo "is_number", .mkr "Reading", .glo "Reading", .meth "Reading" "takes", .free "min", .free "sorted", .free "super", .cls "Part", .noat "Part" "number", .cls "Tree", .noat "Tree" "turns", .noat "Reader" "turns", .noat "Reading" "whole", .glo "BadPapers"]
def fa0_1 : List He.Fa := [.str "FIGURES" "0123456789", .glo "AS_THEY_ARE"]
def fa0_ : List He.Fa := fa0_0 ++ fa0_1
def ex0_0 : List (PySem.W.Frag → Bool) := [(fun K => excB K "BadProgram"), (fun K => kitB K "BadProgram" (fun K => .ref (He.ga K "BadProgram")) true), (fun K => kitB K "BadProgram" (fun K => .ref (He.ga K "BadText")) false), (fun K => exmB K "BadFuel" "RestError"), (fun K => kitB K "BadFuel" (fun K => .ref (He.ga K "BadPapers")) false), (fun K => kitB K "BadPapers" (fun _ => .type "ValueError") true), (fun K => kitB K "BadPapers" (fun K => .ref (He.ga K "BadFuel")) false), (fun K => excB K "BadText"), (fun K => kitB K "BadText" (fun K => .ref (He.ga K "BadProgram")) false), (fun K => kitB K "BadText" (fun K => .ref (He.ga K "BadText")) true), (fun K => xfB K (He.ga K "BadText")), (fun K => noB K "BadPapers" "number"), (fun K => iniB Pg.main.file K "BadProgram"), (fun K => codB K "law" 472 468), (fun K => tupDB K "NAMES" [.str "a", .str "b", .str "c", .str "d", .str "e", .str "f", .str "g", .str "h"])]
def ex0_ : List (PySem.W.Frag → Bool) := ex0_0
def ts0_0 : List He.Tab := []
def ts0_ : List He.Tab := ts0_0
def p0 : PartX := ⟨fa0_, fn0_, ex0_, ts0_⟩
def fn1_0 : List He.DefD := [d_Reading_takes_name, d_Reading_begin, d_Reading_put, d_place_of_next, d_is_complete, d_read, d_L_dice, d_L_next, d_L_like, d_L_name, d_L_leaf, d_L_with, d_L_free, d_L_expr, d_L_let, d_L_use]
def fn1_ : List He.DefD := fn1_0
def fa1_0 : List He.Fa := [.meth "Reading" "takes_name", .meth "Reading" "begin", .meth "Reading" "put", .glo "place_of_next", .glo "is_complete", .glo "read", .glo "_law_dice", .glo "_law_next", .glo "_law_like", .glo "_law_name", .glo "_law_leaf", .glo "_law_with", .glo "_law_free", .glo "_law_expr", .glo "_law_let", .glo "_law_use", .free "bool", .free "enumerate", .free "isinstance", .free "list", .free "range", .free "str", .free "tuple", .noat "Part" "word", .noat "Part" "names", .noat "Tree" "top", .cls "Reader", .cls "Reading", .glo "BadProgram", .glo "BadText"]
def fa1_1 : List He.Fa := [.int "MOST_PARTS" 200, .int "MOST_NUMBER" 1000000, .glo "SHAPES"]
def fa1_ : List He.Fa := fa1_0 ++ fa1_1
def ex1_0 : List (PySem.W.Frag → Bool) := [(fun K => kitB K "BadProgram" (fun _ => .type "ValueError") true), (fun K => kitB K "BadProgram" (fun K => .ref (He.ga K "BadFuel")) false), (fun K => excB K "BadFuel"), (fun K => kitB K "BadFuel" (fun K => .ref (He.ga K "BadProgram")) false), (fun K => kitB K "BadFuel" (fun K => .ref (He.ga K "BadText")) false), (fun K => exmB K "BadPapers" "RestError"), (fun K => kitB K "BadPapers" (fun K => .ref (He.ga K "BadPapers")) true), (fun K => kitB K "BadText" (fun _ => .type "ValueError") true), (fun K => kitB K "BadText" (fun K => .ref (He.ga K "BadFuel")) false), (fun K => xfB K (He.ga K "BadProgram")), (fun K => noB K "BadProgram" "at"), (fun K => noB K "BadText" "place"), (fun K => oexB K "BadText"), (fun K => keysB K (He.ga K "SHAPES") ["num", "name", "add", "take", "less", "if", "let", "fun", "call", "say", "box", "look", "put", "catch", "throw", "go", "drop", "last", "else", "fault"]), (fun K => tupDB K "AS_THEY_ARE" [.str "num", .str "name"])]
def ex1_ : List (PySem.W.Frag → Bool) := ex1_0
def ts1_0 : List He.Tab := []
def ts1_ : List He.Tab := ts1_0
def p1 : PartX := ⟨fa1_, fn1_, ex1_, ts1_⟩
def fn2_0 : List He.DefD := [d_L_catch, d_L_size, d_L_deep, d_L_program, d_L_loop, d_L_again, d_L_long, d_L_any, d_L_told, d_L_wants, d_L_figures, d_L_spot, d_L_built, d_L_changed, d_law]
def fn2_ : List He.DefD := fn2_0
def fa2_0 : List He.Fa := [.glo "_law_catch", .glo "_law_size", .glo "_law_deep", .glo "_law_program", .glo "_law_loop", .glo "_law_again", .glo "_law_long", .glo "_law_any", .glo "_law_told", .glo "_law_wants", .glo "_law_figures", .glo "_law_spot", .glo "_law_built", .glo "_law_changed", .glo "law", .free "ValueError", .free "abs", .free "all", .free "dict", .free "int", .free "len", .free "max", .free "set", .free "sum", .free "zip", .noat "Part" "turn", .noat "Part" "within", .noat "Tree" "size", .noat "Reader" "size", .noat "Reading" "waiting"]
def fa2_1 : List He.Fa := [.glo "BadFuel", .glo "RestError", .int "MOST_AROUND" 40, .glo "NAMES", .int "MOST_FIGURES" 7]
def fa2_ : List He.Fa := fa2_0 ++ fa2_1
def ex2_0 : List (PySem.W.Frag → Bool) := [(fun K => exmB K "BadProgram" "RestError"), (fun K => kitB K "BadProgram" (fun K => .ref (He.ga K "BadPapers")) false), (fun K => kitB K "BadFuel" (fun _ => .type "ValueError") true), (fun K => kitB K "BadFuel" (fun K => .ref (He.ga K "BadFuel")) true), (fun K => excB K "BadPapers"), (fun K => kitB K "BadPapers" (fun K => .ref (He.ga K "BadProgram")) false), (fun K => kitB K "BadPapers" (fun K => .ref (He.ga K "BadText")) false), (fun K => exmB K "BadText" "RestError"), (fun K => kitB K "BadText" (fun K => .ref (He.ga K "BadPapers")) false), (fun K => xfB K (He.ga K "BadPapers")), (fun K => noB K "BadProgram" "why"), (fun K => oexB K "BadProgram"), (fun K => iniB Pg.main.file K "BadText"), (fun K => He.valsB K (He.ga K "SHAPES") kv_SHAPES)]
def ex2_ : List (PySem.W.Frag → Bool) := ex2_0
def ts2_0 : List He.Tab := [(fun K => He.ga K "SHAPES", ["num", "name", "add", "take", "less", "if", "let", "fun", "call", "say", "box", "look", "put", "catch", "throw", "go", "drop", "last", "else", "fault"])]
def ts2_ : List He.Tab := ts2_0
def p2 : PartX := ⟨fa2_, fn2_, ex2_, ts2_⟩
abbrev Says (w : World) (K : PySem.W.Frag) : Prop := p0.Says w K ∧ p1.Says w K ∧ p2.Says w K
def names0 : List PySem.Str := ["RestError", "BadProgram", "BadFuel", "BadPapers", "BadText", "MOST_PARTS", "MOST_AROUND", "MOST_NUMBER", "NAMES", "SHAPES", "Part", "Tree", "Reader", "why_not", "has_shape", "fits", "is_whole", "standing", "tree_of", "FIGURES", "MOST_FIGURES", "AS_THEY_ARE", "written", "words_of", "is_number", "Reading", "place_of_next", "is_complete", "read", "_law_dice"]
def names1 : List PySem.Str := ["_law_next", "_law_like", "_law_name", "_law_leaf", "_law_with", "_law_free", "_law_expr", "_law_let", "_law_use", "_law_catch", "_law_size", "_law_deep", "_law_program", "_law_loop", "_law_again", "_law_long", "_law_any", "_law_told", "_law_wants", "_law_figures", "_law_spot", "_law_built", "_law_changed"]
def names : List PySem.Str := names0 ++ names1
def iis : List Str := ["BadProgram", "BadText"]
def iiv : List IniV := [some (("__init__" : Str), ("BadProgram.__init__" : Str), defArgs s_BadProgram_init, FuncBody.stmts (defBody s_BadProgram_init), defScope s_BadProgram_init), some (("__init__" : Str), ("BadText.__init__" : Str), defArgs s_BadText_init, FuncBody.stmts (defBody s_BadText_init), defScope s_BadText_init)]
abbrev R : PySem.W.OpenRow := PySem.W.OpenLaw.row PySem.Challenge.rw_whatremains_k19_texts_that_are_none
def hk : PySem.W.Hook := hookT adrs p0 p1 p2 iis iiv 468
def fr (s : PySem.W.SharedT) : PySem.W.Frag := He.frG (HandSHeadRun.getT s) adrs
def ob (s : PySem.W.SharedT) : AlT := (p0.obs (fr s), p1.obs (fr s), p2.obs (fr s), (tabB (HandSHeadRun.getT s 468), iis.map fun x => iniObs (fr s) x))
theorem ob_eq (s : PySem.W.SharedT) : ob s = hk.obs s.abs := by
  have e : HandSHeadRun.getT s = s.abs.heap.get? := funext (HandSHeadRun.getT_eq s)
  have e2 : fr s = He.frG s.abs.heap.get? adrs := by unfold fr; rw [e]
  show (p0.obs (fr s), p1.obs (fr s), p2.obs (fr s), (tabB (HandSHeadRun.getT s 468), iis.map fun x => iniObs (fr s) x)) = (p0.obs (He.frG s.abs.heap.get? adrs), p1.obs (He.frG s.abs.heap.get? adrs), p2.obs (He.frG s.abs.heap.get? adrs), (tabB (s.abs.heap.get? 468), iis.map fun x => iniObs (He.frG s.abs.heap.get? adrs) x))
  rw [e2, e]
theorem run0f (w : World) : HandSHeadRun.RunEq R (PySem.W.view R.prog [57]) (hookI adrs iis iiv 468 p0) (fun s => (p0.obs (fr s), (tabB (HandSHeadRun.getT s 468), iis.map fun x => iniObs (fr s) x))) 20000 names (w.withFollow "special-get-raises" false) := by
  intro os
  kernel_rfl
theorem run0t (w : World) : HandSHeadRun.RunEq R (PySem.W.view R.prog [57]) (hookI adrs iis iiv 468 p0) (fun s => (p0.obs (fr s), (tabB (HandSHeadRun.getT s 468), iis.map fun x => iniObs (fr s) x))) 20000 names (w.withFollow "special-get-raises" true) := by
  intro os
  kernel_rfl
theorem run0 (w : World) : HandSHeadRun.RunEq R (PySem.W.view R.prog [57]) (hookI adrs iis iiv 468 p0) (fun s => (p0.obs (fr s), (tabB (HandSHeadRun.getT s 468), iis.map fun x => iniObs (fr s) x))) 20000 names w := PySem.W.byRow2 "special-get-raises" run0f run0t w
theorem run1f (w : World) : HandSHeadRun.RunEq R (PySem.W.view R.prog [57]) (hookP adrs p1) (fun s => p1.obs (fr s)) 20000 names (w.withFollow "special-get-raises" false) := by
  intro os
  kernel_rfl
theorem run1t (w : World) : HandSHeadRun.RunEq R (PySem.W.view R.prog [57]) (hookP adrs p1) (fun s => p1.obs (fr s)) 20000 names (w.withFollow "special-get-raises" true) := by
  intro os
  kernel_rfl
theorem run1 (w : World) : HandSHeadRun.RunEq R (PySem.W.view R.prog [57]) (hookP adrs p1) (fun s => p1.obs (fr s)) 20000 names w := PySem.W.byRow2 "special-get-raises" run1f run1t w
theorem run2f (w : World) : HandSHeadRun.RunEq R (PySem.W.view R.prog [57]) (hookP adrs p2) (fun s => p2.obs (fr s)) 20000 names (w.withFollow "special-get-raises" false) := by
  intro os
  kernel_rfl
theorem run2t (w : World) : HandSHeadRun.RunEq R (PySem.W.view R.prog [57]) (hookP adrs p2) (fun s => p2.obs (fr s)) 20000 names (w.withFollow "special-get-raises" true) := by
  intro os
  kernel_rfl
theorem run2 (w : World) : HandSHeadRun.RunEq R (PySem.W.view R.prog [57]) (hookP adrs p2) (fun s => p2.obs (fr s)) 20000 names w := PySem.W.byRow2 "special-get-raises" run2f run2t w
def hook12 : PySem.W.Hook where
  α := AlX × AlX
  obs := fun s => (p1.obs (He.frG s.heap.get? adrs), p2.obs (He.frG s.heap.get? adrs))
  val := fun w => (p1.val w, p2.val w)
  says := fun _ _ => True
  of := fun _ _ _ => trivial
  keeps := fun _ _ _ _ _ => trivial
theorem run (w : World) : HandSHeadRun.RunEq R (PySem.W.view R.prog [57]) hk ob 20000 names w :=
  runEq_pair (H1 := hookI adrs iis iiv 468 p0) (H2 := hook12) (H := hk) (o1 := fun s => (p0.obs (fr s), (tabB (HandSHeadRun.getT s 468), iis.map fun x => iniObs (fr s) x))) (o2 := fun s => (p1.obs (fr s), p2.obs (fr s))) (o := ob) (fun a b => (a.1, b.1, b.2, a.2)) (fun _ => rfl) rfl (run0 w)
    (runEq_pair (H1 := hookP adrs p1) (H2 := hookP adrs p2) (H := hook12) (o1 := fun s => p1.obs (fr s)) (o2 := fun s => p2.obs (fr s)) (o := fun s => (p1.obs (fr s), p2.obs (fr s))) (fun a b => (a, b)) (fun _ => rfl) rfl (run1 w) (run2 w))
end H19
namespace Wr
open PySem PySem.Spec PySem.Calls PyProof.Rows L2
/-! ### an exception's own __init__ that begins with super().__init__(..), its class under classes of the program under ValueError -/
section
open PySem.W PySem.Calls
variable {prog : Program} {w : World} {A : Around} {E : Value → Shared → Prop} {h : Heap} {g : Array GenState} {d : Drawn} {t : Nat} {os : OsState}
variable {nm q : Str} {C N : Addr} {bs bm : List Value} {hdct : Bool} {sn : List Str} {sub : List Value} {ab : Bool} {col : Option Bool} {dd : Option Addr} {k0 k1 k2 k3 k5 : Option Value}
theorem call_mw {u e t0 : Addr} {rest : List Value} {Q : Value → Shared → Prop}
    (hC : h.get? C = some (excClassObj nm q C N bs bm hdct sn sub ab col dd k0 k1 k2 k3 k5 "ValueError.__new__")) (he : h.get? e = some (HandSPX.excO C t0)) (hu : h.get? u = some (kxs_mw "ValueError.__init__" e)) (hrest : rest.length ≤ sizeLine)
    (hq : ∀ h' t1, (∀ b o, b ≠ e → h.get? b = some o → h'.get? b = some o) → h'.get? e = some (HandSPX.excO C t1) → Q .none ⟨h', g, d, t, os⟩) :
    wpAny (model prog w) A (call (.ref u) rest) Q E ⟨h, g, d, t, os⟩ := by
  refine wpAny_call (codeAny_of_tree ?_)
  show wpAny _ A.in1 (callAny (.ref u) ⟨rest, []⟩) _ _ _
  simp only [callAny]
  refine wpAny_bind (wpAny_load hu ?_)
  simp only [kxs_mw, show (Value.type "method-wrapper" == Value.type "method" || Value.type "method-wrapper" == Value.type "builtin_function_or_method" || Value.type "method-wrapper" == Value.type "method-wrapper") = true by decide, if_true]
  refine W.KFB.if_so (by decide) ?_
  refine wpAny_bind (check_bound_init F.excBase_ValueError.toExcCallFacts hC he rfl ?_)
  refine wpAny_bind (wpAny_pure (wpAny_pure ?_))
  refine ⟨Code.quiet_builtin _ (by decide +kernel), codeAny_builtin F.excBase_ValueError.initEntry ?_⟩
  rw [Around.under_plainId F.excBase_ValueError.init.plain _]
  wp_walk
  refine hq _ h.objs.size (fun b o hb ho => ?_) ?_
  · rw [Heap.get?_update_other _ _ (Ne.symm hb)]
    exact Heap.get?_push_of_some _ ho
  · rw [Heap.get?_update_self _ (Heap.get?_push_of_some _ he) rfl]
    rfl
end
/-- what the text says of the class at C, its __init__ at f -/
structure SupI (P : Program) (K : PySem.W.Frag) (mg : Str → Option Value) (C f cda cc : Addr) (fd : FuncData) : Prop where
  ox : OexC K C
  lk : ∃ oc od osl, K.lookup f = some ⟨oc, od, .func fd, osl⟩
  hd : ∃ ar, (fd.params.posonlyargs ++ fd.params.args).head? = some ar ∧ ar.arg = "self"
  code : ∃ ccl cdd vs ccs file tf, K.lookup cda = some ⟨ccl, cdd, .fields vs, ccs⟩ ∧ vs[2]? = some (.str file tf) ∧ ((P.main.file : Str) == file) = true
  cell : ∃ cl cld csl, K.lookup cc = some ⟨cl, cld, .cell (some (.ref C)), csl⟩
  sup : PySem.W.ks_superIn K C C "__init__" = some (some (.builtin "ValueError.__init__"))
  sub : PySem.W.subIn K (.ref C) (.type "ValueError") = some true
  opq : PySem.W.nsIn K cStatics "thirdparty.any" = some none
  msup : mg "super" = none
  top : (P.main.scope.names.lookup ("super" : Str)).isSome = false
/-- super().__init__(e, ..) -/
def tSup (C : Addr) (ta : TA) : TS := fun D σ H => ∃ a, σ[0]? = some (some (.ref a)) ∧ H a = some (exo a C none) ∧ ta σ H fun vs H1 => vs.length ≤ 1000 ∧ H1 a = some (exo a C none) ∧ D.nx σ H1
theorem boot_super : bootBuiltins "super" = some (.type "super") := by decide +kernel
theorem sup_stmt {X : Cx} {body : List Stmt} {C f cda cc : Addr} {fd : FuncData} {e : Expr} {es : List Expr} {ta : TA} {p0 p1 p2 p3 p4 : Pos} (S : SupI X.prog X.K X.mg C f cda cc fd) (hks : X.env.kindOf "super" = some .globalImplicit) (hkc : X.env.kindOf "__class__" = some .free) (hka : X.env.kindOf "self" = some .local)
    (hfu : X.env.func = some f) (hco : X.env.code = .ref cda) (hcell : X.env.cells.lookup ("__class__" : Str) = some cc) (hN : X.N[0]? = some ("self" : Str)) (ha : PA X (e :: es) ta) {s : Shared} {σ : L2.St} {H : Hp} {D : Ends} (I : Inv X [] σ H s) (h : tSup C ta D σ H)
    (hi : interactive X.env = false := by rfl) (hs : swapsWith (.Call (.Attribute (.Call (.Name "super" p0) [] [] p1) "__init__" p2) (e :: es) [] p3) none p4.line X.env = pure false := by rfl)
    (he : starEach (e :: es) X.env = (false, eval e X.env) :: starEach es X.env := by rfl) (hplain : (backTo p3 (starEach es X.env)).any (·.1) = false := by rfl) {pl : Sem Bool}
    (hev : eval (.Call (.Attribute (.Call (.Name "super" p0) [] [] p1) "__init__" p2) (e :: es) [] p3) X.env = (do
      let ov ← attributeBase (.Call (.Name "super" p0) [] [] p1) "__init__" X.env (eval (.Call (.Name "super" p0) [] [] p1) X.env)
      standAt p2.atName
      let (f, first) ← holding [ov] (getMethod ov "__init__" pl)
      callWith p3 f first (backTo p3 (starEach (e :: es) X.env)) []) := by rfl) :
    _root_.PySem.wpAt (model X.prog X.w) X.A (.func body X.env) (exec (.Expr (.Call (.Attribute (.Call (.Name "super" p0) [] [] p1) "__init__" p2) (e :: es) [] p3) p4) X.env) (SP X [] D) X.xe s := by
  obtain ⟨a, h0, hA, hq⟩ := h
  refine ks_wpAt_Expr_any (ks_wpAt_MethodCall (pl := pl) ?_ hev) hi hs
  have KX := I.kIn
  obtain ⟨oc, od, osl, hf⟩ := S.lk
  obtain ⟨ar, hp, har⟩ := S.hd
  obtain ⟨ccl, cdd, vs, ccs, file, tf, hcode, hvs, hfile⟩ := S.code
  obtain ⟨cl, cld, csl, hcc⟩ := S.cell
  obtain ⟨nm, q, N, bs, bm, sn, sub, ab, col, dd, k0, k1, k2, k3, k5, hC, hbm⟩ := S.ox.cls
  have hcl : PySem.W.clsIn X.K C = some { name := nm, bases := bs, mro := .ref C :: bm, ns := N, qualname := q, hasDict := true, slotNames := sn, subclasses := sub, abstract := ab, collection := col, hasDel := false } := by unfold PySem.W.clsIn; rw [hC] <;> rfl
  have hmro : PySem.W.mroIn X.K C (.ref C) = some true := by
    unfold PySem.W.mroIn
    rw [hcl]
    simp
  obtain ⟨t1, ho⟩ := exo_at I.hok hA
  have It : PySem.W.InstAt s.heap a (PySem.HandSPX.excO C t1) C none := ⟨ho, rfl, rfl, trivial⟩
  have hne : a ≠ C := PySem.W.ks_ne KX It hcl
  obtain ⟨mb, hb1, hb2⟩ := I.mod.blt
  obtain ⟨m, hns, hlk⟩ := id I.loc
  obtain ⟨u, ru, hu⟩ := hlk 0 "self" (.ref a) hN h0 (.inl hka)
  obtain rfl : u = Value.ref a := ru
  have hm : m "self" = some (.ref a) := by
    rcases hu with ⟨_, hu⟩ | ⟨hu | hu, _⟩
    · exact hu
    · rw [hka] at hu; cases hu
    · rw [hka] at hu; cases hu
  refine ks_wpAt_super_base hks hkc (by decide) hfu (KX _ _ hf) rfl hp hco (KX _ _ hcode) rfl hvs hfile S.top ?_
  refine PySem.W.ks_loadName_global I.ok.kind hks (loadGlobal_builtin (by rw [I.ok.glob]; exact I.mod.glob.keeps I.bk) S.msup (by rw [I.ok.blt]; exact hb1.keeps I.bk) ((hb2 _ (by decide)).trans boot_super) ⟨rfl, ?_⟩)
  refine wpAny_loadName_free I.ok.kind hkc hcell ⟨_, KX _ _ hcc, rfl⟩ ?_
  rw [har]
  refine wpAny_loadName_local I.ok.kind hka hns hm ?_
  refine ks_wpAny_isType_cls (KX _ _ hC) rfl ⟨rfl, ?_⟩
  obtain ⟨hh, g, dr, tk, os⟩ := s
  refine ks_wpAny_call_super (KX _ _ hC) rfl ho rfl (fun c e => by cases e) (PySem.W.looks_mroIn KX hmro) fun h1 e1 kp1 => ?_
  have I1 : Inv X [] σ H ⟨h1, g, dr, tk, os⟩ := I.kept (t' := tk) kp1
  have K1 := I1.kIn
  have It1 : PySem.W.InstAt h1 a (PySem.HandSPX.excO C t1) C none := ⟨kp1 _ _ ho, rfl, rfl, trivial⟩
  have hsup := S.sup
  unfold PySem.W.ks_superIn at hsup
  rw [hcl] at hsup
  have hI : PySem.W.Looks (model X.prog X.w) h1 (isInstance (.ref a) (.type "ValueError")) true := It1.type.andThen (PySem.W.looks_subIn K1 S.sub)
  refine PySem.W.kxs_getMethod PySem.W.kxs_ValueError e1 (PySem.W.looks_opaque K1 S.opq) (l₀ := .ref C :: bm) ?_ rfl K1 hsup hI hne (by decide) ?_
  · exact fun A Q E s k q => wpAny_bind ((PySem.W.looks_clsIn K1 hcl) A _ E s k (wpAny_pure q))
  have kp2 : ∀ b o, h1.get? b = some o → (h1.push (PySem.W.kxs_mw "ValueError.__init__" a)).get? b = some o := fun b o e => Heap.get?_push_of_some _ e
  have I2 : Inv X [] σ H ⟨h1.push (PySem.W.kxs_mw "ValueError.__init__" a), g, dr, tk + 1, os⟩ := I1.kept (t' := tk + 1) kp2
  have hmw : (h1.push (PySem.W.kxs_mw "ValueError.__init__" a)).get? h1.objs.size = some (PySem.W.kxs_mw "ValueError.__init__" a) := Heap.get?_push_at rfl rfl
  have nH : H h1.objs.size = none := I1.hok.fresh (Nat.le_refl _)
  have I3 : Inv X [(h1.objs.size, PySem.W.kxs_mw "ValueError.__init__" a)] σ H ⟨h1.push (PySem.W.kxs_mw "ValueError.__init__" a), g, dr, tk + 1, os⟩ := I2.pins_of fun p hp => by
    rcases List.mem_cons.mp hp with rfl | hp
    · refine ⟨hmw, nH, fun z => ?_, I1.nofs (Nat.le_refl _), fun v z => by cases z⟩
      have y := I1.lt
      rw [← z] at y
      exact absurd y (Nat.lt_irrefl _)
    · cases hp
  rw [he]
  refine PySem.W.kxs_callWith (i := "ValueError.__init__") (x := a) (by show (false || (backTo p3 (starEach es X.env)).any (·.1)) = false; rw [hplain]; rfl) ?_
  refine evalArgs_plain ?_
  have hrun := ha.run p3 _ _ σ H _ I3 hq
  rw [he] at hrun
  refine thn hrun fun us s4 hr => ?_
  obtain ⟨ws, H4, I4, r4, hz4, hA4, q4⟩ := hr
  obtain ⟨hmw4, _⟩ := I4.pin (h1.objs.size, PySem.W.kxs_mw "ValueError.__init__" a) (List.mem_append_right _ List.mem_cons_self)
  refine ⟨hmw4, ?_⟩
  obtain ⟨t4, ho4⟩ := exo_at I4.hok hA4
  have J4 : Inv X [] σ H4 s4 := I4.pins_of fun p hp => by cases hp
  obtain ⟨hh4, g4, dr4, tk4, os4⟩ := s4
  refine call_mw (J4.kIn _ _ hC) ho4 hmw4 (by show us.length ≤ sizeLine; rw [← Paired.length r4, sizeLine_eq]; omega) fun h' t5 kp hx => ?_
  have J := J4.write (t' := tk4) (x := a) (e := a) (o := exo a C none) (by rw [hA4]; exact True.intro) (.inl rfl) kp ⟨_, hx⟩ (exo_ok hx)
  have eu : upd H4 a (exo a C none) = H4 := by
    funext b
    by_cases hb : b = a
    · rw [hb, upd_same, hA4]
    · rw [upd_ne hb]
  rw [eu] at J
  exact ⟨σ, H4, J, q4⟩
end Wr
namespace Wr
open PySem PySem.Spec PySem.Calls PyProof.Rows L2 NdefX
/-- the body that begins so, in the code of the def -/
theorem sup_body {X : Cx} {body rest : List Stmt} {C f cda cc : Addr} {fd : FuncData} {e : Expr} {es : List Expr} {ta : TA} {t : TS} {p0 p1 p2 p3 p4 : Pos} (S : SupI X.prog X.K X.mg C f cda cc fd) (hks : X.env.kindOf "super" = some .globalImplicit) (hkc : X.env.kindOf "__class__" = some .free) (hka : X.env.kindOf "self" = some .local)
    (hfu : X.env.func = some f) (hco : X.env.code = .ref cda) (hcell : X.env.cells.lookup ("__class__" : Str) = some cc) (hN : X.N[0]? = some ("self" : Str)) (ha : PA X (e :: es) ta) (hr : PSs X rest t) {s : Shared} {σ : L2.St} {H : Hp} {D : Ends} (I : Inv X [] σ H s) (h : tSup C ta { D with nx := t D } σ H)
    (hi : interactive X.env = false := by rfl) (hs : swapsWith (.Call (.Attribute (.Call (.Name "super" p0) [] [] p1) "__init__" p2) (e :: es) [] p3) none p4.line X.env = pure false := by rfl)
    (he : starEach (e :: es) X.env = (false, eval e X.env) :: starEach es X.env := by rfl) (hplain : (backTo p3 (starEach es X.env)).any (·.1) = false := by rfl) {pl : Sem Bool}
    (hev : eval (.Call (.Attribute (.Call (.Name "super" p0) [] [] p1) "__init__" p2) (e :: es) [] p3) X.env = (do
      let ov ← attributeBase (.Call (.Name "super" p0) [] [] p1) "__init__" X.env (eval (.Call (.Name "super" p0) [] [] p1) X.env)
      standAt p2.atName
      let (f, first) ← holding [ov] (getMethod ov "__init__" pl)
      callWith p3 f first (backTo p3 (starEach (e :: es) X.env)) []) := by rfl) :
    _root_.PySem.wpAt (model X.prog X.w) X.A (.func body X.env) (execs (.Expr (.Call (.Attribute (.Call (.Name "super" p0) [] [] p1) "__init__" p2) (e :: es) [] p3) p4 :: rest) X.env) (SP X [] D) X.xe s := by
  refine ks_wpAt_execs_cons (ks_wpAt_mono (sup_stmt (body := body) (pl := pl) S hks hkc hka hfu hco hcell hN ha I h hi hs he hplain hev) (fun fl s' q => ?_) fun _ _ z => z)
  cases fl with
  | next =>
    obtain ⟨σ', H', J, q⟩ := q
    exact wpAt_of_wpAny (hr.run [] s' σ' H' D J q)
  | brk => exact q
  | cont => exact q
  | ret u => exact q
section
variable {CX : CXT} {P : Program} {w : World} {K : PySem.W.Frag} {mg : Str → Option Value} {base : Heap} {N ps : List Str} {F : NF} {f C cc : Addr} {fd : FuncData} {k : Nat} {sp : Sp}
/-- the def is the text's, with its class' cell -/
def FunS (K : PySem.W.Frag) (F : NF) (f cc : Addr) (fd : FuncData) : Prop := ∃ kV doc pm an ct oc od osl, fd = PySem.W.fnX F.name F.qual F.params F.body F.scope F.cl .none kV doc pm an (.ref F.c) ct ∧ K.lookup f = some ⟨oc, od, .func fd, osl⟩ ∧ F.cl = [(("__class__" : Str), cc)] ∧ PySem.W.codeIn K (.ref F.c) F.qual = true
theorem fn_sup (hF : FunS K F f cc fd) (S : SupI P K mg C f F.c cc fd) (Sc : NScope N ps ["__class__"] F.scope) (len : ∀ vs H Q E, sp vs H Q E → vs.length = ps.length)
    (hbody : ∀ (A : Around) (outer : List Env) (s : Shared) (H : Hp) (vs : List V) (Q : VK) (E : XK), Room k (A.deeper (envF F f s.heap.objs.size)) → sp vs H Q E →
      ∀ s1, Inv (ncx CX P w K mg base N F f A outer s H E) [] (startF N vs [none]) H s1 →
        _root_.PySem.wpAt (model P w) (A.deeper (envF F f s.heap.objs.size)) (.func F.body (envF F f s.heap.objs.size)) (execs F.body (envF F f s.heap.objs.size)) (SP (ncx CX P w K mg base N F f A outer s H E) [] { nx := fun _ H' => Q .non H', rt := Q }) (ncx CX P w K mg base N F f A outer s H E).xe s1) :
    FnOk P w K mg base CX (k + 1) f fd ps sp := by
  refine ⟨len, fun A outer s H args us vs Q E hr e0 hb r hsp => ?_⟩
  obtain ⟨kV, doc, pm, an, ct, oc, od, osl, rfl, lk, hcl, hcd⟩ := hF
  have hl := len _ _ _ _ hsp
  have KX : K.In s.heap := e0.mod.kin.keeps fun b o e => (e0.bs b o e).1
  have lim : s.heap.NoLimit := e0.mod.nolimit.keeps fun b o e => (e0.bs b o e).1
  obtain ⟨cl, cld, csl, hcc⟩ := S.cell
  have Ce : CellsAt F.cl ["__class__"] [none] s.heap H := by
    rw [hcl]
    have one : ∀ {y : Str} {c : Addr}, ([("__class__", cc)] : List (Str × Addr)).lookup y = some c → y = "__class__" ∧ c = cc := fun {y c} e => by
      have m := PySem.mem_of_lookup e
      rw [List.mem_singleton] at m
      cases m
      exact ⟨rfl, rfl⟩
    have self_ : ([("__class__", cc)] : List (Str × Addr)).lookup ("__class__" : Str) = some cc := by simp [List.lookup]
    refine ⟨rfl, fun y c e => ?_, fun x y c e1 e2 => (one e1).1.trans (one e2).1.symm, fun i y hi => ?_⟩
    · obtain ⟨_, rfl⟩ := one e
      exact ⟨(e0.bs _ _ (e0.mod.kin _ _ hcc)).2, _, _, KX _ _ hcc, rfl⟩
    · cases i with
      | zero =>
        cases hi
        exact ⟨cc, self_, fun v hv => by cases hv⟩
      | succ i => cases hi
  have hnc : ∀ x ∈ F.scope.names, x.2 ≠ .cell := Sc.nocell
  refine ks_codeAny_call_defAt (fd := PySem.W.fnX F.name F.qual F.params F.body F.scope F.cl .none kV doc pm an (.ref F.c) ct) (body := F.body) (binds := ps.zip us) hr.depth (KX _ _ lk) rfl lim (PySem.W.codeRec_of KX hcd) rfl hb hnc
    (fun ⟨n, _⟩ hy => Sc.par n (List.of_mem_zip hy).1) (fun h₁ hns hkp => ?_) Sc.co Sc.gen Sc.kind
  have I : Inv (ncx CX P w K mg base N F f A outer s H E) [] (startF N vs [none]) H { s with heap := h₁, toks := s.toks + (ps.zip us).length } := inv_startN Sc hr.hd e0 hl r Ce hns hkp
  refine ks_wpAt_mono (hbody A outer s H vs Q E (hr.deeper _) hsp _ I) (fun fl s' hs => ?_) fun e s' hs => hs
  have fin : ∀ {σ' : L2.St} {H' : Hp} {v : V} {u : Value}, Inv (ncx CX P w K mg base N F f A outer s H E) [] σ' H' s' → L2.RelV v u → Q v H' → CE outer P w H s Q u s' :=
    fun {σ' H' v u} J rv q => ⟨v, H', J.os, J.bare, J.base, J.hok, rv, q⟩
  cases fl with
  | ret u =>
    obtain ⟨v, σ', H', J, rv, q⟩ := hs
    exact fin J rv q
  | next =>
    obtain ⟨σ', H', J, q⟩ := hs
    exact fin (v := V.non) (u := Value.none) J rfl q
  | brk =>
    obtain ⟨_, _, _, q⟩ := hs
    exact False.elim q
  | cont =>
    obtain ⟨_, _, _, q⟩ := hs
    exact False.elim q
end
end Wr
namespace Wr
open PySem PySem.Spec PySem.Calls PyProof.Rows L2 NdefX
theorem toS_len {n : Int} (h : n.natAbs.log2 < 1920) : (PySem.Str.ofString (toString n)).length ≤ 1921 := int_text_len_1921 h
/-- an exception of one field that is made -/
def spBad1 (C : Addr) (f : Str) : Sp := fun vs H Q _ => ∃ (a : Addr) (n : Int), vs = [.ref a, .int n] ∧ n.natAbs.log2 < 1920 ∧ H a = some (exo a C none) ∧ ∀ dx, H dx = none → dx ≠ a → Q .non (upd (upd H dx (exd dx [(f, .int n)])) a (exo a C (some dx)))
def nfBP (cc cda : Addr) : NF := ⟨"__init__", "BadPapers.__init__", defArgs s_BadPapers_init, defBody s_BadPapers_init, defScope s_BadPapers_init, [(("__class__" : Str), cc)], cda⟩
section
variable {CX : CXT} {P : Program} {w : World} {K : PySem.W.Frag} {mg : Str → Option Value} {base : Heap} {f C cc cda : Addr} {fd : FuncData}
theorem ok_bpI (hF : FunS K (nfBP cc cda) f cc fd) (S : SupI P K mg C f cda cc fd) (hno : PySem.W.findIn K (.ref C) "number" = some none) : FnOk P w K mg base CX 1 f fd ["self", "number"] (spBad1 C "number") := by
  have Sc : NScope ["self", "number", "__class__"] ["self", "number"] ["__class__"] (nfBP cc cda).scope := nscope_by (by show nscB _ _ _ (defScope s_BadPapers_init) = true; decide +kernel)
  refine fn_sup (N := ["self", "number", "__class__"]) hF S Sc (fun vs H Q E h => ?_) (fun A outer s H vs Q E hr h s1 I => ?_)
  · obtain ⟨a, n, rfl, _⟩ := h
    rfl
  · obtain ⟨a, n, rfl, hz, hA, q⟩ := h
    have big : (4000 : Nat) < sizeLine := by decide
    refine sup_body (X := ncx CX P w K mg base ["self", "number", "__class__"] (nfBP cc cda) f A outer s H E) S rfl rfl rfl rfl rfl (by simp [ncx, nfBP, List.lookup]) rfl (pa_cons (pe_joined (.cons pe_str (.cons (pe_fmt (pv 1)) (.cons pe_str .nil)))) pa_nil) (pss_one (ps_ost (pv 0) (pv 1))) I ?_
    have l1 := toS_len hz
    refine ⟨a, rfl, hA, ?_⟩
    refine ⟨_, rfl, by decide, _, rfl, .inr ⟨n, rfl, hz, _, rfl, ?_, _, rfl, ?_, ?_⟩⟩
    · simp only [Str.length_append]
      have h0 : (Str.empty).length = 0 := rfl
      have h1 : ("paper " : Str).length = 6 := by decide
      omega
    · simp only [Str.length_append]
      have h0 : (Str.empty).length = 0 := rfl
      have h1 : ("paper " : Str).length = 6 := by decide
      have h2 : (" cannot be" : Str).length = 10 := by decide
      omega
    refine ⟨by show 1 ≤ 1000; decide, hA, ?_⟩
    exact ⟨_, rfl, _, rfl, a, C, rfl, S.ox, hno, .inl ⟨hA, q⟩⟩
end
end Wr
namespace Wr
open PySem PySem.Spec PyProof.Rows L2
/-! ### defs that may let an exception out -/
/-- the def x may be called, by its promise; it may raise -/
def UseX (P : Program) (w : World) (K : PySem.W.Frag) (mg : Str → Option Value) (base : Heap) (x : Str) (ps : List Str) (k : Nat) (sp : Sp) : Prop :=
  ∃ f fd, FnOk P w K mg base (L2.CX P w) k f fd ps sp ∧ mg x = some (.ref f) ∧ PySem.W.keepIn K (.ref f) = true ∧ Binds K fd ps []
section
variable {P : Program} {w : World} {K : PySem.W.Frag} {mg : Str → Option Value} {base : Heap}
theorem Df.useX {x : Str} {st : Stmt} {N ps : List Str} {k : Nat} {sp : Sp} (D : Df K mg x st) (S : FnScope N ps (defScope st)) (b : BindF x st ps) (len : ∀ vs H Q E, sp vs H Q E → vs.length = ps.length)
    (hbody : ∀ (cdv : Value) (f : Addr) (A : Around) (outer : List Env) (s : Shared) (H : Hp) (vs : List V) (Q : VK) (E : XK), Room k (A.deeper (envOfC x (defScope st) s.heap.objs.size f cdv)) → sp vs H Q E →
      ∃ t, PSs (cxOf (L2.CX P w) P w K mg base N x (defScope st) f cdv A outer s H E) (defBody st) t ∧ t { nx := fun _ H' => Q .non H', rt := Q } (start N vs) H) : UseX P w K mg base x ps (k + 1) sp := by
  obtain ⟨f, fd, F, m⟩ := D
  exact ⟨f, fd, F.ok S len fun cdv A outer s H vs Q E hr h => hbody cdv f A outer s H vs Q E hr h, m, F.kp, F.bindsN b⟩
theorem UseX.mono {x : Str} {ps : List Str} {k j : Nat} {sp : Sp} (U : UseX P w K mg base x ps k sp) (h : k ≤ j) : UseX P w K mg base x ps j sp := by
  obtain ⟨f, fd, F, m, kp, b⟩ := U
  exact ⟨f, fd, F.mono h, m, kp, b⟩
end
/-- a call of such a def, what it raises taken by W -/
theorem pe_useX {X : Cx} {x : Str} {ps : List Str} {k : Nat} {sp : Sp} {e : Expr} {es : List Expr} {t : TA} {p pos : Pos} {E : XK} {W : WX} (U : UseX X.prog X.w X.K X.mg X.base x ps k sp) (hr : Room k X.A) (tk : Takes X W) (hW : ∀ cls d σ H, E cls d H → W cls d σ H) (ha : PA X (e :: es) t) (hg : Gl X x := by rfl)
    (hdb : (x == ("__debug__" : Str)) = false := by decide) (he : starEach (e :: es) X.env = (false, eval e X.env) :: starEach es X.env := by rfl) (hpl : ((backTo pos (starEach es X.env)).any fun x => x.fst) = false := by rfl) :
    PE X (.Call (.Name x p) (e :: es) [] pos) (tCall sp [] E t) := by
  obtain ⟨f, fd, F, m, kp, b⟩ := U
  exact pe_call F hr hg m kp b .nil (passes_call tk hW) ha hdb he hpl
theorem pss_by {X : Cx} {body : List Stmt} {pins : List (Addr × Obj)} {s : Shared} {σ : L2.St} {H : Hp} {D : Ends} (I : Inv X pins σ H s) (h : ∃ t, PSs X body t ∧ t D σ H) : wpAny (model X.prog X.w) X.A (execs body X.env) (SP X pins D) X.xe s := h.elim fun _ ht => ht.1.run pins s σ H D I ht.2
/-! ### raise C(n), C's own __init__ keeping n in the field f -/
structure Bad1 (P : Program) (w : World) (K : PySem.W.Frag) (mg : Str → Option Value) (base : Heap) (x f : Str) (C : Addr) : Prop where
  ox : OexC K C
  ini : ∃ (fI : Addr) (fd : FuncData), PySem.W.findIn K (.ref C) "__init__" = some (some (.ref fI)) ∧ PySem.W.typeIn K (.ref fI) = some (.type "function") ∧ FnOk P w K mg base CX0 1 fI fd ["self", f] (spBad1 C f) ∧ Binds K fd ["self", f] []
  hm : mg x = some (.ref C)
theorem mk1_of {C : Addr} {f : Str} {Q : XK} {H1 : Hp} {n : Int} (hz : n.natAbs.log2 < 1920) (q : ∀ d, H1 d = none → Q (.ref C) (some d) (upd H1 d (.xd [(f, .int n)]))) : ∀ a, H1 a = none → spBad1 C f (.ref a :: ([V.int n] ++ [])) (upd H1 a (exo a C none))
    (fun v H2 => v = .non ∧ ∃ (d : Addr) (fs : List (Str × V)), H2 a = some (exo a C (some d)) ∧ H2 d = some (exd d fs) ∧ H1 d = none ∧ Q (.ref C) (some d) (upd (del H2 a) d (.xd fs))) (fun _ _ _ => False) := fun a ha => by
  refine ⟨a, n, rfl, hz, upd_same, fun dx hd ne => ⟨rfl, dx, _, upd_same, (upd_ne ne).trans upd_same, ?_, ?_⟩⟩
  · rw [upd_ne ne] at hd
    exact hd
  · rw [upd_ne ne] at hd
    have e : upd (del (upd (upd (upd H1 a (exo a C none)) dx (exd dx [(f, V.int n)])) a (exo a C (some dx))) a) dx (.xd [(f, V.int n)]) = upd H1 dx (.xd [(f, V.int n)]) := by
      funext b
      by_cases hb : b = dx
      · rw [hb, upd_same, upd_same]
      · rw [upd_ne hb, upd_ne hb]
        by_cases hba : b = a
        · rw [hba, del_same, ha]
        · rw [del_ne hba, upd_ne hba, upd_ne hb, upd_ne hba]
    rw [e]
    exact q dx hd
/-- what raise C(e) asks -/
def tMk1 (C : Addr) (f : Str) (ta : TA) : L2.St → Hp → XK → Prop := tMkO C (spBad1 C f) [] ta
theorem pmk_bad1 {X : Cx} {x f : Str} {C : Addr} {e : Expr} {ta : TA} {p pos : Pos} (B : Bad1 X.prog X.w X.K X.mg X.base x f C) (hr : Room 2 X.A) (ha : PA X [e] ta) (hg : Gl X x := by rfl) (hdb : (x == ("__debug__" : Str)) = false := by decide)
    (he : starEach (e :: []) X.env = (false, eval e X.env) :: starEach [] X.env := by rfl) (hpl : (backTo pos (starEach [] X.env)).any (·.1) = false := by rfl) : PMk X (.Call (.Name x p) [e] [] pos) (tMk1 C f ta) := by
  obtain ⟨fI, fd, iC, tI, F1, hb⟩ := B.ini
  exact pmk_oex B.ox iC tI F1 hr hb .nil pass0 hg B.hm ha hdb he hpl
end Wr
namespace Wr
open PySem PySem.Spec PyProof.Rows L2
section
variable {X : Cx}
/-- dict(d): a new dict with the same pairs -/
theorem call_dictC : CallR X (.type "dict") (fun xs H Q => ∃ (a : Addr) (kvs : List (Key × V)), xs = [.ref a] ∧ H a = some (.dK kvs) ∧ ∀ p, H p = none → Q (.ref p) (upd H p (.dK kvs))) := by
  intro pins s σ H xs us Q I r q
  obtain ⟨a, kvs, ex, hd, q⟩ := q
  subst ex
  obtain ⟨u, eu, rx⟩ := vals1 r
  subst eu
  cases rx
  obtain ⟨hlen, hsys, vs, rel, dd⟩ := I.hok a _ hd
  refine PySem.kt_call_dict (knd := mixKind X.prog X.w) hsys dd (by rw [← rel.length]; exact hlen) fun h' hd' hs => ?_
  have hm : (s.heap.objs.size == sysModules) = false := beq_eq_false_iff_ne.mpr (Nat.ne_of_gt I.big)
  have k : ∀ b o, s.heap.get? b = some o → h'.get? b = some o := fun b o e => by
    rw [hs.2 b (Nat.ne_of_lt (Heap.lt_size e))]
    exact Heap.get?_push_of_some _ e
  exact ⟨.ref s.heap.objs.size, upd H s.heap.objs.size (.dK kvs), I.laid (t' := s.toks) k (Nat.le_refl _) (show ObjOk X.prog X.w _ _ _ (.dK kvs) from ⟨hlen, hm, vs, rel, hd'⟩), rfl, q _ (I.hok.fresh (Nat.le_refl _))⟩
def rUpdate : V → List V → Hp → VK → Prop := fun x xs H Q => ∃ (a b : Addr) (kvs more : List (Key × V)), x = .ref a ∧ xs = [.ref b] ∧ a ≠ b ∧ H a = some (.dK kvs) ∧ H b = some (.dK more) ∧ kvs.length + more.length ≤ sizeLine ∧ Q .non (upd H a (.dK (mergeK kvs more)))
/-- d.update(e) -/
theorem mt_update : MtR X "dict.update" rUpdate := by
  intro pins s σ H x xs v us Q I rx rv h
  obtain ⟨a, b, kvs, more, rfl, rfl, hab, hA, hB, hl, q⟩ := h
  cases rx
  obtain ⟨u, eu, ru⟩ := vals1 rv
  subst eu
  cases ru
  obtain ⟨z1, y1, vs1, r1, d1⟩ := I.hok a _ hA
  obtain ⟨z2, y2, vs2, r2, d2⟩ := I.hok b _ hB
  refine call_meetsIn PySem.F.slot_dict_update d1.typeIs PySem.F.entry_dict_update (PySem.F.args_dict_update_2 _ _) (meets_dict_update (mixKind X.prog X.w) a b hab y2) ⟨vs1, vs2, d1, d2, ?_, fun h' hd' ho' hs => ?_⟩
  · rw [← r1.length, ← r2.length]; exact hl
  · have hne : ∃ u, h'.get? a = some u := by
      obtain ⟨o, _, _, e, _⟩ := hd'
      exact ⟨o, e⟩
    exact ⟨.non, upd H a (.dK (mergeK kvs more)), I.write (t' := s.toks) (by rw [hA]; trivial) (.inl rfl) (fun c o hc e => by rw [hs.2 c hc]; exact e) hne
      (show ObjOk X.prog X.w _ _ _ (.dK (mergeK kvs more)) from ⟨Nat.le_trans (length_mergeK more kvs) hl, y1, _, r2.merge r1, hd'⟩), rfl, q⟩
end
end Wr
namespace Wr
open PySem PySem.Spec PyProof.Rows L2
/-! ### expressions -/
inductive Ex where
  | num (n : Int)
  | name (x : Str)
  | fault
  | one (w : Str) (a : Ex)
  | two (w : Str) (a b : Ex)
  | ite (a b c : Ex)
  | lt (x : Str) (a b : Ex)
  | fn (x : Str) (a : Ex)
  | ct (a : Ex) (x k : Str) (b : Ex)
  deriving DecidableEq
def letters : List Str := ["a", "b", "c", "d", "e", "f", "g", "h"]
def ones : List Str := ["say", "box", "look", "throw", "drop"]
def twos : List Str := ["add", "take", "less", "call", "put", "go", "last", "else"]
/-- v stands for e -/
def AtE (H : Hp) : V → Ex → Prop
  | v, .num n => ∃ t, v = .ref t ∧ H t = some (.tup [.str "num", .int n])
  | v, .name x => ∃ t, v = .ref t ∧ H t = some (.tup [.str "name", .str x])
  | v, .fault => ∃ t, v = .ref t ∧ H t = some (.tup [.str "fault"])
  | v, .one w a => ∃ t x, v = .ref t ∧ H t = some (.tup [.str w, x]) ∧ AtE H x a
  | v, .two w a b => ∃ t x y, v = .ref t ∧ H t = some (.tup [.str w, x, y]) ∧ AtE H x a ∧ AtE H y b
  | v, .ite a b c => ∃ t x y z, v = .ref t ∧ H t = some (.tup [.str "if", x, y, z]) ∧ AtE H x a ∧ AtE H y b ∧ AtE H z c
  | v, .lt n a b => ∃ t x y, v = .ref t ∧ H t = some (.tup [.str "let", .str n, x, y]) ∧ AtE H x a ∧ AtE H y b
  | v, .fn n a => ∃ t x, v = .ref t ∧ H t = some (.tup [.str "fun", .str n, x]) ∧ AtE H x a
  | v, .ct a n k b => ∃ t x y, v = .ref t ∧ H t = some (.tup [.str "catch", x, .str n, .str k, y]) ∧ AtE H x a ∧ AtE H y b
theorem AtE.tups {H H' : Hp} (s : ∀ t xs, H t = some (.tup xs) → H' t = some (.tup xs)) : ∀ {v : V} {e : Ex}, AtE H v e → AtE H' v e := by
  intro v e
  induction e generalizing v with
  | num n => exact fun ⟨t, e, h⟩ => ⟨t, e, s _ _ h⟩
  | name x => exact fun ⟨t, e, h⟩ => ⟨t, e, s _ _ h⟩
  | fault => exact fun ⟨t, e, h⟩ => ⟨t, e, s _ _ h⟩
  | one w a ia => exact fun ⟨t, x, e, h, ha⟩ => ⟨t, x, e, s _ _ h, ia ha⟩
  | two w a b ia ib => exact fun ⟨t, x, y, e, h, ha, hb⟩ => ⟨t, x, y, e, s _ _ h, ia ha, ib hb⟩
  | ite a b c ia ib ic => exact fun ⟨t, x, y, z, e, h, ha, hb, hc⟩ => ⟨t, x, y, z, e, s _ _ h, ia ha, ib hb, ic hc⟩
  | lt n a b ia ib => exact fun ⟨t, x, y, e, h, ha, hb⟩ => ⟨t, x, y, e, s _ _ h, ia ha, ib hb⟩
  | fn n a ia => exact fun ⟨t, x, e, h, ha⟩ => ⟨t, x, e, s _ _ h, ia ha⟩
  | ct a n k b ia ib => exact fun ⟨t, x, y, e, h, ha, hb⟩ => ⟨t, x, y, e, s _ _ h, ia ha, ib hb⟩
theorem AtE.step {D : List Addr} {H H' : Hp} (s : Stp D H H') {v : V} {e : Ex} (h : AtE H v e) : AtE H' v e := h.tups s.tups
theorem AtE.up {H : Hp} {p : Addr} (n : H p = none) (o : HO) {v : V} {e : Ex} (h : AtE H v e) : AtE (upd H p o) v e := h.step (Stp.new (D := []) n o)
/-- what is a part of a program, the names S being bound -/
def Good (S : List Str) : Ex → Prop
  | .num n => -1000000 ≤ n ∧ n ≤ 1000000
  | .name x => x ∈ S
  | .fault => True
  | .one w a => w ∈ ones ∧ Good S a
  | .two w a b => w ∈ twos ∧ Good S a ∧ Good S b
  | .ite a b c => Good S a ∧ Good S b ∧ Good S c
  | .lt x a b => x ∈ letters ∧ Good S a ∧ Good (x :: S) b
  | .fn x a => x ∈ letters ∧ Good (x :: S) a
  | .ct a x k b => x ∈ letters ∧ k ∈ letters ∧ x ≠ k ∧ Good S a ∧ Good (x :: k :: S) b
theorem Good.mono : ∀ {e : Ex} {S S' : List Str}, (∀ x ∈ S, x ∈ S') → Good S e → Good S' e := by
  intro e
  induction e with
  | num n => exact fun _ h => h
  | name x => exact fun s h => s x h
  | fault => exact fun _ h => h
  | one w a ia => exact fun s h => ⟨h.1, ia s h.2⟩
  | two w a b ia ib => exact fun s h => ⟨h.1, ia s h.2.1, ib s h.2.2⟩
  | ite a b c ia ib ic => exact fun s h => ⟨ia s h.1, ib s h.2.1, ic s h.2.2⟩
  | lt n a b ia ib => exact fun s h => ⟨h.1, ia s h.2.1, ib (fun x q => (List.mem_cons.mp q).elim (fun z => by rw [z]; exact List.mem_cons_self) fun z => List.mem_cons_of_mem _ (s x z)) h.2.2⟩
  | fn n a ia => exact fun s h => ⟨h.1, ia (fun x q => (List.mem_cons.mp q).elim (fun z => by rw [z]; exact List.mem_cons_self) fun z => List.mem_cons_of_mem _ (s x z)) h.2⟩
  | ct a n k b ia ib =>
    exact fun s h => ⟨h.1, h.2.1, h.2.2.1, ia s h.2.2.2.1, ib (fun x q => (List.mem_cons.mp q).elim (fun z => by rw [z]; exact List.mem_cons_self) fun q => List.mem_cons_of_mem _
      ((List.mem_cons.mp q).elim (fun z => by rw [z]; exact List.mem_cons_self) fun z => List.mem_cons_of_mem _ (s x z))) h.2.2.2.2⟩
def Ex.size : Ex → Nat
  | .num _ => 1
  | .name _ => 1
  | .fault => 1
  | .one _ a => 1 + a.size
  | .two _ a b => 1 + (a.size + b.size)
  | .ite a b c => 1 + (a.size + b.size + c.size)
  | .lt _ a b => 1 + (a.size + b.size)
  | .fn _ a => 1 + a.size
  | .ct a _ _ b => 1 + (a.size + b.size)
def Ex.deep : Ex → Nat
  | .num _ => 1
  | .name _ => 1
  | .fault => 1
  | .one _ a => 1 + a.deep
  | .two _ a b => 1 + max a.deep b.deep
  | .ite a b c => 1 + max (max a.deep b.deep) c.deep
  | .lt _ a b => 1 + max a.deep b.deep
  | .fn _ a => 1 + a.deep
  | .ct a _ _ b => 1 + max a.deep b.deep
theorem Ex.size_pos (e : Ex) : 1 ≤ e.size := by cases e <;> simp only [Ex.size] <;> omega
theorem Ex.deep_pos (e : Ex) : 1 ≤ e.deep := by cases e <;> simp only [Ex.deep] <;> omega
theorem Ex.deep_le (e : Ex) : e.deep ≤ e.size := by
  induction e <;> simp only [Ex.size, Ex.deep] <;> omega
/-! ### names -/
/-- the dict of the names at a: letters, among S; what they are, texts -/
structure NamesAt (H : Hp) (a : Addr) (S : List Str) : Prop where
  ex : ∃ kvs : List (Str × Str), H a = some (.dK (kvs.map fun p => ((Sum.inr p.1 : Key), V.str p.2))) ∧ (kvs.map (·.1)).Nodup ∧ (∀ x ∈ kvs.map (·.1), x ∈ letters) ∧ ∀ x ∈ kvs.map (·.1), x ∈ S
theorem NamesAt.step {D : List Addr} {H H' : Hp} {a : Addr} {S : List Str} (s : Stp D H H') (ha : a ∉ D) (h : NamesAt H a S) : NamesAt H' a S := by
  obtain ⟨kvs, e, r⟩ := h.ex
  exact ⟨kvs, s.keep _ _ ha e, r⟩
theorem nodup_sub_len {α : Type} [DecidableEq α] : ∀ {l m : List α}, l.Nodup → (∀ x ∈ l, x ∈ m) → l.length ≤ m.length
  | [], _, _, _ => Nat.zero_le _
  | x :: l, m, hn, hs => by
    obtain ⟨h1, h2⟩ := List.nodup_cons.mp hn
    have hx : x ∈ m := hs x List.mem_cons_self
    have := nodup_sub_len (l := l) (m := m.erase x) h2 fun y hy => (List.mem_erase_of_ne (fun z => h1 (by rw [← z]; exact hy))).mpr (hs y (List.mem_cons_of_mem _ hy))
    rw [List.length_erase_of_mem hx] at this
    have : 0 < m.length := List.length_pos_of_mem hx
    rw [List.length_cons]
    omega
theorem NamesAt.few {H : Hp} {a : Addr} {S : List Str} {kvs : List (Str × Str)} (hn : (kvs.map (·.1)).Nodup) (hl : ∀ x ∈ kvs.map (·.1), x ∈ letters) : kvs.length ≤ 8 := by
  have := nodup_sub_len hn hl
  rw [List.length_map] at this
  exact this
/-- {x: word}, put behind -/
theorem putK_str (kvs : List (Str × Str)) (x z : Str) : ∃ kvs' : List (Str × Str), putK (kvs.map fun p => ((Sum.inr p.1 : Key), V.str p.2)) (.inr x) (.str z) = kvs'.map (fun p => ((Sum.inr p.1 : Key), V.str p.2)) ∧
    (∀ y, y ∈ kvs'.map (·.1) ↔ y = x ∨ y ∈ kvs.map (·.1)) ∧ ((kvs.map (·.1)).Nodup → (kvs'.map (·.1)).Nodup) := by
  have e1 : ((kvs.map fun p => ((Sum.inr p.1 : Key), V.str p.2)).any fun kv => decide (kv.1 = (Sum.inr x : Key))) = kvs.any fun p => decide (p.1 = x) := by
    rw [List.any_map]
    refine congrArg (fun f => kvs.any f) (funext fun p => ?_)
    show decide ((Sum.inr p.1 : Key) = Sum.inr x) = decide (p.1 = x)
    exact key_rr _ _
  unfold putK
  rw [e1]
  by_cases c : (kvs.any fun p => decide (p.1 = x)) = true
  · rw [if_pos c]
    refine ⟨kvs.map fun p => if p.1 = x then (p.1, z) else p, ?_, ?_, ?_⟩
    · rw [List.map_map, List.map_map]
      refine List.map_congr_left fun p _ => ?_
      show (if (Sum.inr p.1 : Key) = Sum.inr x then ((Sum.inr p.1 : Key), V.str z) else ((Sum.inr p.1 : Key), V.str p.2)) = ((Sum.inr (if p.1 = x then (p.1, z) else p).1 : Key), V.str (if p.1 = x then (p.1, z) else p).2)
      by_cases h : p.1 = x
      · rw [if_pos h, if_pos (congrArg Sum.inr h)]
      · rw [if_neg h, if_neg (fun q => h (Sum.inr.inj q))]
    · intro y
      have e2 : (kvs.map fun p => if p.1 = x then (p.1, z) else p).map (·.1) = kvs.map (·.1) := by
        rw [List.map_map]
        refine List.map_congr_left fun p _ => ?_
        show (if p.1 = x then (p.1, z) else p).1 = p.1
        by_cases h : p.1 = x
        · rw [if_pos h]
        · rw [if_neg h]
      rw [e2]
      refine ⟨.inr, fun h => h.elim (fun h => ?_) id⟩
      obtain ⟨p, hp, hd⟩ := List.any_eq_true.mp c
      rw [h, ← of_decide_eq_true hd]
      exact List.mem_map.mpr ⟨p, hp, rfl⟩
    · intro hn
      have e2 : (kvs.map fun p => if p.1 = x then (p.1, z) else p).map (·.1) = kvs.map (·.1) := by
        rw [List.map_map]
        refine List.map_congr_left fun p _ => ?_
        show (if p.1 = x then (p.1, z) else p).1 = p.1
        by_cases h : p.1 = x
        · rw [if_pos h]
        · rw [if_neg h]
      rw [e2]
      exact hn
  · rw [if_neg c]
    refine ⟨kvs ++ [(x, z)], by rw [List.map_append] <;> rfl, fun y => ?_, fun hn => ?_⟩
    · rw [List.map_append, List.mem_append]
      simp only [List.map_cons, List.map_nil, List.mem_singleton]
      exact ⟨fun h => h.elim .inr .inl, fun h => h.elim .inr .inl⟩
    · rw [List.map_append]
      refine List.nodup_append.mpr ⟨hn, by simp, fun a ha b hb => ?_⟩
      simp only [List.map_cons, List.map_nil, List.mem_singleton] at hb
      rintro rfl
      refine c (List.any_eq_true.mpr ?_)
      obtain ⟨p, hp, e⟩ := List.mem_map.mp ha
      exact ⟨p, hp, decide_eq_true (e.trans hb)⟩
end Wr
namespace Wr
open PySem PySem.Spec PyProof.Rows L2
/-! ### the items of a part -/
/-- the parts within, as they stand -/
def Ex.kids : Ex → List Ex
  | .num _ => []
  | .name _ => []
  | .fault => []
  | .one _ a => [a]
  | .two _ a b => [a, b]
  | .ite a b c => [a, b, c]
  | .lt _ a b => [a, b]
  | .fn _ a => [a]
  | .ct a _ _ b => [a, b]
/-- a part's items: texts, numbers, parts -/
inductive Its (H : Hp) : List V → List Ex → Prop where
  | nil : Its H [] []
  | str (x : Str) {vs : List V} {es : List Ex} : Its H vs es → Its H (.str x :: vs) es
  | int (i : Int) {vs : List V} {es : List Ex} : Its H vs es → Its H (.int i :: vs) es
  | kid {v : V} {e : Ex} {vs : List V} {es : List Ex} : AtE H v e → Its H vs es → Its H (v :: vs) (e :: es)
theorem AtE.ref {H : Hp} {v : V} {e : Ex} (h : AtE H v e) : ∃ t xs, v = .ref t ∧ H t = some (.tup xs) ∧ Its H xs e.kids ∧ xs.length ≤ 5 ∧ 1 ≤ xs.length := by
  cases e with
  | num n => obtain ⟨t, rfl, h⟩ := h; exact ⟨t, _, rfl, h, .str _ (.int _ .nil), by show 2 ≤ 5; decide, by show 1 ≤ 2; decide⟩
  | name x => obtain ⟨t, rfl, h⟩ := h; exact ⟨t, _, rfl, h, .str _ (.str _ .nil), by show 2 ≤ 5; decide, by show 1 ≤ 2; decide⟩
  | fault => obtain ⟨t, rfl, h⟩ := h; exact ⟨t, _, rfl, h, .str _ .nil, by decide, by decide⟩
  | one w a => obtain ⟨t, x, rfl, h, ha⟩ := h; exact ⟨t, _, rfl, h, .str _ (.kid ha .nil), by show 2 ≤ 5; decide, by show 1 ≤ 2; decide⟩
  | two w a b => obtain ⟨t, x, y, rfl, h, ha, hb⟩ := h; exact ⟨t, _, rfl, h, .str _ (.kid ha (.kid hb .nil)), by show 3 ≤ 5; decide, by show 1 ≤ 3; decide⟩
  | ite a b c => obtain ⟨t, x, y, z, rfl, h, ha, hb, hc⟩ := h; exact ⟨t, _, rfl, h, .str _ (.kid ha (.kid hb (.kid hc .nil))), by show 4 ≤ 5; decide, by show 1 ≤ 4; decide⟩
  | lt n a b => obtain ⟨t, x, y, rfl, h, ha, hb⟩ := h; exact ⟨t, _, rfl, h, .str _ (.str _ (.kid ha (.kid hb .nil))), by show 4 ≤ 5; decide, by show 1 ≤ 4; decide⟩
  | fn n a => obtain ⟨t, x, rfl, h, ha⟩ := h; exact ⟨t, _, rfl, h, .str _ (.str _ (.kid ha .nil)), by show 3 ≤ 5; decide, by show 1 ≤ 3; decide⟩
  | ct a n k b => obtain ⟨t, x, y, rfl, h, ha, hb⟩ := h; exact ⟨t, _, rfl, h, .str _ (.kid ha (.str _ (.str _ (.kid hb .nil)))), by show 5 ≤ 5; decide, by show 1 ≤ 5; decide⟩
theorem Ex.size_kids (e : Ex) : (e.size : Int) = 1 + (e.kids.map fun a => (a.size : Int)).sum := by
  cases e <;> simp [Ex.size, Ex.kids] <;> omega
def maxL (l : List Nat) : Nat := l.foldr max 0
theorem Ex.deep_kids (e : Ex) : e.deep = 1 + maxL (e.kids.map Ex.deep) := by
  cases e <;> simp [Ex.deep, Ex.kids, maxL] <;> omega
theorem maxL_mem {l : List Nat} {x : Nat} (h : x ∈ l) : x ≤ maxL l := by
  induction l with
  | nil => cases h
  | cons a r ih =>
    show x ≤ max a (maxL r)
    rcases List.mem_cons.mp h with rfl | h
    · omega
    · have := ih h; omega
theorem maxL_in {l : List Nat} : maxL l = 0 ∨ maxL l ∈ l := by
  induction l with
  | nil => exact .inl rfl
  | cons a r ih =>
    show max a (maxL r) = 0 ∨ max a (maxL r) ∈ a :: r
    by_cases c : maxL r ≤ a
    · rw [Nat.max_eq_left c]; exact .inr List.mem_cons_self
    · rw [Nat.max_eq_right (by omega)]
      rcases ih with ih | ih
      · omega
      · exact .inr (List.mem_cons_of_mem _ ih)
theorem kid_deep {e k : Ex} (h : k ∈ e.kids) : k.deep < e.deep := by
  rw [e.deep_kids]
  have := maxL_mem (List.mem_map.mpr ⟨k, h, rfl⟩ : k.deep ∈ e.kids.map Ex.deep)
  omega
/-- what stands at the place i, and what is behind -/
theorem Its.step {H : Hp} {vs : List V} {es : List Ex} {i : Nat} {x : V} (h : Its H (vs.drop i) es) (e : vs[i]? = some x) :
    (((∃ s, x = .str s) ∨ (∃ n, x = .int n)) ∧ Its H (vs.drop (i + 1)) es) ∨ ∃ e es3, es = e :: es3 ∧ AtE H x e ∧ Its H (vs.drop (i + 1)) es3 := by
  obtain ⟨hi, rfl⟩ := List.getElem?_eq_some_iff.mp e
  rw [List.drop_eq_getElem_cons hi] at h
  generalize vs[i] = y at h ⊢
  cases h with
  | str s t => exact .inl ⟨.inl ⟨s, rfl⟩, t⟩
  | int n t => exact .inl ⟨.inr ⟨n, rfl⟩, t⟩
  | kid a t => exact .inr ⟨_, _, rfl, a, t⟩
end Wr
namespace Wr
open PySem PySem.Spec PyProof.Rows L2
/-! ### displays of parts -/
/-- a display of a part: its words and numbers written, or standing in slots -/
inductive Bx where
  | num (n : Int)
  | numv (i : Nat)
  | nm (s : Str)
  | nmv (i : Nat)
  | fault
  | var (i : Nat)
  | ext (i : Nat) (te : TE)
  | one (w : Str) (a : Bx)
  | two (w : Str) (a b : Bx)
  | ite (a b c : Bx)
  | lt (x : Str) (a b : Bx)
  | fn (x : Str) (a : Bx)
  | ct (a : Bx) (x k : Str) (b : Bx)
/-- its reading -/
def Bx.t : Bx → TE
  | .num n => tTup (tCons (tC (.str "num")) (tCons (tC (.int n)) tNil))
  | .numv i => tTup (tCons (tC (.str "num")) (tCons (tVar i) tNil))
  | .nm s => tTup (tCons (tC (.str "name")) (tCons (tC (.str s)) tNil))
  | .nmv i => tTup (tCons (tC (.str "name")) (tCons (tVar i) tNil))
  | .fault => tTup (tCons (tC (.str "fault")) tNil)
  | .var i => tVar i
  | .ext _ te => te
  | .one w a => tTup (tCons (tC (.str w)) (tCons a.t tNil))
  | .two w a b => tTup (tCons (tC (.str w)) (tCons a.t (tCons b.t tNil)))
  | .ite a b c => tTup (tCons (tC (.str "if")) (tCons a.t (tCons b.t (tCons c.t tNil))))
  | .lt x a b => tTup (tCons (tC (.str "let")) (tCons (tC (.str x)) (tCons a.t (tCons b.t tNil))))
  | .fn x a => tTup (tCons (tC (.str "fun")) (tCons (tC (.str x)) (tCons a.t tNil)))
  | .ct a x k b => tTup (tCons (tC (.str "catch")) (tCons a.t (tCons (tC (.str x)) (tCons (tC (.str k)) (tCons b.t tNil)))))
/-- what the slots stand for -/
structure Rho where
  e : Nat → Ex
  n : Nat → Int
  s : Nat → Str
def Bx.ex (ρ : Rho) : Bx → Ex
  | .num n => .num n
  | .numv i => .num (ρ.n i)
  | .nm s => .name s
  | .nmv i => .name (ρ.s i)
  | .fault => .fault
  | .var i => ρ.e i
  | .ext i _ => ρ.e i
  | .one w a => .one w (a.ex ρ)
  | .two w a b => .two w (a.ex ρ) (b.ex ρ)
  | .ite a b c => .ite (a.ex ρ) (b.ex ρ) (c.ex ρ)
  | .lt x a b => .lt x (a.ex ρ) (b.ex ρ)
  | .fn x a => .fn x (a.ex ρ)
  | .ct a x k b => .ct (a.ex ρ) x k (b.ex ρ)
/-- the slots hold it -/
def Bx.has (ρ : Rho) (σ : L2.St) (H : Hp) : Bx → Prop
  | .num _ => True
  | .numv i => σ[i]? = some (some (.int (ρ.n i)))
  | .nm _ => True
  | .nmv i => σ[i]? = some (some (.str (ρ.s i)))
  | .fault => True
  | .var i => ∃ v, σ[i]? = some (some v) ∧ AtE H v (ρ.e i)
  | .ext i te => ∀ (H1 : Hp) (Q : VK), Stp [] H H1 → (∀ v H2, Stp [] H1 H2 → AtE H2 v (ρ.e i) → Q v H2) → te σ H1 Q
  | .one _ a => a.has ρ σ H
  | .two _ a b => a.has ρ σ H ∧ b.has ρ σ H
  | .ite a b c => a.has ρ σ H ∧ b.has ρ σ H ∧ c.has ρ σ H
  | .lt _ a b => a.has ρ σ H ∧ b.has ρ σ H
  | .fn _ a => a.has ρ σ H
  | .ct a _ _ b => a.has ρ σ H ∧ b.has ρ σ H
theorem Bx.has.step {ρ : Rho} {σ : L2.St} {H H' : Hp} (s : Stp [] H H') : ∀ {b : Bx}, b.has ρ σ H → b.has ρ σ H' := by
  intro b
  induction b with
  | num n => exact id
  | numv i => exact id
  | nm x => exact id
  | nmv i => exact id
  | fault => exact id
  | var i => exact fun ⟨v, e, h⟩ => ⟨v, e, h.step s⟩
  | ext i te => exact fun h H1 Q s1 q => h H1 Q (s.trans s1) q
  | one w a ia => exact fun h => ia h
  | two w a b ia ib => exact fun h => ⟨ia h.1, ib h.2⟩
  | ite a b c ia ib ic => exact fun h => ⟨ia h.1, ib h.2.1, ic h.2.2⟩
  | lt x a b ia ib => exact fun h => ⟨ia h.1, ib h.2⟩
  | fn x a ia => exact fun h => ia h
  | ct a x k b ia ib => exact fun h => ⟨ia h.1, ib h.2⟩
theorem Bx.read {ρ : Rho} {σ : L2.St} : ∀ (b : Bx) {H : Hp} {Q : VK}, b.has ρ σ H → (∀ v H', Stp [] H H' → AtE H' v (b.ex ρ) → Q v H') → b.t σ H Q := by
  intro b
  induction b with
  | num n => exact fun {H Q} _ q => ⟨by show 2 ≤ sizeLine; decide, fun p np => q _ _ (.new np _) ⟨p, rfl, upd_same⟩⟩
  | numv i => exact fun {H Q} h q => ⟨_, h, by show 2 ≤ sizeLine; decide, fun p np => q _ _ (.new np _) ⟨p, rfl, upd_same⟩⟩
  | nm x => exact fun {H Q} _ q => ⟨by show 2 ≤ sizeLine; decide, fun p np => q _ _ (.new np _) ⟨p, rfl, upd_same⟩⟩
  | nmv i => exact fun {H Q} h q => ⟨_, h, by show 2 ≤ sizeLine; decide, fun p np => q _ _ (.new np _) ⟨p, rfl, upd_same⟩⟩
  | fault => exact fun {H Q} _ q => ⟨by show 1 ≤ sizeLine; decide, fun p np => q _ _ (.new np _) ⟨p, rfl, upd_same⟩⟩
  | var i => exact fun {H Q} ⟨v, e, h⟩ q => ⟨v, e, q v H (.refl _ _) h⟩
  | ext i te => exact fun {H Q} h q => h H Q (.refl _ _) q
  | one w a ia => exact fun {H Q} h q => ia h fun v H1 s1 h1 => ⟨by show 2 ≤ sizeLine; decide, fun p np => q _ _ (s1.trans (.new np _)) ⟨p, v, rfl, upd_same, h1.up np _⟩⟩
  | two w a b ia ib => exact fun {H Q} h q => ia h.1 fun v H1 s1 h1 => ib (h.2.step s1) fun u H2 s2 h2 => ⟨by show 3 ≤ sizeLine; decide, fun p np => q _ _ ((s1.trans s2).trans (.new np _)) ⟨p, v, u, rfl, upd_same, (h1.step s2).up np _, h2.up np _⟩⟩
  | ite a b c ia ib ic => exact fun {H Q} h q => ia h.1 fun v H1 s1 h1 => ib (h.2.1.step s1) fun u H2 s2 h2 => ic (h.2.2.step (s1.trans s2)) fun z H3 s3 h3 => ⟨by show 4 ≤ sizeLine; decide, fun p np => q _ _ (((s1.trans s2).trans s3).trans (.new np _)) ⟨p, v, u, z, rfl, upd_same, ((h1.step s2).step s3).up np _, (h2.step s3).up np _, h3.up np _⟩⟩
  | lt x a b ia ib => exact fun {H Q} h q => ia h.1 fun v H1 s1 h1 => ib (h.2.step s1) fun u H2 s2 h2 => ⟨by show 4 ≤ sizeLine; decide, fun p np => q _ _ ((s1.trans s2).trans (.new np _)) ⟨p, v, u, rfl, upd_same, (h1.step s2).up np _, h2.up np _⟩⟩
  | fn x a ia => exact fun {H Q} h q => ia h fun v H1 s1 h1 => ⟨by show 3 ≤ sizeLine; decide, fun p np => q _ _ (s1.trans (.new np _)) ⟨p, v, rfl, upd_same, h1.up np _⟩⟩
  | ct a x k b ia ib => exact fun {H Q} h q => ia h.1 fun v H1 s1 h1 => ib (h.2.step s1) fun u H2 s2 h2 => ⟨by show 5 ≤ sizeLine; decide, fun p np => q _ _ ((s1.trans s2).trans (.new np _)) ⟨p, v, u, rfl, upd_same, (h1.step s2).up np _, h2.up np _⟩⟩
/-- a list of them -/
def bxs : List Bx → TA
  | [] => tNil
  | b :: r => tCons b.t (bxs r)
/-- values for parts -/
inductive AtL (H : Hp) : List V → List Ex → Prop where
  | nil : AtL H [] []
  | cons {v : V} {e : Ex} {vs : List V} {es : List Ex} : AtE H v e → AtL H vs es → AtL H (v :: vs) (e :: es)
theorem AtL.tups {H H' : Hp} (s : ∀ t xs, H t = some (.tup xs) → H' t = some (.tup xs)) : ∀ {vs : List V} {es : List Ex}, AtL H vs es → AtL H' vs es
  | _, _, .nil => .nil
  | _, _, .cons a t => .cons (a.tups s) (AtL.tups s t)
theorem AtL.step {D : List Addr} {H H' : Hp} (s : Stp D H H') {vs : List V} {es : List Ex} (h : AtL H vs es) : AtL H' vs es := h.tups s.tups
theorem AtL.length {H : Hp} : ∀ {vs : List V} {es : List Ex}, AtL H vs es → vs.length = es.length
  | _, _, .nil => rfl
  | _, _, .cons a t => congrArg (· + 1) (AtL.length t)
theorem AtL.append {H : Hp} : ∀ {vs us : List V} {es fs : List Ex}, AtL H vs es → AtL H us fs → AtL H (vs ++ us) (es ++ fs)
  | _, _, _, _, .nil, h => h
  | _, _, _, _, .cons a t, h => .cons a (AtL.append t h)
/-- the item at a place -/
theorem AtL.at_ {H : Hp} : ∀ {vs : List V} {es : List Ex} (k : Nat), AtL H vs es → k < es.length → ∃ v e, vs[k]? = some v ∧ es[k]? = some e ∧ e ∈ es ∧ AtE H v e
  | _, _, _, .nil, h => absurd h (by simp)
  | _, _, 0, .cons a t, _ => ⟨_, _, rfl, rfl, List.mem_cons_self, a⟩
  | _, _, k + 1, .cons a t, h => by
    obtain ⟨v, e, h1, h2, h3, h4⟩ := AtL.at_ k t (by simpa using h)
    exact ⟨v, e, h1, h2, List.mem_cons_of_mem _ h3, h4⟩
theorem AtL.ix {H : Hp} {vs : List V} {es : List Ex} {x : Int} (h : AtL H vs es) (h0 : 0 ≤ x) (h1 : x < es.length) : ∃ v e, atI vs x = some v ∧ e ∈ es ∧ AtE H v e := by
  obtain ⟨k, rfl⟩ : ∃ k : Nat, x = (k : Int) := ⟨x.toNat, by omega⟩
  obtain ⟨v, e, a1, _, a3, a4⟩ := h.at_ k (by omega)
  exact ⟨v, e, atI_nat a1, a3, a4⟩
theorem bxs.read {ρ : Rho} {σ : L2.St} : ∀ (bs : List Bx) {H : Hp} {Q : List V → Hp → Prop}, (∀ b ∈ bs, b.has ρ σ H) → (∀ vs H', Stp [] H H' → AtL H' vs (bs.map (Bx.ex ρ)) → Q vs H') → bxs bs σ H Q
  | [], H, Q, _, q => q [] H (.refl _ _) .nil
  | b :: r, H, Q, h, q => b.read (h b List.mem_cons_self) fun v H1 s1 h1 => bxs.read r (fun c hc => (h c (List.mem_cons_of_mem _ hc)).step s1) fun vs H2 s2 h2 => q _ _ (s1.trans s2) (.cons (h1.step s2) h2)
/-- name = a display -/
theorem stB {ρ : Rho} {i : Nat} {u : TS} {D : Ends} {σ : L2.St} {H : Hp} (b : Bx) (hb : b.has ρ σ H) (q : ∀ v H', Stp [] H H' → AtE H' v (b.ex ρ) → u D (σ.set i (some v)) H') : tSeq (tAsg b.t (gName i)) u D σ H := b.read hb q
theorem retB {ρ : Rho} {D : Ends} {σ : L2.St} {H : Hp} (b : Bx) (hb : b.has ρ σ H) (q : ∀ v H', Stp [] H H' → AtE H' v (b.ex ρ) → D.rt v H') : tRet b.t D σ H := b.read hb q
/-- xs.append(a display) -/
theorem apB {K : PySem.W.Frag} {ρ : Rho} {i : Nat} {u : TS} {D : Ends} {σ : L2.St} {H : Hp} {l : Addr} {vs : List V} (b : Bx) (hσ : σ[i]? = some (some (.ref l))) (hl : H l = some (.lst vs)) (hn : vs.length ≤ 1000) (hb : b.has ρ σ H)
    (q : ∀ v H1, Stp [] H H1 → AtE H1 v (b.ex ρ) → u D σ (upd H1 l (.lst (vs ++ [v])))) : tSeq (tDrop (tBM K "list" rAppend (tVar i) (tCons b.t tNil))) u D σ H :=
  ⟨_, hσ, .inl ⟨rfl, _, SqL.of hl⟩, b.read hb fun v H1 s1 h1 => ⟨l, _, _, rfl, rfl, s1.keep _ _ (by simp) hl, Nat.lt_of_le_of_lt hn (by decide), q v H1 s1 h1⟩⟩
/-- name = a list of displays -/
theorem stL {ρ : Rho} {i : Nat} {u : TS} {D : Ends} {σ : L2.St} {H : Hp} (bs : List Bx) (hl : bs.length ≤ 100) (hb : ∀ b ∈ bs, b.has ρ σ H) (q : ∀ p vs H1, Stp [] H H1 → AtL H1 vs (bs.map (Bx.ex ρ)) → H1 p = none → u D (σ.set i (some (.ref p))) (upd H1 p (.lst vs))) : tSeq (tAsg (tLst (bxs bs)) (gName i)) u D σ H :=
  bxs.read bs hb fun vs H1 s1 h1 => ⟨by rw [h1.length, List.length_map]; exact Nat.le_trans hl (by decide), fun p np => q p vs H1 s1 h1 np⟩
end Wr
namespace Wr
open PySem PySem.Spec PyProof.Rows L2
/-! ### papers -/
inductive Wd where
  | quiet | free | used
  deriving DecidableEq
def Wd.s : Wd → Str
  | .quiet => "quiet"
  | .free => "free"
  | .used => "used"
def woV : Option Wd → V
  | none => .non
  | some w => .str w.s
def joinS : Option Wd → Option Wd → Option Wd
  | none, _ => none
  | some _, none => none
  | some .quiet, some w => some w
  | some .free, some .used => none
  | some .used, some .used => none
  | some .free, some _ => some .free
  | some .used, some _ => some .used
def joinW (ws : List (Option Wd)) : Option Wd := ws.foldl joinS (some .quiet)
def hid (k : Option Str) (x : Str) : Option Str := if k = some x then none else k
def isK : Ex → Option Str → Bool
  | .name x, some y => decide (x = y)
  | _, _ => false
def soft (w : Option Wd) : Option Wd := if w = some .quiet then some .free else w
/-- the greater one; none if one is -/
def mxW : Option Wd → Option Wd → Option Wd
  | none, _ => none
  | _, none => none
  | some .used, some _ => some .used
  | some _, some .used => some .used
  | some .free, some _ => some .free
  | some _, some .free => some .free
  | some .quiet, some .quiet => some .quiet
def Ex.wd : Ex → Option Str → Option Wd
  | .num _, _ => some .quiet
  | .fault, _ => some .quiet
  | .name x, k => if k = some x then none else some .quiet
  | .one w a, k => if w = "drop" then (if isK a k = true then some .used else soft (joinW [a.wd k])) else if w = "throw" then soft (joinW [a.wd k]) else joinW [a.wd k]
  | .two w a b, k => if w = "go" then (if isK a k = true then (if b.wd k = some .quiet then some .used else none) else soft (joinW [a.wd k, b.wd k])) else if w = "call" then soft (joinW [a.wd k, b.wd k]) else joinW [a.wd k, b.wd k]
  | .ite a b c, k => joinW [a.wd k, mxW (b.wd k) (c.wd k)]
  | .lt x a b, k => joinW [a.wd k, b.wd (hid k x)]
  | .fn x a, k => if a.wd (hid k x) = some .quiet ∨ a.wd (hid k x) = some .free then some .quiet else none
  | .ct a x k' b, k => if (b.wd (hid (hid k x) k') = some .quiet ∨ b.wd (hid (hid k x) k') = some .free) ∧ a.wd k ≠ none then (if a.wd k = some .quiet then some .free else a.wd k) else none
/-- v is the paper of e, k being the rest's name -/
def PapAt (H : Hp) : V → Ex → Option Str → Prop
  | v, .num n, k => ∃ t u, v = .ref t ∧ H t = some (.tup [woV ((Ex.num n).wd k), .ref u]) ∧ H u = some (.tup [])
  | v, .name x, k => ∃ t u, v = .ref t ∧ H t = some (.tup [woV ((Ex.name x).wd k), .ref u]) ∧ H u = some (.tup [])
  | v, .fault, k => ∃ t u, v = .ref t ∧ H t = some (.tup [woV (Ex.fault.wd k), .ref u]) ∧ H u = some (.tup [])
  | v, .one w a, k => ∃ t u x, v = .ref t ∧ H t = some (.tup [woV ((Ex.one w a).wd k), .ref u]) ∧ H u = some (.tup [x]) ∧ PapAt H x a k
  | v, .two w a b, k => ∃ t u x y, v = .ref t ∧ H t = some (.tup [woV ((Ex.two w a b).wd k), .ref u]) ∧ H u = some (.tup [x, y]) ∧ PapAt H x a k ∧ PapAt H y b k
  | v, .ite a b c, k => ∃ t u x y z, v = .ref t ∧ H t = some (.tup [woV ((Ex.ite a b c).wd k), .ref u]) ∧ H u = some (.tup [x, y, z]) ∧ PapAt H x a k ∧ PapAt H y b k ∧ PapAt H z c k
  | v, .lt n a b, k => ∃ t u x y, v = .ref t ∧ H t = some (.tup [woV ((Ex.lt n a b).wd k), .ref u]) ∧ H u = some (.tup [x, y]) ∧ PapAt H x a k ∧ PapAt H y b (hid k n)
  | v, .fn n a, k => ∃ t u x, v = .ref t ∧ H t = some (.tup [woV ((Ex.fn n a).wd k), .ref u]) ∧ H u = some (.tup [x]) ∧ PapAt H x a (hid k n)
  | v, .ct a n k' b, k => ∃ t u x y, v = .ref t ∧ H t = some (.tup [woV ((Ex.ct a n k' b).wd k), .ref u]) ∧ H u = some (.tup [x, y]) ∧ PapAt H x a k ∧ PapAt H y b (hid (hid k n) k')
theorem PapAt.tups {H H' : Hp} (s : ∀ t xs, H t = some (.tup xs) → H' t = some (.tup xs)) : ∀ {e : Ex} {v : V} {k : Option Str}, PapAt H v e k → PapAt H' v e k := by
  intro e
  induction e with
  | num n => exact fun {v k} ⟨t, u, e, h, g⟩ => ⟨t, u, e, s _ _ h, s _ _ g⟩
  | name x => exact fun {v k} ⟨t, u, e, h, g⟩ => ⟨t, u, e, s _ _ h, s _ _ g⟩
  | fault => exact fun {v k} ⟨t, u, e, h, g⟩ => ⟨t, u, e, s _ _ h, s _ _ g⟩
  | one w a ia => exact fun {v k} ⟨t, u, x, e, h, g, ha⟩ => ⟨t, u, x, e, s _ _ h, s _ _ g, ia ha⟩
  | two w a b ia ib => exact fun {v k} ⟨t, u, x, y, e, h, g, ha, hb⟩ => ⟨t, u, x, y, e, s _ _ h, s _ _ g, ia ha, ib hb⟩
  | ite a b c ia ib ic => exact fun {v k} ⟨t, u, x, y, z, e, h, g, ha, hb, hc⟩ => ⟨t, u, x, y, z, e, s _ _ h, s _ _ g, ia ha, ib hb, ic hc⟩
  | lt n a b ia ib => exact fun {v k} ⟨t, u, x, y, e, h, g, ha, hb⟩ => ⟨t, u, x, y, e, s _ _ h, s _ _ g, ia ha, ib hb⟩
  | fn n a ia => exact fun {v k} ⟨t, u, x, e, h, g, ha⟩ => ⟨t, u, x, e, s _ _ h, s _ _ g, ia ha⟩
  | ct a n k' b ia ib => exact fun {v k} ⟨t, u, x, y, e, h, g, ha, hb⟩ => ⟨t, u, x, y, e, s _ _ h, s _ _ g, ia ha, ib hb⟩
/-- the names for the parts within -/
def Ex.ks (k : Option Str) : Ex → List (Option Str)
  | .num _ => []
  | .name _ => []
  | .fault => []
  | .one _ _ => [k]
  | .two _ _ _ => [k, k]
  | .ite _ _ _ => [k, k, k]
  | .lt x _ _ => [k, hid k x]
  | .fn x _ => [hid k x]
  | .ct _ x k' _ => [k, hid (hid k x) k']
/-- papers for parts with names -/
inductive PapL (H : Hp) : List V → List Ex → List (Option Str) → Prop where
  | nil : PapL H [] [] []
  | cons {v : V} {e : Ex} {k : Option Str} {vs : List V} {es : List Ex} {ks : List (Option Str)} : PapAt H v e k → PapL H vs es ks → PapL H (v :: vs) (e :: es) (k :: ks)
theorem PapL.tups {H H' : Hp} (s : ∀ t xs, H t = some (.tup xs) → H' t = some (.tup xs)) : ∀ {vs : List V} {es : List Ex} {ks : List (Option Str)}, PapL H vs es ks → PapL H' vs es ks
  | _, _, _, .nil => .nil
  | _, _, _, .cons a t => .cons (a.tups s) (PapL.tups s t)
/-- a paper from its parts' papers -/
theorem PapAt.mk_ {H : Hp} {e : Ex} {k : Option Str} {t u : Addr} {vs : List V} (h : H t = some (.tup [woV (e.wd k), .ref u])) (g : H u = some (.tup vs)) (l : PapL H vs e.kids (e.ks k)) : PapAt H (.ref t) e k := by
  cases e with
  | num n => cases l; exact ⟨t, u, rfl, h, g⟩
  | name x => cases l; exact ⟨t, u, rfl, h, g⟩
  | fault => cases l; exact ⟨t, u, rfl, h, g⟩
  | one w a => cases l with | cons ha l => cases l; exact ⟨t, u, _, rfl, h, g, ha⟩
  | two w a b => cases l with | cons ha l => cases l with | cons hb l => cases l; exact ⟨t, u, _, _, rfl, h, g, ha, hb⟩
  | ite a b c => cases l with | cons ha l => cases l with | cons hb l => cases l with | cons hc l => cases l; exact ⟨t, u, _, _, _, rfl, h, g, ha, hb, hc⟩
  | lt n a b => cases l with | cons ha l => cases l with | cons hb l => cases l; exact ⟨t, u, _, _, rfl, h, g, ha, hb⟩
  | fn n a => cases l with | cons ha l => cases l; exact ⟨t, u, _, rfl, h, g, ha⟩
  | ct a n k' b => cases l with | cons ha l => cases l with | cons hb l => cases l; exact ⟨t, u, _, _, rfl, h, g, ha, hb⟩
/-- its word and its parts -/
theorem PapAt.open_ {H : Hp} {v : V} {e : Ex} {k : Option Str} (h : PapAt H v e k) : ∃ t u vs, v = .ref t ∧ H t = some (.tup [woV (e.wd k), .ref u]) ∧ H u = some (.tup vs) ∧ PapL H vs e.kids (e.ks k) := by
  cases e with
  | num n => obtain ⟨t, u, rfl, h, g⟩ := h; exact ⟨t, u, _, rfl, h, g, .nil⟩
  | name x => obtain ⟨t, u, rfl, h, g⟩ := h; exact ⟨t, u, _, rfl, h, g, .nil⟩
  | fault => obtain ⟨t, u, rfl, h, g⟩ := h; exact ⟨t, u, _, rfl, h, g, .nil⟩
  | one w a => obtain ⟨t, u, x, rfl, h, g, ha⟩ := h; exact ⟨t, u, _, rfl, h, g, .cons ha .nil⟩
  | two w a b => obtain ⟨t, u, x, y, rfl, h, g, ha, hb⟩ := h; exact ⟨t, u, _, rfl, h, g, .cons ha (.cons hb .nil)⟩
  | ite a b c => obtain ⟨t, u, x, y, z, rfl, h, g, ha, hb, hc⟩ := h; exact ⟨t, u, _, rfl, h, g, .cons ha (.cons hb (.cons hc .nil))⟩
  | lt n a b => obtain ⟨t, u, x, y, rfl, h, g, ha, hb⟩ := h; exact ⟨t, u, _, rfl, h, g, .cons ha (.cons hb .nil)⟩
  | fn n a => obtain ⟨t, u, x, rfl, h, g, ha⟩ := h; exact ⟨t, u, _, rfl, h, g, .cons ha .nil⟩
  | ct a n k' b => obtain ⟨t, u, x, y, rfl, h, g, ha, hb⟩ := h; exact ⟨t, u, _, rfl, h, g, .cons ha (.cons hb .nil)⟩
end Wr
namespace Wr
open PySem PySem.Spec PyProof.Rows L2
def Ex.word : Ex → Str
  | .num _ => "num"
  | .name _ => "name"
  | .fault => "fault"
  | .one w _ => w
  | .two w _ _ => w
  | .ite _ _ _ => "if"
  | .lt _ _ _ => "let"
  | .fn _ _ => "fun"
  | .ct _ _ _ _ => "catch"
def Ex.isCt : Ex → Bool
  | .ct _ _ _ _ => true
  | _ => false
/-- all catches, as they stand -/
def Ex.cts : Ex → List Ex
  | .num _ => []
  | .name _ => []
  | .fault => []
  | .one _ a => a.cts
  | .two _ a b => a.cts ++ b.cts
  | .ite a b c => a.cts ++ (b.cts ++ c.cts)
  | .lt _ a b => a.cts ++ b.cts
  | .fn _ a => a.cts
  | .ct a x k b => .ct a x k b :: (a.cts ++ b.cts)
theorem Ex.cts_kids (e : Ex) : e.cts = (if e.isCt = true then [e] else []) ++ (e.kids.map Ex.cts).flatten := by
  cases e <;> simp [Ex.cts, Ex.kids, Ex.isCt]
theorem Ex.cts_size (e : Ex) : e.cts.length ≤ e.size := by
  induction e <;> simp only [Ex.cts, Ex.size, List.length_nil, List.length_append, List.length_cons] <;> omega
/-- the first item is the word -/
theorem AtE.words {H : Hp} {v : V} {e : Ex} (h : AtE H v e) : ∃ t xs, v = .ref t ∧ H t = some (.tup (.str e.word :: xs)) ∧ Its H (.str e.word :: xs) e.kids ∧ (V.str e.word :: xs).length ≤ 5 := by
  obtain ⟨t, xs, rfl, ht, hI, h5, h1⟩ := h.ref
  cases e with
  | num n => obtain ⟨_, e, h⟩ := h; cases e; rw [h] at ht; cases ht; exact ⟨t, _, rfl, h, hI, h5⟩
  | name n => obtain ⟨_, e, h⟩ := h; cases e; rw [h] at ht; cases ht; exact ⟨t, _, rfl, h, hI, h5⟩
  | fault => obtain ⟨_, e, h⟩ := h; cases e; rw [h] at ht; cases ht; exact ⟨t, _, rfl, h, hI, h5⟩
  | one w a => obtain ⟨_, _, e, h, _⟩ := h; cases e; rw [h] at ht; cases ht; exact ⟨t, _, rfl, h, hI, h5⟩
  | two w a b => obtain ⟨_, _, _, e, h, _⟩ := h; cases e; rw [h] at ht; cases ht; exact ⟨t, _, rfl, h, hI, h5⟩
  | ite a b c => obtain ⟨_, _, _, _, e, h, _⟩ := h; cases e; rw [h] at ht; cases ht; exact ⟨t, _, rfl, h, hI, h5⟩
  | lt n a b => obtain ⟨_, _, _, e, h, _⟩ := h; cases e; rw [h] at ht; cases ht; exact ⟨t, _, rfl, h, hI, h5⟩
  | fn n a => obtain ⟨_, _, e, h, _⟩ := h; cases e; rw [h] at ht; cases ht; exact ⟨t, _, rfl, h, hI, h5⟩
  | ct a n k b => obtain ⟨_, _, _, e, h, _⟩ := h; cases e; rw [h] at ht; cases ht; exact ⟨t, _, rfl, h, hI, h5⟩
theorem Good.kid {S : List Str} {e k : Ex} (g : Good S e) (h : k ∈ e.kids) : ∃ S', Good S' k := by
  cases e with
  | num n => cases h
  | name x => cases h
  | fault => cases h
  | one w a => rw [List.mem_singleton.mp h]; exact ⟨S, g.2⟩
  | two w a b =>
    simp only [Ex.kids, List.mem_cons, List.not_mem_nil, or_false] at h
    rcases h with rfl | rfl
    · exact ⟨S, g.2.1⟩
    · exact ⟨S, g.2.2⟩
  | ite a b c =>
    simp only [Ex.kids, List.mem_cons, List.not_mem_nil, or_false] at h
    rcases h with rfl | rfl | rfl
    · exact ⟨S, g.1⟩
    · exact ⟨S, g.2.1⟩
    · exact ⟨S, g.2.2⟩
  | lt n a b =>
    simp only [Ex.kids, List.mem_cons, List.not_mem_nil, or_false] at h
    rcases h with rfl | rfl
    · exact ⟨S, g.2.1⟩
    · exact ⟨_, g.2.2⟩
  | fn n a => rw [List.mem_singleton.mp h]; exact ⟨_, g.2⟩
  | ct a n k' b =>
    simp only [Ex.kids, List.mem_cons, List.not_mem_nil, or_false] at h
    rcases h with rfl | rfl
    · exact ⟨S, g.2.2.2.1⟩
    · exact ⟨_, g.2.2.2.2⟩
theorem ones_ne : ∀ w ∈ ones, w ≠ "catch" ∧ w ≠ "num" ∧ w ≠ "fault" ∧ w ≠ "name" ∧ w ≠ "let" ∧ w ≠ "fun" ∧ w ≠ "if" ∧ w ∉ twos := by decide +kernel
theorem twos_ne : ∀ w ∈ twos, w ≠ "catch" ∧ w ≠ "num" ∧ w ≠ "fault" ∧ w ≠ "name" ∧ w ≠ "let" ∧ w ≠ "fun" ∧ w ≠ "if" ∧ w ∉ ones := by decide +kernel
theorem word_ct {S : List Str} {e : Ex} (g : Good S e) : decide (V.str e.word = V.str "catch") = e.isCt := by
  cases e with
  | num n => exact decide_eq_false (by show ¬ V.str "num" = V.str "catch"; decide +kernel)
  | name x => exact decide_eq_false (by show ¬ V.str "name" = V.str "catch"; decide +kernel)
  | fault => exact decide_eq_false (by show ¬ V.str "fault" = V.str "catch"; decide +kernel)
  | one w a => exact decide_eq_false fun h => (ones_ne w g.1).1 (V.str.inj h)
  | two w a b => exact decide_eq_false fun h => (twos_ne w g.1).1 (V.str.inj h)
  | ite a b c => exact decide_eq_false (by show ¬ V.str "if" = V.str "catch"; decide +kernel)
  | lt n a b => exact decide_eq_false (by show ¬ V.str "let" = V.str "catch"; decide +kernel)
  | fn n a => exact decide_eq_false (by show ¬ V.str "fun" = V.str "catch"; decide +kernel)
  | ct a n k b => exact decide_eq_true rfl
theorem kid_size {e k : Ex} (h : k ∈ e.kids) : k.size < e.size := by
  cases e <;> simp only [Ex.kids, List.mem_cons, List.not_mem_nil, or_false] at h
  all_goals simp only [Ex.size]
  · subst h; omega
  · rcases h with rfl | rfl <;> omega
  · rcases h with rfl | rfl | rfl <;> omega
  · rcases h with rfl | rfl <;> omega
  · subst h; omega
  · rcases h with rfl | rfl <;> omega
end Wr
namespace Wr
open PySem PySem.Spec PyProof.Rows L2
/-- a part as data -/
def Ex.dat : Ex → PyData
  | .num n => .tuple [.str "num", .int n]
  | .name x => .tuple [.str "name", .str x]
  | .fault => .tuple [.str "fault"]
  | .one w a => .tuple [.str w, a.dat]
  | .two w a b => .tuple [.str w, a.dat, b.dat]
  | .ite a b c => .tuple [.str "if", a.dat, b.dat, c.dat]
  | .lt x a b => .tuple [.str "let", .str x, a.dat, b.dat]
  | .fn x a => .tuple [.str "fun", .str x, a.dat]
  | .ct a x k b => .tuple [.str "catch", a.dat, .str x, .str k, b.dat]
theorem AtE.dp {K : PySem.W.Frag} {H : Hp} {v : V} {e : Ex} (h : AtE H v e) : Dp K H v e.dat := by
  induction e generalizing v with
  | num n => obtain ⟨t, rfl, h⟩ := h; exact .tup (SqT.of h) (.cons (.str _) (.cons (.int _) .nil))
  | name x => obtain ⟨t, rfl, h⟩ := h; exact .tup (SqT.of h) (.cons (.str _) (.cons (.str _) .nil))
  | fault => obtain ⟨t, rfl, h⟩ := h; exact .tup (SqT.of h) (.cons (.str _) .nil)
  | one w a ia => obtain ⟨t, x, rfl, h, ha⟩ := h; exact .tup (SqT.of h) (.cons (.str _) (.cons (ia ha) .nil))
  | two w a b ia ib => obtain ⟨t, x, y, rfl, h, ha, hb⟩ := h; exact .tup (SqT.of h) (.cons (.str _) (.cons (ia ha) (.cons (ib hb) .nil)))
  | ite a b c ia ib ic => obtain ⟨t, x, y, z, rfl, h, ha, hb, hc⟩ := h; exact .tup (SqT.of h) (.cons (.str _) (.cons (ia ha) (.cons (ib hb) (.cons (ic hc) .nil))))
  | lt n a b ia ib => obtain ⟨t, x, y, rfl, h, ha, hb⟩ := h; exact .tup (SqT.of h) (.cons (.str _) (.cons (.str _) (.cons (ia ha) (.cons (ib hb) .nil))))
  | fn n a ia => obtain ⟨t, x, rfl, h, ha⟩ := h; exact .tup (SqT.of h) (.cons (.str _) (.cons (.str _) (.cons (ia ha) .nil)))
  | ct a n k b ia ib => obtain ⟨t, x, y, rfl, h, ha, hb⟩ := h; exact .tup (SqT.of h) (.cons (.str _) (.cons (ia ha) (.cons (.str _) (.cons (.str _) (.cons (ib hb) .nil)))))
theorem Ex.dat_depth (e : Ex) : e.dat.depth = e.deep := by
  induction e with
  | num n => rfl
  | name x => rfl
  | fault => rfl
  | one w a ia => simp only [Ex.dat, Ex.deep, PyData.depth, PyData.depthAll, ia]; omega
  | two w a b ia ib => simp only [Ex.dat, Ex.deep, PyData.depth, PyData.depthAll, ia, ib]; omega
  | ite a b c ia ib ic => simp only [Ex.dat, Ex.deep, PyData.depth, PyData.depthAll, ia, ib, ic]; omega
  | lt n a b ia ib => simp only [Ex.dat, Ex.deep, PyData.depth, PyData.depthAll, ia, ib]; omega
  | fn n a ia => simp only [Ex.dat, Ex.deep, PyData.depth, PyData.depthAll, ia]; omega
  | ct a n k b ia ib => simp only [Ex.dat, Ex.deep, PyData.depth, PyData.depthAll, ia, ib]; omega
theorem ones_lay : ∀ w ∈ ones, PyData.canLay0 (.str w) = true := by decide +kernel
theorem twos_lay : ∀ w ∈ twos, PyData.canLay0 (.str w) = true := by decide +kernel
theorem lets_lay : ∀ w ∈ letters, PyData.canLay0 (.str w) = true := by decide +kernel
theorem words_lay : PyData.canLay0 (.str "num") = true ∧ PyData.canLay0 (.str "name") = true ∧ PyData.canLay0 (.str "fault") = true ∧ PyData.canLay0 (.str "if") = true ∧ PyData.canLay0 (.str "let") = true ∧ PyData.canLay0 (.str "fun") = true ∧ PyData.canLay0 (.str "catch") = true := by decide +kernel
theorem consL {S : List Str} {x : Str} (hS : ∀ y ∈ S, y ∈ letters) (hx : x ∈ letters) : ∀ y ∈ x :: S, y ∈ letters := fun y hy => (List.mem_cons.mp hy).elim (fun z => by rw [z]; exact hx) (hS y)
theorem Good.lay {e : Ex} : ∀ {S : List Str}, (∀ x ∈ S, x ∈ letters) → Good S e → PyData.canLay0 e.dat = true := by
  obtain ⟨w1, w2, w3, w4, w5, w6, w7⟩ := words_lay
  induction e with
  | num n => intro S hS g; simp only [Ex.dat, PyData.canLay0, PyData.canLayAll0, Bool.and_true] at *; exact w1
  | name x =>
    intro S hS g
    have := lets_lay x (hS x g)
    simp only [Ex.dat, PyData.canLay0, PyData.canLayAll0, Bool.and_true, Bool.and_eq_true] at *
    exact ⟨w2, this⟩
  | fault => intro S hS g; simp only [Ex.dat, PyData.canLay0, PyData.canLayAll0, Bool.and_true] at *; exact w3
  | one w a ia =>
    intro S hS g
    have := ones_lay w g.1
    have a1 := ia hS g.2
    simp only [Ex.dat, PyData.canLay0, PyData.canLayAll0, Bool.and_true, Bool.and_eq_true] at *
    exact ⟨this, a1⟩
  | two w a b ia ib =>
    intro S hS g
    have := twos_lay w g.1
    have a1 := ia hS g.2.1
    have a2 := ib hS g.2.2
    simp only [Ex.dat, PyData.canLay0, PyData.canLayAll0, Bool.and_true, Bool.and_eq_true] at *
    exact ⟨this, a1, a2⟩
  | ite a b c ia ib ic =>
    intro S hS g
    have a1 := ia hS g.1
    have a2 := ib hS g.2.1
    have a3 := ic hS g.2.2
    simp only [Ex.dat, PyData.canLay0, PyData.canLayAll0, Bool.and_true, Bool.and_eq_true] at *
    exact ⟨w4, a1, a2, a3⟩
  | lt n a b ia ib =>
    intro S hS g
    have h := lets_lay n g.1
    have a1 := ia hS g.2.1
    have a2 := ib (consL hS g.1) g.2.2
    simp only [Ex.dat, PyData.canLay0, PyData.canLayAll0, Bool.and_true, Bool.and_eq_true] at *
    exact ⟨w5, h, a1, a2⟩
  | fn n a ia =>
    intro S hS g
    have h := lets_lay n g.1
    have a1 := ia (consL hS g.1) g.2
    simp only [Ex.dat, PyData.canLay0, PyData.canLayAll0, Bool.and_true, Bool.and_eq_true] at *
    exact ⟨w6, h, a1⟩
  | ct a n k b ia ib =>
    intro S hS g
    have h := lets_lay n g.1
    have h2 := lets_lay k g.2.1
    have a1 := ia hS g.2.2.2.1
    have a2 := ib (consL (consL hS g.2.1) g.1) g.2.2.2.2
    simp only [Ex.dat, PyData.canLay0, PyData.canLayAll0, Bool.and_true, Bool.and_eq_true] at *
    exact ⟨w7, a1, h, h2, a2⟩
theorem Good.shaped {e : Ex} {S : List Str} (hS : ∀ x ∈ S, x ∈ letters) (g : Good S e) (hd : e.deep ≤ 64) : SeqAt.shaped e.dat = true := by
  unfold SeqAt.shaped
  rw [g.lay hS, e.dat_depth]
  exact decide_eq_true hd
def okV : Option Str → V
  | none => .non
  | some x => .str x
def okD : Option Str → PyData
  | none => .none
  | some x => .str x
/-- is it the name k -/
theorem eqv_name {e : Ex} {S : List Str} (g : Good S e) (k : Option Str) : PyData.eqv e.dat (.tuple [.str "name", okD k]) = isK e k := by
  have ne : ∀ {w : Str}, w ≠ "name" → (w == ("name" : Str)) = false := fun h => beq_eq_false_iff_ne.mpr h
  have hd : ∀ (w : Str) (rest : List PyData), w ≠ "name" → PyData.eqv (.tuple (.str w :: rest)) (.tuple [.str "name", okD k]) = false := fun w rest h => by
    simp only [PyData.eqv, PyData.eqvAll, ne h, Bool.false_and]
  cases e with
  | num n => exact hd "num" _ (by decide +kernel)
  | name x =>
    cases k with
    | none => simp [Ex.dat, okD, PyData.eqv, PyData.eqvAll, isK]
    | some y =>
      show PyData.eqv (.tuple [.str "name", .str x]) (.tuple [.str "name", .str y]) = decide (x = y)
      simp only [PyData.eqv, PyData.eqvAll, beq_self_eq_true, Bool.true_and, Bool.and_true]
      by_cases h : x = y
      · rw [decide_eq_true h, h]; exact beq_self_eq_true _
      · rw [decide_eq_false h]; exact beq_eq_false_iff_ne.mpr h
  | fault => exact hd "fault" _ (by decide +kernel)
  | one w a => exact hd w _ (ones_ne w g.1).2.2.2.1
  | two w a b => exact hd w _ (twos_ne w g.1).2.2.2.1
  | ite a b c => exact hd "if" _ (by decide +kernel)
  | lt n a b => exact hd "let" _ (by decide +kernel)
  | fn n a => exact hd "fun" _ (by decide +kernel)
  | ct a n k' b => exact hd "catch" _ (by decide +kernel)
/-- a comprehension over zip of two lists of one length -/
theorem lc_zipL {K : PySem.W.Frag} {a b : Addr} {xs ys : List V} {g : TG} {tt : TT} {te : TE} {vs : List Nat} {σ : L2.St} {H1 : Hp} {D : Addr} {Qd : Hp → Prop} (hl : xs.length = ys.length) (Pv : Nat → Hp → Prop) (h0 : Pv 0 (upd H1 D (.lst []))) (hq : ∀ i H, i ≤ xs.length → Pv i H → SqL K H a xs ∧ SqL K H b ys)
    (hs : ∀ i x y T H, xs[i]? = some x → ys[i]? = some y → Pv i H → H T = none → g (.ref T) (wipe σ vs) (upd H T (.tup [x, y])) fun σ2 H2 => wipe σ2 vs = wipe σ vs ∧ tt σ2 H2 fun b H3 =>
      if b = true then te σ2 H3 fun y H4 => ∃ acc, H4 D = some (.lst acc) ∧ acc.length < sizeLine ∧ Pv (i + 1) (upd H4 D (.lst (acc ++ [y]))) else Pv (i + 1) H3) (hd : ∀ H, Pv xs.length H → Qd H) :
    ∃ W : Nat → Nat → Hp → Prop, (∃ m, W 0 m (upd H1 D (.lst []))) ∧ ∀ i m H, W i m H →
      ((Itz K a b).stop i H ∧ Qd H) ∨ ((Itz K a b).go i H ∧ ∃ Nx : Hp → Prop, (∀ H', Nx H' → ∃ m', m' < m ∧ W (i + 1) m' H') ∧ ∀ v H', (Itz K a b).yld i H v H' → g v (wipe σ vs) H' fun σ2 H2 => wipe σ2 vs = wipe σ vs ∧ tt σ2 H2 fun b H3 =>
        if b = true then te σ2 H3 fun y H4 => ∃ acc, H4 D = some (.lst acc) ∧ acc.length < sizeLine ∧ Nx (upd H4 D (.lst (acc ++ [y]))) else Nx H3) := by
  refine ⟨fun i m H => m = xs.length - i ∧ i ≤ xs.length ∧ Pv i H, ⟨xs.length, by simp, Nat.zero_le _, h0⟩, ?_⟩
  rintro i m H ⟨rfl, hi, p⟩
  obtain ⟨qx, qy⟩ := hq i H hi p
  by_cases hlt : i < xs.length
  · have hx : xs[i]? = some xs[i] := List.getElem?_eq_getElem hlt
    have hlt2 : i < ys.length := by omega
    have hy : ys[i]? = some ys[i] := List.getElem?_eq_getElem hlt2
    refine .inr ⟨⟨xs, ys, _, _, qx, qy, hx, hy⟩, Pv (i + 1), fun H' p' => ⟨xs.length - (i + 1), by omega, rfl, hlt, p'⟩, fun v H' yl => ?_⟩
    obtain ⟨T, x, y, rfl, hT, rfl, f1, f2⟩ := yl
    exact hs i x y T H (f1 xs qx) (f2 ys qy) p hT
  · have e : i = xs.length := by omega
    subst e
    exact .inl ⟨⟨xs, ys, qx, qy, .inl (Nat.le_refl _)⟩, hd H p⟩
end Wr
namespace Wr
open PySem PySem.Spec PyProof.Rows L2
theorem Same.new {H : Hp} {p : Addr} (n : H p = none) (o : HO) : Same H (upd H p o) := Stp.nil (.new n o)
theorem ones_nf : ∀ w ∈ ones, inV (V.str w) [.str "num", .str "fault"] = false := by decide +kernel
theorem twos_nf : ∀ w ∈ twos, inV (V.str w) [.str "num", .str "fault"] = false := by decide +kernel
theorem word_nf {S : List Str} {e : Ex} (g : Good S e) (h : inV (V.str e.word) [.str "num", .str "fault"] = true) : e.kids = [] ∧ (∀ k, e.ks k = []) ∧ ∀ k, e.wd k = some .quiet := by
  have no : ∀ {w : Str}, inV (V.str w) [.str "num", .str "fault"] = false → inV (V.str w) [.str "num", .str "fault"] = true → False := fun a b => by rw [a] at b; cases b
  cases e with
  | num n => exact ⟨rfl, fun _ => rfl, fun _ => rfl⟩
  | name x => exact (no (w := "name") (by decide +kernel) h).elim
  | fault => exact ⟨rfl, fun _ => rfl, fun _ => rfl⟩
  | one w a => exact (no (ones_nf w g.1) h).elim
  | two w a b => exact (no (twos_nf w g.1) h).elim
  | ite a b c => exact (no (w := "if") (by decide +kernel) h).elim
  | lt n a b => exact (no (w := "let") (by decide +kernel) h).elim
  | fn n a => exact (no (w := "fun") (by decide +kernel) h).elim
  | ct a n k b => exact (no (w := "catch") (by decide +kernel) h).elim
theorem word_name {S : List Str} {e : Ex} (g : Good S e) (h : decide (V.str e.word = V.str "name") = true) : ∃ x, e = .name x := by
  have h := V.str.inj (of_decide_eq_true h)
  cases e with
  | num n => exact absurd h (by show ¬ (("num" : Str) = "name"); decide +kernel)
  | name x => exact ⟨x, rfl⟩
  | fault => exact absurd h (by show ¬ (("fault" : Str) = "name"); decide +kernel)
  | one w a => exact absurd h (ones_ne w g.1).2.2.2.1
  | two w a b => exact absurd h (twos_ne w g.1).2.2.2.1
  | ite a b c => exact absurd h (by show ¬ (("if" : Str) = "name"); decide +kernel)
  | lt n a b => exact absurd h (by show ¬ (("let" : Str) = "name"); decide +kernel)
  | fn n a => exact absurd h (by show ¬ (("fun" : Str) = "name"); decide +kernel)
  | ct a n k b => exact absurd h (by show ¬ (("catch" : Str) = "name"); decide +kernel)
theorem cut1 (x : V) (xs : List V) : cutV (x :: xs) (some 1) none = xs := by
  have e : HT.sIx (x :: xs).length 0 (some ((1 : Nat) : Int)) = 1 := by rw [HT.sIx_nat]; show min 1 (xs.length + 1) = 1; omega
  unfold cutV
  rw [show (1 : Int) = ((1 : Nat) : Int) from rfl, e, HT.sIx_none]
  show (xs.take (xs.length + 1 - 1)) = xs
  rw [Nat.add_sub_cancel, List.take_length]
theorem cut1_no (x : V) (xs : List V) (y : Nat) : ¬ (HT.sIx (x :: xs).length 0 (some 1) = 0 ∧ HT.sIx (x :: xs).length (x :: xs).length none = y) := by
  have e : HT.sIx (x :: xs).length 0 (some ((1 : Nat) : Int)) = 1 := by rw [HT.sIx_nat]; show min 1 (xs.length + 1) = 1; omega
  intro h
  rw [show (some (1 : Int)) = some ((1 : Nat) : Int) from rfl, e] at h
  cases h.1
theorem rep_one (n : Nat) (x : V) : (List.replicate ((n : Int)).toNat [x]).flatten = List.replicate n x := by
  rw [Int.toNat_natCast]
  induction n with
  | zero => rfl
  | succ n ih => rw [List.replicate_succ, List.flatten_cons, ih]; rfl
theorem flat_okV (k : Option Str) : flatV (okV k) = true := by cases k <;> rfl
theorem scal_okV (x : Str) (k : Option Str) : scal (V.str x) (okV k) = true := by cases k <;> rfl
theorem dec_okV (x : Str) (k : Option Str) : decide (V.str x = okV k) = decide (k = some x) := by
  cases k with
  | none => rfl
  | some y =>
    show decide (V.str x = V.str y) = decide (some y = some x)
    by_cases h : x = y
    · rw [decide_eq_true (congrArg V.str h), decide_eq_true (congrArg some h.symm)]
    · rw [decide_eq_false (fun z => h (V.str.inj z)), decide_eq_false (fun z => h (Option.some.inj z).symm)]
theorem Its.tail {H : Hp} {w : Str} {xs : List V} {es : List Ex} (h : Its H (.str w :: xs) es) : Its H xs es := by
  cases h with
  | str _ h => exact h
  | kid h _ => obtain ⟨_, _, e, _⟩ := h.ref; cases e
theorem AtL.same {H H' : Hp} (s : Same H H') {vs : List V} {es : List Ex} (h : AtL H vs es) : AtL H' vs es := h.step (D := []) (Stp.same s)
theorem AtE.same {H H' : Hp} (s : Same H H') {v : V} {e : Ex} (h : AtE H v e) : AtE H' v e := h.step (D := []) (Stp.same s)
theorem AtL.snoc {H : Hp} {vs : List V} {es : List Ex} {v : V} {e : Ex} (h : AtL H vs es) (g : AtE H v e) : AtL H (vs ++ [v]) (es ++ [e]) := h.append (.cons g .nil)
end Wr
namespace Wr
open PySem PySem.Spec PyProof.Rows L2
/-! ### [.., ..].count(True) -/
def boolOf : Value → Bool
  | .bool b => b
  | _ => false
def rCntB (K : PySem.W.Frag) : V → List V → Hp → VK → Prop := fun x xs H Q => ∃ (p : Addr) (bs : List Bool), x = .ref p ∧ xs = [.bl true] ∧ SqL K H p (bs.map V.bl) ∧ Q (.int (bs.count true : Nat)) H
theorem bools_of_vals : ∀ {bs : List Bool} {its : List Value}, Vals (bs.map V.bl) its → its = bs.map Value.bool
  | [], _, .nil => rfl
  | b :: bs, _, .cons r t => by
    have e := bools_of_vals t
    cases r
    rw [e] <;> rfl
theorem mt_countB {X : Cx} : MtR X "list.count" (rCntB X.K) := by
  intro pins s σ H x xs v us Q I rx rxs h
  obtain ⟨p, bs, rfl, rfl, hs, q⟩ := h
  cases rx
  obtain ⟨u, rfl, ru⟩ := rxs.one
  cases ru
  obtain ⟨its, rv, ⟨⟨cls, dd, data, sl⟩, n, ho, hc, hdn, hd⟩, hlen⟩ := I.list hs
  simp only at hc hd
  subst hc hd
  have hi := bools_of_vals rv
  refine call_meets PySem.F.slot_list_count ⟨_, ho, rfl⟩ PySem.F.entry_list_count (PySem.F.args_list_count_2 _ _)
    (SeqAt.list_countAt p its.toArray n dd sl (.bool true) boolOf) ⟨ho, fun y hy => ?_, ?_⟩
  · rw [hi] at hy
    have hy' : y ∈ bs.map Value.bool := by simpa using hy
    obtain ⟨b, _, rfl⟩ := List.mem_map.mp hy'
    have e := eqAt_V (y := .bl b) (x := .bl true) (A := X.A.in1) (s := s) (u := .bool b) (v := .bool true) rfl rfl rfl rfl
    have e2 : eqV (.bl b) (.bl true) = boolOf (.bool b) := by cases b <;> rfl
    rw [e2] at e
    exact e
  · have ec : its.toArray.toList.countP boolOf = bs.count true := by
      rw [hi]
      clear hi rv ho q hlen hs
      induction bs with
      | nil => rfl
      | cons b bs ih =>
        have ih : (bs.map Value.bool).countP boolOf = bs.count true := ih
        show ((b :: bs).map Value.bool).countP boolOf = _
        rw [List.map_cons, List.countP_cons, List.count_cons, ih]
        cases b <;> rfl
    refine ⟨.int (bs.count true : Nat), H, I.tok _, ⟨s.toks, ?_⟩, q⟩
    show Value.int ((its.toArray.toList.countP boolOf : Nat) : Int) s.toks = Value.int ((bs.count true : Nat) : Int) s.toks
    rw [ec]
/-! ### isinstance(e, c), e the exception that the suite holds, with a dict or without -/
theorem call_isE2 {X : Cx} {a : Addr} {oe : Obj} {cls : Value} {d : Option Addr} {pn : List (Addr × Obj)} (hz : Zc cls d oe) (hf : ∃ vs, oe.data = .fields vs) : CallR (X.suite a ((a, oe) :: pn)) (.builtin "isinstance") (fun xs H Q => ∃ D, cls = .ref D ∧ ExcC X.K D ∧ (∀ dd, d = some dd → ∃ fs, H dd = some (.xd fs)) ∧ rIsE X.K D a xs H Q) := by
  intro pins s σ H xs us Q I r h
  obtain ⟨D, rfl, C, hdd, c, cv, b, rfl, hcv, e, q⟩ := h
  cases r with
  | cons rx rr =>
    cases rr with
    | cons rt rr =>
      cases rr
      cases rx
      have ec := hcv _ rt
      subst ec
      obtain ⟨hget, _⟩ := I.pin (a, oe) (List.mem_append.mpr (.inl List.mem_cons_self))
      obtain ⟨vs, hv⟩ := hf
      have J : ∃ od, PySem.W.InstAt s.heap a oe D od := by
        cases d with
        | none => exact ⟨none, hget, hz.1, by unfold PySem.W.notCls; rw [hv] <;> rfl, by rw [hz.2]; trivial⟩
        | some dd =>
          obtain ⟨fs, hx⟩ := hdd dd rfl
          have hx' : ObjOk X.prog X.w H s.heap dd (.xd fs) := I.hok dd _ hx
          obtain ⟨mA, ⟨od, es, ep, ho, hr⟩, _⟩ := hx'
          exact ⟨some od, hget, hz.1, by unfold PySem.W.notCls; rw [hv] <;> rfl, by rw [hz.2]; exact ho⟩
      obtain ⟨od, J⟩ := J
      have hcl : (PySem.W.clsIn X.K D).isSome = true := by
        obtain ⟨cd, hc, _⟩ := PySem.W.any_some C.hd
        rw [hc]; rfl
      exact PySem.W.kia_one (PySem.W.kitx_exc hcl C.hg C.hk C.hs C.ha C.hn C.ht C.hm) I.kIn J e (fun z => nomatch z) fun tk => ⟨.bl b, H, I.kept (t' := tk) fun _ _ z => z, rfl, q⟩
end Wr
namespace Wr
open PySem PySem.Spec PyProof.Rows L2 LamX
/-! ### refusals as the law tells them -/
structure BadCs where
  pg : Addr
  fu : Addr
  pa : Addr
  tx : Addr
  rs : Addr
def BadCs.at (c : BadCs) : Nat → Addr
  | 0 => c.pg
  | 1 => c.fu
  | 2 => c.pa
  | _ => c.tx
structure BadKs (K : PySem.W.Frag) (mg : Str → Option Value) (c : BadCs) : Prop where
  gpg : mg "BadProgram" = some (.ref c.pg)
  gfu : mg "BadFuel" = some (.ref c.fu)
  gpa : mg "BadPapers" = some (.ref c.pa)
  gtx : mg "BadText" = some (.ref c.tx)
  grs : mg "RestError" = some (.ref c.rs)
  exc : ∀ i, i < 4 → ExcC K (c.at i)
  ve : ∀ i, i < 4 → PySem.W.kitOne K (.ref (c.at i)) (.type "ValueError") = some true
  rst : ∀ i, i < 4 → PySem.W.exmOne K (.ref (c.at i)) (.ref c.rs) = some true
  iss : ∀ i j, i < 4 → j < 4 → PySem.W.kitOne K (.ref (c.at i)) (.ref (c.at j)) = some (i == j)
  xpg : XfC K c.pg
  xpa : XfC K c.pa
  xtx : XfC K c.tx
  nat_ : PySem.W.findIn K (.ref c.pg) "at" = some none
  nwhy : PySem.W.findIn K (.ref c.pg) "why" = some none
  nnum : PySem.W.findIn K (.ref c.pa) "number" = some none
  npl : PySem.W.findIn K (.ref c.tx) "place" = some none
inductive Rf where
  | pg (n : Int) (why : Str)
  | fu
  | pa (n : Int)
  | tx (n : Int)
def Rf.ix : Rf → Nat
  | .pg _ _ => 0
  | .fu => 1
  | .pa _ => 2
  | .tx _ => 3
def Rf.told : Rf → List V
  | .pg n w => [.str "program", .int n, .str w]
  | .fu => [.str "fuel"]
  | .pa n => [.str "papers", .int n]
  | .tx n => [.str "text", .int n]
/-- the exception as it was raised -/
def Raised (c : BadCs) (H : Hp) (cls : Value) (d : Option Addr) (r : Rf) : Prop := cls = .ref (c.at r.ix) ∧ match r with
  | .fu => d = none
  | .pg n w => ∃ dd fs, d = some dd ∧ H dd = some (.xd fs) ∧ fs.lookup ("at" : Str) = some (.int n) ∧ fs.lookup ("why" : Str) = some (.str w)
  | .pa n => ∃ dd fs, d = some dd ∧ H dd = some (.xd fs) ∧ fs.lookup ("number" : Str) = some (.int n)
  | .tx n => ∃ dd fs, d = some dd ∧ H dd = some (.xd fs) ∧ fs.lookup ("place" : Str) = some (.int n)
theorem Raised.dd {c : BadCs} {H H' : Hp} {cls : Value} {d : Option Addr} {r : Rf} (h : Raised c H cls d r) (s : Same H H') : ∀ a, d = some a → ∃ fs, H' a = some (.xd fs) := by
  intro a ha
  cases r with
  | fu => rw [h.2] at ha; cases ha
  | pg n w => obtain ⟨_, dd, fs, e, hx, _⟩ := h; rw [e] at ha; cases ha; exact ⟨fs, s _ _ hx⟩
  | pa n => obtain ⟨_, dd, fs, e, hx, _⟩ := h; rw [e] at ha; cases ha; exact ⟨fs, s _ _ hx⟩
  | tx n => obtain ⟨_, dd, fs, e, hx, _⟩ := h; rw [e] at ha; cases ha; exact ⟨fs, s _ _ hx⟩
theorem Rf.ix_lt (r : Rf) : r.ix < 4 := by
  cases r
  · exact (by decide : 0 < 4)
  · exact (by decide : 1 < 4)
  · exact (by decide : 2 < 4)
  · exact (by decide : 3 < 4)
abbrev tellN : List Str := ["_law_work", "e", "_law_kinds", "_law_word"]
theorem scTold : FnScope tellN ["_law_work"] (defScope s_L_told) := ⟨rfl, rfl, rfl, by decide +kernel, rfl, by decide +kernel, by decide +kernel⟩
/-- what the def makes of what it got -/
def TTold2 (c : BadCs) : (XK → Hp → VK → Prop) → Hp → VK → Prop := fun tl H Q =>
  tl (fun cls d H' => ∃ r, Raised c H' cls d r ∧ ∀ p H'', Same H' H'' → H'' p = some (.tup r.told) → Q (.ref p) H'') H Q
/-- the suite -/
def tsTold (c : BadCs) (a : Addr) (cls : Value) (d : Option Addr) : TS := fun D σ H => ∃ (r : Rf), Raised c H cls d r ∧ (σ.length = 4 → σ[1]? = some (some (.ref a))) ∧ ∀ p H'', Same H H'' → H'' p = some (.tup r.told) → D.rt (.ref p) H''
section
variable {X : Cx} {c : BadCs}
theorem told_gives2 {q : Str} {g : Addr} {cdg : Value} (W : BadKs X.K X.mg c) (isi : X.mg "isinstance" = none) (mve : X.mg "ValueError" = none) :
    GivesTo X tellN "_law_told" (defScope s_L_told) g cdg (defBody s_L_told) "_law_work" q (TTold2 c) := by
  intro f c' s H Q tl act hc h
  refine ⟨_, pss_one (ps_try_as (X := (cxOf C8.CX0 X.prog X.w X.K X.mg X.base tellN "_law_told" (defScope s_L_told) g cdg X.A X.stack s H C8.E0).nox) (i := 1) (c := .ref c.rs) (ts := tsTold c)
      (tb := fun W D σ H => ∃ Ech : XK, (∀ cls d σ' H', Ech cls d H' → W cls d σ' H') ∧ σ[0]? = some (some (.ref f)) ∧ H c' = some (CodeO c' q) ∧ tl Ech H D.rt)
      rfl rfl scTold.nd rfl rfl ⟨rfl, by decide, .inl W.grs⟩ L2.takes0 (fun W pn xe tk _ => ?_) (fun a oe cls d pn hz hf => ⟨fun pins s1 σ1 H1 D1 I1 h1 => pss_by I1 ?_⟩)), ?_⟩
  · refine ⟨fun pins s' σ H' D I h' => ?_⟩
    obtain ⟨Ech, hW, h1, h2, h3⟩ := h'
    exact (pss_one (ps_ret (act W pn xe Ech _ _ tk hW))).run pins s' σ H' D I ⟨h1, h2, h3⟩
  · obtain ⟨r, hr, hσ, hq⟩ := h1
    have hlen : σ1.length = 4 := I1.len
    obtain ⟨w, k, l, rfl⟩ : ∃ w k l, σ1 = [w, some (.ref a), k, l] := by
      have h2 := hσ hlen
      match σ1, hlen, h2 with
      | [w, b, k, l], _, h2 =>
        cases h2
        exact ⟨w, k, l, rfl⟩
    refine ⟨_, pss_cons (ps_set (i := 2) scTold.nd rfl (Or.inl rfl) (pe_lst (pa_cons (pe_callB (call_isE2 hz hf) (by rfl) isi (by decide +kernel) (pa_cons (pv 1) (pa_cons (pe_glob (v := .ref c.pg) (by rfl) W.gpg rfl) pa_nil)))
          (pa_cons (pe_callB (call_isE2 hz hf) (by rfl) isi (by decide +kernel) (pa_cons (pv 1) (pa_cons (pe_glob (v := .ref c.fu) (by rfl) W.gfu rfl) pa_nil)))
          (pa_cons (pe_callB (call_isE2 hz hf) (by rfl) isi (by decide +kernel) (pa_cons (pv 1) (pa_cons (pe_glob (v := .ref c.pa) (by rfl) W.gpa rfl) pa_nil)))
          (pa_cons (pe_callB (call_isE2 hz hf) (by rfl) isi (by decide +kernel) (pa_cons (pv 1) (pa_cons (pe_glob (v := .ref c.tx) (by rfl) W.gtx rfl) pa_nil))) pa_nil))))))
        (pss_cons (ps_if (PW.pt (pw_or (pt_cmpR op_ne (pe_bm PySem.F.plainAttrs_list PySem.F.slot_list_count PySem.F.type_list_count mt_countB (pv 2) (pa_cons pe_bl pa_nil)) pe_int (nomark _))
            (pw_or1 (pt_not (pt_val (pe_callB (call_isE2 hz hf) (by rfl) isi (by decide +kernel) (pa_cons (pv 1) (pa_cons (pe_bltn (v := .ty "ValueError") (u := .type "ValueError") (by rfl) mve (by decide +kernel) rfl) pa_nil))))))))
          (pss_one (ps_ret (pe_tup (pa_cons pe_str pa_nil)))) pss_nil)
        (pss_cons (ps_set (i := 3) scTold.nd rfl (Or.inl rfl) (pe_ix ix_list (pe_lst (pa_cons pe_str (pa_cons pe_str (pa_cons pe_str (pa_cons pe_str pa_nil))))) (pe_bm PySem.F.plainAttrs_list PySem.F.slot_list_index PySem.F.type_list_index mt_index (pv 2) (pa_cons pe_bl pa_nil)) (fun _ _ => rfl)))
        (pss_cons (ps_if (pt_cmpR op_eq (pv 3) pe_str (nomark _)) (pss_one (ps_ret (pe_tup (pa_cons (pv 3) (pa_cons (pe_xf W.xpg W.nat_ hz hf (pv 1)) (pa_cons (pe_xf W.xpg W.nwhy hz hf (pv 1)) pa_nil)))))) pss_nil)
        (pss_cons (ps_if (pt_cmpR op_eq (pv 3) pe_str (nomark _)) (pss_one (ps_ret (pe_tup (pa_cons (pv 3) (pa_cons (pe_xf W.xpa W.nnum hz hf (pv 1)) pa_nil))))) pss_nil)
        (pss_one (ps_ret (pe_ifExp (pt_cmpR op_eq (pv 3) pe_str (nomark _)) (pe_tup (pa_cons (pv 3) (pa_cons (pe_xf W.xtx W.npl hz hf (pv 1)) pa_nil))) (pe_tup (pa_cons (pv 3) pa_nil))))))))), ?_⟩
    obtain ⟨hcls, hfl⟩ := id hr
    refine ⟨_, rfl, c.at r.ix, hcls, W.exc _ r.ix_lt, hr.dd (Same.refl _), _, _, _, rfl, fun u h => ClsV.eq (.own _) h, W.iss r.ix 0 r.ix_lt (by decide), ?_⟩
    refine ⟨_, rfl, c.at r.ix, hcls, W.exc _ r.ix_lt, hr.dd (Same.refl _), _, _, _, rfl, fun u h => ClsV.eq (.own _) h, W.iss r.ix 1 r.ix_lt (by decide), ?_⟩
    refine ⟨_, rfl, c.at r.ix, hcls, W.exc _ r.ix_lt, hr.dd (Same.refl _), _, _, _, rfl, fun u h => ClsV.eq (.own _) h, W.iss r.ix 2 r.ix_lt (by decide), ?_⟩
    refine ⟨_, rfl, c.at r.ix, hcls, W.exc _ r.ix_lt, hr.dd (Same.refl _), _, _, _, rfl, fun u h => ClsV.eq (.own _) h, W.iss r.ix 3 r.ix_lt (by decide), ?_⟩
    refine ⟨by show 4 ≤ sizeLine; decide, fun L nL => ?_⟩
    have s1 := Same.new nL (.lst [.bl (r.ix == 0), .bl (r.ix == 1), .bl (r.ix == 2), .bl (r.ix == 3)])
    have hL : upd H1 L (.lst [.bl (r.ix == 0), .bl (r.ix == 1), .bl (r.ix == 2), .bl (r.ix == 3)]) L = _ := upd_same
    generalize upd H1 L (.lst [.bl (r.ix == 0), .bl (r.ix == 1), .bl (r.ix == 2), .bl (r.ix == 3)]) = H2 at s1 hL ⊢
    have hcnt : ([r.ix == 0, r.ix == 1, r.ix == 2, r.ix == 3] : List Bool).count true = 1 := by cases r <;> rfl
    refine ⟨_, rfl, .inl ⟨rfl, _, SqL.of hL⟩, L, [r.ix == 0, r.ix == 1, r.ix == 2, r.ix == 3], rfl, rfl, SqL.of hL, ?_⟩
    rw [hcnt]
    refine ⟨rfl, false, by simp, ?_⟩
    refine iteF ⟨_, rfl, c.at r.ix, hcls, W.exc _ r.ix_lt, hr.dd s1, _, _, _, rfl, fun u h => ClsV.eq (.ty _) h, W.ve r.ix r.ix_lt, _, rfl, iteF ?_⟩
    refine ⟨by show 4 ≤ sizeLine; decide, fun M nM => ?_⟩
    have s2 := Same.trans s1 (Same.new nM (.lst [.str "program", .str "fuel", .str "papers", .str "text"]))
    have hM : upd H2 M (.lst [.str "program", .str "fuel", .str "papers", .str "text"]) M = _ := upd_same
    have hL3 := Same.new nM (.lst [.str "program", .str "fuel", .str "papers", .str "text"]) _ _ hL
    generalize upd H2 M (.lst [.str "program", .str "fuel", .str "papers", .str "text"]) = H3 at s2 hM hL3 ⊢
    have i1 : ([.bl (r.ix == 0), .bl (r.ix == 1), .bl (r.ix == 2), .bl (r.ix == 3)] : List V)[r.ix]? = some (.bl true) := by cases r <;> rfl
    have i2 : ∀ (m : Nat) (z' : V), m < r.ix → ([.bl (r.ix == 0), .bl (r.ix == 1), .bl (r.ix == 2), .bl (r.ix == 3)] : List V)[m]? = some z' → eqV z' (.bl true) = false := fun m z' hm hz => by
      cases r with
      | pg n wy => exact absurd hm (Nat.not_lt_zero _)
      | fu =>
        obtain rfl : m = 0 := by have : m < 1 := hm; omega
        cases hz
        rfl
      | pa n =>
        have hm : m < 2 := hm
        obtain rfl | rfl : m = 0 ∨ m = 1 := by omega
        · cases hz; rfl
        · cases hz; rfl
      | tx n =>
        have hm : m < 3 := hm
        obtain rfl | rfl | rfl : m = 0 ∨ m = 1 ∨ m = 2 := by omega
        · cases hz; rfl
        · cases hz; rfl
        · cases hz; rfl
    refine ⟨_, rfl, .inl ⟨rfl, _, SqL.of hL3⟩, L, [.bl (r.ix == 0), .bl (r.ix == 1), .bl (r.ix == 2), .bl (r.ix == 3)], .bl true, r.ix, .bl true, rfl, rfl, SqL.of hL3, rfl, rfl, i1, rfl, i2, ?_⟩
    have big : (4 : Nat) ≤ sizeLine := by decide
    cases r with
    | pg n wy =>
      obtain ⟨dd, fs, rfl, hx, l1, l2⟩ := hfl
      have hx3 := s2 _ _ hx
      refine ⟨M, _, _, .str "program", rfl, rfl, SqL.of hM, atI_nat (j := 0) rfl, ?_⟩
      refine ⟨_, rfl, rfl, true, by simp, iteT ?_⟩
      refine ⟨_, rfl, _, rfl, rfl, hcls, dd, fs, _, rfl, hx3, l1, _, rfl, rfl, hcls, dd, fs, _, rfl, hx3, l2, by show 3 ≤ sizeLine; omega, fun p np => ?_⟩
      exact hq p _ (Same.trans s2 (Same.new np _)) upd_same
    | fu =>
      refine ⟨M, _, _, .str "fuel", rfl, rfl, SqL.of hM, atI_nat (j := 1) rfl, ?_⟩
      refine ⟨_, rfl, rfl, false, by simp <;> decide, iteF ?_⟩
      refine ⟨_, rfl, rfl, false, by simp <;> decide, iteF ?_⟩
      refine ⟨_, rfl, rfl, false, by simp <;> decide, iteF ?_⟩
      refine ⟨_, rfl, by show 1 ≤ sizeLine; omega, fun p np => ?_⟩
      exact hq p _ (Same.trans s2 (Same.new np _)) upd_same
    | pa n =>
      obtain ⟨dd, fs, rfl, hx, l1⟩ := hfl
      have hx3 := s2 _ _ hx
      refine ⟨M, _, _, .str "papers", rfl, rfl, SqL.of hM, atI_nat (j := 2) rfl, ?_⟩
      refine ⟨_, rfl, rfl, false, by simp <;> decide, iteF ?_⟩
      refine ⟨_, rfl, rfl, true, by simp, iteT ?_⟩
      refine ⟨_, rfl, _, rfl, rfl, hcls, dd, fs, _, rfl, hx3, l1, by show 2 ≤ sizeLine; omega, fun p np => ?_⟩
      exact hq p _ (Same.trans s2 (Same.new np _)) upd_same
    | tx n =>
      obtain ⟨dd, fs, rfl, hx, l1⟩ := hfl
      have hx3 := s2 _ _ hx
      refine ⟨M, _, _, .str "text", rfl, rfl, SqL.of hM, atI_nat (j := 3) rfl, ?_⟩
      refine ⟨_, rfl, rfl, false, by simp <;> decide, iteF ?_⟩
      refine ⟨_, rfl, rfl, false, by simp <;> decide, iteF ?_⟩
      refine ⟨_, rfl, rfl, true, by simp, iteT ?_⟩
      refine ⟨_, rfl, _, rfl, rfl, hcls, dd, fs, _, rfl, hx3, l1, by show 2 ≤ sizeLine; omega, fun p np => ?_⟩
      exact hq p _ (Same.trans s2 (Same.new np _)) upd_same
  · refine ⟨fun cls d H' => ∃ r, Raised c H' cls d r ∧ ∀ p H'', Same H' H'' → H'' p = some (.tup r.told) → Q (.ref p) H'', fun cls d σ' H' ⟨r, hr, hq⟩ => ?_, rfl, hc, h⟩
    refine ⟨true, ?_, fun _ a na => ?_, fun z => nomatch z⟩
    · rw [hr.1]; exact W.rst _ r.ix_lt
    · exact ⟨r, hr, fun z => List.getElem?_set_self (by rw [List.length_set] at z; omega), hq⟩
end
end Wr
namespace Wr
open PySem PySem.Spec PyProof.Rows L2 NdefX
section
variable {K : PySem.W.Frag} {x y : Str}
theorem oexB_ok (h : oexB K x = true) : OexC K (He.ga K x) := by
  unfold oexB at h
  simp only [Bool.and_eq_true] at h
  obtain ⟨h1, h2, h3, h4, h5⟩ := h
  refine ⟨?_, He.eqO_ok h2, of_decide_eq_true h3, of_decide_eq_true h4, h5⟩
  split at h1
  · rename_i t od cd sl e
    rw [Bool.and_eq_true] at h1
    obtain ⟨ht, h1⟩ := h1
    have ht := of_decide_eq_true ht
    subst ht
    split at h1
    · rename_i C' bm k0 k1 k2 k3 n k5 em es
      simp only [Bool.and_eq_true, beq_iff_eq] at h1
      obtain ⟨⟨⟨⟨e1, e2⟩, e3⟩, e4⟩, e5⟩ := h1
      subst e2
      obtain ⟨nm, bs, mro, ns, qn, hd, sn, sub, ab, col, del⟩ := cd
      dsimp only at em e3 e4
      subst em
      have e3 : del = false := by simpa using e3
      subst e3
      subst e4
      have es2 : sl = #[k0, k1, k2, k3, some (.builtin "ValueError.__new__"), k5] := by
        rw [← Array.toArray_toList (xs := sl), es]
      rw [es2, e1] at e
      exact ⟨nm, qn, ns, bs, bm, sn, sub, ab, col, od, k0, k1, k2, k3, k5, by rw [e], e5⟩
    · cases h1
  · cases h1
theorem excB_ok (h : excB K x = true) : ExcC K (He.ga K x) := by
  unfold excB at h
  simp only [Bool.and_eq_true] at h
  obtain ⟨h1, h2, h3, h4, h5, h6, h7, h8⟩ := h
  exact ⟨He.eqO_ok h1, He.eqO_ok h2, of_decide_eq_true h3, h4, He.eqO_ok h5, He.eqO_ok h6, of_decide_eq_true h7, of_decide_eq_true h8⟩
theorem kitB_ok {u : PySem.W.Frag → Value} {b : Bool} (h : kitB K x u b = true) : PySem.W.kitOne K (.ref (He.ga K x)) (u K) = some b := by
  unfold kitB at h
  split at h
  · rename_i d e
    rw [eq_of_beq h] at e
    exact e
  · cases h
theorem intB_ok (h : intB K x = true) : PySem.W.kitOne K (.type "int") (.ref (He.ga K x)) = some false := by
  unfold intB at h
  split at h
  · rename_i d e
    rw [eq_of_beq h] at e
    exact e
  · cases h
theorem exmB_ok (h : exmB K x y = true) : PySem.W.exmOne K (.ref (He.ga K x)) (.ref (He.ga K y)) = some true := by
  unfold exmB at h
  split at h
  · rename_i d e
    rw [eq_of_beq h] at e
    exact e
  · cases h
theorem noB_ok {f : Str} (h : noB K x f = true) : PySem.W.findIn K (.ref (He.ga K x)) f = some none := He.eqO_ok h
/-- a class' own __init__ under super(): all that is asked of it -/
theorem ini_ok {P : Program} {mg : Str → Option Value} {st : Stmt} {qual : Str} (ox : OexC K (He.ga K x)) (h : iniB P.main.file K x = true) (ho : iniObs K x = some (("__init__" : Str), qual, defArgs st, FuncBody.stmts (defBody st), defScope st))
    (hhd : ∃ ar, ((defArgs st).posonlyargs ++ (defArgs st).args).head? = some ar ∧ ar.arg = "self") (msup : mg "super" = none) (top : (P.main.scope.names.lookup ("super" : Str)).isSome = false) :
    ∃ (cc cda : Addr) (fd : FuncData), FunS K ⟨"__init__", qual, defArgs st, defBody st, defScope st, [(("__class__" : Str), cc)], cda⟩ (He.ma K (He.ga K x) "__init__") cc fd ∧ SupI P K mg (He.ga K x) (He.ma K (He.ga K x) "__init__") cda cc fd ∧
      PySem.W.findIn K (.ref (He.ga K x)) "__init__" = some (some (.ref (He.ma K (He.ga K x) "__init__"))) ∧ PySem.W.typeIn K (.ref (He.ma K (He.ga K x) "__init__")) = some (.type "function") := by
  unfold iniB at h
  simp only [Bool.and_eq_true] at h
  obtain ⟨h1, h2, h3, h4, h5, h6⟩ := h
  unfold iniObs at ho
  split at h1
  · rename_i oc od fd osl e
    rw [e] at ho
    have ho : (fd.name, fd.qualname, fd.params, fd.body, fd.scope) = (("__init__" : Str), qual, defArgs st, FuncBody.stmts (defBody st), defScope st) := Option.some.inj ho
    simp only [Prod.mk.injEq] at ho
    obtain ⟨o1, o2, o3, o4, o5⟩ := ho
    simp only [Bool.and_eq_true] at h1
    obtain ⟨g1, g2, g3, g4, g5⟩ := h1
    obtain ⟨name, qn, params, body, scope, globals, closure, defaults, kwd, doc, pm, an, code, ct, blt⟩ := fd
    dsimp only at o1 o2 o3 o4 o5 g1 g2 g3 g4 g5
    subst o1 o2 o3 o4 o5
    split at g1
    · rename_i n cc
      rw [Bool.and_eq_true] at g1
      obtain ⟨gn, gc⟩ := g1
      have gn := of_decide_eq_true gn
      subst gn
      split at gc
      · rename_i c1 c2 D c3 ecc
        have gc := eq_of_beq gc
        subst gc
        split at g4
        · split at g5
          · rename_i cda
            rw [Bool.and_eq_true] at g5
            obtain ⟨k1, k2⟩ := g5
            split at k2
            · rename_i d1 d2 vs d3 ecd
              split at k2
              · rename_i file tf ev
                have g2 := eq_of_beq g2
                have g3 := eq_of_beq g3
                subst g2 g3
                refine ⟨cc, cda, _, ⟨kwd, doc, pm, an, ct, oc, od, osl, rfl, e, rfl, k1⟩, ⟨ox, ⟨_, _, _, e⟩, hhd, ⟨_, _, vs, _, file, tf, ecd, ev, k2⟩, ⟨_, _, _, ecc⟩, He.eqO_ok h4, of_decide_eq_true h5, He.eqO_ok h6, msup, top⟩, He.eqO_ok h2, of_decide_eq_true h3⟩
              · cases k2
            · cases k2
          · cases g5
        · cases g4
      · cases gc
    · cases g1
  · cases h1
end
end Wr
namespace Wr
open PySem PySem.Spec PyProof.Rows L2
section
variable {P : Program} {w : World} {K : PySem.W.Frag} {mg : Str → Option Value} {base : Heap}
def spNext (K : PySem.W.Frag) : Sp := fun vs H Q _ => ∃ (D : List Addr) (d a : Addr) (ns : List Int) (n : Int), vs = [.ref d, .int n] ∧ Dice K H D d a ns ∧ 0 < n ∧ n < 1073741824 ∧
  ∀ (x : Int) (H' : Hp), 0 ≤ x → x < n → Stp [d] H H' → Dice K H' D d a ns → Q (.int x) H'
theorem scNext : FnScope ["_law_dice_here", "_law_many", "_law_found", "_law_cell"] ["_law_dice_here", "_law_many"] (defScope s_L_next) := ⟨rfl, rfl, rfl, by decide +kernel, rfl, by decide +kernel, by decide +kernel⟩
theorem ok_next (F : Df K mg "_law_next" s_L_next) (len : mg "len" = none) : Use P w K mg base "_law_next" ["_law_dice_here", "_law_many"] 1 (spNext K) := by
  refine F.use scNext (fun _ _ _ _ _ _ us hl => match us, hl with | [_, _], _ => rfl) (fun vs H Q E h => ?_) (fun cdv f A outer s H vs Q E hr h => ?_)
  · obtain ⟨DD, d, a, ns, n, rfl, _⟩ := h
    rfl
  · obtain ⟨DD, d, a, ns, n, rfl, D, n0, n1, q⟩ := h
    refine ⟨_, pss_cons (ps_if (pt_cmpR op_gt (pe_ix ix_list (pv 0) pe_int (fun _ _ => rfl)) pe_int (nomark _))
        (pss_cons (ps_set (i := 2) scNext.nd rfl (Or.inl rfl) (pe_op op_mod (pe_ix ix_list (pv 0) pe_int (fun _ _ => rfl)) (pv 1)))
          (pss_cons (ps_asg (pe_op op_fdiv (pe_ix ix_list (pv 0) pe_int (fun _ _ => rfl)) (pv 1)) (pg_sub (pv 0) pe_int set_list)) (pss_one (ps_ret (pv 2))))) pss_nil)
      (pss_cons (ps_asg (pe_op op_add (pe_ix ix_list (pv 0) pe_int (fun _ _ => rfl)) pe_int) (pg_sub (pv 0) pe_int set_list))
      (pss_cons (ps_if (pt_cmpR op_le (pe_ix ix_list (pv 0) pe_int (fun _ _ => rfl)) (pe_callB call_len_seq (by rfl) len PySem.boot_len (pa_cons (pe_ix ix_list (pv 0) pe_int (fun _ _ => rfl)) pa_nil)) (nomark _))
        (pss_cons (ps_set (i := 3) scNext.nd rfl (Or.inl rfl) (pe_ix ix_list (pe_ix ix_list (pv 0) pe_int (fun _ _ => rfl)) (pe_op op_sub (pe_ix ix_list (pv 0) pe_int (fun _ _ => rfl)) pe_int) (fun _ _ => rfl)))
          (pss_cons (ps_asg (pe_ifExp (pt_cmpR op_ge (pv 3) (pe_op op_pow pe_int pe_int) (nomark _)) (pe_op op_fdiv (pv 3) (pv 1)) pe_int) (pg_sub (pv 0) pe_int set_list)) (pss_one (ps_ret (pe_op op_mod (pv 3) (pv 1)))))) pss_nil)
      (pss_cons (ps_asg (pe_op op_mod (pe_op op_mul (pe_ix ix_list (pv 0) pe_int (fun _ _ => rfl)) pe_int) pe_int) (pg_sub (pv 0) pe_int set_list))
      (pss_one (ps_ret (pe_op op_mod (pe_op op_fdiv (pe_ix ix_list (pv 0) pe_int (fun _ _ => rfl)) pe_int) (pv 1))))))), ?_⟩
    obtain ⟨⟨i, m, c, hD, i0, m0, m1, c0⟩, hS, mm, hl⟩ := D
    have md : ∀ b ∈ [d], b ∈ DD := fun b hb => by
      rw [List.mem_singleton.mp hb]
      exact mm
    have nt : ∀ xs, H d ≠ some (.tup xs) := fun xs z => by rw [hD] at z; cases z
    have e18 : ((10 : Int) ^ (18 : Int).toNat) = 1000000000000000000 := by decide +kernel
    refine ⟨_, rfl, d, _, _, _, rfl, rfl, SqL.of hD, rfl, _, _, rfl, rfl, _, rfl, ?_⟩
    refine ite2 (fun hc => ?_) (fun hc => ?_)
    · refine ⟨_, rfl, d, _, _, _, rfl, rfl, SqL.of hD, rfl, _, rfl, _, _, rfl, rfl, n0, ?_⟩
      refine ⟨_, rfl, d, _, _, _, rfl, rfl, SqL.of hD, rfl, _, rfl, _, _, rfl, rfl, ⟨n0, n1⟩, ?_⟩
      refine ⟨_, rfl, d, _, _, _, rfl, rfl, hD, rfl, ?_⟩
      refine ⟨_, rfl, ?_⟩
      have st : Stp [d] H (upd H d (.lst [.ref a, .int i, .int m, .int (c / n)])) := .put (by simp) nt _
      exact q _ _ (Int.emod_nonneg _ (by omega)) (Int.emod_lt_of_pos _ n0) st ⟨⟨i, m, c / n, upd_same, i0, m0, m1, Int.ediv_nonneg c0 (by omega)⟩, hS.step (st.mono md), mm, hl⟩
    · refine ⟨_, rfl, d, _, _, _, rfl, rfl, SqL.of hD, rfl, _, _, rfl, rfl, ?_⟩
      refine ⟨_, rfl, d, _, _, _, rfl, rfl, hD, rfl, ?_⟩
      have st1 : Stp [d] H (upd H d (.lst [.ref a, .int (i + 1), .int m, .int c])) := .put (by simp) nt _
      refine ⟨_, rfl, d, _, _, _, rfl, rfl, SqL.of upd_same, rfl, _, rfl, d, _, _, _, rfl, rfl, SqL.of upd_same, rfl, a, _, rfl, .inl (hS.step (st1.mono md)).seq, _, _, rfl, rfl, _, rfl, ?_⟩
      refine ite2 (fun hc2 => ?_) (fun hc2 => ?_)
      · have hle : i + 1 ≤ (ns.length : Int) := by
          have z := of_decide_eq_true hc2
          rw [List.length_map] at z
          exact z
        obtain ⟨k, rfl⟩ : ∃ k : Nat, i = (k : Int) := ⟨i.toNat, by omega⟩
        have hk : k < ns.length := by omega
        refine ⟨_, rfl, d, _, _, _, rfl, rfl, SqL.of upd_same, rfl, _, rfl, d, _, _, _, rfl, rfl, SqL.of upd_same, rfl, _, _, rfl, rfl, a, _, _, .int ns[k], rfl, rfl, (hS.step (st1.mono md)).seq, ?_, ?_⟩
        · show atI (ns.map V.int) ((k : Int) + 1 - 1) = _
          rw [show (k : Int) + 1 - 1 = (k : Int) by omega]
          exact atI_nat (by rw [List.getElem?_map, List.getElem?_eq_getElem hk] <;> rfl)
        refine ⟨_, rfl, _, _, rfl, rfl, ⟨by decide, by decide, by decide⟩, _, _, rfl, rfl, _, rfl, ?_⟩
        have fin : ∀ c2 : Int, 0 ≤ c2 → ∀ (x : Int), 0 ≤ x → x < n → Q (.int x) (upd (upd H d (.lst [.ref a, .int ((k : Int) + 1), .int m, .int c])) d (.lst [.ref a, .int ((k : Int) + 1), .int m, .int c2])) := fun c2 h2 x hx0 hx1 => by
          rw [upd_upd]
          have st : Stp [d] H (upd H d (.lst [.ref a, .int ((k : Int) + 1), .int m, .int c2])) := .put (by simp) nt _
          exact q _ _ hx0 hx1 st ⟨⟨(k : Int) + 1, m, c2, upd_same, by omega, m0, m1, h2⟩, hS.step (st.mono md), mm, hl⟩
        refine ite2 (fun hc3 => ?_) (fun hc3 => ?_)
        · have h18 : (1000000000000000000 : Int) ≤ ns[k] := by
            have z := of_decide_eq_true hc3
            rw [e18] at z
            exact z
          refine ⟨_, rfl, _, rfl, _, _, rfl, rfl, ⟨n0, n1⟩, ?_⟩
          refine ⟨_, rfl, d, _, _, _, rfl, rfl, upd_same, rfl, ?_⟩
          refine ⟨_, rfl, _, rfl, _, _, rfl, rfl, n0, ?_⟩
          exact fin _ (Int.ediv_nonneg (by omega) (by omega)) _ (Int.emod_nonneg _ (by omega)) (Int.emod_lt_of_pos _ n0)
        · refine ⟨_, rfl, d, _, _, _, rfl, rfl, upd_same, rfl, ?_⟩
          refine ⟨_, rfl, _, rfl, _, _, rfl, rfl, n0, ?_⟩
          exact fin 0 (by omega) _ (Int.emod_nonneg _ (by omega)) (Int.emod_lt_of_pos _ n0)
      · refine ⟨_, rfl, d, _, _, _, rfl, rfl, SqL.of upd_same, rfl, _, _, rfl, rfl, .inl ⟨by omega, by omega⟩, _, _, rfl, rfl, (by show (0 : Int) < 2147483647; decide), ?_⟩
        refine ⟨_, rfl, d, _, _, _, rfl, rfl, upd_same, rfl, ?_⟩
        refine ⟨_, rfl, d, _, _, _, rfl, rfl, SqL.of upd_same, rfl, _, _, rfl, rfl, ⟨by decide, by decide⟩, _, rfl, _, _, rfl, rfl, n0, ?_⟩
        rw [upd_upd]
        have st : Stp [d] H (upd H d (.lst [.ref a, .int (i + 1), .int (m * 48271 % 2147483647), .int c])) := .put (by simp) nt _
        exact q _ _ (Int.emod_nonneg _ (by omega)) (Int.emod_lt_of_pos _ n0) st ⟨⟨i + 1, _, c, upd_same, by omega, Int.emod_nonneg _ (by omega), Int.emod_lt_of_pos _ (by omega), c0⟩, hS.step (st.mono md), mm, hl⟩
end
end Wr
namespace Wr
open PySem PySem.Spec PyProof.Rows L2
theorem mergeK_str : ∀ (more kvs : List (Str × Str)), ∃ kvs' : List (Str × Str), mergeK (kvs.map fun p => ((Sum.inr p.1 : Key), V.str p.2)) (more.map fun p => ((Sum.inr p.1 : Key), V.str p.2)) = kvs'.map (fun p => ((Sum.inr p.1 : Key), V.str p.2)) ∧
    (∀ y, y ∈ kvs'.map (·.1) ↔ y ∈ more.map (·.1) ∨ y ∈ kvs.map (·.1)) ∧ ((kvs.map (·.1)).Nodup → (kvs'.map (·.1)).Nodup)
  | [], kvs => ⟨kvs, rfl, fun y => by simp, id⟩
  | (x, z) :: r, kvs => by
    obtain ⟨k1, e1, m1, n1⟩ := putK_str kvs x z
    obtain ⟨k2, e2, m2, n2⟩ := mergeK_str r k1
    refine ⟨k2, ?_, fun y => ?_, fun h => n2 (n1 h)⟩
    · show mergeK (putK (kvs.map fun p => ((Sum.inr p.1 : Key), V.str p.2)) (.inr x) (.str z)) (r.map fun p => ((Sum.inr p.1 : Key), V.str p.2)) = _
      rw [e1, e2]
    · rw [m2, m1, List.map_cons, List.mem_cons]
      constructor
      · rintro (h | h | h)
        · exact .inl (.inr h)
        · exact .inl (.inl h)
        · exact .inr h
      · rintro ((h | h) | h)
        · exact .inr (.inl h)
        · exact .inl h
        · exact .inr (.inr h)
section
variable {P : Program} {w : World} {K : PySem.W.Frag} {mg : Str → Option Value} {base : Heap}
/-! ### _law_with -/
def spWith : Sp := fun vs H Q _ => ∃ (a b : Addr) (S S2 : List Str), vs = [.ref a, .ref b] ∧ NamesAt H a S ∧ NamesAt H b S2 ∧
  ∀ (p : Addr) (H' : Hp), Same H H' → H p = none → NamesAt H' p (S2 ++ S) → Q (.ref p) H'
theorem scWith : FnScope ["_law_names", "_law_some", "_law_found"] ["_law_names", "_law_some"] (defScope s_L_with) := ⟨rfl, rfl, rfl, by decide +kernel, rfl, by decide +kernel, by decide +kernel⟩
theorem ok_with (F : Df K mg "_law_with" s_L_with) (dct : mg "dict" = none) : Use P w K mg base "_law_with" ["_law_names", "_law_some"] 1 spWith := by
  refine F.use scWith (fun _ _ _ _ _ _ us hl => match us, hl with | [_, _], _ => rfl) (fun vs H Q E h => ?_) (fun cdv f A outer s H vs Q E hr h => ?_)
  · obtain ⟨a, b, S, S2, rfl, _⟩ := h
    rfl
  · obtain ⟨a, b, S, S2, rfl, hA, hB, q⟩ := h
    refine ⟨_, pss_cons (ps_set (i := 2) scWith.nd rfl (Or.inl rfl) (pe_callTy call_dictC (by rfl) dct (by decide +kernel) (pa_cons (pv 0) pa_nil)))
      (pss_cons (ps_expr (pe_bm PySem.F.plainAttrs_dict PySem.F.slot_dict_update PySem.F.type_dict_update mt_update (pv 2) (pa_cons (pv 1) pa_nil))) (pss_one (ps_ret (pv 2)))), ?_⟩
    obtain ⟨k1, e1, n1, l1, s1⟩ := hA.ex
    obtain ⟨k2, e2, n2, l2, s2⟩ := hB.ex
    refine ⟨_, rfl, a, _, rfl, e1, fun p np => ?_⟩
    have npb : b ≠ p := ne_of_none e2 np
    refine ⟨_, rfl, .inr (.inr (.inl ⟨rfl, .inl ⟨_, upd_same⟩⟩)), _, rfl, p, b, _, _, rfl, rfl, npb.symm, upd_same, by rw [upd_ne npb]; exact e2, ?_, ?_⟩
    · rw [List.length_map, List.length_map]
      have := NamesAt.few (H := H) (a := a) (S := S) n1 l1
      have := NamesAt.few (H := H) (a := a) (S := S) n2 l2
      have h16 : (16 : Nat) ≤ sizeLine := by decide
      omega
    rw [upd_upd]
    refine ⟨_, rfl, ?_⟩
    obtain ⟨k3, e3, m3, n3⟩ := mergeK_str k2 k1
    refine q p _ (Stp.nil (.new np _)) np ⟨k3, ?_, n3 n1, fun x hx => ?_, fun x hx => ?_⟩
    · rw [upd_same, e3]
    · exact ((m3 x).mp hx).elim (l2 x) (l1 x)
    · rw [List.mem_append]
      exact ((m3 x).mp hx).imp (s2 x) (s1 x)
/-! ### _law_free -/
def spFree (K : PySem.W.Frag) : Sp := fun vs H Q _ => ∃ (D : List Addr) (d a : Addr) (ns : List Int), vs = [.ref d] ∧ Dice K H D d a ns ∧
  ∀ (x : Str) (H' : Hp), x ∈ letters → Stp [d] H H' → Dice K H' D d a ns → Q (.str x) H'
theorem scFree : FnScope ["_law_d"] ["_law_d"] (defScope s_L_free) := ⟨rfl, rfl, rfl, by decide +kernel, rfl, by decide +kernel, by decide +kernel⟩
theorem letter_at (x : Int) (h0 : 0 ≤ x) (h8 : x < 8) : ∃ c, atI (("abcdefgh" : Str).cps.toList) x = some c ∧ (⟨#[c]⟩ : Str) ∈ letters := by
  have hx : x = 0 ∨ x = 1 ∨ x = 2 ∨ x = 3 ∨ x = 4 ∨ x = 5 ∨ x = 6 ∨ x = 7 := by omega
  rcases hx with rfl | rfl | rfl | rfl | rfl | rfl | rfl | rfl
  all_goals exact ⟨_, rfl, by decide +kernel⟩
theorem ok_free (F : Df K mg "_law_free" s_L_free) (U : Use P w K mg base "_law_next" ["_law_dice_here", "_law_many"] 1 (spNext K)) : Use P w K mg base "_law_free" ["_law_d"] 2 (spFree K) := by
  refine F.use scFree (fun _ _ _ _ _ _ us hl => match us, hl with | [_], _ => rfl) (fun vs H Q E h => ?_) (fun cdv f A outer s H vs Q E hr h => ?_)
  · obtain ⟨D, d, a, ns, rfl, _⟩ := h
    rfl
  · obtain ⟨D, d, a, ns, rfl, hD, q⟩ := h
    refine ⟨_, pss_one (ps_ret (pe_ix ix_str pe_str (pe_use U hr (pa_cons (pv 0) (pa_cons pe_int pa_nil))) (fun _ _ => rfl))), ?_⟩
    refine ⟨_, rfl, D, d, a, ns, 8, rfl, hD, by decide, by decide, fun x H' h0 h1 st hD' => ?_⟩
    obtain ⟨c, e, m⟩ := letter_at x h0 h1
    exact ⟨_, _, c, rfl, rfl, by decide, e, q _ _ m st hD'⟩
/-! ### _law_dice -/
def spDice (K : PySem.W.Frag) : Sp := fun vs H Q _ => ∃ (a : Addr) (ns : List Int), vs = [.ref a] ∧ SqL K H a (ns.map V.int) ∧ ns.length ≤ 63 ∧
  ∀ (d : Addr) (H' : Hp), Same H H' → H d = none → Dice K H' [d] d a ns → Q (.ref d) H'
theorem scDice : FnScope ["_law_script", "_law_mixed", "_law_cell"] ["_law_script"] (defScope s_L_dice) := ⟨rfl, rfl, rfl, by decide +kernel, rfl, by decide +kernel, by decide +kernel⟩
theorem ok_dice (F : Df K mg "_law_dice" s_L_dice) (len : mg "len" = none) (int : mg "int" = none) : Use P w K mg base "_law_dice" ["_law_script"] 1 (spDice K) := by
  refine F.use scDice (fun _ _ _ _ _ _ us hl => match us, hl with | [_], _ => rfl) (fun vs H Q E h => ?_) (fun cdv f A outer s H vs Q E hr h => ?_)
  · obtain ⟨a, ns, rfl, _⟩ := h
    rfl
  · obtain ⟨a, ns, rfl, hS, h63, q⟩ := h
    refine ⟨_, pss_cons (ps_set (i := 1) scDice.nd rfl (Or.inl rfl) pe_int)
      (pss_cons (ps_for PassesOwn.never rfl (pi_list (pv 0)) (pg_name (i := 2) scDice.nd rfl (Or.inl rfl))
        (pss_one (ps_set (i := 1) scDice.nd rfl (Or.inl rfl) (pe_op op_mod (pe_op op_add (pe_op op_add (pe_op op_mul (pv 1) pe_int) (pe_op op_mul (pe_op op_mod (pv 2) pe_int) pe_int)) pe_int) pe_int))))
      (pss_one (ps_ret (pe_lst (pa_cons (pv 0) (pa_cons pe_int (pa_cons (pe_op op_mul (pv 1) (pe_callTy call_int1 (by rfl) int (by decide +kernel) (pa_cons (pe_cmpR op_gt (pe_callB call_len_seq (by rfl) len PySem.boot_len (pa_cons (pv 0) pa_nil)) pe_int (nomark _)) pa_nil))) (pa_cons pe_int pa_nil)))))))), ?_⟩
    refine ⟨_, rfl, a, rfl, ⟨_, hS⟩, for_list (K := K) (a := a) (xs := ns.map V.int) (fun i σ H' => ∃ (m : Int) (v : Option V), σ = [some (.ref a), some (.int m), v] ∧ H' = H ∧ 0 ≤ m ∧ m < 2147483647)
      ⟨0, none, rfl, rfl, by omega, by omega⟩ (fun i σ H' _ ⟨_, _, _, e, _⟩ => by rw [e]; exact hS) ?_ ?_⟩
    · rintro i y σ H' hi ⟨m, v, rfl, rfl, m0, m1⟩
      obtain ⟨u, rfl⟩ : ∃ u, y = V.int u := by
        rw [List.getElem?_map] at hi
        cases e : ns[i]? with
        | none => rw [e] at hi; cases hi
        | some u => rw [e] at hi; exact ⟨u, (Option.some.inj hi).symm⟩
      have g0 : 0 ≤ u % 2147483647 := Int.emod_nonneg _ (by omega)
      have g1 : u % 2147483647 < 2147483647 := Int.emod_lt_of_pos _ (by omega)
      refine ⟨_, rfl, _, _, rfl, rfl, .inl ⟨by omega, by omega⟩, _, rfl, _, _, rfl, rfl, (by show (0 : Int) < 2147483647; decide), _, _, rfl, rfl, .inl ⟨by omega, by omega⟩, _, _, rfl, rfl, _, _, rfl, rfl, _, _, rfl, rfl, (by show (0 : Int) < 2147483647; decide), ?_⟩
      exact ⟨_, _, rfl, rfl, Int.emod_nonneg _ (by omega), Int.emod_lt_of_pos _ (by omega)⟩
    · rintro σ H' ⟨m, v, rfl, rfl, m0, m1⟩
      refine ⟨_, rfl, _, rfl, _, rfl, a, _, rfl, .inl hS, _, _, rfl, rfl, .inr ⟨_, rfl, _, _, rfl, rfl, .inl ⟨by omega, by omega⟩, by show 4 ≤ sizeLine; decide, fun p np => ?_⟩⟩
      refine q p _ (Stp.nil (.new np _)) np ⟨⟨0, _, 0, upd_same, by omega, ?_, ?_, by omega⟩, (Sq2.of hS).new np, List.mem_cons_self, h63⟩
      · split <;> omega
      · split <;> omega
end
end Wr
namespace Wr
open PySem PySem.Spec PyProof.Rows L2
theorem Dp_strs {K : PySem.W.Frag} {H : Hp} : ∀ xs : List Str, DpAll K H (xs.map V.str) (xs.map PyData.str)
  | [] => .nil
  | x :: r => .cons (.str x) (Dp_strs r)
theorem lay_letters : ∀ xs : List Str, (∀ x ∈ xs, x ∈ letters) → PyData.canLayAll0 (xs.map PyData.str) = true ∧ PyData.depthAll (xs.map PyData.str) = 0
  | [], _ => ⟨rfl, rfl⟩
  | x :: r, h => by
    obtain ⟨h1, h2⟩ := lay_letters r fun y hy => h y (List.mem_cons_of_mem _ hy)
    have hx : PyData.canLay0 (.str x) = true := by
      have hm := h x List.mem_cons_self
      simp only [letters, List.mem_cons, List.not_mem_nil, or_false] at hm
      rcases hm with rfl | rfl | rfl | rfl | rfl | rfl | rfl | rfl <;> decide +kernel
    refine ⟨?_, ?_⟩
    · show (PyData.canLay0 (.str x) && PyData.canLayAll0 (r.map PyData.str)) = true
      rw [hx, h1] <;> rfl
    · show max (PyData.depth (.str x)) (PyData.depthAll (r.map PyData.str)) = 0
      rw [h2] <;> rfl
theorem shaped_letters {xs : List Str} (h : ∀ x ∈ xs, x ∈ letters) : SeqAt.shaped (.list (xs.map PyData.str)) = true := by
  obtain ⟨h1, h2⟩ := lay_letters xs h
  show (PyData.canLayAll0 (xs.map PyData.str) && decide (PyData.depthAll (xs.map PyData.str) + 1 ≤ 64)) = true
  rw [h1, h2] <;> rfl
theorem kwords {kvs : List (Str × Str)} {x : Str} (h : x ∈ kvs.map (·.1)) : ∃ z, valV (kvs.map fun p => ((Sum.inr p.1 : Key), V.str p.2)) (Sum.inr x) = some (.str z) := by
  induction kvs with
  | nil => cases h
  | cons p r ih =>
    by_cases c : p.1 = x
    · exact ⟨p.2, valV_pos (p := ((Sum.inr p.1 : Key), V.str p.2)) (congrArg Sum.inr c)⟩
    · obtain ⟨z, e⟩ := ih ((List.mem_cons.mp h).elim (fun q => absurd q.symm c) id)
      exact ⟨z, (valV_neg (p := ((Sum.inr p.1 : Key), V.str p.2)) (fun q => c (Sum.inr.inj q))).trans e⟩
section
variable {P : Program} {w : World} {K : PySem.W.Frag} {mg : Str → Option Value} {base : Heap}
def spName (K : PySem.W.Frag) : Sp := fun vs H Q _ => ∃ (D : List Addr) (d a nm kp : Addr) (ns : List Int) (S ks : List Str), vs = [.ref d, .ref nm, .ref kp] ∧ Dice K H D d a ns ∧ NamesAt H nm S ∧ SqT K H kp (ks.map V.str) ∧
  ∀ (r : V) (H' : Hp), (r = .non ∨ ∃ x, x ∈ S ∧ x ∈ letters ∧ r = .str x) → Stp [d] H H' → Dice K H' D d a ns → Q r H'
theorem scName : FnScope ["_law_d", "_law_names", "_law_kinds", "_law_some", "_law_name_here"] ["_law_d", "_law_names", "_law_kinds"] (defScope s_L_name) := ⟨rfl, rfl, rfl, by decide +kernel, rfl, by decide +kernel, by decide +kernel⟩
theorem Same.tupq {H H' : Hp} {a : Addr} {xs : List V} (e : Same H H') (h : SqT K H a xs) : SqT K H' a xs := by
  rcases h with (h | ⟨o, h⟩) | h
  · exact .inl (.inl (e _ _ h))
  · exact .inl (.inr ⟨o, e _ _ h⟩)
  · exact .inr h
theorem ok_name (F : Df K mg "_law_name" s_L_name) (srt : mg "sorted" = none) (len : mg "len" = none) (U : Use P w K mg base "_law_next" ["_law_dice_here", "_law_many"] 1 (spNext K)) :
    Use P w K mg base "_law_name" ["_law_d", "_law_names", "_law_kinds"] 2 (spName K) := by
  refine F.use scName (fun _ _ _ _ _ _ us hl => match us, hl with | [_, _, _], _ => rfl) (fun vs H Q E h => ?_) (fun cdv f A outer s H vs Q E hr h => ?_)
  · obtain ⟨D, d, a, nm, kp, ns, S, ks, rfl, _⟩ := h
    rfl
  · obtain ⟨D, d, a, nm, kp, ns, S, ks, rfl, hD, hN, hK, q⟩ := h
    refine ⟨_, pss_cons (ps_setLc (i := 3) (own := [("_law_name_here", 4)]) (g := gName 4) (by rfl) scName.nd rfl rfl (sw_true rfl rfl rfl (by decide +kernel))
        (pi_list (pe_callB (call_sortedD rfl) (by rfl) srt (by decide +kernel) (pa_cons (pv 1) pa_nil))) (blkOk_by (own := [("_law_name_here", 4)]) (N := ["_law_d", "_law_names", "_law_kinds", "_law_some", "_law_name_here"]) (sc := defScope s_L_name) (by decide +kernel))
        (fun _ _ _ _ _ => pg_name (i := 4) scName.nd rfl (Or.inl rfl))
        (fun _ _ _ _ _ => pts_one (pt_cmpR (r := rIn K false) op_in_seq (pe_dget (hu_of hr) (pv 1) (pv 4) (fun _ _ => rfl)) (pv 2) rfl)) (fun _ _ _ _ _ => pv 4))
      (pss_one (ps_ret (pe_ifExp (pt_cmpR (op_neD hr.units) (pv 3) (pe_lst pa_nil) (nomark _))
        (pe_ix ix_list (pv 3) (pe_use U hr (pa_cons (pv 0) (pa_cons (pe_callB call_len_seq (by rfl) len PySem.boot_len (pa_cons (pv 3) pa_nil)) pa_nil))) (fun _ _ => rfl)) pe_non))), ?_⟩
    obtain ⟨kvs, e, nd, hl, hs⟩ := hN.ex
    have few := NamesAt.few (H := H) (a := nm) (S := S) nd hl
    refine ⟨_, rfl, nm, _, kvs.map (·.1), rfl, .inl e, ?_, ?_, fun ys p perm srt' np => ?_⟩
    · rw [List.map_map, List.map_map]; rfl
    · rw [List.length_map]; omega
    have hy : ∀ x ∈ ys, x ∈ kvs.map (·.1) := fun x hx => perm.mem_iff.mp hx
    have ly : ys.length = kvs.length := by rw [perm.length_eq, List.length_map]
    refine ⟨p, rfl, ⟨_, SqL.of upd_same⟩, fun R nR => ?_⟩
    have s0 : Same H (upd H p (.lst (ys.map V.str))) := Stp.nil (.new np _)
    have npR : p ≠ R := ne_of_none upd_same nR
    refine lc_list (K := K) (a := p) (xs := ys.map V.str) (fun i H2 => Same (upd H p (.lst (ys.map V.str))) H2 ∧ ∃ acc : List Str, H2 R = some (.lst (acc.map V.str)) ∧ (∀ x ∈ acc, x ∈ ys) ∧ acc.length ≤ i)
      ⟨Stp.nil (.new nR _), [], upd_same, by simp, Nat.zero_le _⟩ (fun i H2 _ h => SqL.of (h.1 _ _ upd_same)) ?_ ?_
    · rintro i x H2 hi ⟨sm, acc, hR, ha, hlen⟩
      obtain ⟨x, rfl, hx⟩ : ∃ z, x = V.str z ∧ z ∈ ys := by
        rw [List.getElem?_map] at hi
        cases e : ys[i]? with
        | none => rw [e] at hi; cases hi
        | some u => rw [e] at hi; exact ⟨u, (Option.some.inj hi).symm, List.mem_of_getElem? e⟩
      have hiy : i < ys.length := by
        have z := (List.getElem?_eq_some_iff.mp hi).1
        rw [List.length_map] at z
        exact z
      obtain ⟨z, ez⟩ := kwords (hy x hx)
      have e2 : H2 nm = some (.dK (kvs.map fun p => ((Sum.inr p.1 : Key), V.str p.2))) := sm _ _ (s0 _ _ e)
      refine ⟨rfl, _, rfl, _, rfl, nm, V.str z, rfl, ?_, _, rfl, kp, _, rfl, .inr (Same.tupq sm (Same.tupq s0 hK)), rfl, ?_, _, rfl, ?_⟩
      · rw [← ez]
        exact DGet.k (k := Sum.inr x) e2
      · simp only [List.all_map]
        exact List.all_eq_true.mpr fun _ _ => rfl
      refine ite2 (fun _ => ?_) (fun _ => ?_)
      · refine ⟨_, rfl, acc.map V.str, hR, ?_, ?_, ?_⟩
        · rw [List.length_map]
          have : (8 : Nat) < sizeLine := by decide
          omega
        · exact fun b o hb => by
            have nb : b ≠ R := fun z => by rw [z] at hb; rw [nR] at hb; cases hb
            rw [upd_ne nb]
            exact sm _ _ hb
        · refine ⟨acc ++ [x], by rw [upd_same, List.map_append] <;> rfl, fun y hy' => ?_, by rw [List.length_append, List.length_singleton]; omega⟩
          rcases List.mem_append.mp hy' with h | h
          · exact ha y h
          · rw [List.mem_singleton.mp h]; exact hx
      · exact ⟨sm, acc, hR, ha, by omega⟩
    · rintro H2 ⟨sm, acc, hR, ha, hlen⟩
      rw [List.length_map] at hlen
      have haL : ∀ x ∈ acc, x ∈ letters := fun x hx => hl x (hy x (ha x hx))
      have sm2 : Same H H2 := s0.trans sm
      refine ⟨_, rfl, Nat.zero_le _, fun p2 np2 => ?_⟩
      have npR2 : R ≠ p2 := ne_of_none hR np2
      refine ⟨.list (acc.map PyData.str), .list [], .lst (SqL.of (by rw [upd_ne npR2]; exact hR)) (Dp_strs acc), .lst (SqL.of upd_same) .nil, shaped_letters haL, rfl, _, rfl, ?_⟩
      have sm3 : Same H (upd H2 p2 (.lst [])) := sm2.trans (Stp.nil (.new np2 _))
      have hD3 : Dice K (upd H2 p2 (.lst [])) D d a ns := hD.step (D' := []) (Stp.same sm3) (by simp) (by simp)
      cases acc with
      | nil =>
        refine iteF ?_
        exact q _ _ (.inl rfl) (Stp.same sm3) hD3
      | cons y r =>
        refine iteT ?_
        have hR3 : upd H2 p2 (.lst []) R = some (.lst ((y :: r).map V.str)) := by rw [upd_ne npR2]; exact hR
        refine ⟨_, rfl, _, rfl, _, rfl, R, _, rfl, .inl (SqL.of hR3), D, d, a, ns, _, rfl, hD3, ?_, ?_, fun x H4 x0 x1 st hD4 => ?_⟩
        · rw [List.length_map, List.length_cons]; omega
        · rw [List.length_map]; omega
        have nRd : R ∉ [d] := fun z => by
          rw [List.mem_singleton.mp z] at nR
          obtain ⟨xs, ed⟩ := hD.is_
          rw [s0 _ _ ed] at nR
          cases nR
        rw [List.length_map] at x1
        obtain ⟨k, rfl⟩ : ∃ k : Nat, x = (k : Int) := ⟨x.toNat, by omega⟩
        have hk : k < (y :: r).length := by omega
        refine ⟨R, _, _, .str (y :: r)[k], rfl, rfl, SqL.of (st.keep _ _ nRd hR3), atI_nat (by rw [List.getElem?_map, List.getElem?_eq_getElem hk] <;> rfl), ?_⟩
        have hm := ha _ (List.getElem_mem hk)
        exact q _ _ (.inr ⟨_, hs _ (hy _ hm), hl _ (hy _ hm), rfl⟩) ((Stp.same sm3).trans st) hD4
end
end Wr
namespace Wr
open PySem PySem.Spec PyProof.Rows L2
theorem Dice.off {K : PySem.W.Frag} {H : Hp} {D : List Addr} {d a : Addr} {ns : List Int} (h : Dice K H D d a ns) {b : Addr} {o : HO} (e : H b = some o) (ho : ∀ xs, o ≠ .lst xs) : b ∉ [d] := fun z => by
  obtain ⟨xs, ed⟩ := h.is_
  rw [List.mem_singleton.mp z, ed] at e
  exact ho xs (Option.some.inj e).symm
theorem NamesAt.off {K : PySem.W.Frag} {H : Hp} {D : List Addr} {d a nm : Addr} {ns : List Int} {S : List Str} (h : NamesAt H nm S) (hD : Dice K H D d a ns) : nm ∉ [d] := by
  obtain ⟨kvs, e, _⟩ := h.ex
  exact hD.off e fun xs z => by cases z
theorem Dice.fresh {K : PySem.W.Frag} {H : Hp} {D : List Addr} {d a p : Addr} {ns : List Int} (h : Dice K H D d a ns) (n : H p = none) : p ∉ [d] := fun z => by
  obtain ⟨xs, ed⟩ := h.is_
  rw [List.mem_singleton.mp z, ed] at n
  cases n
theorem Stp.up {D : List Addr} {H H' : Hp} (s : Stp D H H') {p : Addr} (n : H' p = none) (o : HO) : Stp D H (upd H' p o) := s.trans (.new n o)
theorem Good.letter_num {S : List Str} {n : Int} (h0 : -1000000 ≤ n) (h1 : n ≤ 1000000) : Good S (.num n) := ⟨h0, h1⟩
section
variable {P : Program} {w : World} {K : PySem.W.Frag} {mg : Str → Option Value} {base : Heap}
/-- what hands back a part with the names S bound, drawn by the dice at d -/
def Draws (K : PySem.W.Frag) (D W : List Addr) (d a : Addr) (ns : List Int) (S : List Str) (G : Ex → Hp → Prop) (H : Hp) (Q : VK) : Prop :=
  ∀ (v : V) (e : Ex) (H' : Hp), AtE H' v e → Good S e → G e H' → Stp W H H' → Dice K H' D d a ns → Q v H'
def spLeaf (K : PySem.W.Frag) : Sp := fun vs H Q _ => ∃ (D : List Addr) (d a nm : Addr) (ns : List Int) (S : List Str), vs = [.ref d, .ref nm] ∧ Dice K H D d a ns ∧ NamesAt H nm S ∧
  Draws K D [d] d a ns S (fun e _ => e.size = 1 ∧ e.deep = 1) H Q
theorem scLeaf : FnScope ["_law_d", "_law_names", "_law_kinds", "_law_name_here"] ["_law_d", "_law_names"] (defScope s_L_leaf) := ⟨rfl, rfl, rfl, by decide +kernel, rfl, by decide +kernel, by decide +kernel⟩
theorem menu8 (x : Int) (h0 : 0 ≤ x) (h8 : x < 8) : ∃ j : Int, atI ([.int 0, .int 0, .int 1, .int 1, .int 1, .int 1, .int 1, .int 2] : List V) x = some (.int j) ∧ (j = 0 ∨ j = 1 ∨ j = 2) := by
  have hx : x = 0 ∨ x = 1 ∨ x = 2 ∨ x = 3 ∨ x = 4 ∨ x = 5 ∨ x = 6 ∨ x = 7 := by omega
  rcases hx with rfl | rfl | rfl | rfl | rfl | rfl | rfl | rfl
  all_goals exact ⟨_, rfl, by decide⟩
theorem menu3 (a b c : Int) (j : Int) (h : j = 0 ∨ j = 1 ∨ j = 2) : ∃ k : Int, atI ([.int a, .int b, .int c] : List V) j = some (.int k) ∧ (k = a ∨ k = b ∨ k = c) := by
  rcases h with rfl | rfl | rfl
  · exact ⟨_, rfl, .inl rfl⟩
  · exact ⟨_, rfl, .inr (.inl rfl)⟩
  · exact ⟨_, rfl, .inr (.inr rfl)⟩
theorem menu2 (a b : V) (c : Bool) : ∃ v, atI ([a, b] : List V) (if c = true then 1 else 0) = some v ∧ (v = a ∨ v = b) := by
  cases c
  · exact ⟨a, rfl, .inl rfl⟩
  · exact ⟨b, rfl, .inr rfl⟩
theorem ok_leaf (F : Df K mg "_law_leaf" s_L_leaf) (int : mg "int" = none) (U : Use P w K mg base "_law_next" ["_law_dice_here", "_law_many"] 1 (spNext K)) (UN : Use P w K mg base "_law_name" ["_law_d", "_law_names", "_law_kinds"] 2 (spName K)) :
    Use P w K mg base "_law_leaf" ["_law_d", "_law_names"] 3 (spLeaf K) := by
  refine F.use scLeaf (fun _ _ _ _ _ _ us hl => match us, hl with | [_, _], _ => rfl) (fun vs H Q E h => ?_) (fun cdv f A outer s H vs Q E hr h => ?_)
  · obtain ⟨D, d, a, nm, ns, S, rfl, _⟩ := h
    rfl
  · obtain ⟨D, d, a, nm, ns, S, rfl, hD, hN, q⟩ := h
    have hr1 : Room 1 _ := hr.mono (by decide)
    refine ⟨_, pss_cons (ps_set (i := 2) scLeaf.nd rfl (Or.inl rfl) (pe_ix ix_list (pe_lst (pa_cons (pe_tup (pa_cons pe_str pa_nil)) (pa_cons (pe_tup (pa_cons pe_str (pa_cons pe_str (pa_cons pe_str (pa_cons pe_str pa_nil))))) pa_nil)))
          (pe_callTy call_int1 (by rfl) int (by decide +kernel) (pa_cons (pe_cmpR op_eq (pe_use U hr1 (pa_cons (pv 0) (pa_cons pe_int pa_nil))) pe_int (nomark _)) pa_nil)) (fun _ _ => rfl)))
      (pss_cons (ps_set (i := 3) scLeaf.nd rfl (Or.inl rfl) (pe_use UN hr (pa_cons (pv 0) (pa_cons (pv 1) (pa_cons (pv 2) pa_nil)))))
      (pss_cons (ps_if (PW.pt (pw_and (pt_cmpR op_notN (pv 3) pe_non (nomark _)) (pw_and1 (pt_cmpR op_gt (pe_use U hr1 (pa_cons (pv 0) (pa_cons pe_int pa_nil))) pe_int (nomark _)))))
        (pss_one (ps_ret (pe_tup (pa_cons pe_str (pa_cons (pv 3) pa_nil))))) pss_nil)
      (pss_one (ps_ret (pe_tup (pa_cons pe_str (pa_cons (pe_ix ix_list (pe_lst (pa_cons (pe_use U hr1 (pa_cons (pv 0) (pa_cons pe_int pa_nil))) (pa_cons (pe_op op_sub (pe_use U hr1 (pa_cons (pv 0) (pa_cons pe_int pa_nil))) pe_int) (pa_cons (pe_op op_pow pe_int pe_int) pa_nil))))
          (pe_ix ix_list (pe_lst (pa_cons pe_int (pa_cons pe_int (pa_cons pe_int (pa_cons pe_int (pa_cons pe_int (pa_cons pe_int (pa_cons pe_int (pa_cons pe_int pa_nil))))))))) (pe_use U hr1 (pa_cons (pv 0) (pa_cons pe_int pa_nil))) (fun _ _ => rfl)) (fun _ _ => rfl)) pa_nil))))))), ?_⟩
    refine ⟨(by show 1 ≤ sizeLine; decide), fun t1 n1 => ⟨(by show 4 ≤ sizeLine; decide), fun t2 n2 => ⟨(by show 2 ≤ sizeLine; decide), fun l3 n3 => ?_⟩⟩⟩
    have ne12 : t1 ≠ t2 := ne_of_none upd_same n2
    have st3 : Stp [d] H (upd (upd (upd H t1 (.tup [.str "number"])) t2 (.tup [.str "number", .str "fun", .str "rest", .str "box"])) l3 (.lst [.ref t1, .ref t2])) := ((Stp.new n1 _).up n2 _).up n3 _
    have hD3 := ((hD.up (o := .tup [.str "number"]) n1).up (o := .tup [.str "number", .str "fun", .str "rest", .str "box"]) n2).up (o := .lst [.ref t1, .ref t2]) n3
    refine ⟨_, rfl, D, d, a, ns, 16, rfl, hD3, by decide, by decide, fun x H4 x0 x1 st4 hD4 => ?_⟩
    have ne13 : t1 ≠ l3 := ne_of_none (by rw [upd_ne ne12]; exact upd_same) n3
    have ne23 : t2 ≠ l3 := ne_of_none upd_same n3
    have nl3 : l3 ∉ [d] := fun z => by
      obtain ⟨xs, ed⟩ := hD.is_
      have := (((Stp.new (D := []) n1 (.tup [.str "number"])).up n2 (.tup [.str "number", .str "fun", .str "rest", .str "box"])).keep _ _ (by simp) ed)
      rw [← List.mem_singleton.mp z, n3] at this
      cases this
    have e3 : H4 l3 = some (.lst [.ref t1, .ref t2]) := st4.keep _ _ nl3 upd_same
    have e1 : H4 t1 = some (.tup [.str "number"]) := st4.tups _ _ (by rw [upd_ne ne13, upd_ne ne12]; exact upd_same)
    have e2 : H4 t2 = some (.tup [.str "number", .str "fun", .str "rest", .str "box"]) := st4.tups _ _ (by rw [upd_ne ne23]; exact upd_same)
    refine ⟨rfl, .inr ⟨_, rfl, ?_⟩⟩
    have s4 : Stp [d] H H4 := st3.trans st4
    have hN4 : NamesAt H4 nm S := hN.step s4 (hN.off hD)
    obtain ⟨kp, ks, hkp, hix⟩ : ∃ (kp : Addr) (ks : List Str), SqT K H4 kp (ks.map V.str) ∧ atI ([.ref t1, .ref t2] : List V) (if decide (V.int x = V.int 15) = true then 1 else 0) = some (.ref kp) := by
      obtain ⟨v, ev, hv⟩ := menu2 (.ref t1) (.ref t2) (decide (V.int x = V.int 15))
      rcases hv with rfl | rfl
      · exact ⟨t1, ["number"], SqT.of e1, ev⟩
      · exact ⟨t2, ["number", "fun", "rest", "box"], SqT.of e2, ev⟩
    refine ⟨l3, _, _, _, rfl, rfl, SqL.of e3, hix, ?_⟩
    refine ⟨_, rfl, _, rfl, _, rfl, D, d, a, nm, kp, ns, S, ks, rfl, hD4, hN4, hkp, fun r H5 hrr st5 hD5 => ?_⟩
    have s5 : Stp [d] H H5 := s4.trans st5
    -- the number
    have fin : ∀ H6 : Hp, Stp [d] H H6 → Dice K H6 D d a ns → ∀ σ, σ = ([some (.ref d), some (.ref nm), some (.ref kp), some r] : L2.St) →
        (tRet (tTup (tCons (fun _ H Q => Q (.str "num") H) (tCons (tOp (rIxL K) (tLst (tCons (tCall (spNext K) [] E0 (tCons (tVar 0) (tCons (fun _ H Q => Q (.int 5) H) tNil))) (tCons (tOp (rI0 fun i j => .int (i - j)) (tCall (spNext K) [] E0 (tCons (tVar 0) (tCons (fun _ H Q => Q (.int 40) H) tNil))) (fun _ H Q => Q (.int 20) H)) (tCons (tOp (rI CPow fun i j => .int (i ^ j.toNat)) (fun _ H Q => Q (.int 10) H) (fun _ H Q => Q (.int 6) H)) tNil))))
          (tOp (rIxL K) (tLst (tCons (fun _ H Q => Q (.int 0) H) (tCons (fun _ H Q => Q (.int 0) H) (tCons (fun _ H Q => Q (.int 1) H) (tCons (fun _ H Q => Q (.int 1) H) (tCons (fun _ H Q => Q (.int 1) H) (tCons (fun _ H Q => Q (.int 1) H) (tCons (fun _ H Q => Q (.int 1) H) (tCons (fun _ H Q => Q (.int 2) H) tNil))))))))) (tCall (spNext K) [] E0 (tCons (tVar 0) (tCons (fun _ H Q => Q (.int 8) H) tNil))))) tNil)))) { nx := fun _ H' => Q .non H', rt := Q } σ H6 := by
      rintro H6 s6 hD6 σ rfl
      refine ⟨_, rfl, D, d, a, ns, 5, rfl, hD6, by decide, by decide, fun x5 H7 a0 a1 st7 hD7 => ?_⟩
      refine ⟨_, rfl, D, d, a, ns, 40, rfl, hD7, by decide, by decide, fun x40 H8 b0 b1 st8 hD8 => ?_⟩
      refine ⟨_, _, rfl, rfl, _, _, rfl, rfl, ⟨by decide, by decide, by decide⟩, (by show 3 ≤ sizeLine; decide), fun l9 n9 => ?_⟩
      refine ⟨(by show 8 ≤ sizeLine; decide), fun l10 n10 => ?_⟩
      have hD10 := (hD8.up (o := .lst [.int x5, .int (x40 - 20), .int ((10 : Int) ^ (6 : Int).toNat)]) n9).up (o := .lst [.int 0, .int 0, .int 1, .int 1, .int 1, .int 1, .int 1, .int 2]) n10
      refine ⟨_, rfl, D, d, a, ns, 8, rfl, hD10, by decide, by decide, fun x8 H11 c0 c1 st11 hD11 => ?_⟩
      have ne : l9 ≠ l10 := ne_of_none upd_same n10
      have n9d : l9 ∉ [d] := hD8.fresh n9
      have n10d : l10 ∉ [d] := (hD8.up (o := .lst [.int x5, .int (x40 - 20), .int ((10 : Int) ^ (6 : Int).toNat)]) n9).fresh n10
      have e9 : H11 l9 = some (.lst [.int x5, .int (x40 - 20), .int ((10 : Int) ^ (6 : Int).toNat)]) := st11.keep _ _ n9d (by rw [upd_ne ne]; exact upd_same)
      have e10 : H11 l10 = some (.lst [.int 0, .int 0, .int 1, .int 1, .int 1, .int 1, .int 1, .int 2]) := st11.keep _ _ n10d upd_same
      obtain ⟨j, ej, hj⟩ := menu8 x8 c0 c1
      obtain ⟨k, ek, hk⟩ := menu3 x5 (x40 - 20) ((10 : Int) ^ (6 : Int).toNat) j hj
      refine ⟨l10, _, _, _, rfl, rfl, SqL.of e10, ej, l9, _, _, _, rfl, rfl, SqL.of e9, ek, (by show 2 ≤ sizeLine; decide), fun t nt => ?_⟩
      have e6 : ((10 : Int) ^ (6 : Int).toNat) = 1000000 := by decide +kernel
      rw [e6] at hk
      have sfin : Stp [d] H H11 := (((s6.trans st7).trans st8).up n9 _).up n10 _ |>.trans st11
      exact q _ (.num k) _ ⟨t, rfl, upd_same⟩ ⟨by omega, by omega⟩ ⟨rfl, rfl⟩ (sfin.up nt _) (hD11.up nt)
    refine ⟨_, rfl, rfl, _, rfl, ?_⟩
    rcases hrr with rfl | ⟨x, hx, hxl, rfl⟩
    · refine iteF ?_
      exact fin _ s5 hD5 _ rfl
    · refine iteT ?_
      refine ⟨_, rfl, D, d, a, ns, 3, rfl, hD5, by decide, by decide, fun x3 H6 a0 a1 st6 hD6 => ?_⟩
      refine ⟨_, _, rfl, rfl, _, rfl, ?_⟩
      refine ite2 (fun _ => ?_) (fun _ => ?_)
      · refine ⟨_, rfl, (by show 2 ≤ sizeLine; decide), fun t nt => ?_⟩
        exact q _ (.name x) _ ⟨t, rfl, upd_same⟩ hx ⟨rfl, rfl⟩ ((s5.trans st6).up nt _) (hD6.up nt)
      · exact fin _ (s5.trans st6) hD6 _ rfl
end
end Wr
namespace Wr
open PySem PySem.Spec PyProof.Rows L2
/-- what a drawing def stands on: the dice, the names, the room -/
structure Gen (K : PySem.W.Frag) (H : Hp) (D : List Addr) (d a nm rm : Addr) (ns : List Int) (S : List Str) (r : Int) : Prop where
  di : Dice K H D d a ns
  na : NamesAt H nm S
  ro : H rm = some (.lst [.int r])
  rd : rm ∈ D
  ne : rm ≠ d
section
variable {K : PySem.W.Frag} {H H' : Hp} {D : List Addr} {d a nm rm : Addr} {ns : List Int} {S : List Str} {r : Int}
theorem Gen.nx (g : Gen K H D d a nm rm ns S r) (s : Stp [d] H H') (h : Dice K H' D d a ns) : Gen K H' D d a nm rm ns S r :=
  ⟨h, g.na.step s (g.na.off g.di), s.keep _ _ (fun z => g.ne (List.mem_singleton.mp z)) g.ro, g.rd, g.ne⟩
theorem Gen.nroom (g : Gen K H D d a nm rm ns S r) : nm ≠ rm := by
  obtain ⟨kvs, e, _⟩ := g.na.ex
  exact ne_of e g.ro fun z => by cases z
theorem Gen.ex {r' : Int} (g : Gen K H D d a nm rm ns S r) (s : Stp [d, rm] H H') (h : Dice K H' D d a ns) (e : H' rm = some (.lst [.int r'])) : Gen K H' D d a nm rm ns S r' := by
  refine ⟨h, g.na.step s fun z => ?_, e, g.rd, g.ne⟩
  rcases List.mem_cons.mp z with z | z
  · exact g.na.off g.di (List.mem_singleton.mpr z)
  · exact g.nroom (List.mem_singleton.mp z)
theorem Gen.up (g : Gen K H D d a nm rm ns S r) {p : Addr} (n : H p = none) (o : HO) : Gen K (upd H p o) D d a nm rm ns S r := by
  refine ⟨g.di.up n, g.na.step (.new n _) (g.na.off g.di), ?_, g.rd, g.ne⟩
  rw [upd_ne (ne_of_none g.ro n)]
  exact g.ro
theorem Gen.with {nm' : Addr} {S' : List Str} (g : Gen K H D d a nm rm ns S r) (h : NamesAt H nm' S') : Gen K H D d a nm' rm ns S' r := ⟨g.di, h, g.ro, g.rd, g.ne⟩
theorem Gen.sub (g : Gen K H D d a nm rm ns S r) : ∀ b ∈ [d], b ∈ [d, rm] := fun b hb => by rw [List.mem_singleton.mp hb]; exact List.mem_cons_self
theorem Gen.dec {r' : Int} (g : Gen K H D d a nm rm ns S r) : Stp [d, rm] H (upd H rm (.lst [.int r'])) ∧ Gen K (upd H rm (.lst [.int r'])) D d a nm rm ns S r' := by
  have st : Stp [d, rm] H (upd H rm (.lst [.int r'])) := .put (by simp) (fun xs z => by rw [g.ro] at z; cases z) _
  have st1 : Stp [rm] H (upd H rm (.lst [.int r'])) := .put (by simp) (fun xs z => by rw [g.ro] at z; cases z) _
  refine ⟨st, g.ex st (g.di.step st1 (fun b hb => by rw [List.mem_singleton.mp hb]; exact g.rd) fun z => g.ne (List.mem_singleton.mp z).symm) upd_same⟩
end
def mx (r : Int) : Int := if r < 4 then 4 else r
def dm (r : Int) : Int := 1 + 4 * (mx r - 4)
/-- behind a drawn part: the room left, how deep, how large (from the room r; k, j: what stands about it) -/
def Left (rm : Addr) (r k j : Int) (e : Ex) (H' : Hp) : Prop := ∃ r' : Int, H' rm = some (.lst [.int r']) ∧ r' ≤ r ∧ (e.deep : Int) ≤ k + dm r ∧ (e.size : Int) + 17 * mx r' ≤ j + 17 * mx r
def spGen (K : PySem.W.Frag) (n : Nat) (k j : Int) (args : Addr → Addr → Addr → List V) : Sp := fun vs H Q _ => ∃ (D : List Addr) (d a nm rm : Addr) (ns : List Int) (S : List Str) (r : Int), vs = args d nm rm ∧ Gen K H D d a nm rm ns S r ∧ r ≤ n + 4 ∧
  Draws K D [d, rm] d a ns S (Left rm r k j) H Q
abbrev args3 : Addr → Addr → Addr → List V := fun d nm rm => [.ref d, .ref nm, .ref rm]
def spExpr (K : PySem.W.Frag) (n : Nat) : Sp := spGen K n 0 1 args3
def spUse (K : PySem.W.Frag) (n : Nat) : Sp := spGen K n 4 17 args3
theorem mx_ge (r : Int) : 4 ≤ mx r ∧ r ≤ mx r := by unfold mx; split <;> omega
theorem mx_mono {r r' : Int} (h : r' ≤ r) : mx r' ≤ mx r := by unfold mx; split <;> split <;> omega
section
variable {P : Program} {w : World} {K : PySem.W.Frag} {mg : Str → Option Value} {base : Heap}
theorem scUse : FnScope ["_law_d", "_law_names", "_law_room", "_law_kind", "_law_name_here"] ["_law_d", "_law_names", "_law_room"] (defScope s_L_use) := ⟨rfl, rfl, rfl, by decide +kernel, rfl, by decide +kernel, by decide +kernel⟩
theorem kind4 (x : Int) (h0 : 0 ≤ x) (h4 : x < 4) : ∃ k : Str, atI ([.str "fun", .str "box", .str "rest", .str "rest"] : List V) x = some (.str k) ∧ (k = "fun" ∨ k = "box" ∨ k = "rest") := by
  have hx : x = 0 ∨ x = 1 ∨ x = 2 ∨ x = 3 := by omega
  rcases hx with rfl | rfl | rfl | rfl
  · exact ⟨_, rfl, .inl rfl⟩
  · exact ⟨_, rfl, .inr (.inl rfl)⟩
  · exact ⟨_, rfl, .inr (.inr rfl)⟩
  · exact ⟨_, rfl, .inr (.inr rfl)⟩
theorem menu2i (a b : V) (x : Int) (h0 : 0 ≤ x) (h2 : x < 2) : ∃ v, atI ([a, b] : List V) x = some v ∧ (v = a ∨ v = b) := by
  have hx : x = 0 ∨ x = 1 := by omega
  rcases hx with rfl | rfl
  · exact ⟨a, rfl, .inl rfl⟩
  · exact ⟨b, rfl, .inr rfl⟩
end
end Wr
namespace Wr
open PySem PySem.Spec PyProof.Rows L2
section
variable {P : Program} {w : World} {K : PySem.W.Frag} {mg : Str → Option Value} {base : Heap}
theorem dm_pos (r : Int) : 1 ≤ dm r := by unfold dm; have := (mx_ge r).1; omega
theorem ok_use (n : Nat) (F : Df K mg "_law_use" s_L_use) (int : mg "int" = none) (U : Use P w K mg base "_law_next" ["_law_dice_here", "_law_many"] 1 (spNext K)) (UN : Use P w K mg base "_law_name" ["_law_d", "_law_names", "_law_kinds"] 2 (spName K))
    (UL : Use P w K mg base "_law_leaf" ["_law_d", "_law_names"] 3 (spLeaf K)) (UE : Use P w K mg base "_law_expr" ["_law_d", "_law_names", "_law_room"] (2 * n + 6) (spExpr K n)) :
    Use P w K mg base "_law_use" ["_law_d", "_law_names", "_law_room"] (2 * n + 7) (spUse K n) := by
  refine F.use scUse (fun _ _ _ _ _ _ us hl => match us, hl with | [_, _, _], _ => rfl) (fun vs H Q E h => ?_) (fun cdv f A outer s H vs Q E hr h => ?_)
  · obtain ⟨D, d, a, nm, rm, ns, S, r, rfl, _⟩ := h
    rfl
  · obtain ⟨D, d, a, nm, rm, ns, S, r, rfl, g, hrn, q⟩ := h
    have hr1 : Room 1 _ := hr.mono (by omega)
    have hr2 : Room 2 _ := hr.mono (by omega)
    have hr3 : Room 3 _ := hr.mono (by omega)
    refine ⟨_, pss_cons (ps_set (i := 3) scUse.nd rfl (Or.inl rfl) (pe_ix ix_list (pe_lst (pa_cons pe_str (pa_cons pe_str (pa_cons pe_str (pa_cons pe_str pa_nil))))) (pe_use U hr1 (pa_cons (pv 0) (pa_cons pe_int pa_nil))) (fun _ _ => rfl)))
      (pss_cons (ps_set (i := 4) scUse.nd rfl (Or.inl rfl) (pe_use UN hr2 (pa_cons (pv 0) (pa_cons (pv 1) (pa_cons
          (pe_ix ix_list (pe_lst (pa_cons (pe_tup (pa_cons (pv 3) pa_nil)) (pa_cons (pe_tup (pa_cons (pv 3) (pa_cons pe_str pa_nil))) pa_nil)))
            (pe_callTy call_int1 (by rfl) int (by decide +kernel) (pa_cons (pe_cmpR op_eq (pe_use U hr1 (pa_cons (pv 0) (pa_cons pe_int pa_nil))) pe_int (nomark _)) pa_nil)) (fun _ _ => rfl)) pa_nil)))))
      (pss_cons (ps_if (pt_cmpR op_isN (pv 4) pe_non (nomark _)) (pss_one (ps_ret (pe_use UL hr3 (pa_cons (pv 0) (pa_cons (pv 1) pa_nil))))) pss_nil)
      (pss_cons (ps_if (pt_cmpR op_eq (pv 3) pe_str (nomark _)) (pss_one (ps_ret (pe_tup (pa_cons pe_str (pa_cons (pe_tup (pa_cons pe_str (pa_cons (pv 4) pa_nil))) (pa_cons (pe_use UE hr (pa_cons (pv 0) (pa_cons (pv 1) (pa_cons (pv 2) pa_nil)))) pa_nil)))))) pss_nil)
      (pss_cons (ps_if (pt_cmpR op_eq (pv 3) pe_str (nomark _)) (pss_one (ps_ret (pe_ix ix_list (pe_lst (pa_cons (pe_tup (pa_cons pe_str (pa_cons (pe_tup (pa_cons pe_str (pa_cons (pv 4) pa_nil))) pa_nil)))
          (pa_cons (pe_tup (pa_cons pe_str (pa_cons (pe_tup (pa_cons pe_str (pa_cons (pv 4) pa_nil))) (pa_cons (pe_use UE hr (pa_cons (pv 0) (pa_cons (pv 1) (pa_cons (pv 2) pa_nil)))) pa_nil)))) pa_nil))) (pe_use U hr1 (pa_cons (pv 0) (pa_cons pe_int pa_nil))) (fun _ _ => rfl)))) pss_nil)
      (pss_one (ps_ret (pe_ix ix_list (pe_lst (pa_cons (pe_tup (pa_cons pe_str (pa_cons (pe_tup (pa_cons pe_str (pa_cons (pv 4) pa_nil))) (pa_cons (pe_use UE hr (pa_cons (pv 0) (pa_cons (pv 1) (pa_cons (pv 2) pa_nil)))) pa_nil))))
          (pa_cons (pe_tup (pa_cons pe_str (pa_cons (pe_tup (pa_cons pe_str (pa_cons (pv 4) pa_nil))) pa_nil))) pa_nil))) (pe_callTy call_int1 (by rfl) int (by decide +kernel) (pa_cons (pe_cmpR op_eq (pe_use U hr1 (pa_cons (pv 0) (pa_cons pe_int pa_nil))) pe_int (nomark _)) pa_nil)) (fun _ _ => rfl)))))))), ?_⟩
    have d1 := dm_pos r
    have m1 := (mx_ge r).1
    refine ⟨(by show 4 ≤ sizeLine; decide), fun l1 n1 => ?_⟩
    have g1 := g.up n1 (.lst [.str "fun", .str "box", .str "rest", .str "rest"])
    have s1 : Stp [d, rm] H (upd H l1 (.lst [.str "fun", .str "box", .str "rest", .str "rest"])) := .new n1 _
    refine ⟨_, rfl, D, d, a, ns, 4, rfl, g1.di, by decide, by decide, fun x H2 x0 x1 st2 hD2 => ?_⟩
    have g2 := g1.nx st2 hD2
    have s2 := s1.trans (st2.mono g.sub)
    obtain ⟨kd, ek, hk⟩ := kind4 x x0 x1
    refine ⟨l1, _, _, _, rfl, rfl, SqL.of (st2.keep _ _ (g.di.fresh n1) upd_same), ek, ?_⟩
    refine ⟨_, rfl, _, rfl, _, rfl, (by show 1 ≤ sizeLine; decide), fun t1 nt1 => ⟨_, rfl, (by show 2 ≤ sizeLine; decide), fun t2 nt2 => ⟨(by show 2 ≤ sizeLine; decide), fun l3 n3 => ?_⟩⟩⟩
    have g5 := ((g2.up nt1 (.tup [.str kd])).up nt2 (.tup [.str kd, .str "number"])).up n3 (.lst [.ref t1, .ref t2])
    have s5 : Stp [d, rm] H _ := ((s2.up nt1 (.tup [.str kd])).up nt2 (.tup [.str kd, .str "number"])).up n3 (.lst [.ref t1, .ref t2])
    have ne12 : t1 ≠ t2 := ne_of_none upd_same nt2
    have ne13 : t1 ≠ l3 := ne_of_none (by rw [upd_ne ne12]; exact upd_same) n3
    have ne23 : t2 ≠ l3 := ne_of_none upd_same n3
    refine ⟨_, rfl, D, d, a, ns, 9, rfl, g5.di, by decide, by decide, fun y H6 y0 y1 st6 hD6 => ?_⟩
    have g6 := g5.nx st6 hD6
    have s6 := s5.trans (st6.mono g.sub)
    have n3d : l3 ∉ [d] := ((g2.up nt1 (.tup [.str kd])).up nt2 (.tup [.str kd, .str "number"])).di.fresh n3
    have e3 : H6 l3 = some (.lst [.ref t1, .ref t2]) := st6.keep _ _ n3d upd_same
    have e1 : H6 t1 = some (.tup [.str kd]) := st6.tups _ _ (by rw [upd_ne ne13, upd_ne ne12]; exact upd_same)
    have e2 : H6 t2 = some (.tup [.str kd, .str "number"]) := st6.tups _ _ (by rw [upd_ne ne23]; exact upd_same)
    refine ⟨rfl, .inr ⟨_, rfl, ?_⟩⟩
    obtain ⟨kp, ks, hkp, hix⟩ : ∃ (kp : Addr) (ks : List Str), SqT K H6 kp (ks.map V.str) ∧ atI ([.ref t1, .ref t2] : List V) (if decide (V.int y = V.int 8) = true then 1 else 0) = some (.ref kp) := by
      obtain ⟨v, ev, hv⟩ := menu2 (.ref t1) (.ref t2) (decide (V.int y = V.int 8))
      rcases hv with rfl | rfl
      · exact ⟨t1, [kd], SqT.of e1, ev⟩
      · exact ⟨t2, [kd, "number"], SqT.of e2, ev⟩
    refine ⟨l3, _, _, _, rfl, rfl, SqL.of e3, hix, ?_⟩
    refine ⟨D, d, a, nm, kp, ns, S, ks, rfl, hD6, g6.na, hkp, fun rr H7 hrr st7 hD7 => ?_⟩
    have g7 := g6.nx st7 hD7
    have s7 := s6.trans (st7.mono g.sub)
    refine ⟨_, rfl, rfl, _, rfl, ?_⟩
    rcases hrr with rfl | ⟨x, hx, hxl, rfl⟩
    · refine iteT ?_
      refine ⟨_, rfl, _, rfl, D, d, a, nm, ns, S, rfl, hD7, g7.na, fun v e H8 hv hg he st8 hD8 => ?_⟩
      refine q v e H8 hv hg ⟨r, (g7.nx st8 hD8).ro, Int.le_refl _, by omega, by omega⟩ (s7.trans (st8.mono g.sub)) hD8
    · refine iteF ?_
      -- a part with a name and a part within
      have two : ∀ (word : Str), word ∈ twos → ∀ (H8 : Hp) (t v : _) (e : Ex) (r' : Int) (H9 : Hp), H8 t = some (.tup [.str "name", .str x]) → AtE H8 v e → Good S e → Left rm r 0 1 e H8 → Stp [d, rm] H H8 → Dice K H8 D d a ns →
          ∀ p, H8 p = none → Q (.ref p) (upd H8 p (.tup [.str word, .ref t, v])) := by
        intro word hw H8 t v e r' H9 ht hv hg ⟨r2, hr2', hle, hdp, hsz⟩ st hD8 p np
        refine q _ (.two word (.name x) e) _ ⟨p, _, _, rfl, upd_same, ⟨t, rfl, by rw [upd_ne (ne_of_none ht np)]; exact ht⟩, hv.up np _⟩ ⟨hw, hx, hg⟩ ⟨r2, by rw [upd_ne (ne_of_none hr2' np)]; exact hr2', hle, ?_, ?_⟩ (st.up np _) (hD8.up np)
        · simp only [Ex.deep]
          have := e.deep_pos
          omega
        · simp only [Ex.size]
          omega
      refine ⟨_, rfl, rfl, _, rfl, ?_⟩
      rcases hk with rfl | hk
      · refine iteT ?_
        refine ⟨_, rfl, (by show 2 ≤ sizeLine; decide), fun t nt => ?_⟩
        have g8 := g7.up nt (.tup [.str "name", .str x])
        have s8 := s7.up nt (.tup [.str "name", .str x])
        refine ⟨_, rfl, _, rfl, _, rfl, D, d, a, nm, rm, ns, S, r, rfl, g8, hrn, fun v e H9 hv hg hl st9 hD9 => ?_⟩
        refine ⟨(by show 3 ≤ sizeLine; decide), fun p np => ?_⟩
        exact two "call" (by decide +kernel) H9 t v e 0 H9 (st9.tups _ _ upd_same) hv hg hl (s8.trans st9) hD9 p np
      · -- a part with a name alone
        have one : ∀ (word : Str), word ∈ ones → ∀ (H8 : Hp) (t p : Addr) (r2 : Int), H8 t = some (.tup [.str "name", .str x]) → H8 p = some (.tup [.str word, .ref t]) → H8 rm = some (.lst [.int r2]) → r2 ≤ r → Stp [d, rm] H H8 → Dice K H8 D d a ns → Q (.ref p) H8 := by
          intro word hw H8 t p r2 ht hp hr2 hle st hD8
          refine q _ (.one word (.name x)) _ ⟨p, _, rfl, hp, t, rfl, ht⟩ ⟨hw, hx⟩ ⟨r2, hr2, hle, ?_, ?_⟩ st hD8
          · simp only [Ex.deep]; omega
          · simp only [Ex.size]
            have := mx_mono hle
            omega
        rcases hk with rfl | rfl
        · refine iteF ?_
          refine ⟨_, rfl, rfl, _, rfl, ?_⟩
          refine iteT ?_
          refine ⟨_, rfl, (by show 2 ≤ sizeLine; decide), fun t nt => ⟨(by show 2 ≤ sizeLine; decide), fun p np => ⟨_, rfl, (by show 2 ≤ sizeLine; decide), fun t2 nt2 => ?_⟩⟩⟩
          have g10 := ((g7.up nt (.tup [.str "name", .str x])).up np (.tup [.str "look", .ref t])).up nt2 (.tup [.str "name", .str x])
          have s10 := ((s7.up nt (.tup [.str "name", .str x])).up np (.tup [.str "look", .ref t])).up nt2 (.tup [.str "name", .str x])
          have s8 : Stp [] (upd (upd H7 t (.tup [.str "name", .str x])) p (.tup [.str "look", .ref t])) (upd (upd (upd H7 t (.tup [.str "name", .str x])) p (.tup [.str "look", .ref t])) t2 (.tup [.str "name", .str x])) := .new nt2 _
          have et := s8.tups t _ (by rw [upd_ne (ne_of_none upd_same np)]; exact upd_same)
          have ep := s8.tups p _ upd_same
          refine ⟨_, rfl, _, rfl, _, rfl, D, d, a, nm, rm, ns, S, r, rfl, g10, hrn, fun v e H11 hv hg hl st11 hD11 => ?_⟩
          refine ⟨(by show 3 ≤ sizeLine; decide), fun p2 np2 => ⟨(by show 2 ≤ sizeLine; decide), fun l nl => ?_⟩⟩
          obtain ⟨r2, hr2, hle, hdp, hsz⟩ := hl
          have g12 := ((g10.ex st11 hD11 hr2).up np2 (.tup [.str "put", .ref t2, v])).up nl (.lst [.ref p, .ref p2])
          have s12 := ((s10.trans st11).up np2 (.tup [.str "put", .ref t2, v])).up nl (.lst [.ref p, .ref p2])
          have s11 : Stp [] H11 (upd (upd H11 p2 (.tup [.str "put", .ref t2, v])) l (.lst [.ref p, .ref p2])) := (Stp.new np2 _).up nl _
          refine ⟨_, rfl, D, d, a, ns, 2, rfl, g12.di, by decide, by decide, fun y H13 y0 y1 st13 hD13 => ?_⟩
          have nld : l ∉ [d] := ((g10.ex st11 hD11 hr2).up np2 (.tup [.str "put", .ref t2, v])).di.fresh nl
          have el : H13 l = some (.lst [.ref p, .ref p2]) := st13.keep _ _ nld upd_same
          obtain ⟨z, ez, hz⟩ := menu2i (.ref p) (.ref p2) y y0 y1
          refine ⟨l, _, _, _, rfl, rfl, SqL.of el, ez, ?_⟩
          have all : ∀ b xs, (upd (upd (upd H7 t (.tup [.str "name", .str x])) p (.tup [.str "look", .ref t])) t2 (.tup [.str "name", .str x])) b = some (.tup xs) → H13 b = some (.tup xs) := fun b xs e => st13.tups _ _ (s11.tups _ _ (st11.tups _ _ e))
          have g13 := g12.nx st13 hD13
          have sF := s12.trans (st13.mono g.sub)
          rcases hz with rfl | rfl
          · exact one "look" (by decide +kernel) H13 t p r2 (all _ _ et) (all _ _ ep) g13.ro hle sF hD13
          · have e2 : H13 p2 = some (.tup [.str "put", .ref t2, v]) := st13.tups _ _ (by rw [upd_ne (ne_of_none upd_same nl)]; exact upd_same)
            refine q _ (.two "put" (.name x) e) _ ⟨p2, _, _, rfl, e2, ⟨t2, rfl, all _ _ upd_same⟩, (hv.step s11).step st13⟩ ⟨by decide +kernel, hx, hg⟩ ⟨r2, g13.ro, hle, ?_, ?_⟩ sF hD13
            · simp only [Ex.deep]
              have := e.deep_pos
              omega
            · simp only [Ex.size]
              omega
        · refine iteF ?_
          refine ⟨_, rfl, rfl, _, rfl, ?_⟩
          refine iteF ?_
          refine ⟨_, rfl, (by show 2 ≤ sizeLine; decide), fun t nt => ?_⟩
          have g8 := g7.up nt (.tup [.str "name", .str x])
          have s8 := s7.up nt (.tup [.str "name", .str x])
          refine ⟨_, rfl, _, rfl, _, rfl, D, d, a, nm, rm, ns, S, r, rfl, g8, hrn, fun v e H9 hv hg hl st9 hD9 => ?_⟩
          obtain ⟨r2, hr2, hle, hdp, hsz⟩ := hl
          refine ⟨(by show 3 ≤ sizeLine; decide), fun p np => ⟨_, rfl, (by show 2 ≤ sizeLine; decide), fun t2 nt2 => ⟨(by show 2 ≤ sizeLine; decide), fun p2 np2 => ⟨(by show 2 ≤ sizeLine; decide), fun l nl => ?_⟩⟩⟩⟩
          have g9 := g8.ex st9 hD9 hr2
          have g12 := (((g9.up np (.tup [.str "go", .ref t, v])).up nt2 (.tup [.str "name", .str x])).up np2 (.tup [.str "drop", .ref t2])).up nl (.lst [.ref p, .ref p2])
          have s11 : Stp [] H9 _ := (((Stp.new np (.tup [.str "go", .ref t, v])).up nt2 (.tup [.str "name", .str x])).up np2 (.tup [.str "drop", .ref t2])).up nl (.lst [.ref p, .ref p2])
          have nepl : p ≠ l := ne_of_none (by rw [upd_ne (ne_of_none (by rw [upd_ne (ne_of_none upd_same nt2)]; exact upd_same) np2), upd_ne (ne_of_none upd_same nt2)]; exact upd_same) nl
          refine ⟨_, rfl, D, d, a, ns, 4, rfl, g12.di, by decide, by decide, fun y H13 y0 y1 st13 hD13 => ?_⟩
          have nld : l ∉ [d] := (((g9.up np (.tup [.str "go", .ref t, v])).up nt2 (.tup [.str "name", .str x])).up np2 (.tup [.str "drop", .ref t2])).di.fresh nl
          have el : H13 l = some (.lst [.ref p, .ref p2]) := st13.keep _ _ nld upd_same
          refine ⟨rfl, .inr ⟨_, rfl, ?_⟩⟩
          obtain ⟨z, ez, hz⟩ := menu2 (.ref p) (.ref p2) (decide (V.int y = V.int 3))
          refine ⟨l, _, _, _, rfl, rfl, SqL.of el, ez, ?_⟩
          have g13 := g12.nx st13 hD13
          have sF : Stp [d, rm] H H13 := ((s8.trans st9).trans (s11.mono fun b hb => by cases hb)).trans (st13.mono g.sub)
          rcases hz with rfl | rfl
          · have e2 : H13 p = some (.tup [.str "go", .ref t, v]) := st13.tups _ _ (by rw [upd_ne nepl, upd_ne (ne_of_none (by rw [upd_ne (ne_of_none upd_same nt2)]; exact upd_same) np2), upd_ne (ne_of_none upd_same nt2)]; exact upd_same)
            refine q _ (.two "go" (.name x) e) _ ⟨p, _, _, rfl, e2, ⟨t, rfl, st13.tups _ _ (s11.tups _ _ (st9.tups _ _ upd_same))⟩, (hv.step s11).step st13⟩ ⟨by decide +kernel, hx, hg⟩ ⟨r2, g13.ro, hle, ?_, ?_⟩ sF hD13
            · simp only [Ex.deep]
              have := e.deep_pos
              omega
            · simp only [Ex.size]
              omega
          · refine one "drop" (by decide +kernel) H13 t2 p2 r2 ?_ ?_ g13.ro hle sF hD13
            · exact st13.tups _ _ (by rw [upd_ne (ne_of_none (by rw [upd_ne (ne_of_none upd_same np2)]; exact upd_same) nl), upd_ne (ne_of_none upd_same np2)]; exact upd_same)
            · exact st13.tups _ _ (by rw [upd_ne (ne_of_none upd_same nl)]; exact upd_same)
end
end Wr
namespace Wr
open PySem PySem.Spec PyProof.Rows L2
section
variable {K : PySem.W.Frag} {H H' : Hp} {D : List Addr} {d a nm rm : Addr} {ns : List Int} {S : List Str} {r : Int}
theorem Gen.same (g : Gen K H D d a nm rm ns S r) (s : Same H H') : Gen K H' D d a nm rm ns S r := by
  refine ⟨g.di.step (D' := []) (Stp.same s) (by simp) (by simp), g.na.step (D := []) (Stp.same s) (by simp), s _ _ g.ro, g.rd, g.ne⟩
end
/-- {x: word} -/
theorem NamesAt.one {H : Hp} {p : Addr} {x z : Str} (hx : x ∈ letters) (e : H p = some (.dK (mergeK [] [((Sum.inr x : Key), V.str z)]))) : NamesAt H p [x] :=
  ⟨[(x, z)], by rw [e] <;> rfl, by simp, fun y hy => by rw [List.mem_singleton.mp hy]; exact hx, fun y hy => hy⟩
theorem NamesAt.two {H : Hp} {p : Addr} {x z y u : Str} (hx : x ∈ letters) (hy : y ∈ letters) (hne : x ≠ y) (e : H p = some (.dK (mergeK [] [((Sum.inr x : Key), V.str z), (Sum.inr y, V.str u)]))) : NamesAt H p [x, y] := by
  obtain ⟨k, e1, m, n⟩ := mergeK_str [(x, z), (y, u)] []
  refine ⟨k, e.trans ?_, n (by simp), fun q hq => ?_, fun q hq => ?_⟩
  · rw [← e1] <;> rfl
  · have := (m q).mp hq
    simp only [List.map_cons, List.map_nil, List.mem_cons, List.not_mem_nil, or_false] at this
    rcases this with rfl | rfl
    · exact hx
    · exact hy
  · have := (m q).mp hq
    simpa using this
section
variable {P : Program} {w : World} {K : PySem.W.Frag} {mg : Str → Option Value} {base : Heap}
def spLet (K : PySem.W.Frag) (n : Nat) : Sp := fun vs H Q E => ∃ way : Int, spGen K n 4 17 (fun d nm rm => [.ref d, .ref nm, .ref rm, .int way]) vs H Q E
theorem scLet : FnScope ["_law_d", "_law_names", "_law_room", "_law_way", "_law_x", "_law_y", "_law_fun", "_law_body", "_law_mine"] ["_law_d", "_law_names", "_law_room", "_law_way"] (defScope s_L_let) := ⟨rfl, rfl, rfl, by decide +kernel, rfl, by decide +kernel, by decide +kernel⟩
theorem ok_let (n : Nat) (F : Df K mg "_law_let" s_L_let) (UF : Use P w K mg base "_law_free" ["_law_d"] 2 (spFree K)) (UW : Use P w K mg base "_law_with" ["_law_names", "_law_some"] 1 spWith)
    (UL : Use P w K mg base "_law_leaf" ["_law_d", "_law_names"] 3 (spLeaf K)) (UE : Use P w K mg base "_law_expr" ["_law_d", "_law_names", "_law_room"] (2 * n + 6) (spExpr K n)) :
    Use P w K mg base "_law_let" ["_law_d", "_law_names", "_law_room", "_law_way"] (2 * n + 7) (spLet K n) := by
  refine F.use scLet (fun _ _ _ _ _ _ us hl => match us, hl with | [_, _, _, _], _ => rfl) (fun vs H Q E h => ?_) (fun cdv f A outer s H vs Q E hr h => ?_)
  · obtain ⟨way, D, d, a, nm, rm, ns, S, r, rfl, _⟩ := h
    rfl
  · obtain ⟨way, D, d, a, nm, rm, ns, S, r, rfl, g, hrn, q⟩ := h
    have hr1 : Room 1 _ := hr.mono (by omega)
    have hr2 : Room 2 _ := hr.mono (by omega)
    have hr3 : Room 3 _ := hr.mono (by omega)
    refine ⟨_, pss_cons (ps_set (i := 4) scLet.nd rfl (Or.inl rfl) (pe_use UF hr2 (pa_cons (pv 0) pa_nil)))
      (pss_cons (ps_if (pt_cmpR op_lt (pv 3) pe_int (nomark _)) (pss_one (ps_ret (pe_tup (pa_cons pe_str (pa_cons (pv 4) (pa_cons (pe_use UE hr (pa_cons (pv 0) (pa_cons (pv 1) (pa_cons (pv 2) pa_nil))))
          (pa_cons (pe_use UE hr (pa_cons (pv 0) (pa_cons (pe_use UW hr1 (pa_cons (pv 1) (pa_cons (pe_disp (pps_cons (pv 4) pe_str pps_nil) (by rfl) (by rfl) (fun z => by cases z) (by decide)) pa_nil))) (pa_cons (pv 2) pa_nil)))) pa_nil))))))) pss_nil)
      (pss_cons (ps_if (pt_cmpR op_eq (pv 3) pe_int (nomark _))
          (pss_cons (ps_set (i := 5) scLet.nd rfl (Or.inl rfl) (pe_use UF hr2 (pa_cons (pv 0) pa_nil)))
          (pss_cons (ps_set (i := 6) scLet.nd rfl (Or.inl rfl) (pe_tup (pa_cons pe_str (pa_cons (pv 5) (pa_cons (pe_use UE hr (pa_cons (pv 0) (pa_cons (pe_use UW hr1 (pa_cons (pv 1) (pa_cons (pe_disp (pps_cons (pv 5) pe_str pps_nil) (by rfl) (by rfl) (fun z => by cases z) (by decide)) pa_nil))) (pa_cons (pv 2) pa_nil)))) pa_nil)))))
          (pss_cons (ps_set (i := 7) scLet.nd rfl (Or.inl rfl) (pe_use UE hr (pa_cons (pv 0) (pa_cons (pe_use UW hr1 (pa_cons (pv 1) (pa_cons (pe_disp (pps_cons (pv 4) pe_str pps_nil) (by rfl) (by rfl) (fun z => by cases z) (by decide)) pa_nil))) (pa_cons (pv 2) pa_nil)))))
          (pss_one (ps_ret (pe_tup (pa_cons pe_str (pa_cons (pv 4) (pa_cons (pv 6) (pa_cons (pe_tup (pa_cons pe_str (pa_cons (pe_tup (pa_cons pe_str (pa_cons (pe_tup (pa_cons pe_str (pa_cons (pv 4) pa_nil))) (pa_cons (pe_use UL hr3 (pa_cons (pv 0) (pa_cons (pv 1) pa_nil))) pa_nil)))) (pa_cons (pv 7) pa_nil)))) pa_nil)))))))))) pss_nil)
      (pss_cons (ps_set (i := 8) scLet.nd rfl (Or.inl rfl) (pe_use UW hr1 (pa_cons (pv 1) (pa_cons (pe_disp (pps_cons (pv 4) pe_str pps_nil) (by rfl) (by rfl) (fun z => by cases z) (by decide)) pa_nil))))
      (pss_cons (ps_set (i := 7) scLet.nd rfl (Or.inl rfl) (pe_tup (pa_cons pe_str (pa_cons (pe_use UE hr (pa_cons (pv 0) (pa_cons (pv 8) (pa_cons (pv 2) pa_nil)))) (pa_cons (pe_tup (pa_cons pe_str (pa_cons (pe_tup (pa_cons pe_str (pa_cons (pv 4) pa_nil))) pa_nil))) pa_nil)))))
      (pss_one (ps_ret (pe_tup (pa_cons pe_str (pa_cons (pv 4) (pa_cons (pe_tup (pa_cons pe_str (pa_cons (pe_use UL hr3 (pa_cons (pv 0) (pa_cons (pv 1) pa_nil))) pa_nil))) (pa_cons (pv 7) pa_nil))))))))))), ?_⟩
    have d1 := dm_pos r
    have m1 := (mx_ge r).1
    refine ⟨_, rfl, D, d, a, ns, rfl, g.di, fun x H1 hx st1 hD1 => ?_⟩
    have g1 := g.nx st1 hD1
    have s1 := st1.mono g.sub
    refine ⟨_, rfl, _, _, rfl, rfl, _, rfl, ?_⟩
    refine ite2 (fun _ => ?_) (fun _ => ?_)
    · refine ⟨_, rfl, _, rfl, _, rfl, _, rfl, D, d, a, nm, rm, ns, S, r, rfl, g1, hrn, fun v e H2 hv hg ⟨r2, hr2', hle2, hd2, hz2⟩ st2 hD2 => ?_⟩
      have g2 := g1.ex st2 hD2 hr2'
      refine ⟨_, rfl, _, rfl, fun p np => ⟨_, rfl, upd_same, [((Sum.inr x : Key), V.str "number")], rfl, (by show 1 ≤ 15; decide), ?_⟩⟩
      rw [upd_upd]
      have g3 := g2.up np (.dK (mergeK [] [((Sum.inr x : Key), V.str "number")]))
      refine ⟨nm, p, S, [x], rfl, g3.na, .one hx upd_same, fun nm2 H4 sm4 nn4 na4 => ?_⟩
      have g4 := (g3.same sm4).with na4
      have s4 := ((s1.trans st2).up np (.dK (mergeK [] [((Sum.inr x : Key), V.str "number")]))).trans (Stp.same sm4)
      refine ⟨_, rfl, D, d, a, nm2, rm, ns, _, r2, rfl, g4, Int.le_trans hle2 hrn, fun v2 e2 H5 hv2 hg2 ⟨r3, hr3', hle3, hd3, hz3⟩ st5 hD5 => ?_⟩
      refine ⟨(by show 4 ≤ sizeLine; decide), fun t nt => ?_⟩
      have dm2 : dm r2 ≤ dm r := by unfold dm; have := mx_mono hle2; omega
      refine q _ (.lt x e e2) _ ⟨t, v, v2, rfl, upd_same, ?_, hv2.up nt _⟩ ⟨hx, hg, hg2.mono (fun y hy => by simpa using hy)⟩ ⟨r3, by rw [upd_ne (ne_of_none hr3' nt)]; exact hr3', by omega, ?_, ?_⟩ ((s4.trans st5).up nt _) (hD5.up nt)
      · exact ((((hv.up np _).step (D := []) (Stp.same sm4))).step st5).up nt _
      · simp only [Ex.deep]
        omega
      · simp only [Ex.size]
        omega
    · refine ⟨_, rfl, rfl, _, rfl, ?_⟩
      refine ite2 (fun _ => ?_) (fun _ => ?_)
      · refine ⟨_, rfl, D, d, a, ns, rfl, hD1, fun y H2 hy st2 hD2 => ?_⟩
        have g2 := g1.nx st2 hD2
        have s2 := s1.trans (st2.mono g.sub)
        refine ⟨_, rfl, _, rfl, _, rfl, fun p np => ⟨_, rfl, upd_same, [((Sum.inr y : Key), V.str "number")], rfl, (by show 1 ≤ 15; decide), ?_⟩⟩
        rw [upd_upd]
        have g3 := g2.up np (.dK (mergeK [] [((Sum.inr y : Key), V.str "number")]))
        refine ⟨nm, p, S, [y], rfl, g3.na, .one hy upd_same, fun nm2 H4 sm4 nn4 na4 => ?_⟩
        have g4' := g3.same sm4
        have g4 := g4'.with na4
        have s4 := (s2.up np (.dK (mergeK [] [((Sum.inr y : Key), V.str "number")]))).trans (Stp.same sm4)
        refine ⟨_, rfl, D, d, a, nm2, rm, ns, _, r, rfl, g4, hrn, fun v e H5 hv hg ⟨r2, hr2', hle2, hd2, hz2⟩ st5 hD5 => ?_⟩
        have g5 := g4'.ex st5 hD5 hr2'
        refine ⟨(by show 3 ≤ sizeLine; decide), fun t nt => ?_⟩
        have g6 := g5.up nt (.tup [.str "fun", .str y, v])
        have s6 := (s4.trans st5).up nt (.tup [.str "fun", .str y, v])
        have atF : AtE (upd H5 t (.tup [.str "fun", .str y, v])) (.ref t) (.fn y e) := ⟨t, v, rfl, upd_same, hv.up nt _⟩
        refine ⟨_, rfl, _, rfl, fun p2 np2 => ⟨_, rfl, upd_same, [((Sum.inr x : Key), V.str "fun")], rfl, (by show 1 ≤ 15; decide), ?_⟩⟩
        rw [upd_upd]
        have g7 := g6.up np2 (.dK (mergeK [] [((Sum.inr x : Key), V.str "fun")]))
        refine ⟨nm, p2, S, [x], rfl, g7.na, .one hx upd_same, fun nm3 H8 sm8 nn8 na8 => ?_⟩
        have g8' := g7.same sm8
        have g8 := g8'.with na8
        have s8 := (s6.up np2 (.dK (mergeK [] [((Sum.inr x : Key), V.str "fun")]))).trans (Stp.same sm8)
        have atF8 := (atF.up np2 (.dK (mergeK [] [((Sum.inr x : Key), V.str "fun")]))).step (D := []) (Stp.same sm8)
        refine ⟨_, rfl, D, d, a, nm3, rm, ns, _, r2, rfl, g8, Int.le_trans hle2 hrn, fun v2 e2 H9 hv2 hg2 ⟨r3, hr3', hle3, hd3, hz3⟩ st9 hD9 => ?_⟩
        have g9 := g8'.ex st9 hD9 hr3'
        refine ⟨_, rfl, _, rfl, _, rfl, (by show 2 ≤ sizeLine; decide), fun t3 nt3 => ?_⟩
        have g10 := g9.up nt3 (.tup [.str "name", .str x])
        refine ⟨_, rfl, _, rfl, D, d, a, nm, ns, S, rfl, g10.di, g10.na, fun v4 e4 H11 hv4 hg4 ⟨z4, p4⟩ st11 hD11 => ?_⟩
        have g11 := g10.nx st11 hD11
        refine ⟨(by show 3 ≤ sizeLine; decide), fun t5 nt5 => ⟨_, rfl, (by show 3 ≤ sizeLine; decide), fun t6 nt6 => ⟨(by show 4 ≤ sizeLine; decide), fun t7 nt7 => ?_⟩⟩⟩
        have g14 := ((g11.up nt5 (.tup [.str "call", .ref t3, v4])).up nt6 (.tup [.str "add", .ref t5, v2])).up nt7 (.tup [.str "let", .str x, .ref t, .ref t6])
        have s14 : Stp [] H11 (upd (upd (upd H11 t5 (.tup [.str "call", .ref t3, v4])) t6 (.tup [.str "add", .ref t5, v2])) t7 (.tup [.str "let", .str x, .ref t, .ref t6])) := ((Stp.new nt5 _).up nt6 _).up nt7 _
        have sA : Stp [d, rm] H9 H11 := (Stp.new nt3 _).trans (st11.mono g.sub)
        have dm2 : dm r2 ≤ dm r := by unfold dm; have := mx_mono hle2; omega
        have atN : AtE H11 (.ref t3) (.name x) := ⟨t3, rfl, st11.tups _ _ upd_same⟩
        have at6 : (upd (upd (upd H11 t5 (.tup [.str "call", .ref t3, v4])) t6 (.tup [.str "add", .ref t5, v2])) t7 (.tup [.str "let", .str x, .ref t, .ref t6])) t6 = some (.tup [.str "add", .ref t5, v2]) := by
          rw [upd_ne (ne_of_none upd_same nt7)]; exact upd_same
        have at5 : (upd (upd (upd H11 t5 (.tup [.str "call", .ref t3, v4])) t6 (.tup [.str "add", .ref t5, v2])) t7 (.tup [.str "let", .str x, .ref t, .ref t6])) t5 = some (.tup [.str "call", .ref t3, v4]) := by
          rw [upd_ne (ne_of_none (by rw [upd_ne (ne_of_none upd_same nt6)]; exact upd_same) nt7), upd_ne (ne_of_none upd_same nt6)]; exact upd_same
        refine q _ (.lt x (.fn y e) (.two "add" (.two "call" (.name x) e4) e2)) _
          ⟨t7, _, _, rfl, upd_same, ((atF8.step st9).step sA).step s14, t6, _, _, rfl, at6, ⟨t5, _, _, rfl, at5, atN.step s14, hv4.step s14⟩, ((hv2.step sA)).step s14⟩
          ⟨hx, ⟨hy, hg.mono (fun z hz => by simpa using hz)⟩, by decide +kernel, ⟨by decide +kernel, List.mem_cons_self, hg4.mono (fun z hz => List.mem_cons_of_mem _ hz)⟩, hg2.mono (fun z hz => by simpa using hz)⟩
          ⟨r3, g14.ro, by omega, ?_, ?_⟩ (((s8.trans st9).trans sA).trans (s14.mono fun b hb => by cases hb)) g14.di
        · simp only [Ex.deep, p4]
          omega
        · simp only [Ex.size, z4]
          omega
      · refine ⟨_, rfl, fun p np => ⟨_, rfl, upd_same, [((Sum.inr x : Key), V.str "box")], rfl, (by show 1 ≤ 15; decide), ?_⟩⟩
        rw [upd_upd]
        have g3 := g1.up np (.dK (mergeK [] [((Sum.inr x : Key), V.str "box")]))
        refine ⟨nm, p, S, [x], rfl, g3.na, .one hx upd_same, fun nm2 H4 sm4 nn4 na4 => ?_⟩
        have g4' := g3.same sm4
        have g4 := g4'.with na4
        have s4 := (s1.up np (.dK (mergeK [] [((Sum.inr x : Key), V.str "box")]))).trans (Stp.same sm4)
        refine ⟨_, rfl, _, rfl, _, rfl, D, d, a, nm2, rm, ns, _, r, rfl, g4, hrn, fun v e H5 hv hg ⟨r2, hr2', hle2, hd2, hz2⟩ st5 hD5 => ?_⟩
        have g5 := g4'.ex st5 hD5 hr2'
        refine ⟨_, rfl, (by show 2 ≤ sizeLine; decide), fun t1 nt1 => ⟨(by show 2 ≤ sizeLine; decide), fun t2 nt2 => ⟨(by show 3 ≤ sizeLine; decide), fun t3 nt3 => ?_⟩⟩⟩
        have g8 := ((g5.up nt1 (.tup [.str "name", .str x])).up nt2 (.tup [.str "look", .ref t1])).up nt3 (.tup [.str "add", v, .ref t2])
        have s8 : Stp [] H5 (upd (upd (upd H5 t1 (.tup [.str "name", .str x])) t2 (.tup [.str "look", .ref t1])) t3 (.tup [.str "add", v, .ref t2])) := ((Stp.new nt1 _).up nt2 _).up nt3 _
        have at3 : AtE (upd (upd (upd H5 t1 (.tup [.str "name", .str x])) t2 (.tup [.str "look", .ref t1])) t3 (.tup [.str "add", v, .ref t2])) (.ref t3) (.two "add" e (.one "look" (.name x))) := by
          refine ⟨t3, _, _, rfl, upd_same, hv.step s8, t2, _, rfl, ?_, t1, rfl, ?_⟩
          · rw [upd_ne (ne_of_none upd_same nt3)]; exact upd_same
          · rw [upd_ne (ne_of_none (by rw [upd_ne (ne_of_none upd_same nt2)]; exact upd_same) nt3), upd_ne (ne_of_none upd_same nt2)]; exact upd_same
        refine ⟨_, rfl, _, rfl, _, rfl, D, d, a, nm, ns, S, rfl, g8.di, g8.na, fun v4 e4 H9 hv4 hg4 ⟨z4, p4⟩ st9 hD9 => ?_⟩
        refine ⟨(by show 2 ≤ sizeLine; decide), fun t5 nt5 => ⟨_, rfl, (by show 4 ≤ sizeLine; decide), fun t6 nt6 => ?_⟩⟩
        have g11 := ((g8.nx st9 hD9).up nt5 (.tup [.str "box", v4])).up nt6 (.tup [.str "let", .str x, .ref t5, .ref t3])
        have s11 : Stp [] H9 (upd (upd H9 t5 (.tup [.str "box", v4])) t6 (.tup [.str "let", .str x, .ref t5, .ref t3])) := (Stp.new nt5 _).up nt6 _
        refine q _ (.lt x (.one "box" e4) (.two "add" e (.one "look" (.name x)))) _
          ⟨t6, _, _, rfl, upd_same, ⟨t5, _, rfl, by rw [upd_ne (ne_of_none upd_same nt6)]; exact upd_same, hv4.step s11⟩, (at3.step st9).step s11⟩
          ⟨hx, ⟨by decide +kernel, hg4⟩, by decide +kernel, hg.mono (fun z hz => by simpa using hz), by decide +kernel, List.mem_cons_self⟩
          ⟨r2, g11.ro, hle2, ?_, ?_⟩ ((((s4.trans st5).trans (s8.mono fun b hb => by cases hb)).trans (st9.mono g.sub)).trans (s11.mono fun b hb => by cases hb)) g11.di
        · simp only [Ex.deep, p4]
          have := e.deep_pos
          omega
        · simp only [Ex.size, z4]
          omega
end
end Wr
namespace Wr
open PySem PySem.Spec PyProof.Rows L2
section
variable {P : Program} {w : World} {K : PySem.W.Frag} {mg : Str → Option Value} {base : Heap}
abbrev WF : WX := fun _ _ _ _ => False
theorem index_letter {x : Str} (h : x ∈ letters) : ∃ i : Nat, Txt.index0 ("bcdefgha" : Str) x = some i ∧ ∃ c, atI (("abcdefgh" : Str).cps.toList) (i : Int) = some c ∧ (⟨#[c]⟩ : Str) ∈ letters ∧ x ≠ (⟨#[c]⟩ : Str) := by
  simp only [letters, List.mem_cons, List.not_mem_nil, or_false] at h
  rcases h with rfl | rfl | rfl | rfl | rfl | rfl | rfl | rfl
  · exact ⟨7, by decide +kernel, 104, rfl, by decide +kernel, by decide +kernel⟩
  · exact ⟨0, by decide +kernel, 97, rfl, by decide +kernel, by decide +kernel⟩
  · exact ⟨1, by decide +kernel, 98, rfl, by decide +kernel, by decide +kernel⟩
  · exact ⟨2, by decide +kernel, 99, rfl, by decide +kernel, by decide +kernel⟩
  · exact ⟨3, by decide +kernel, 100, rfl, by decide +kernel, by decide +kernel⟩
  · exact ⟨4, by decide +kernel, 101, rfl, by decide +kernel, by decide +kernel⟩
  · exact ⟨5, by decide +kernel, 102, rfl, by decide +kernel, by decide +kernel⟩
  · exact ⟨6, by decide +kernel, 103, rfl, by decide +kernel, by decide +kernel⟩
theorem scCatch : FnScope ["_law_d", "_law_names", "_law_room", "_law_x", "_law_k", "_law_body", "_law_mine", "_law_one", "_law_two", "_law_twice", "_law_some"] ["_law_d", "_law_names", "_law_room"] (defScope s_L_catch) := ⟨rfl, rfl, rfl, by decide +kernel, rfl, by decide +kernel, by decide +kernel⟩
abbrev Tk (H H' : Hp) : Prop := ∀ t xs, H t = some (.tup xs) → H' t = some (.tup xs)
theorem Tk.back {H HF : Hp} {p : Addr} {o : HO} (n : H p = none) (k : Tk (upd H p o) HF) : Tk H HF := fun t xs h => k t xs ((Stp.new (D := []) n o).tups t xs h)
theorem Stp.putnew {H0 H : Hp} {l : Addr} (s : Stp [] H0 H) (n : H0 l = none) (o : HO) : Stp [] H0 (upd H l o) :=
  ⟨fun b u m h => by rw [upd_ne (ne_of_none h n)]; exact s.keep b u m h, fun t xs h => by rw [upd_ne (ne_of_none h n)]; exact s.tups t xs h⟩
theorem menu8v (a b c d e f g h : V) (x : Int) (h0 : 0 ≤ x) (h8 : x < 8) : ∃ v, atI ([a, b, c, d, e, f, g, h] : List V) x = some v ∧ (v = a ∨ v = b ∨ v = c ∨ v = d ∨ v = e ∨ v = f ∨ v = g ∨ v = h) := by
  have hx : x = 0 ∨ x = 1 ∨ x = 2 ∨ x = 3 ∨ x = 4 ∨ x = 5 ∨ x = 6 ∨ x = 7 := by omega
  rcases hx with rfl | rfl | rfl | rfl | rfl | rfl | rfl | rfl
  · exact ⟨a, rfl, .inl rfl⟩
  · exact ⟨b, rfl, .inr (.inl rfl)⟩
  · exact ⟨c, rfl, .inr (.inr (.inl rfl))⟩
  · exact ⟨d, rfl, .inr (.inr (.inr (.inl rfl)))⟩
  · exact ⟨e, rfl, .inr (.inr (.inr (.inr (.inl rfl))))⟩
  · exact ⟨f, rfl, .inr (.inr (.inr (.inr (.inr (.inl rfl)))))⟩
  · exact ⟨g, rfl, .inr (.inr (.inr (.inr (.inr (.inr (.inl rfl))))))⟩
  · exact ⟨h, rfl, .inr (.inr (.inr (.inr (.inr (.inr (.inr rfl))))))⟩
theorem takesF {X : Cx} : Takes X WF := fun _ _ ⟨_, _, _, _, _, _, _, _, _, _, _, _, _, _, _, _, h⟩ => h.elim
theorem ok_catch (n : Nat) (F : Df K mg "_law_catch" s_L_catch) (U : Use P w K mg base "_law_next" ["_law_dice_here", "_law_many"] 1 (spNext K)) (UF : Use P w K mg base "_law_free" ["_law_d"] 2 (spFree K)) (UW : Use P w K mg base "_law_with" ["_law_names", "_law_some"] 1 spWith)
    (UL : Use P w K mg base "_law_leaf" ["_law_d", "_law_names"] 3 (spLeaf K)) (UE : Use P w K mg base "_law_expr" ["_law_d", "_law_names", "_law_room"] (2 * n + 6) (spExpr K n)) :
    Use P w K mg base "_law_catch" ["_law_d", "_law_names", "_law_room"] (2 * n + 7) (spUse K n) := by
  refine F.use scCatch (fun _ _ _ _ _ _ us hl => match us, hl with | [_, _, _], _ => rfl) (fun vs H Q E h => ?_) (fun cdv f A outer s H vs Q E hr h => ?_)
  · obtain ⟨D, d, a, nm, rm, ns, S, r, rfl, _⟩ := h
    rfl
  · obtain ⟨D, d, a, nm, rm, ns, S, r, rfl, g, hrn, q⟩ := h
    have hr1 : Room 1 _ := hr.mono (by omega)
    have hr2 : Room 2 _ := hr.mono (by omega)
    have hr3 : Room 3 _ := hr.mono (by omega)
    refine ⟨_, pss_cons (ps_set (i := 3) scCatch.nd rfl (Or.inl rfl) (pe_use UF hr2 (pa_cons (pv 0) pa_nil)))
      (pss_cons (ps_set (i := 4) scCatch.nd rfl (Or.inl rfl) (pe_ix ix_str pe_str (pe_bmS PySem.F.plainAttrs_str PySem.F.slot_str_index PySem.F.type_str_index (mt_indexX rfl takesF) pe_str (pa_cons (pv 3) pa_nil)) (fun _ _ => rfl)))
      (pss_cons (ps_set (i := 5) scCatch.nd rfl (Or.inl rfl) (pe_use UE hr (pa_cons (pv 0) (pa_cons (pv 1) (pa_cons (pv 2) pa_nil)))))
      (pss_cons (ps_if (pt_cmpR op_gt (pe_use U hr1 (pa_cons (pv 0) (pa_cons pe_int pa_nil))) pe_int (nomark _))
        (pss_one (ps_set (i := 5) scCatch.nd rfl (Or.inl rfl) (pe_tup (pa_cons pe_str (pa_cons (pe_tup (pa_cons pe_str (pa_cons (pe_use UL hr3 (pa_cons (pv 0) (pa_cons (pv 1) pa_nil))) pa_nil))) (pa_cons (pv 5) pa_nil)))))) pss_nil)
      (pss_cons (ps_set (i := 6) scCatch.nd rfl (Or.inl rfl) (pe_use UW hr1 (pa_cons (pv 1) (pa_cons (pe_disp (pps_cons (pv 3) pe_str (pps_cons (pv 4) pe_str pps_nil)) (by rfl) (by rfl) (fun z => by cases z) (by decide)) pa_nil))))
      (pss_cons (ps_set (i := 7) scCatch.nd rfl (Or.inl rfl) (pe_tup (pa_cons pe_str (pa_cons (pe_tup (pa_cons pe_str (pa_cons (pv 4) pa_nil))) (pa_cons (pe_use UL hr3 (pa_cons (pv 0) (pa_cons (pv 6) pa_nil))) pa_nil)))))
      (pss_cons (ps_set (i := 8) scCatch.nd rfl (Or.inl rfl) (pe_tup (pa_cons pe_str (pa_cons (pe_tup (pa_cons pe_str (pa_cons (pv 4) pa_nil))) (pa_cons (pe_use UE hr (pa_cons (pv 0) (pa_cons (pv 6) (pa_cons (pv 2) pa_nil)))) pa_nil)))))
      (pss_cons (ps_set (i := 9) scCatch.nd rfl (Or.inl rfl) (pe_tup (pa_cons pe_str (pa_cons (pe_tup (pa_cons pe_str (pa_cons (pe_tup (pa_cons pe_str (pa_cons (pv 4) pa_nil))) (pa_cons (pe_tup (pa_cons pe_str (pa_cons pe_int pa_nil))) pa_nil)))) (pa_cons (pv 8) pa_nil)))))
      (pss_cons (ps_set (i := 10) scCatch.nd rfl (Or.inl rfl) (pe_lst (pa_cons (pe_use UE hr (pa_cons (pv 0) (pa_cons (pv 6) (pa_cons (pv 2) pa_nil)))) (pa_cons (pv 7) (pa_cons (pv 8) (pa_cons (pv 9)
          (pa_cons (pe_tup (pa_cons pe_str (pa_cons (pv 3) (pa_cons (pv 8) (pa_cons (pe_tup (pa_cons pe_str (pa_cons (pe_tup (pa_cons pe_str (pa_cons (pv 3) pa_nil))) (pa_cons (pe_tup (pa_cons pe_str (pa_cons (pe_tup (pa_cons pe_str (pa_cons (pv 4) pa_nil))) pa_nil))) pa_nil)))) pa_nil))))) pa_nil)))))))
      (pss_cons (ps_set (i := 10) scCatch.nd rfl (Or.inl rfl) (pe_op op_cat (pv 10) (pe_lst
          (pa_cons (pe_tup (pa_cons pe_str (pa_cons (pe_tup (pa_cons pe_str (pa_cons (pe_tup (pa_cons pe_str (pa_cons (pv 3) pa_nil))) pa_nil))) (pa_cons (pv 7) pa_nil))))
          (pa_cons (pe_tup (pa_cons pe_str (pa_cons (pe_tup (pa_cons pe_str (pa_cons (pv 3) pa_nil))) (pa_cons (pv 8) (pa_cons (pv 7) pa_nil))))) pa_nil)))))
      (pss_cons (ps_expr (pe_bm PySem.F.plainAttrs_list PySem.F.slot_list_append PySem.F.type_list_append mt_append (pv 10) (pa_cons (pe_tup (pa_cons pe_str (pa_cons (pe_tup (pa_cons pe_str (pa_cons (pe_tup (pa_cons pe_str (pa_cons (pv 4) pa_nil))) pa_nil))) (pa_cons (pv 7) pa_nil)))) pa_nil)))
      (pss_one (ps_ret (pe_tup (pa_cons pe_str (pa_cons (pv 5) (pa_cons (pv 3) (pa_cons (pv 4) (pa_cons (pe_ix ix_list (pv 10) (pe_use U hr1 (pa_cons (pv 0) (pa_cons pe_int pa_nil))) (fun _ _ => rfl)) pa_nil)))))))))))))))))), ?_⟩
    have d1 := dm_pos r
    have m1 := (mx_ge r).1
    refine ⟨_, rfl, D, d, a, ns, rfl, g.di, fun x H1 hx st1 hD1 => ?_⟩
    have g1 := g.nx st1 hD1
    have s1 := st1.mono g.sub
    obtain ⟨ix, eix, c, ec, hk, hxk⟩ := index_letter hx
    refine ⟨rfl, _, rfl, _, _, rfl, rfl, fun k2 hk2 => ?_, fun hn => ?_⟩
    case refine_2 => rw [eix] at hn; cases hn
    rw [eix] at hk2
    cases hk2
    refine ⟨_, _, c, rfl, rfl, by decide, ec, ?_⟩
    generalize hkk : (⟨#[c]⟩ : Str) = k at *
    refine ⟨_, rfl, _, rfl, _, rfl, D, d, a, nm, rm, ns, S, r, rfl, g1, hrn, fun v e H3 hv hg ⟨r2, hr2', hle2, hd2, hz2⟩ st3 hD3 => ?_⟩
    have g3 := g1.ex st3 hD3 hr2'
    have s3 := s1.trans st3
    refine ⟨_, rfl, D, d, a, ns, 4, rfl, g3.di, by decide, by decide, fun y H4 y0 y1 st4 hD4 => ?_⟩
    have g4 := g3.nx st4 hD4
    have s4 := s3.trans (st4.mono g.sub)
    refine ⟨_, _, rfl, rfl, _, rfl, ?_⟩
    -- the body: as it came, or behind a throw
    refine ite2 (fun _ => ?_) (fun _ => ?_)
    case' refine_1 =>
      refine ⟨_, rfl, _, rfl, D, d, a, nm, ns, S, rfl, g4.di, g4.na, fun v5 e5 H5 hv5 hg5 ⟨z5, p5⟩ st5 hD5 => ?_⟩
      refine ⟨(by show 2 ≤ sizeLine; decide), fun t nt => ⟨_, rfl, (by show 3 ≤ sizeLine; decide), fun t2 nt2 => ?_⟩⟩
      have gB := ((g4.nx st5 hD5).up nt (.tup [.str "throw", v5])).up nt2 (.tup [.str "add", .ref t, v])
      have sB := ((s4.trans (st5.mono g.sub)).up nt (.tup [.str "throw", v5])).up nt2 (.tup [.str "add", .ref t, v])
      have aB : AtE _ (.ref t2) (.two "add" (.one "throw" e5) e) := ⟨t2, _, _, rfl, upd_same, ⟨t, _, rfl, by rw [upd_ne (ne_of_none upd_same nt2)]; exact upd_same, ((hv5.up nt _).up nt2 _)⟩, ((((hv.step st4).step st5).up nt _).up nt2 _)⟩
      have gdB : Good S (.two "add" (.one "throw" e5) e) := ⟨by decide +kernel, ⟨by decide +kernel, hg5⟩, hg⟩
      have dB : ((Ex.two "add" (.one "throw" e5) e).deep : Int) ≤ 2 + dm r := by simp only [Ex.deep, p5]; omega
      have zB : ((Ex.two "add" (.one "throw" e5) e).size : Int) + 17 * mx r2 ≤ 4 + 17 * mx r := by simp only [Ex.size, z5]; omega
      generalize (Ex.two "add" (.one "throw" e5) e) = eb at aB gdB dB zB
      generalize (V.ref t2) = vb at aB ⊢
      generalize (upd (upd H5 t (.tup [.str "throw", v5])) t2 (.tup [.str "add", .ref t, v])) = HB at gB sB aB ⊢
    case' refine_2 =>
      have gB := g4
      have sB := s4
      have aB : AtE H4 v e := hv.step st4
      have gdB : Good S e := hg
      have dB : (e.deep : Int) ≤ 2 + dm r := by omega
      have zB : (e.size : Int) + 17 * mx r2 ≤ 4 + 17 * mx r := by omega
      generalize e = eb at aB gdB dB zB
      generalize v = vb at aB ⊢
      generalize H4 = HB at gB sB aB ⊢
    all_goals (
      refine ⟨_, rfl, fun p np => ⟨_, rfl, _, rfl, upd_same, [((Sum.inr x : Key), V.str "number"), (Sum.inr k, V.str "rest")], rfl, (by show 2 ≤ 15; decide), ?_⟩⟩
      rw [upd_upd]
      have gC := gB.up np (.dK (mergeK [] [((Sum.inr x : Key), V.str "number"), (Sum.inr k, V.str "rest")]))
      refine ⟨nm, p, S, [x, k], rfl, gC.na, .two hx hk hxk upd_same, fun mi H6 sm6 nn6 na6 => ?_⟩
      have g6 := (gC.same sm6).with na6
      have s6 := (sB.up np (.dK (mergeK [] [((Sum.inr x : Key), V.str "number"), (Sum.inr k, V.str "rest")]))).trans (Stp.same sm6)
      have a6 : AtE H6 vb eb := (aB.up np _).step (D := []) (Stp.same sm6)
      -- one
      refine ⟨_, rfl, (by show 2 ≤ sizeLine; decide), fun t1 n1 => ⟨_, rfl, _, rfl, D, d, a, mi, ns, _, rfl, (g6.up n1 _).di, (g6.up n1 _).na, fun v7 e7 H7 hv7 hg7 ⟨z7, p7⟩ st7 hD7 => ?_⟩⟩
      have g7 := (g6.up n1 _).nx st7 hD7
      have s7 := (s6.up n1 _).trans (st7.mono g.sub)
      refine ⟨(by show 3 ≤ sizeLine; decide), fun t2 n2 => ?_⟩
      -- two
      refine ⟨_, rfl, (by show 2 ≤ sizeLine; decide), fun t3 n3 => ⟨_, rfl, _, rfl, _, rfl, D, d, a, mi, rm, ns, _, r2, rfl, (g7.up n2 _).up n3 _, Int.le_trans hle2 hrn, fun v8 e8 H8 hv8 hg8 ⟨r3, hr3', hle3, hd3, hz3⟩ st8 hD8 => ?_⟩⟩
      have g8 := ((g7.up n2 _).up n3 _).ex st8 hD8 hr3'
      have s8 := ((s7.up n2 _).up n3 _).trans st8
      refine ⟨(by show 3 ≤ sizeLine; decide), fun t4 n4 => ?_⟩
      -- twice
      refine ⟨_, rfl, (by show 2 ≤ sizeLine; decide), fun t5 n5 => ⟨(by show 2 ≤ sizeLine; decide), fun t6 n6 => ⟨(by show 3 ≤ sizeLine; decide), fun t7 n7 => ⟨_, rfl, (by show 3 ≤ sizeLine; decide), fun t8 n8 => ?_⟩⟩⟩⟩
      -- some
      have g9 := (((((g8.up n4 _).up n5 _).up n6 _).up n7 _).up n8 (.tup [.str "add", .ref t7, .ref t4]))
      have s9 := (((((s8.up n4 _).up n5 _).up n6 _).up n7 _).up n8 (.tup [.str "add", .ref t7, .ref t4]))
      refine ⟨_, rfl, _, rfl, _, rfl, D, d, a, mi, rm, ns, _, r3, rfl, g9, by omega, fun v9 e9 H9 hv9 hg9 ⟨r4, hr4', hle4, hd4, hz4⟩ st9 hD9 => ?_⟩
      have g10 := g9.ex st9 hD9 hr4'
      refine ⟨_, rfl, _, rfl, _, rfl, _, rfl, _, rfl, _, rfl, (by show 2 ≤ sizeLine; decide), fun ta na => ⟨_, rfl, (by show 2 ≤ sizeLine; decide), fun tb nb => ⟨(by show 2 ≤ sizeLine; decide), fun tc nc => ⟨(by show 3 ≤ sizeLine; decide), fun td nd => ⟨(by show 4 ≤ sizeLine; decide), fun te ne => ⟨(by show 5 ≤ sizeLine; decide), fun l1 nl1 => ?_⟩⟩⟩⟩⟩⟩
      refine ⟨_, rfl, _, rfl, (by show 2 ≤ sizeLine; decide), fun tf nf => ⟨(by show 2 ≤ sizeLine; decide), fun tg ng => ⟨_, rfl, (by show 3 ≤ sizeLine; decide), fun th nh => ⟨_, rfl, (by show 2 ≤ sizeLine; decide), fun ti ni => ⟨_, rfl, _, rfl, (by show 4 ≤ sizeLine; decide), fun tj nj => ⟨(by show 2 ≤ sizeLine; decide), fun l2 nl2 => ?_⟩⟩⟩⟩⟩⟩
      have k2l := (((((Stp.new (D := []) nf _).up ng _).up nh _).up ni _).up nj _).up nl2 (.lst [.ref th, .ref tj])
      refine ⟨l1, l2, _, _, rfl, rfl, k2l.keep _ _ (by simp) upd_same, upd_same, (by show 7 ≤ sizeLine; decide), fun l3 nl3 => ?_⟩
      refine ⟨_, rfl, .inl ⟨rfl, _, SqL.of upd_same⟩, _, rfl, (by show 2 ≤ sizeLine; decide), fun tk nk => ⟨(by show 2 ≤ sizeLine; decide), fun tm nm' => ⟨_, rfl, (by show 3 ≤ sizeLine; decide), fun tn nn => ?_⟩⟩⟩
      have k3l := ((Stp.new (D := []) nk _).up nm' _).up nn (.tup [.str "add", .ref tm, .ref t2])
      have e3l := k3l.keep _ _ (by simp) (upd_same (a := l3))
      refine ⟨l3, _, _, rfl, rfl, e3l, (by show 7 < sizeLine; decide), ?_⟩
      have c3 := ((((((((((((Stp.new (D := []) na _).up nb _).up nc _).up nd _).up ne _).up nl1 _).up nf _).up ng _).up nh _).up ni _).up nj _).up nl2 (.lst [.ref th, .ref tj]))
      have n3' : H9 l3 = none := c3.was (by simp) nl3
      have cn := (((c3.up nl3 _).up nk _).up nm' _).up nn (.tup [.str "add", .ref tm, .ref t2])
      have cL := cn.putnew n3' (.lst ([v9, .ref t2, .ref t4, .ref t8, .ref te] ++ [.ref th, .ref tj] ++ [.ref tn]))
      have gL := g10.same cL.nil
      refine ⟨_, rfl, _, rfl, _, rfl, _, rfl, _, rfl, D, d, a, ns, 8, rfl, gL.di, by decide, by decide, fun z H11 z0 z1 st11 hD11 => ?_⟩
      have l3d : l3 ∉ [d] := g10.di.fresh n3'
      have el3 : H11 l3 = some (.lst ([v9, .ref t2, .ref t4, .ref t8, .ref te] ++ [.ref th, .ref tj] ++ [.ref tn])) := st11.keep _ _ l3d upd_same
      obtain ⟨vz, evz, hvz⟩ := menu8v v9 (.ref t2) (.ref t4) (.ref t8) (.ref te) (.ref th) (.ref tj) (.ref tn) z z0 z1
      refine ⟨l3, _, _, _, rfl, rfl, SqL.of el3, evz, (by show 5 ≤ sizeLine; decide), fun p9 np9 => ?_⟩
      have kL : Tk (upd _ l3 (.lst ([v9, .ref t2, .ref t4, .ref t8, .ref te] ++ [.ref th, .ref tj] ++ [.ref tn]))) H11 := st11.tups
      have kn : Tk _ H11 := fun t xs h => kL _ _ ((Stp.put (D := [l3]) (by simp) (fun xs z => by rw [e3l] at z; cases z) _).tups t xs h)
      have km := Tk.back nn kn
      have kk := Tk.back nm' km
      have k3 := Tk.back nk kk
      have kj2 := Tk.back nl3 k3
      have kj := Tk.back nl2 kj2
      have ki := Tk.back nj kj
      have kh := Tk.back ni ki
      have kg := Tk.back nh kh
      have kf := Tk.back ng kg
      have kl1 := Tk.back nf kf
      have ke := Tk.back nl1 kl1
      have kd := Tk.back ne ke
      have kc := Tk.back nd kd
      have kb := Tk.back nc kc
      have ka := Tk.back nb kb
      have k9 : Tk H9 H11 := Tk.back na ka
      have k8' := fun t xs h => k9 t xs (st9.tups t xs h)
      have k7 := Tk.back n8 k8'
      have k6 := Tk.back n7 k7
      have k5 := Tk.back n6 k6
      have k4 := Tk.back n5 k5
      have kH8 : Tk H8 H11 := Tk.back n4 k4
      have k3' := fun t xs h => kH8 t xs (st8.tups t xs h)
      have k2 := Tk.back n3 k3'
      have kH7 : Tk H7 H11 := Tk.back n2 k2
      have k1 := fun t xs h => kH7 t xs (st7.tups t xs h)
      have kH6 : Tk H6 H11 := Tk.back n1 k1
      have f1 := k1 _ _ upd_same
      have f2 := k2 _ _ upd_same
      have f3 := k3' _ _ upd_same
      have f4 := k4 _ _ upd_same
      have f5 := k5 _ _ upd_same
      have f6 := k6 _ _ upd_same
      have f7 := k7 _ _ upd_same
      have f8 := k8' _ _ upd_same
      have fa := ka _ _ upd_same
      have fb := kb _ _ upd_same
      have fc := kc _ _ upd_same
      have fd := kd _ _ upd_same
      have fe := ke _ _ upd_same
      have ff := kf _ _ upd_same
      have fg := kg _ _ upd_same
      have fh := kh _ _ upd_same
      have fi := ki _ _ upd_same
      have fj := kj _ _ upd_same
      have fk := kk _ _ upd_same
      have fm := km _ _ upd_same
      have fn := kn _ _ upd_same
      have aOne : AtE H11 (.ref t2) (.two "go" (.name k) e7) := ⟨t2, _, _, rfl, f2, ⟨t1, rfl, f1⟩, hv7.tups kH7⟩
      have aTwo : AtE H11 (.ref t4) (.two "go" (.name k) e8) := ⟨t4, _, _, rfl, f4, ⟨t3, rfl, f3⟩, hv8.tups kH8⟩
      have a11 : AtE H11 vb eb := a6.tups kH6
      have gL11 : H11 rm = some (.lst [.int r4]) := (gL.nx st11 hD11).ro
      have sF := ((((s9.trans st9).trans (cL.mono fun b hb => by cases hb)).trans (st11.mono g.sub)).up np9 (.tup [.str "catch", vb, .str x, .str k, vz]))
      have mm := mx_mono hle3
      have mm2 := mx_mono hle4
      have mm3 := mx_mono hle2
      have dd2 : dm r2 ≤ dm r := by unfold dm; omega
      have dd3 : dm r3 ≤ dm r2 := by unfold dm; omega
      have p0 := e8.deep_pos
      have hand : ∃ eh, AtE H11 vz eh ∧ Good (x :: k :: S) eh ∧ (eh.deep : Int) ≤ 3 + dm r ∧ (eh.size : Int) + 17 * mx r4 ≤ 8 + 17 * mx r2 := by
        have gk : k ∈ (x :: k :: S) := by simp
        have gx : x ∈ (x :: k :: S) := by simp
        have gOne : Good (x :: k :: S) (.two "go" (.name k) e7) := ⟨by decide +kernel, gk, hg7⟩
        have gTwo : Good (x :: k :: S) (.two "go" (.name k) e8) := ⟨by decide +kernel, gk, hg8⟩
        have aX : ∀ {t : Addr}, H11 t = some (.tup [.str "name", .str x]) → AtE H11 (.ref t) (.name x) := fun h => ⟨_, rfl, h⟩
        have aK : ∀ {t : Addr}, H11 t = some (.tup [.str "name", .str k]) → AtE H11 (.ref t) (.name k) := fun h => ⟨_, rfl, h⟩
        rcases hvz with rfl | rfl | rfl | rfl | rfl | rfl | rfl | rfl
        · exact ⟨e9, hv9.tups k9, hg9, by omega, by omega⟩
        · exact ⟨_, aOne, gOne, by simp only [Ex.deep, p7]; omega, by simp only [Ex.size, z7]; omega⟩
        · exact ⟨_, aTwo, gTwo, by simp only [Ex.deep]; omega, by simp only [Ex.size]; omega⟩
        · exact ⟨.two "add" (.two "go" (.name k) (.num 1)) (.two "go" (.name k) e8), ⟨t8, _, _, rfl, f8, ⟨t7, _, _, rfl, f7, aK f5, ⟨t6, rfl, f6⟩⟩, aTwo⟩, ⟨by decide +kernel, ⟨by decide +kernel, gk, ⟨by decide, by decide⟩⟩, gTwo⟩, by simp only [Ex.deep]; omega, by simp only [Ex.size]; omega⟩
        · exact ⟨.lt x (.two "go" (.name k) e8) (.two "add" (.name x) (.one "drop" (.name k))), ⟨te, _, _, rfl, fe, aTwo, td, _, _, rfl, fd, aX fa, tc, _, rfl, fc, aK fb⟩, ⟨hx, gTwo, by decide +kernel, List.mem_cons_self, by decide +kernel, List.mem_cons_of_mem _ gk⟩, by simp only [Ex.deep]; omega, by simp only [Ex.size]; omega⟩
        · exact ⟨.two "add" (.one "say" (.name x)) (.two "go" (.name k) e7), ⟨th, _, _, rfl, fh, ⟨tg, _, rfl, fg, aX ff⟩, aOne⟩, ⟨by decide +kernel, ⟨by decide +kernel, gx⟩, gOne⟩, by simp only [Ex.deep, p7]; omega, by simp only [Ex.size, z7]; omega⟩
        · exact ⟨.ite (.name x) (.two "go" (.name k) e8) (.two "go" (.name k) e7), ⟨tj, _, _, _, rfl, fj, aX fi, aTwo, aOne⟩, ⟨gx, gTwo, gOne⟩, by simp only [Ex.deep, p7]; omega, by simp only [Ex.size, z7]; omega⟩
        · exact ⟨.two "add" (.one "drop" (.name k)) (.two "go" (.name k) e7), ⟨tn, _, _, rfl, fn, ⟨tm, _, rfl, fm, aK fk⟩, aOne⟩, ⟨by decide +kernel, ⟨by decide +kernel, gk⟩, gOne⟩, by simp only [Ex.deep, p7]; omega, by simp only [Ex.size, z7]; omega⟩
      obtain ⟨eh, aH, gH, dH, zH⟩ := hand
      refine q _ (.ct eb x k eh) _ ⟨p9, _, _, rfl, upd_same, a11.up np9 _, aH.up np9 _⟩ ⟨hx, hk, hxk, gdB, gH⟩ ⟨r4, by rw [upd_ne (ne_of_none gL11 np9)]; exact gL11, by omega, ?_, ?_⟩ sF (hD11.up np9)
      · simp only [Ex.deep]; omega
      · simp only [Ex.size]; omega)
end
end Wr
namespace Wr
open PySem PySem.Spec PyProof.Rows L2
section
variable {P : Program} {w : World} {K : PySem.W.Frag} {mg : Str → Option Value} {base : Heap}
theorem use_never {x : Str} {st : Stmt} {ps : List Str} (F : Df K mg x st) (b : BindF x st ps) (k : Nat) : Use P w K mg base x ps k (fun _ _ _ _ => False) := by
  obtain ⟨f, fd, F, m⟩ := F
  exact ⟨f, fd, ⟨fun vs H Q E h => h.elim, fun A outer s H args us vs Q E _ _ _ _ h => h.elim⟩, m, F.kp, F.bindsN b⟩
theorem scExpr : FnScope ["_law_d", "_law_names", "_law_room", "_law_way", "_law_word", "_law_one"] ["_law_d", "_law_names", "_law_room"] (defScope s_L_expr) := ⟨rfl, rfl, rfl, by decide +kernel, rfl, by decide +kernel, by decide +kernel⟩
theorem word3 (x : Int) (h0 : 0 ≤ x) (h3 : x < 3) : ∃ k : Str, atI ([.str "add", .str "take", .str "less"] : List V) x = some (.str k) ∧ k ∈ twos := by
  have hx : x = 0 ∨ x = 1 ∨ x = 2 := by omega
  rcases hx with rfl | rfl | rfl
  · exact ⟨_, rfl, by decide +kernel⟩
  · exact ⟨_, rfl, by decide +kernel⟩
  · exact ⟨_, rfl, by decide +kernel⟩
theorem ok_expr (n : Nat) {spI spL spC spU : Sp} (hI : 1 ≤ n → spI = spExpr K (n - 1) ∧ spL = spLet K (n - 1) ∧ spC = spUse K (n - 1) ∧ spU = spUse K (n - 1)) (F : Df K mg "_law_expr" s_L_expr)
    (U : Use P w K mg base "_law_next" ["_law_dice_here", "_law_many"] 1 (spNext K)) (UL : Use P w K mg base "_law_leaf" ["_law_d", "_law_names"] 3 (spLeaf K)) (UE : Use P w K mg base "_law_expr" ["_law_d", "_law_names", "_law_room"] (2 * n + 4) spI)
    (UT : Use P w K mg base "_law_let" ["_law_d", "_law_names", "_law_room", "_law_way"] (2 * n + 5) spL) (UC : Use P w K mg base "_law_catch" ["_law_d", "_law_names", "_law_room"] (2 * n + 5) spC) (UU : Use P w K mg base "_law_use" ["_law_d", "_law_names", "_law_room"] (2 * n + 5) spU) :
    Use P w K mg base "_law_expr" ["_law_d", "_law_names", "_law_room"] (2 * n + 6) (spExpr K n) := by
  refine F.use scExpr (fun _ _ _ _ _ _ us hl => match us, hl with | [_, _, _], _ => rfl) (fun vs H Q E h => ?_) (fun cdv f A outer s H vs Q E hr h => ?_)
  · obtain ⟨D, d, a, nm, rm, ns, S, r, rfl, _⟩ := h
    rfl
  · obtain ⟨D, d, a, nm, rm, ns, S, r, rfl, g, hrn, q⟩ := h
    have hr1 : Room 1 _ := hr.mono (by omega)
    have hr3 : Room 3 _ := hr.mono (by omega)
    have hrE : Room (2 * n + 4) _ := hr.mono (by omega)
    refine ⟨_, pss_cons (ps_asg (pe_op op_sub (pe_ix ix_list (pv 2) pe_int (fun _ _ => rfl)) pe_int) (pg_sub (pv 2) pe_int set_list))
      (pss_cons (ps_set (i := 3) scExpr.nd rfl (Or.inl rfl) (pe_use U hr1 (pa_cons (pv 0) (pa_cons pe_int pa_nil))))
      (pss_cons (ps_if (PW.pt (pw_or (pt_cmpR op_lt (pe_ix ix_list (pv 2) pe_int (fun _ _ => rfl)) pe_int (nomark _)) (pw_or1 (pt_cmpR op_lt (pv 3) pe_int (nomark _))))) (pss_one (ps_ret (pe_use UL hr3 (pa_cons (pv 0) (pa_cons (pv 1) pa_nil))))) pss_nil)
      (pss_cons (ps_if (pt_cmpR op_lt (pv 3) pe_int (nomark _))
          (pss_cons (ps_set (i := 4) scExpr.nd rfl (Or.inl rfl) (pe_ix ix_list (pe_lst (pa_cons pe_str (pa_cons pe_str (pa_cons pe_str pa_nil)))) (pe_op op_sub (pv 3) pe_int) (fun _ _ => rfl)))
          (pss_cons (ps_set (i := 5) scExpr.nd rfl (Or.inl rfl) (pe_use UE hrE (pa_cons (pv 0) (pa_cons (pv 1) (pa_cons (pv 2) pa_nil)))))
          (pss_one (ps_ret (pe_tup (pa_cons (pv 4) (pa_cons (pv 5) (pa_cons (pe_use UE hrE (pa_cons (pv 0) (pa_cons (pv 1) (pa_cons (pv 2) pa_nil)))) pa_nil)))))))) pss_nil)
      (pss_cons (ps_if (pt_cmpR op_eq (pv 3) pe_int (nomark _)) (pss_one (ps_ret (pe_tup (pa_cons pe_str (pa_cons (pe_use UE hrE (pa_cons (pv 0) (pa_cons (pv 1) (pa_cons (pv 2) pa_nil)))) (pa_cons (pe_use UE hrE (pa_cons (pv 0) (pa_cons (pv 1) (pa_cons (pv 2) pa_nil)))) (pa_cons (pe_use UE hrE (pa_cons (pv 0) (pa_cons (pv 1) (pa_cons (pv 2) pa_nil)))) pa_nil))))))) pss_nil)
      (pss_cons (ps_if (pt_cmpR op_lt (pv 3) pe_int (nomark _)) (pss_one (ps_ret (pe_tup (pa_cons pe_str (pa_cons (pe_use UE hrE (pa_cons (pv 0) (pa_cons (pv 1) (pa_cons (pv 2) pa_nil)))) pa_nil))))) pss_nil)
      (pss_cons (ps_if (pt_cmpR op_lt (pv 3) pe_int (nomark _)) (pss_one (ps_ret (pe_use UT hr (pa_cons (pv 0) (pa_cons (pv 1) (pa_cons (pv 2) (pa_cons (pv 3) pa_nil))))))) pss_nil)
      (pss_cons (ps_if (pt_cmpR op_lt (pv 3) pe_int (nomark _)) (pss_one (ps_ret (pe_use UC hr (pa_cons (pv 0) (pa_cons (pv 1) (pa_cons (pv 2) pa_nil)))))) pss_nil)
      (pss_cons (ps_if (pt_cmpR op_lt (pv 3) pe_int (nomark _)) (pss_one (ps_ret (pe_tup (pa_cons pe_str (pa_cons (pe_use UE hrE (pa_cons (pv 0) (pa_cons (pv 1) (pa_cons (pv 2) pa_nil)))) pa_nil))))) pss_nil)
      (pss_cons (ps_if (pt_cmpR op_lt (pv 3) pe_int (nomark _)) (pss_one (ps_ret (pe_tup (pa_cons pe_str (pa_cons (pe_use UE hrE (pa_cons (pv 0) (pa_cons (pv 1) (pa_cons (pv 2) pa_nil)))) (pa_cons (pe_tup (pa_cons pe_str (pa_cons (pe_use UE hrE (pa_cons (pv 0) (pa_cons (pv 1) (pa_cons (pv 2) pa_nil)))) pa_nil))) pa_nil)))))) pss_nil)
      (pss_cons (ps_if (pt_cmpR op_eq (pv 3) pe_int (nomark _)) (pss_one (ps_ret (pe_tup (pa_cons pe_str (pa_cons (pe_use UE hrE (pa_cons (pv 0) (pa_cons (pv 1) (pa_cons (pv 2) pa_nil)))) (pa_cons (pe_use UE hrE (pa_cons (pv 0) (pa_cons (pv 1) (pa_cons (pv 2) pa_nil)))) pa_nil)))))) pss_nil)
      (pss_cons (ps_if (pt_cmpR op_eq (pv 3) pe_int (nomark _)) (pss_one (ps_ret (pe_ifExp (pt_cmpR op_eq (pe_use U hr1 (pa_cons (pv 0) (pa_cons pe_int pa_nil))) pe_int (nomark _)) (pe_tup (pa_cons pe_str pa_nil)) (pe_use UL hr3 (pa_cons (pv 0) (pa_cons (pv 1) pa_nil)))))) pss_nil)
      (pss_one (ps_ret (pe_use UU hr (pa_cons (pv 0) (pa_cons (pv 1) (pa_cons (pv 2) pa_nil))))))))))))))))), ?_⟩
    have d1 := dm_pos r
    have m1 := (mx_ge r)
    obtain ⟨sd, gd⟩ := g.dec (r' := r - 1)
    refine ⟨_, rfl, rm, _, _, _, rfl, rfl, SqL.of g.ro, rfl, _, _, rfl, rfl, _, rfl, rm, _, _, _, rfl, rfl, g.ro, rfl, ?_⟩
    refine ⟨_, rfl, D, d, a, ns, 22, rfl, gd.di, by decide, by decide, fun x H2 x0 x1 st2 hD2 => ?_⟩
    have g2 := gd.nx st2 hD2
    have s2 := sd.trans (st2.mono g.sub)
    -- a leaf
    have leaf : ∀ (v : V) (e : Ex) (H3 : Hp), AtE H3 v e → Good S e → e.size = 1 ∧ e.deep = 1 → Stp [d] H2 H3 → Dice K H3 D d a ns → Q v H3 := fun v e H3 hv hg ⟨z, p⟩ st hD3 => by
      refine q v e H3 hv hg ⟨r - 1, (g2.nx st hD3).ro, by omega, by omega, ?_⟩ (s2.trans (st.mono g.sub)) hD3
      have := mx_mono (show r - 1 ≤ r by omega)
      omega
    refine ⟨_, rfl, rm, _, _, _, rfl, rfl, SqL.of g2.ro, rfl, _, _, rfl, rfl, _, rfl, ?_⟩
    refine ite2 (fun c1 => ?_) (fun c1 => ?_)
    · refine iteT ?_
      exact ⟨_, rfl, _, rfl, D, d, a, nm, ns, S, rfl, hD2, g2.na, leaf⟩
    · refine ⟨_, rfl, _, _, rfl, rfl, _, rfl, ?_⟩
      refine ite2 (fun c2 => ?_) (fun c2 => ?_)
      · exact ⟨_, rfl, _, rfl, D, d, a, nm, ns, S, rfl, hD2, g2.na, leaf⟩
      have h5 : 4 ≤ r - 1 := by
        have z := of_decide_eq_false (Bool.eq_false_iff.mpr c1)
        omega
      have hn : 1 ≤ n := by omega
      obtain ⟨rfl, rfl, rfl, rfl⟩ := hI hn
      have en : ((n - 1 : Nat) : Int) + 4 = (n : Int) + 3 := by omega
      have hmx : mx (r - 1) = mx r - 1 := by unfold mx; split <;> split <;> omega
      have hdm : dm (r - 1) = dm r - 4 := by unfold dm; omega
      have mono : ∀ {u t : Int}, u ≤ t → mx u ≤ mx t ∧ dm u ≤ dm t := fun h => ⟨mx_mono h, by unfold dm; have := mx_mono h; omega⟩
      have s2r := s2
      -- two parts behind one another
      have two : ∀ (word : Str), word ∈ twos → ∀ (H5 : Hp) (v1 v2 : V) (e1 e2 : Ex) (r3 : Int) (r4 : Int), AtE H5 v1 e1 → AtE H5 v2 e2 → Good S e1 → Good S e2 → r3 ≤ r - 1 → (e1.deep : Int) ≤ 0 + dm (r - 1) → (e1.size : Int) + 17 * mx r3 ≤ 1 + 17 * mx (r - 1) →
          r4 ≤ r3 → (e2.deep : Int) ≤ 1 + dm r3 → (e2.size : Int) + 17 * mx r4 ≤ 2 + 17 * mx r3 → Stp [d, rm] H H5 → Dice K H5 D d a ns → H5 rm = some (.lst [.int r4]) → ∀ p, H5 p = none → Q (.ref p) (upd H5 p (.tup [.str word, v1, v2])) := by
        intro word hw H5 v1 v2 e1 e2 r3 r4 h1 h2 g1 g2' a1 a2 a3 a4 a5 a6 st hD5 hr4 p np
        have m3 := mono a1
        refine q _ (.two word e1 e2) _ ⟨p, _, _, rfl, upd_same, h1.up np _, h2.up np _⟩ ⟨hw, g1, g2'⟩ ⟨r4, by rw [upd_ne (ne_of_none hr4 np)]; exact hr4, by omega, ?_, ?_⟩ (st.up np _) (hD5.up np)
        · simp only [Ex.deep]; omega
        · simp only [Ex.size]; omega
      refine ⟨_, rfl, _, _, rfl, rfl, _, rfl, ?_⟩
      refine ite2 (fun c3 => ?_) (fun c3 => ?_)
      · have h2 : 2 ≤ x := by have z := of_decide_eq_false (Bool.eq_false_iff.mpr c2); omega
        have h3 : x < 5 := of_decide_eq_true c3
        obtain ⟨word, ew, hw⟩ := word3 (x - 2) (by omega) (by omega)
        refine ⟨(by show 3 ≤ sizeLine; decide), fun l nl => ⟨_, rfl, _, _, rfl, rfl, l, _, _, _, rfl, rfl, SqL.of upd_same, ew, ?_⟩⟩
        have g3 := g2.up nl (.lst [.str "add", .str "take", .str "less"])
        have s3 := s2.up nl (.lst [.str "add", .str "take", .str "less"])
        refine ⟨_, rfl, _, rfl, _, rfl, D, d, a, nm, rm, ns, S, r - 1, rfl, g3, by omega, fun v1 e1 H4 hv1 hg1 ⟨r3, hr3, hle3, hd3, hz3⟩ st4 hD4 => ?_⟩
        have g4 := g3.ex st4 hD4 hr3
        refine ⟨_, rfl, _, rfl, _, rfl, _, rfl, _, rfl, D, d, a, nm, rm, ns, S, r3, rfl, g4, by omega, fun v2 e2 H5 hv2 hg2 ⟨r4, hr4, hle4, hd4, hz4⟩ st5 hD5 => ?_⟩
        refine ⟨(by show 3 ≤ sizeLine; decide), fun p np => ?_⟩
        exact two word hw H5 v1 v2 e1 e2 r3 r4 (hv1.step st5) hv2 hg1 hg2 hle3 hd3 hz3 hle4 (by omega) (by omega) ((s3.trans st4).trans st5) hD5 hr4 p np
      · refine ⟨_, rfl, rfl, _, rfl, ?_⟩
        refine ite2 (fun c4 => ?_) (fun c4 => ?_)
        · refine ⟨_, rfl, _, rfl, _, rfl, D, d, a, nm, rm, ns, S, r - 1, rfl, g2, by omega, fun v1 e1 H4 hv1 hg1 ⟨r3, hr3, hle3, hd3, hz3⟩ st4 hD4 => ?_⟩
          have g4 := g2.ex st4 hD4 hr3
          refine ⟨_, rfl, _, rfl, _, rfl, D, d, a, nm, rm, ns, S, r3, rfl, g4, by omega, fun v2 e2 H5 hv2 hg2 ⟨r4, hr4, hle4, hd4, hz4⟩ st5 hD5 => ?_⟩
          have g5 := g4.ex st5 hD5 hr4
          refine ⟨_, rfl, _, rfl, _, rfl, D, d, a, nm, rm, ns, S, r4, rfl, g5, by omega, fun v3 e3 H6 hv3 hg3 ⟨r5, hr5, hle5, hd5, hz5⟩ st6 hD6 => ?_⟩
          refine ⟨(by show 4 ≤ sizeLine; decide), fun p np => ?_⟩
          have m3 := mono hle3
          have m4 := mono hle4
          refine q _ (.ite e1 e2 e3) _ ⟨p, _, _, _, rfl, upd_same, ((hv1.step st5).step st6).up np _, (hv2.step st6).up np _, hv3.up np _⟩ ⟨hg1, hg2, hg3⟩ ⟨r5, by rw [upd_ne (ne_of_none hr5 np)]; exact hr5, by omega, ?_, ?_⟩ ((((s2.trans st4).trans st5).trans st6).up np _) (hD6.up np)
          · simp only [Ex.deep]; omega
          · simp only [Ex.size]; omega
        · refine ⟨_, rfl, _, _, rfl, rfl, _, rfl, ?_⟩
          -- one part
          have one : ∀ (word : Str), word ∈ ones → ∀ (v1 : V) (e1 : Ex) (H4 : Hp), AtE H4 v1 e1 → Good S e1 → Left rm (r - 1) 0 1 e1 H4 → Stp [d, rm] H2 H4 → Dice K H4 D d a ns → ∀ p, H4 p = none → Q (.ref p) (upd H4 p (.tup [.str word, v1])) := by
            intro word hw v1 e1 H4 h1 g1 ⟨r3, hr3, hle3, hd3, hz3⟩ st4 hD4 p np
            refine q _ (.one word e1) _ ⟨p, _, rfl, upd_same, h1.up np _⟩ ⟨hw, g1⟩ ⟨r3, by rw [upd_ne (ne_of_none hr3 np)]; exact hr3, by omega, ?_, ?_⟩ ((s2.trans st4).up np _) (hD4.up np)
            · simp only [Ex.deep]; omega
            · simp only [Ex.size]; omega
          -- what another def hands back
          have pass : ∀ (v1 : V) (e1 : Ex) (H4 : Hp), AtE H4 v1 e1 → Good S e1 → Left rm (r - 1) 4 17 e1 H4 → Stp [d, rm] H2 H4 → Dice K H4 D d a ns → Q v1 H4 := fun v1 e1 H4 h1 g1 ⟨r3, hr3, hle3, hd3, hz3⟩ st4 hD4 =>
            q _ e1 _ h1 g1 ⟨r3, hr3, by omega, by omega, by omega⟩ (s2.trans st4) hD4
          refine ite2 (fun c5 => ?_) (fun c5 => ?_)
          · refine ⟨_, rfl, _, rfl, _, rfl, D, d, a, nm, rm, ns, S, r - 1, rfl, g2, by omega, fun v1 e1 H4 hv1 hg1 hl st4 hD4 => ⟨(by show 2 ≤ sizeLine; decide), fun p np => ?_⟩⟩
            exact one "say" (by decide +kernel) v1 e1 H4 hv1 hg1 hl st4 hD4 p np
          · refine ⟨_, rfl, _, _, rfl, rfl, _, rfl, ?_⟩
            refine ite2 (fun c6 => ?_) (fun c6 => ?_)
            · exact ⟨_, rfl, _, rfl, _, rfl, _, rfl, x, D, d, a, nm, rm, ns, S, r - 1, rfl, g2, by omega, pass⟩
            · refine ⟨_, rfl, _, _, rfl, rfl, _, rfl, ?_⟩
              refine ite2 (fun c7 => ?_) (fun c7 => ?_)
              · exact ⟨_, rfl, _, rfl, _, rfl, D, d, a, nm, rm, ns, S, r - 1, rfl, g2, by omega, pass⟩
              · refine ⟨_, rfl, _, _, rfl, rfl, _, rfl, ?_⟩
                refine ite2 (fun c8 => ?_) (fun c8 => ?_)
                · refine ⟨_, rfl, _, rfl, _, rfl, D, d, a, nm, rm, ns, S, r - 1, rfl, g2, by omega, fun v1 e1 H4 hv1 hg1 hl st4 hD4 => ⟨(by show 2 ≤ sizeLine; decide), fun p np => ?_⟩⟩
                  exact one "throw" (by decide +kernel) v1 e1 H4 hv1 hg1 hl st4 hD4 p np
                · refine ⟨_, rfl, _, _, rfl, rfl, _, rfl, ?_⟩
                  refine ite2 (fun c9 => ?_) (fun c9 => ?_)
                  · refine ⟨_, rfl, _, rfl, _, rfl, D, d, a, nm, rm, ns, S, r - 1, rfl, g2, by omega, fun v1 e1 H4 hv1 hg1 ⟨r3, hr3, hle3, hd3, hz3⟩ st4 hD4 => ?_⟩
                    have g4 := g2.ex st4 hD4 hr3
                    refine ⟨_, rfl, _, rfl, _, rfl, D, d, a, nm, rm, ns, S, r3, rfl, g4, by omega, fun v2 e2 H5 hv2 hg2 ⟨r4, hr4, hle4, hd4, hz4⟩ st5 hD5 => ?_⟩
                    refine ⟨(by show 2 ≤ sizeLine; decide), fun t nt => ⟨(by show 3 ≤ sizeLine; decide), fun p np => ?_⟩⟩
                    exact two "last" (by decide +kernel) (upd H5 t (.tup [.str "say", v2])) v1 (.ref t) e1 (.one "say" e2) r3 r4 ((hv1.step st5).up nt _) ⟨t, _, rfl, upd_same, hv2.up nt _⟩ hg1 ⟨by decide +kernel, hg2⟩ hle3 hd3 hz3 hle4 (by simp only [Ex.deep]; omega) (by simp only [Ex.size]; omega)
                      (((s2.trans st4).trans st5).up nt _) (hD5.up nt) (by rw [upd_ne (ne_of_none hr4 nt)]; exact hr4) p np
                  · refine ⟨_, rfl, rfl, _, rfl, ?_⟩
                    refine ite2 (fun c10 => ?_) (fun c10 => ?_)
                    · refine ⟨_, rfl, _, rfl, _, rfl, D, d, a, nm, rm, ns, S, r - 1, rfl, g2, by omega, fun v1 e1 H4 hv1 hg1 ⟨r3, hr3, hle3, hd3, hz3⟩ st4 hD4 => ?_⟩
                      have g4 := g2.ex st4 hD4 hr3
                      refine ⟨_, rfl, _, rfl, _, rfl, D, d, a, nm, rm, ns, S, r3, rfl, g4, by omega, fun v2 e2 H5 hv2 hg2 ⟨r4, hr4, hle4, hd4, hz4⟩ st5 hD5 => ?_⟩
                      refine ⟨(by show 3 ≤ sizeLine; decide), fun p np => ?_⟩
                      exact two "else" (by decide +kernel) H5 v1 v2 e1 e2 r3 r4 (hv1.step st5) hv2 hg1 hg2 hle3 hd3 hz3 hle4 (by omega) (by omega) ((s2.trans st4).trans st5) hD5 hr4 p np
                    · refine ⟨_, rfl, rfl, _, rfl, ?_⟩
                      refine ite2 (fun c11 => ?_) (fun c11 => ?_)
                      · refine ⟨_, rfl, D, d, a, ns, 3, rfl, hD2, by decide, by decide, fun y H4 y0 y1 st4 hD4 => ?_⟩
                        have g4 := g2.nx st4 hD4
                        refine ⟨rfl, _, rfl, ?_⟩
                        refine ite2 (fun c12 => ?_) (fun c12 => ?_)
                        · refine ⟨(by show 1 ≤ sizeLine; decide), fun p np => ?_⟩
                          exact leaf _ .fault _ ⟨p, rfl, upd_same⟩ trivial ⟨rfl, rfl⟩ (st4.up np _) (hD4.up np)
                        · exact ⟨_, rfl, _, rfl, D, d, a, nm, ns, S, rfl, hD4, g4.na, fun v e H5 hv hg hz st hD5 => leaf v e H5 hv hg hz (st4.trans st) hD5⟩
                      · exact ⟨_, rfl, _, rfl, _, rfl, D, d, a, nm, rm, ns, S, r - 1, rfl, g2, by omega, pass⟩
end
end Wr
namespace Wr
open PySem PySem.Spec PyProof.Rows L2
section
variable {P : Program} {w : World} {K : PySem.W.Frag} {mg : Str → Option Value} {base : Heap}
theorem use_no {x : Str} {st : Stmt} {ps : List Str} {sp : Sp} (F : Df K mg x st) (b : BindF x st ps) (k : Nat) (no : ∀ vs H Q E, ¬ sp vs H Q E) : Use P w K mg base x ps k sp := by
  obtain ⟨f, fd, F, m⟩ := F
  exact ⟨f, fd, ⟨fun vs H Q E h => (no vs H Q E h).elim, fun A outer s H args us vs Q E _ _ _ _ h => (no vs H Q E h).elim⟩, m, F.kp, F.bindsN b⟩
/-- isinstance(x, tuple) of an item -/
theorem isi_tuple_leaf {H : Hp} {x : V} (h : (∃ s, x = V.str s) ∨ ∃ n, x = V.int n) : ∃ t, TyX K H x t ∧ PySem.W.kitOne K t (.type "tuple") = some false := by
  rcases h with ⟨s, rfl⟩ | ⟨n, rfl⟩
  · exact ⟨_, .base (.str s), kit_ty (by decide +kernel)⟩
  · exact ⟨_, .base (.int n), kit_ty (by decide +kernel)⟩
theorem isi_tuple_kid {H : Hp} {x : V} {e : Ex} (h : AtE H x e) : ∃ t, TyX K H x t ∧ PySem.W.kitOne K t (.type "tuple") = some true := by
  obtain ⟨t, xs, rfl, h, _⟩ := h.ref
  exact ⟨_, .base (.tup h), kit_ty (by decide +kernel)⟩
def spSize (n : Nat) : Sp := fun vs H Q _ => ∃ (v : V) (e : Ex), vs = [v] ∧ AtE H v e ∧ e.deep ≤ n ∧ ∀ H', Same H H' → Q (.int e.size) H'
theorem scSize : FnScope ["_law_part", "_law_one"] ["_law_part"] (defScope s_L_size) := ⟨rfl, rfl, rfl, by decide +kernel, rfl, by decide +kernel, by decide +kernel⟩
theorem ok_size (n : Nat) (F : Df K mg "_law_size" s_L_size) (sum : mg "sum" = none) (isi : mg "isinstance" = none) (tup : mg "tuple" = none) (U : Use P w K mg base "_law_size" ["_law_part"] n (spSize n)) :
    Use P w K mg base "_law_size" ["_law_part"] (n + 1) (spSize (n + 1)) := by
  refine F.use scSize (fun _ _ _ _ _ _ us hl => match us, hl with | [_], _ => rfl) (fun vs H Q E h => ?_) (fun cdv f A outer s H vs Q E hr h => ?_)
  · obtain ⟨v, e, rfl, _⟩ := h
    rfl
  · obtain ⟨v, e, rfl, hv, hd, q⟩ := h
    refine ⟨_, pss_one (ps_ret (pe_op op_add pe_int (pe_callB (cr_sum rfl) (by rfl) sum (by decide +kernel) (pa_cons
      (pe_lc (own := [("_law_one", 1)]) (g := gName 1) (by rfl) scSize.nd (pi_tup (pv 0)) (blkOk_by (own := [("_law_one", 1)]) (N := ["_law_part", "_law_one"]) (sc := defScope s_L_size) (by decide +kernel))
        (fun _ _ _ _ _ => pg_name (i := 1) scSize.nd rfl (Or.inl rfl))
        (fun _ _ _ _ _ => pts_one (pt_val (pe_callB (r := rIsi K) call_isi (by rfl) isi (by decide +kernel) (pa_cons (pv 1) (pa_cons (pe_bltn (v := .ty "tuple") (u := .type "tuple") (by rfl) tup (by decide +kernel) rfl) pa_nil)))))
        (fun _ _ _ _ _ => pe_use U hr (pa_cons (pv 1) pa_nil))) pa_nil)))), ?_⟩
    obtain ⟨t, xs, rfl, ht, hI, h5, _⟩ := hv.ref
    refine ⟨_, rfl, t, rfl, ⟨_, SqT.of ht⟩, fun D nD => ?_⟩
    refine lc_tup (K := K) (a := t) (xs := xs) (fun i H2 => Same H H2 ∧ ∃ es1 es2 : List Ex, e.kids = es1 ++ es2 ∧ Its H (xs.drop i) es2 ∧ H2 D = some (.lst (es1.map fun a => V.int a.size)) ∧ es1.length ≤ i)
      ⟨Stp.nil (.new nD _), [], e.kids, rfl, hI, upd_same, Nat.zero_le _⟩ (fun i H2 _ h => SqT.of (h.1 _ _ ht)) ?_ ?_
    · rintro i x H2 hi ⟨sm, es1, es2, ek, hI2, hD, hl⟩
      have hix : i < xs.length := (List.getElem?_eq_some_iff.mp hi).1
      rcases hI2.step hi with ⟨hlf, hI3⟩ | ⟨e1, es3, rfl, hx, hI3⟩
      · obtain ⟨ty, h1, h2⟩ := isi_tuple_leaf (K := K) (H := H2) hlf
        refine ⟨rfl, _, rfl, x, .ty "tuple", ty, .type "tuple", false, rfl, .ty _, h1, h2, false, rfl, ?_⟩
        exact iteF ⟨sm, es1, es2, ek, hI3, hD, by omega⟩
      · have hx2 : AtE H2 x e1 := hx.step (D := []) (Stp.same sm)
        obtain ⟨ty, h1, h2⟩ := isi_tuple_kid (K := K) hx2
        refine ⟨rfl, _, rfl, x, .ty "tuple", ty, .type "tuple", true, rfl, .ty _, h1, h2, true, rfl, ?_⟩
        refine iteT ?_
        have hk : e1 ∈ e.kids := by rw [ek]; simp
        refine ⟨_, rfl, x, e1, rfl, hx2, by have := kid_deep hk; omega, fun H3 sm3 => ?_⟩
        refine ⟨es1.map fun a => V.int a.size, sm3 _ _ hD, ?_, ?_, ?_⟩
        · rw [List.length_map]
          have : (5 : Nat) < sizeLine := by decide
          omega
        · exact fun b o hb => by
            rw [upd_ne (fun z => by rw [z, nD] at hb; cases hb)]
            exact sm3 _ _ (sm _ _ hb)
        · exact ⟨es1 ++ [e1], es3, by rw [ek]; simp, hI3, by rw [upd_same, List.map_append]; rfl, by rw [List.length_append, List.length_singleton]; omega⟩
    · rintro H2 ⟨sm, es1, es2, ek, hI2, hD, hl⟩
      rw [List.drop_length] at hI2
      cases hI2
      rw [List.append_nil] at ek
      refine ⟨D, es1.map fun a => (a.size : Int), rfl, SqL.of (by rw [List.map_map]; exact hD), _, _, rfl, rfl, ?_⟩
      have ez : (1 : Int) + (es1.map fun a => (a.size : Int)).sum = (e.size : Int) := by rw [e.size_kids, ek]
      show Q (V.int (1 + (es1.map fun a => (a.size : Int)).sum)) H2
      rw [ez]
      exact q H2 sm
theorem size_all (F : Df K mg "_law_size" s_L_size) (sum : mg "sum" = none) (isi : mg "isinstance" = none) (tup : mg "tuple" = none) : ∀ n : Nat, Use P w K mg base "_law_size" ["_law_part"] n (spSize n)
  | 0 => use_no F (fun _ _ _ _ _ _ us hl => match us, hl with | [_], _ => rfl) 0 fun vs H Q E ⟨v, e, _, _, hd, _⟩ => by have := e.deep_pos; omega
  | n + 1 => ok_size n F sum isi tup (size_all F sum isi tup n)
def spDeep (n : Nat) : Sp := fun vs H Q _ => ∃ (v : V) (e : Ex), vs = [v] ∧ AtE H v e ∧ e.deep ≤ n ∧ ∀ H', Same H H' → Q (.int e.deep) H'
theorem scDeep : FnScope ["_law_part", "_law_one"] ["_law_part"] (defScope s_L_deep) := ⟨rfl, rfl, rfl, by decide +kernel, rfl, by decide +kernel, by decide +kernel⟩
theorem ok_deep (n : Nat) (F : Df K mg "_law_deep" s_L_deep) (max' : mg "max" = none) (isi : mg "isinstance" = none) (tup : mg "tuple" = none) (U : Use P w K mg base "_law_deep" ["_law_part"] n (spDeep n)) :
    Use P w K mg base "_law_deep" ["_law_part"] (n + 1) (spDeep (n + 1)) := by
  refine F.use scDeep (fun _ _ _ _ _ _ us hl => match us, hl with | [_], _ => rfl) (fun vs H Q E h => ?_) (fun cdv f A outer s H vs Q E hr h => ?_)
  · obtain ⟨v, e, rfl, _⟩ := h
    rfl
  · obtain ⟨v, e, rfl, hv, hd, q⟩ := h
    refine ⟨_, pss_one (ps_ret (pe_op op_add pe_int (pe_callB (cr_max rfl) (by rfl) max' (by decide +kernel) (pa_cons (pe_op op_cat (pe_lst (pa_cons pe_int pa_nil))
      (pe_lc (own := [("_law_one", 1)]) (g := gName 1) (by rfl) scDeep.nd (pi_tup (pv 0)) (blkOk_by (own := [("_law_one", 1)]) (N := ["_law_part", "_law_one"]) (sc := defScope s_L_deep) (by decide +kernel))
        (fun _ _ _ _ _ => pg_name (i := 1) scDeep.nd rfl (Or.inl rfl))
        (fun _ _ _ _ _ => pts_one (pt_val (pe_callB (r := rIsi K) call_isi (by rfl) isi (by decide +kernel) (pa_cons (pv 1) (pa_cons (pe_bltn (v := .ty "tuple") (u := .type "tuple") (by rfl) tup (by decide +kernel) rfl) pa_nil)))))
        (fun _ _ _ _ _ => pe_use U hr (pa_cons (pv 1) pa_nil)))) pa_nil)))), ?_⟩
    obtain ⟨t, xs, rfl, ht, hI, h5, _⟩ := hv.ref
    refine ⟨(by show 1 ≤ sizeLine; decide), fun l nl => ?_⟩
    have s0 : Same H (upd H l (.lst [.int 0])) := Stp.nil (.new nl _)
    refine ⟨_, rfl, t, rfl, ⟨_, SqT.of (s0 _ _ ht)⟩, fun D nD => ?_⟩
    have nlD : l ≠ D := ne_of_none upd_same nD
    have nD0 : H D = none := Stp.was (D := []) (Stp.same s0) (by simp) nD
    refine lc_tup (K := K) (a := t) (xs := xs) (fun i H2 => Same H H2 ∧ H2 l = some (.lst [.int 0]) ∧ ∃ es1 es2 : List Ex, e.kids = es1 ++ es2 ∧ Its H (xs.drop i) es2 ∧ H2 D = some (.lst (es1.map fun a => V.int a.deep)) ∧ es1.length ≤ i)
      ⟨s0.trans (Stp.nil (.new nD _)), by rw [upd_ne nlD]; exact upd_same, [], e.kids, rfl, hI, upd_same, Nat.zero_le _⟩ (fun i H2 _ h => SqT.of (h.1 _ _ ht)) ?_ ?_
    · rintro i x H2 hi ⟨sm, hL, es1, es2, ek, hI2, hD, hl⟩
      have hix : i < xs.length := (List.getElem?_eq_some_iff.mp hi).1
      rcases hI2.step hi with ⟨hlf, hI3⟩ | ⟨e1, es3, rfl, hx, hI3⟩
      · obtain ⟨ty, h1, h2⟩ := isi_tuple_leaf (K := K) (H := H2) hlf
        refine ⟨rfl, _, rfl, x, .ty "tuple", ty, .type "tuple", false, rfl, .ty _, h1, h2, false, rfl, ?_⟩
        exact iteF ⟨sm, hL, es1, es2, ek, hI3, hD, by omega⟩
      · have hx2 : AtE H2 x e1 := hx.step (D := []) (Stp.same sm)
        obtain ⟨ty, h1, h2⟩ := isi_tuple_kid (K := K) hx2
        refine ⟨rfl, _, rfl, x, .ty "tuple", ty, .type "tuple", true, rfl, .ty _, h1, h2, true, rfl, ?_⟩
        refine iteT ?_
        have hk : e1 ∈ e.kids := by rw [ek]; simp
        refine ⟨_, rfl, x, e1, rfl, hx2, by have := kid_deep hk; omega, fun H3 sm3 => ?_⟩
        refine ⟨es1.map fun a => V.int a.deep, sm3 _ _ hD, ?_, ?_, ?_, ?_⟩
        · rw [List.length_map]
          have : (5 : Nat) < sizeLine := by decide
          omega
        · exact fun b o hb => by
            rw [upd_ne (fun z => by rw [z, nD0] at hb; cases hb)]
            exact sm3 _ _ (sm _ _ hb)
        · rw [upd_ne nlD]; exact sm3 _ _ hL
        · exact ⟨es1 ++ [e1], es3, by rw [ek]; simp, hI3, by rw [upd_same, List.map_append]; rfl, by rw [List.length_append, List.length_singleton]; omega⟩
    · rintro H2 ⟨sm, hL, es1, es2, ek, hI2, hD, hl⟩
      rw [List.drop_length] at hI2
      cases hI2
      rw [List.append_nil] at ek
      refine ⟨l, D, _, _, rfl, rfl, hL, hD, ?_, fun p np => ?_⟩
      · rw [List.length_map, List.length_singleton]
        have : (6 : Nat) ≤ sizeLine := by decide
        omega
      refine ⟨p, ((0 :: es1.map Ex.deep).map fun (a : Nat) => (a : Int)), rfl, SqL.of (by rw [upd_same, List.map_map, List.map_cons, List.map_map]; rfl), by simp, fun m hm hle => ?_⟩
      refine ⟨_, _, rfl, rfl, ?_⟩
      have em : m = ((maxL (es1.map Ex.deep) : Nat) : Int) := by
        obtain ⟨a, ha, rfl⟩ := List.mem_map.mp hm
        have h1 : a ≤ maxL (es1.map Ex.deep) := by
          rcases List.mem_cons.mp ha with rfl | ha
          · omega
          · exact maxL_mem ha
        have h2 : ((maxL (es1.map Ex.deep) : Nat) : Int) ≤ (a : Int) := by
          rcases maxL_in (l := es1.map Ex.deep) with h | h
          · omega
          · exact hle _ (List.mem_map.mpr ⟨_, List.mem_cons_of_mem _ h, rfl⟩)
        omega
      have ed : (1 : Int) + m = (e.deep : Int) := by rw [em, e.deep_kids, ek]; omega
      show Q (V.int (1 + m)) _
      rw [ed]
      exact q _ (sm.trans (Stp.nil (.new np _)))
theorem deep_all (F : Df K mg "_law_deep" s_L_deep) (max' : mg "max" = none) (isi : mg "isinstance" = none) (tup : mg "tuple" = none) : ∀ n : Nat, Use P w K mg base "_law_deep" ["_law_part"] n (spDeep n)
  | 0 => use_no F (fun _ _ _ _ _ _ us hl => match us, hl with | [_], _ => rfl) 0 fun vs H Q E ⟨v, e, _, _, hd, _⟩ => by have := e.deep_pos; omega
  | n + 1 => ok_deep n F max' isi tup (deep_all F max' isi tup n)
end
end Wr
namespace Wr
open PySem PySem.Spec PyProof.Rows L2
theorem Dice.weak {K : PySem.W.Frag} {H : Hp} {D D' : List Addr} {d a : Addr} {ns : List Int} (h : Dice K H D' d a ns) (s : ∀ b ∈ D, b ∈ D') (m : d ∈ D) : Dice K H D d a ns :=
  ⟨h.at_, h.sq.imp (fun z => ⟨z.1, fun q => z.2 (s _ q)⟩) id, m, h.len⟩
theorem Stp.drop {d p : Addr} {H H' : Hp} {o : HO} (s : Stp [d, p] (upd H p o) H') (n : H p = none) : Stp [d] H H' :=
  ⟨fun b u m h => s.keep b u (fun z => by
    rcases List.mem_cons.mp z with z | z
    · exact m (List.mem_singleton.mpr z)
    · rw [List.mem_singleton.mp z, n] at h; cases h) (by rw [upd_ne (ne_of_none h n)]; exact h), fun t xs h => s.tups t xs (by rw [upd_ne (ne_of_none h n)]; exact h)⟩
section
variable {P : Program} {w : World} {K : PySem.W.Frag} {mg : Str → Option Value} {base : Heap}
structure GenDefs (K : PySem.W.Frag) (mg : Str → Option Value) : Prop where
  dice : Df K mg "_law_dice" s_L_dice
  next : Df K mg "_law_next" s_L_next
  name : Df K mg "_law_name" s_L_name
  leaf : Df K mg "_law_leaf" s_L_leaf
  with_ : Df K mg "_law_with" s_L_with
  free : Df K mg "_law_free" s_L_free
  expr : Df K mg "_law_expr" s_L_expr
  let_ : Df K mg "_law_let" s_L_let
  use : Df K mg "_law_use" s_L_use
  catch_ : Df K mg "_law_catch" s_L_catch
  size : Df K mg "_law_size" s_L_size
  deep : Df K mg "_law_deep" s_L_deep
  program : Df K mg "_law_program" s_L_program
  loop : Df K mg "_law_loop" s_L_loop
  again : Df K mg "_law_again" s_L_again
  long : Df K mg "_law_long" s_L_long
  any : Df K mg "_law_any" s_L_any
  zlen : mg "len" = none
  zint : mg "int" = none
  zdict : mg "dict" = none
  zsorted : mg "sorted" = none
  zsum : mg "sum" = none
  zmax : mg "max" = none
  zmin : mg "min" = none
  zrange : mg "range" = none
  zisi : mg "isinstance" = none
  ztuple : mg "tuple" = none
variable (G : GenDefs K mg)
include G
theorem u_next : Use P w K mg base "_law_next" ["_law_dice_here", "_law_many"] 1 (spNext K) := ok_next G.next G.zlen
theorem u_free : Use P w K mg base "_law_free" ["_law_d"] 2 (spFree K) := ok_free G.free (u_next G)
theorem u_with : Use P w K mg base "_law_with" ["_law_names", "_law_some"] 1 spWith := ok_with G.with_ G.zdict
theorem u_name : Use P w K mg base "_law_name" ["_law_d", "_law_names", "_law_kinds"] 2 (spName K) := ok_name G.name G.zsorted G.zlen (u_next G)
theorem u_leaf : Use P w K mg base "_law_leaf" ["_law_d", "_law_names"] 3 (spLeaf K) := ok_leaf G.leaf G.zint (u_next G) (u_name G)
theorem expr_all : ∀ n : Nat, Use P w K mg base "_law_expr" ["_law_d", "_law_names", "_law_room"] (2 * n + 6) (spExpr K n)
  | 0 => ok_expr 0 (spI := fun _ _ _ _ => False) (spL := fun _ _ _ _ => False) (spC := fun _ _ _ _ => False) (spU := fun _ _ _ _ => False) (fun h => absurd h (by decide)) G.expr (u_next G) (u_leaf G)
      (use_never G.expr (fun _ _ _ _ _ _ us hl => match us, hl with | [_, _, _], _ => rfl) _) (use_never G.let_ (fun _ _ _ _ _ _ us hl => match us, hl with | [_, _, _, _], _ => rfl) _)
      (use_never G.catch_ (fun _ _ _ _ _ _ us hl => match us, hl with | [_, _, _], _ => rfl) _) (use_never G.use (fun _ _ _ _ _ _ us hl => match us, hl with | [_, _, _], _ => rfl) _)
  | n + 1 => ok_expr (n + 1) (fun _ => ⟨rfl, rfl, rfl, rfl⟩) G.expr (u_next G) (u_leaf G) (expr_all n) (ok_let n G.let_ (u_free G) (u_with G) (u_leaf G) (expr_all n))
      (ok_catch n G.catch_ (u_next G) (u_free G) (u_with G) (u_leaf G) (expr_all n)) (ok_use n G.use G.zint (u_next G) (u_name G) (u_leaf G) (expr_all n))
theorem u_size (n : Nat) : Use P w K mg base "_law_size" ["_law_part"] n (spSize n) := size_all G.size G.zsum G.zisi G.ztuple n
theorem u_deep (n : Nat) : Use P w K mg base "_law_deep" ["_law_part"] n (spDeep n) := deep_all G.deep G.zmax G.zisi G.ztuple n
/-! ### _law_program -/
/-- what hands back a program -/
def Gives (K : PySem.W.Frag) (D : List Addr) (d a : Addr) (ns : List Int) (H : Hp) (Q : VK) : Prop :=
  ∀ (v : V) (e : Ex) (H' : Hp), AtE H' v e → Good [] e → e.size ≤ 200 → e.deep ≤ 41 → Stp [d] H H' → Dice K H' D d a ns → Q v H'
def spProgram (K : PySem.W.Frag) : Sp := fun vs H Q _ => ∃ (D : List Addr) (d a : Addr) (ns : List Int), vs = [.ref d] ∧ Dice K H D d a ns ∧ Gives K D d a ns H Q
omit G in
theorem scProgram : FnScope ["_law_d", "_law_found"] ["_law_d"] (defScope s_L_program) := ⟨rfl, rfl, rfl, by decide +kernel, rfl, by decide +kernel, by decide +kernel⟩
omit G in
theorem rooms3 (x : Int) (h0 : 0 ≤ x) (h3 : x < 3) : ∃ k : Int, atI ([.int 10, .int 25, .int 60] : List V) x = some (.int k) ∧ k ≤ 60 := by
  have hx : x = 0 ∨ x = 1 ∨ x = 2 := by omega
  rcases hx with rfl | rfl | rfl
  · exact ⟨_, rfl, by decide⟩
  · exact ⟨_, rfl, by decide⟩
  · exact ⟨_, rfl, by decide⟩
theorem u_program : Use P w K mg base "_law_program" ["_law_d"] 226 (spProgram K) := by
  have U : Use P w K mg base "_law_next" ["_law_dice_here", "_law_many"] 1 (spNext K) := u_next G
  have UE : Use P w K mg base "_law_expr" ["_law_d", "_law_names", "_law_room"] 118 (spExpr K 56) := expr_all G 56
  have US : Use P w K mg base "_law_size" ["_law_part"] 225 (spSize 225) := u_size G 225
  have UD : Use P w K mg base "_law_deep" ["_law_part"] 225 (spDeep 225) := u_deep G 225
  refine G.program.use scProgram (fun _ _ _ _ _ _ us hl => match us, hl with | [_], _ => rfl) (fun vs H Q E h => ?_) (fun cdv f A outer s H vs Q E hr h => ?_)
  · obtain ⟨D, d, a, ns, rfl, _⟩ := h
    rfl
  · obtain ⟨D, d, a, ns, rfl, hD, q⟩ := h
    have hr1 : Room 1 _ := hr.mono (by decide)
    have hrE : Room 118 _ := hr.mono (by decide)
    refine ⟨_, pss_cons (ps_set (i := 1) scProgram.nd rfl (Or.inl rfl) (pe_use UE hrE (pa_cons (pv 0) (pa_cons pe_dnewK (pa_cons (pe_lst (pa_cons (pe_ix ix_list (pe_lst (pa_cons pe_int (pa_cons pe_int (pa_cons pe_int pa_nil)))) (pe_use U hr1 (pa_cons (pv 0) (pa_cons pe_int pa_nil))) (fun _ _ => rfl)) pa_nil)) pa_nil)))))
      (pss_cons (ps_while PassesOwn.never (PW.pt (pw_or (pt_cmpR op_gt (pe_use US hr (pa_cons (pv 1) pa_nil)) pe_int (nomark _)) (pw_or1 (pt_cmpR op_gt (pe_use UD hr (pa_cons (pv 1) pa_nil)) pe_int (nomark _)))))
        (pss_one (ps_set (i := 1) scProgram.nd rfl (Or.inl rfl) (pe_use UE hrE (pa_cons (pv 0) (pa_cons pe_dnewK (pa_cons (pe_lst (pa_cons pe_int pa_nil)) pa_nil)))))))
      (pss_one (ps_ret (pv 1)))), ?_⟩
    -- one drawing
    have draw : ∀ (H1 : Hp) (nm rm : Addr) (r : Int) (Q1 : VK), Stp [d] H H1 → Dice K H1 D d a ns → H1 rm = none → r ≤ 60 → H1 nm = some (.dK []) → (∀ (v : V) (e : Ex) (H' : Hp), AtE H' v e → Good [] e → (e.deep : Int) ≤ dm r → (e.size : Int) ≤ 1 + 17 * (mx r - 4) → Stp [d] H H' → Dice K H' D d a ns → Q1 v H') →
        spExpr K 56 [.ref d, .ref nm, .ref rm] (upd H1 rm (.lst [.int r])) Q1 E0 := by
      intro H1 nm rm r Q1 st hD1 nrm hr60 hnm q1
      have nd : rm ≠ d := fun z => hD1.fresh nrm (List.mem_singleton.mpr z)
      refine ⟨rm :: D, d, a, nm, rm, ns, [], r, rfl, ⟨hD1.new nrm, ⟨[], by rw [upd_ne (ne_of_none hnm nrm)]; exact hnm, by simp, by simp, by simp⟩, upd_same, List.mem_cons_self, nd⟩, by omega, fun v e H' hv hg ⟨r', hr', hle, hd, hz⟩ st' hD' => ?_⟩
      have := (mx_ge r').1
      exact q1 v e H' hv hg (by omega) (by omega) (st.trans (st'.drop nrm)) (hD'.weak (fun b hb => List.mem_cons_of_mem _ hb) hD1.mem)
    refine ⟨_, rfl, fun nm nnm => ⟨(by show 3 ≤ sizeLine; decide), fun l nl => ?_⟩⟩
    have s2 : Stp [d] H (upd (upd H nm (.dK [])) l (.lst [.int 10, .int 25, .int 60])) := (Stp.new nnm _).up nl _
    have hD2 := (hD.up (o := .dK []) nnm).up (o := .lst [.int 10, .int 25, .int 60]) nl
    refine ⟨_, rfl, D, d, a, ns, 3, rfl, hD2, by decide, by decide, fun x H3 x0 x1 st3 hD3 => ?_⟩
    have nld : l ∉ [d] := (hD.up (o := .dK []) nnm).fresh nl
    have nmd : nm ∉ [d] := hD.fresh nnm
    have el : H3 l = some (.lst [.int 10, .int 25, .int 60]) := st3.keep _ _ nld upd_same
    have enm : H3 nm = some (.dK []) := st3.keep _ _ nmd (by rw [upd_ne (ne_of_none upd_same nl)]; exact upd_same)
    obtain ⟨r, er, hr60⟩ := rooms3 x x0 x1
    refine ⟨l, _, _, _, rfl, rfl, SqL.of el, er, (by show 1 ≤ sizeLine; decide), fun rm nrm => ?_⟩
    refine draw H3 nm rm r _ (s2.trans st3) hD3 nrm hr60 enm (fun v e H4 hv hg hd hz st hD4 => ?_)
    refine ⟨fun m σ H' => ∃ (v : V) (e : Ex), σ = [some (.ref d), some v] ∧ AtE H' v e ∧ Good [] e ∧ Stp [d] H H' ∧ Dice K H' D d a ns ∧ e.deep ≤ 225 ∧ (m = 0 → e.size ≤ 200 ∧ e.deep ≤ 41), ⟨1, v, e, rfl, hv, hg, st, hD4, ?_, fun z => by cases z⟩, ?_⟩
    · have : dm r ≤ 225 := by unfold dm mx; split <;> omega
      omega
    rintro m σ H5 ⟨v, e, rfl, hv, hg, st5, hD5, h225, hm⟩
    have fin : e.size ≤ 200 → e.deep ≤ 41 → ∀ H6, Same H5 H6 → Q v H6 := fun h1 h2 H6 sm => q v e H6 (hv.step (D := []) (Stp.same sm)) hg h1 h2 (st5.trans (Stp.same sm)) (hD5.step (D' := []) (Stp.same sm) (by simp) (by simp))
    -- once more
    have again : ∀ H6, Same H5 H6 → ¬ (e.size ≤ 200 ∧ e.deep ≤ 41) → ∃ N : L2.St → Hp → Prop, (∀ σ' H', N σ' H' → ∃ m', m' < m ∧ ∃ (v : V) (e : Ex), σ' = [some (.ref d), some v] ∧ AtE H' v e ∧ Good [] e ∧ Stp [d] H H' ∧ Dice K H' D d a ns ∧ e.deep ≤ 225 ∧ (m' = 0 → e.size ≤ 200 ∧ e.deep ≤ 41)) ∧
        ∀ p, H6 p = none → ∀ rm, (upd H6 p (.dK [])) rm = none → spExpr K 56 [.ref d, .ref p, .ref rm] (upd (upd H6 p (.dK [])) rm (.lst [.int 10])) (fun x H1 => N [some (.ref d), some x] H1) E0 := by
      intro H6 sm hbad
      have hm0 : m ≠ 0 := fun z => hbad (hm z)
      refine ⟨fun σ' H' => ∃ (v : V) (e : Ex), σ' = [some (.ref d), some v] ∧ AtE H' v e ∧ Good [] e ∧ Stp [d] H H' ∧ Dice K H' D d a ns ∧ e.deep ≤ 225 ∧ (e.size ≤ 200 ∧ e.deep ≤ 41), fun σ' H' ⟨v, e, a1, a2, a3, a4, a5, a6, a7⟩ => ⟨0, by omega, v, e, a1, a2, a3, a4, a5, a6, fun _ => a7⟩, fun p np rm nrm => ?_⟩
      have hD6 : Dice K (upd H6 p (.dK [])) D d a ns := (hD5.step (D' := []) (Stp.same sm) (by simp) (by simp)).up np
      refine draw _ p rm 10 _ ((st5.trans (Stp.same sm)).up np _) hD6 nrm (by decide) upd_same (fun v e H' hv hg hd hz st hD' => ?_)
      have e1 : dm 10 = 25 := by decide
      have e2 : mx 10 = 10 := by decide
      rw [e1] at hd
      rw [e2] at hz
      exact ⟨v, e, rfl, hv, hg, st, hD', by omega, by omega, by omega⟩
    refine ⟨_, rfl, v, e, rfl, hv, h225, fun H6 sm6 => ⟨_, _, rfl, rfl, _, rfl, ?_⟩⟩
    by_cases c : e.size ≤ 200
    · rw [show decide ((200 : Int) < (e.size : Int)) = false from decide_eq_false (by omega)]
      refine iteF ?_
      refine ⟨_, rfl, v, e, rfl, hv.step (D := []) (Stp.same sm6), h225, fun H7 sm7 => ⟨_, _, rfl, rfl, _, rfl, ?_⟩⟩
      by_cases c2 : e.deep ≤ 41
      · rw [show decide ((41 : Int) < (e.deep : Int)) = false from decide_eq_false (by omega)]
        refine iteF ?_
        exact ⟨_, rfl, fin c c2 H7 (sm6.trans sm7)⟩
      · rw [show decide ((41 : Int) < (e.deep : Int)) = true from decide_eq_true (by omega)]
        refine iteT ?_
        obtain ⟨N, hN, hgo⟩ := again H7 (sm6.trans sm7) (fun z => c2 z.2)
        exact ⟨N, hN, _, rfl, fun p np => ⟨(by show 1 ≤ sizeLine; decide), fun rm nrm => hgo p np rm nrm⟩⟩
    · rw [show decide ((200 : Int) < (e.size : Int)) = true from decide_eq_true (by omega)]
      refine iteT ?_
      refine iteT ?_
      obtain ⟨N, hN, hgo⟩ := again H6 sm6 (fun z => c z.1)
      exact ⟨N, hN, _, rfl, fun p np => ⟨(by show 1 ≤ sizeLine; decide), fun rm nrm => hgo p np rm nrm⟩⟩
end
end Wr
namespace Wr
open PySem PySem.Spec PyProof.Rows L2
section
variable {P : Program} {w : World} {K : PySem.W.Frag} {mg : Str → Option Value} {base : Heap}
def exAgain : Ex := .two "call" (.one "look" (.name "b")) (.two "take" (.name "a") (.num 1))
def spAgain : Sp := fun vs H Q _ => ∃ v, vs = [v] ∧ ∀ u H', Stp [] H H' → AtE H' u exAgain → Q u H'
theorem scAgain : FnScope ["_law_d"] ["_law_d"] (defScope s_L_again) := ⟨rfl, rfl, rfl, by decide +kernel, rfl, by decide +kernel, by decide +kernel⟩
def rho0 : Rho := ⟨fun _ => .fault, fun _ => 0, fun _ => "a"⟩
/-- the derivation of a name, a number, written -/
theorem ok_again (F : Df K mg "_law_again" s_L_again) : Use P w K mg base "_law_again" ["_law_d"] 1 spAgain := by
  refine F.use scAgain (fun _ _ _ _ _ _ us hl => match us, hl with | [_], _ => rfl) (fun vs H Q E h => ?_) (fun cdv f A outer s H vs Q E hr h => ?_)
  · obtain ⟨v, rfl, _⟩ := h
    rfl
  · obtain ⟨v, rfl, q⟩ := h
    refine ⟨_, pss_one (ps_ret (pe_tup (pa_cons pe_str (pa_cons (pe_tup (pa_cons pe_str (pa_cons (pe_tup (pa_cons pe_str (pa_cons pe_str pa_nil))) pa_nil))) (pa_cons (pe_tup (pa_cons pe_str (pa_cons (pe_tup (pa_cons pe_str (pa_cons pe_str pa_nil))) (pa_cons (pe_tup (pa_cons pe_str (pa_cons pe_int pa_nil))) pa_nil)))) pa_nil))))), ?_⟩
    exact Bx.read (ρ := rho0) (.two "call" (.one "look" (.nm "b")) (.two "take" (.nm "a") (.num 1))) ⟨trivial, trivial, trivial⟩ fun v H' s h => q v H' s h
def exLoop (step base : Ex) (many : Int) : Ex := .lt "b" (.one "box" (.num 0)) (.lt "f" (.fn "a" (.ite (.two "less" (.name "a") (.num 1)) base step)) (.lt "c" (.two "put" (.name "b") (.name "f")) (.two "call" (.name "f") (.num many))))
def spLoop : Sp := fun vs H Q _ => ∃ (v x y : V) (e1 e2 : Ex) (n : Int), vs = [v, x, y, .int n] ∧ AtE H x e1 ∧ AtE H y e2 ∧ ∀ u H', Stp [] H H' → AtE H' u (exLoop e1 e2 n) → Q u H'
theorem scLoop : FnScope ["_law_d", "_law_step", "_law_base", "_law_many", "_law_body", "_law_call"] ["_law_d", "_law_step", "_law_base", "_law_many"] (defScope s_L_loop) := ⟨rfl, rfl, rfl, by decide +kernel, rfl, by decide +kernel, by decide +kernel⟩
theorem ok_loop (F : Df K mg "_law_loop" s_L_loop) : Use P w K mg base "_law_loop" ["_law_d", "_law_step", "_law_base", "_law_many"] 1 spLoop := by
  refine F.use scLoop (fun _ _ _ _ _ _ us hl => match us, hl with | [_, _, _, _], _ => rfl) (fun vs H Q E h => ?_) (fun cdv f A outer s H vs Q E hr h => ?_)
  · obtain ⟨v, x, y, e1, e2, n, rfl, _⟩ := h
    rfl
  · obtain ⟨v, x, y, e1, e2, n, rfl, h1, h2, q⟩ := h
    refine ⟨_, pss_cons (ps_set (i := 4) scLoop.nd rfl (Or.inl rfl) (pe_tup (pa_cons pe_str (pa_cons (pe_tup (pa_cons pe_str (pa_cons (pe_tup (pa_cons pe_str (pa_cons pe_str pa_nil))) (pa_cons (pe_tup (pa_cons pe_str (pa_cons pe_int pa_nil))) pa_nil)))) (pa_cons (pv 2) (pa_cons (pv 1) pa_nil))))))
      (pss_cons (ps_set (i := 5) scLoop.nd rfl (Or.inl rfl) (pe_tup (pa_cons pe_str (pa_cons pe_str (pa_cons (pe_tup (pa_cons pe_str (pa_cons (pe_tup (pa_cons pe_str (pa_cons pe_str pa_nil))) (pa_cons (pe_tup (pa_cons pe_str (pa_cons pe_str pa_nil))) pa_nil))))
          (pa_cons (pe_tup (pa_cons pe_str (pa_cons (pe_tup (pa_cons pe_str (pa_cons pe_str pa_nil))) (pa_cons (pe_tup (pa_cons pe_str (pa_cons (pv 3) pa_nil))) pa_nil)))) pa_nil))))))
      (pss_one (ps_ret (pe_tup (pa_cons pe_str (pa_cons pe_str (pa_cons (pe_tup (pa_cons pe_str (pa_cons (pe_tup (pa_cons pe_str (pa_cons pe_int pa_nil))) pa_nil)))
        (pa_cons (pe_tup (pa_cons pe_str (pa_cons pe_str (pa_cons (pe_tup (pa_cons pe_str (pa_cons pe_str (pa_cons (pv 4) pa_nil)))) (pa_cons (pv 5) pa_nil))))) pa_nil)))))))), ?_⟩
    refine stB (ρ := ⟨fun i => if i = 1 then e1 else e2, fun _ => n, fun _ => "a"⟩) (.ite (.two "less" (.nm "a") (.num 1)) (.var 2) (.var 1)) ?_ fun vb H1 s1 a1 => ?_
    · exact ⟨⟨trivial, trivial⟩, ⟨y, rfl, h2⟩, ⟨x, rfl, h1⟩⟩
    refine stB (ρ := ⟨fun i => if i = 1 then e1 else e2, fun _ => n, fun _ => "a"⟩) (.lt "c" (.two "put" (.nm "b") (.nm "f")) (.two "call" (.nm "f") (.numv 3))) ?_ fun vc H2 s2 a2 => ?_
    · exact ⟨⟨trivial, trivial⟩, trivial, rfl⟩
    refine retB (ρ := ⟨fun i => if i = 4 then .ite (.two "less" (.name "a") (.num 1)) e2 e1 else .lt "c" (.two "put" (.name "b") (.name "f")) (.two "call" (.name "f") (.num n)), fun _ => n, fun _ => "a"⟩)
      (.lt "b" (.one "box" (.num 0)) (.lt "f" (.fn "a" (.var 4)) (.var 5))) ?_ fun u H3 s3 a3 => ?_
    · exact ⟨trivial, ⟨vb, rfl, a1.step s2⟩, ⟨vc, rfl, a2⟩⟩
    exact q u H3 ((s1.trans s2).trans s3) a3
end
end Wr
namespace Wr
open PySem PySem.Spec PyProof.Rows L2
section
variable {P : Program} {w : World} {K : PySem.W.Frag} {mg : Str → Option Value} {base : Heap}
def spLong (K : PySem.W.Frag) : Sp := spProgram K
theorem scLong : FnScope ["_law_d", "_law_again_here", "_law_some", "_law_body", "_law_bases", "_law_many", "_law_step", "_law_found", "_law_gos", "_law_handlers", "_law_k"] ["_law_d"] (defScope s_L_long) := ⟨rfl, rfl, rfl, by decide +kernel, rfl, by decide +kernel, by decide +kernel⟩
def exSteps : List Ex := [.two "add" (.name "a") exAgain, exAgain, .two "last" exAgain (.one "say" (.name "a")), .two "add" (.one "say" (.name "a")) exAgain, .two "add" (.one "throw" (.name "a")) exAgain,
  .two "else" exAgain (.one "say" (.name "a")), .lt "c" exAgain (.two "add" (.name "c") (.name "c")), .ct (.two "add" (.one "throw" (.name "a")) exAgain) "d" "e" (.two "go" (.name "e") (.name "d"))]
def exBases : List Ex := [.num 0, .one "throw" (.num 3), .fault, .one "say" (.num 9)]
def exGo (n : Int) : Ex := .two "go" (.name "h") (.num n)
def exHands : List Ex := [.name "g", exGo 1, .two "add" (exGo 1) (exGo 2), .two "add" (exGo 1) (.one "drop" (.name "h")), exGo 3, .lt "a" (exGo 1) (.lt "b" (exGo 2) (.two "add" (.name "a") (.name "b")))]
instance goodDec (S : List Str) : (e : Ex) → Decidable (Good S e)
  | .num n => by unfold Good; exact inferInstance
  | .name x => by unfold Good; exact inferInstance
  | .fault => by unfold Good; exact inferInstance
  | .one w a => have := goodDec S a; by unfold Good; exact inferInstance
  | .two w a b => have := goodDec S a; have := goodDec S b; by unfold Good; exact inferInstance
  | .ite a b c => have := goodDec S a; have := goodDec S b; have := goodDec S c; by unfold Good; exact inferInstance
  | .lt x a b => have := goodDec S a; have := goodDec (x :: S) b; by unfold Good; exact inferInstance
  | .fn x a => have := goodDec (x :: S) a; by unfold Good; exact inferInstance
  | .ct a x k b => have := goodDec S a; have := goodDec (x :: k :: S) b; by unfold Good; exact inferInstance
theorem steps_good : ∀ e ∈ exSteps, Good ["a", "b"] e ∧ e.size ≤ 20 ∧ e.deep ≤ 10 := by decide +kernel
theorem bases_good : ∀ e ∈ exBases, Good ["a", "b"] e ∧ e.size ≤ 20 ∧ e.deep ≤ 10 := by decide +kernel
theorem hands_good : ∀ e ∈ exHands, Good ["g", "h"] e ∧ e.size ≤ 20 ∧ e.deep ≤ 10 := by decide +kernel
theorem loop_good {e1 e2 : Ex} {n : Int} (h1 : Good ["a", "b"] e1 ∧ e1.size ≤ 20 ∧ e1.deep ≤ 10) (h2 : Good ["a", "b"] e2 ∧ e2.size ≤ 20 ∧ e2.deep ≤ 10) (n0 : 0 ≤ n) (n1 : n ≤ 1900) :
    Good [] (exLoop e1 e2 n) ∧ (exLoop e1 e2 n).size ≤ 100 ∧ (exLoop e1 e2 n).deep ≤ 30 := by
  refine ⟨⟨by decide +kernel, ⟨by decide +kernel, by decide, by decide⟩, by decide +kernel, ⟨by decide +kernel, ⟨by decide +kernel, by decide +kernel, by decide, by decide⟩, h2.1.mono (fun x hx => ?_), h1.1.mono (fun x hx => ?_)⟩, by decide +kernel, ⟨by decide +kernel, by decide +kernel, by decide +kernel⟩, by decide +kernel, by decide +kernel, ?_⟩, ?_, ?_⟩
  · simp only [List.mem_cons, List.not_mem_nil, or_false] at hx ⊢
    rcases hx with h | h
    · exact .inl h
    · exact .inr h
  · simp only [List.mem_cons, List.not_mem_nil, or_false] at hx ⊢
    rcases hx with h | h
    · exact .inl h
    · exact .inr h
  · exact ⟨by omega, by omega⟩
  · simp only [exLoop, Ex.size]; omega
  · simp only [exLoop, Ex.deep]; omega
theorem many8 (x : Int) (h0 : 0 ≤ x) (h8 : x < 8) : ∃ k : Int, atI ([.int 3, .int 8, .int 30, .int 200, .int 3, .int 8, .int 30, .int 1900] : List V) x = some (.int k) ∧ 0 ≤ k ∧ k ≤ 1900 := by
  have hx : x = 0 ∨ x = 1 ∨ x = 2 ∨ x = 3 ∨ x = 4 ∨ x = 5 ∨ x = 6 ∨ x = 7 := by omega
  rcases hx with rfl | rfl | rfl | rfl | rfl | rfl | rfl | rfl
  all_goals exact ⟨_, rfl, by decide, by decide⟩
theorem Tk.put {H : Hp} {p : Addr} {vs us : List V} (e : H p = some (.lst vs)) : Tk H (upd H p (.lst us)) := (Stp.put (D := [p]) (by simp) (fun xs z => by rw [e] at z; cases z) _).tups
/-- a list of parts that grows at p, which is new -/
structure Lst (H0 H : Hp) (p : Addr) (vs : List V) (es : List Ex) : Prop where
  st : Stp [] H0 H
  n0 : H0 p = none
  at_ : H p = some (.lst vs)
  al : AtL H vs es
theorem Lst.make {H0 H1 : Hp} {p : Addr} {vs : List V} {es : List Ex} (s : Stp [] H0 H1) (np : H1 p = none) (a : AtL H1 vs es) : Lst H0 (upd H1 p (.lst vs)) p vs es :=
  ⟨s.trans (.new np _), s.was (by simp) np, upd_same, a.step (D := []) (.new np _)⟩
theorem Lst.step {H0 H H1 : Hp} {p : Addr} {vs : List V} {es : List Ex} (L : Lst H0 H p vs es) (s : Stp [] H H1) : Lst H0 H1 p vs es := ⟨L.st.trans s, L.n0, s.keep _ _ (by simp) L.at_, L.al.step s⟩
theorem Lst.app {H0 H H1 : Hp} {p : Addr} {vs : List V} {es : List Ex} {v : V} {e : Ex} (L : Lst H0 H p vs es) (s : Stp [] H H1) (a : AtE H1 v e) : Lst H0 (upd H1 p (.lst (vs ++ [v]))) p (vs ++ [v]) (es ++ [e]) := by
  have L1 := L.step s
  have k : ∀ t xs, H1 t = some (.tup xs) → upd H1 p (.lst (vs ++ [v])) t = some (.tup xs) := (Stp.put (D := [p]) (by simp) (fun xs z => by rw [L1.at_] at z; cases z) _).tups
  exact ⟨L1.st.putnew L.n0 _, L.n0, upd_same, (L1.al.tups k).append (.cons (a.tups k) .nil)⟩
/-- an item of a list of parts, as a part of a display -/
theorem ext_ix {K : PySem.W.Frag} {σ : L2.St} {H : Hp} {l : Addr} {vs : List V} {e : Ex} {i : Nat} {j : Int} {v : V} (hσ : σ[i]? = some (some (.ref l))) (hl : H l = some (.lst vs)) (hj : atI vs j = some v) (hv : AtE H v e) :
    ∀ (H1 : Hp) (Q : VK), Stp [] H H1 → (∀ v H2, Stp [] H1 H2 → AtE H2 v e → Q v H2) → tOp (rIxL K) (tVar i) (tC (.int j)) σ H1 Q :=
  fun H1 Q s q => ⟨_, hσ, l, _, _, _, rfl, rfl, SqL.of (s.keep _ _ (by simp) hl), hj, q v H1 (.refl _ _) (hv.step s)⟩
theorem ok_long (F : Df K mg "_law_long" s_L_long) (rng : mg "range" = none) (mn : mg "min" = none) (U : Use P w K mg base "_law_next" ["_law_dice_here", "_law_many"] 1 (spNext K)) (UA : Use P w K mg base "_law_again" ["_law_d"] 1 spAgain)
    (UO : Use P w K mg base "_law_loop" ["_law_d", "_law_step", "_law_base", "_law_many"] 1 spLoop) : Use P w K mg base "_law_long" ["_law_d"] 2 (spLong K) := by
  refine F.use scLong (fun _ _ _ _ _ _ us hl => match us, hl with | [_], _ => rfl) (fun vs H Q E h => ?_) (fun cdv f A outer s H vs Q E hr h => ?_)
  · obtain ⟨D, d, a, ns, rfl, _⟩ := h
    rfl
  · obtain ⟨D, d, a, ns, rfl, hD, q⟩ := h
    refine ⟨_, pss_cons (ps_set (i := 1) scLong.nd rfl (Or.inl rfl) (pe_use UA hr (pa_cons (pv 0) pa_nil)))
      (pss_cons (ps_set (i := 2) scLong.nd rfl (Or.inl rfl) (pe_lst (pa_cons (pe_tup (pa_cons pe_str (pa_cons (pe_tup (pa_cons pe_str (pa_cons pe_str pa_nil))) (pa_cons (pv 1) pa_nil)))) (pa_cons (pv 1)
          (pa_cons (pe_tup (pa_cons pe_str (pa_cons (pv 1) (pa_cons (pe_tup (pa_cons pe_str (pa_cons (pe_tup (pa_cons pe_str (pa_cons pe_str pa_nil))) pa_nil))) pa_nil)))) pa_nil)))))
      (pss_cons (ps_expr (pe_bm PySem.F.plainAttrs_list PySem.F.slot_list_append PySem.F.type_list_append mt_append (pv 2) (pa_cons (pe_tup (pa_cons pe_str (pa_cons (pe_tup (pa_cons pe_str (pa_cons (pe_tup (pa_cons pe_str (pa_cons pe_str pa_nil))) pa_nil))) (pa_cons (pv 1) pa_nil)))) pa_nil)))
      (pss_cons (ps_expr (pe_bm PySem.F.plainAttrs_list PySem.F.slot_list_append PySem.F.type_list_append mt_append (pv 2) (pa_cons (pe_tup (pa_cons pe_str (pa_cons (pe_tup (pa_cons pe_str (pa_cons (pe_tup (pa_cons pe_str (pa_cons pe_str pa_nil))) pa_nil))) (pa_cons (pv 1) pa_nil)))) pa_nil)))
      (pss_cons (ps_expr (pe_bm PySem.F.plainAttrs_list PySem.F.slot_list_append PySem.F.type_list_append mt_append (pv 2) (pa_cons (pe_tup (pa_cons pe_str (pa_cons (pv 1) (pa_cons (pe_tup (pa_cons pe_str (pa_cons (pe_tup (pa_cons pe_str (pa_cons pe_str pa_nil))) pa_nil))) pa_nil)))) pa_nil)))
      (pss_cons (ps_expr (pe_bm PySem.F.plainAttrs_list PySem.F.slot_list_append PySem.F.type_list_append mt_append (pv 2) (pa_cons (pe_tup (pa_cons pe_str (pa_cons pe_str (pa_cons (pv 1) (pa_cons (pe_tup (pa_cons pe_str (pa_cons (pe_tup (pa_cons pe_str (pa_cons pe_str pa_nil))) (pa_cons (pe_tup (pa_cons pe_str (pa_cons pe_str pa_nil))) pa_nil)))) pa_nil))))) pa_nil)))
      (pss_cons (ps_set (i := 3) scLong.nd rfl (Or.inl rfl) (pe_tup (pa_cons pe_str (pa_cons (pe_tup (pa_cons pe_str (pa_cons (pe_tup (pa_cons pe_str (pa_cons pe_str pa_nil))) pa_nil))) (pa_cons (pv 1) pa_nil)))))
      (pss_cons (ps_expr (pe_bm PySem.F.plainAttrs_list PySem.F.slot_list_append PySem.F.type_list_append mt_append (pv 2) (pa_cons (pe_tup (pa_cons pe_str (pa_cons (pv 3) (pa_cons pe_str (pa_cons pe_str (pa_cons (pe_tup (pa_cons pe_str (pa_cons (pe_tup (pa_cons pe_str (pa_cons pe_str pa_nil))) (pa_cons (pe_tup (pa_cons pe_str (pa_cons pe_str pa_nil))) pa_nil)))) pa_nil)))))) pa_nil)))
      (pss_cons (ps_set (i := 4) scLong.nd rfl (Or.inl rfl) (pe_lst (pa_cons (pe_tup (pa_cons pe_str (pa_cons pe_int pa_nil))) (pa_cons (pe_tup (pa_cons pe_str (pa_cons (pe_tup (pa_cons pe_str (pa_cons pe_int pa_nil))) pa_nil))) (pa_cons (pe_tup (pa_cons pe_str pa_nil)) (pa_cons (pe_tup (pa_cons pe_str (pa_cons (pe_tup (pa_cons pe_str (pa_cons pe_int pa_nil))) pa_nil))) pa_nil))))))
      (pss_cons (ps_set (i := 5) scLong.nd rfl (Or.inl rfl) (pe_ix ix_list (pe_lst (pa_cons pe_int (pa_cons pe_int (pa_cons pe_int (pa_cons pe_int (pa_cons pe_int (pa_cons pe_int (pa_cons pe_int (pa_cons pe_int pa_nil))))))))) (pe_use U hr (pa_cons (pv 0) (pa_cons pe_int pa_nil))) (fun _ _ => rfl)))
      (pss_cons (ps_set (i := 6) scLong.nd rfl (Or.inl rfl) (pe_use U hr (pa_cons (pv 0) (pa_cons pe_int pa_nil))))
      (pss_cons (ps_set (i := 5) scLong.nd rfl (Or.inl rfl) (pe_ifExp (pt_cmpR (r := rIn K false) op_in_seq (pv 6) (pe_tup (pa_cons pe_int (pa_cons pe_int pa_nil))) rfl) (pe_callB (call_min2 rfl) (by rfl) mn (by decide +kernel) (pa_cons (pv 5) (pa_cons pe_int pa_nil))) (pv 5)))
      (pss_cons (ps_set (i := 7) scLong.nd rfl (Or.inl rfl) (pe_use UO hr (pa_cons (pv 0) (pa_cons (pe_ix ix_list (pv 2) (pv 6) (fun _ _ => rfl)) (pa_cons (pe_ix ix_list (pv 4) (pe_use U hr (pa_cons (pv 0) (pa_cons pe_int pa_nil))) (fun _ _ => rfl)) (pa_cons (pv 5) pa_nil))))))
      (pss_cons (ps_setLc (i := 8) (own := [("_law_k", 10)]) (g := gName 10) (tt := tYes) (by rfl) scLong.nd rfl rfl (sw_true rfl rfl rfl (by decide +kernel)) (pi_range1 (by rfl) rng (pa_cons pe_int pa_nil))
          (blkOk_by (own := [("_law_k", 10)]) (N := ["_law_d", "_law_again_here", "_law_some", "_law_body", "_law_bases", "_law_many", "_law_step", "_law_found", "_law_gos", "_law_handlers", "_law_k"]) (sc := defScope s_L_long) (by decide +kernel))
          (fun _ _ _ _ _ => pg_name (i := 10) scLong.nd rfl (Or.inl rfl)) (fun _ _ _ _ _ => pts_nil) (fun _ _ _ _ _ => pe_tup (pa_cons pe_str (pa_cons (pe_tup (pa_cons pe_str (pa_cons pe_str pa_nil))) (pa_cons (pe_tup (pa_cons pe_str (pa_cons (pe_op op_add pe_int (pv 10)) pa_nil))) pa_nil)))))
      (pss_cons (ps_set (i := 9) scLong.nd rfl (Or.inl rfl) (pe_lst (pa_cons (pe_tup (pa_cons pe_str (pa_cons pe_str pa_nil))) (pa_cons (pe_ix ix_list (pv 8) pe_int (fun _ _ => rfl)) (pa_cons (pe_tup (pa_cons pe_str (pa_cons (pe_ix ix_list (pv 8) pe_int (fun _ _ => rfl)) (pa_cons (pe_ix ix_list (pv 8) pe_int (fun _ _ => rfl)) pa_nil))))
          (pa_cons (pe_tup (pa_cons pe_str (pa_cons (pe_ix ix_list (pv 8) pe_int (fun _ _ => rfl)) (pa_cons (pe_tup (pa_cons pe_str (pa_cons (pe_tup (pa_cons pe_str (pa_cons pe_str pa_nil))) pa_nil))) pa_nil)))) (pa_cons (pe_ix ix_list (pv 8) pe_int (fun _ _ => rfl)) pa_nil)))))))
      (pss_cons (ps_expr (pe_bm PySem.F.plainAttrs_list PySem.F.slot_list_append PySem.F.type_list_append mt_append (pv 9) (pa_cons (pe_tup (pa_cons pe_str (pa_cons pe_str (pa_cons (pe_ix ix_list (pv 8) pe_int (fun _ _ => rfl)) (pa_cons (pe_tup (pa_cons pe_str (pa_cons pe_str (pa_cons (pe_ix ix_list (pv 8) pe_int (fun _ _ => rfl)) (pa_cons (pe_tup (pa_cons pe_str (pa_cons (pe_tup (pa_cons pe_str (pa_cons pe_str pa_nil))) (pa_cons (pe_tup (pa_cons pe_str (pa_cons pe_str pa_nil))) pa_nil)))) pa_nil))))) pa_nil))))) pa_nil)))
      (pss_cons (ps_if (pt_cmpR op_gt (pe_use U hr (pa_cons (pv 0) (pa_cons pe_int pa_nil))) pe_int (nomark _))
          (pss_one (ps_set (i := 7) scLong.nd rfl (Or.inl rfl) (pe_tup (pa_cons pe_str (pa_cons (pv 7) (pa_cons pe_str (pa_cons pe_str (pa_cons (pe_ix ix_list (pv 9) (pe_use U hr (pa_cons (pv 0) (pa_cons pe_int pa_nil))) (fun _ _ => rfl)) pa_nil)))))))) pss_nil)
      (pss_one (ps_ret (pv 7))))))))))))))))))), ?_⟩
    refine ⟨_, rfl, .ref d, rfl, fun vA H1 s1 aA => ?_⟩
    let ρ : Rho := ⟨fun i => if i = 3 then .two "add" (.one "throw" (.name "a")) exAgain else exAgain, fun _ => 0, fun _ => "a"⟩
    refine stL (ρ := ρ) [.two "add" (.nm "a") (.var 1), .var 1, .two "last" (.var 1) (.one "say" (.nm "a"))] (by decide) ?_ fun p vs2 H2 s2 aL np => ?_
    · intro b hb
      simp only [List.mem_cons, List.not_mem_nil, or_false] at hb
      rcases hb with rfl | rfl | rfl
      · exact ⟨trivial, vA, rfl, aA⟩
      · exact ⟨vA, rfl, aA⟩
      · exact ⟨⟨vA, rfl, aA⟩, trivial⟩
    have L2' := Lst.make s2 np aL
    refine apB (ρ := ρ) (.two "add" (.one "say" (.nm "a")) (.var 1)) rfl L2'.at_ (by rw [L2'.al.length]; decide) ?_ fun v3 H3 s3 a3 => ?_
    · exact ⟨trivial, vA, rfl, aA.step L2'.st⟩
    have L3 := L2'.app s3 a3
    refine apB (ρ := ρ) (.two "add" (.one "throw" (.nm "a")) (.var 1)) rfl L3.at_ (by rw [L3.al.length]; decide) ?_ fun v4 H4 s4 a4 => ?_
    · exact ⟨trivial, vA, rfl, aA.step L3.st⟩
    have L4 := L3.app s4 a4
    refine apB (ρ := ρ) (.two "else" (.var 1) (.one "say" (.nm "a"))) rfl L4.at_ (by rw [L4.al.length]; decide) ?_ fun v5 H5 s5 a5 => ?_
    · exact ⟨⟨vA, rfl, aA.step L4.st⟩, trivial⟩
    have L5 := L4.app s5 a5
    refine apB (ρ := ρ) (.lt "c" (.var 1) (.two "add" (.nm "c") (.nm "c"))) rfl L5.at_ (by rw [L5.al.length]; decide) ?_ fun v6 H6 s6 a6 => ?_
    · exact ⟨⟨vA, rfl, aA.step L5.st⟩, trivial, trivial⟩
    have L6 := L5.app s6 a6
    refine stB (ρ := ρ) (.two "add" (.one "throw" (.nm "a")) (.var 1)) ?_ fun v7 H7 s7 a7 => ?_
    · exact ⟨trivial, vA, rfl, aA.step L6.st⟩
    have L7 := L6.step s7
    refine apB (ρ := ρ) (.ct (.var 3) "d" "e" (.two "go" (.nm "e") (.nm "d"))) rfl L7.at_ (by rw [L7.al.length]; decide) ?_ fun v8 H8 s8 a8 => ?_
    · exact ⟨⟨v7, rfl, a7⟩, trivial, trivial⟩
    have L8 := L7.app s8 a8
    refine stL (ρ := ρ) [.num 0, .one "throw" (.num 3), .fault, .one "say" (.num 9)] (by decide) ?_ fun pb vsb H9 s9 aLb npb => ?_
    · intro b hb
      simp only [List.mem_cons, List.not_mem_nil, or_false] at hb
      rcases hb with rfl | rfl | rfl | rfl <;> exact trivial
    have L9 := (L8.step s9).step (.new npb (.lst vsb))
    have LB := Lst.make (s1.trans (L8.st.trans s9)) npb aLb
    have hD9 : Dice K (upd H9 pb (.lst vsb)) D d a ns := hD.step (D' := []) LB.st (by simp) (by simp)
    refine ⟨(by show 8 ≤ sizeLine; decide), fun l nl => ⟨_, rfl, D, d, a, ns, 8, rfl, hD9.up nl, by decide, by decide, fun x H10 x0 x1 st10 hD10 => ?_⟩⟩
    obtain ⟨m, em, m0, m1⟩ := many8 x x0 x1
    refine ⟨l, _, _, _, rfl, rfl, SqL.of (st10.keep _ _ (hD9.fresh nl) upd_same), em, ?_⟩
    have pd : p ∉ [d] := fun z => by
      obtain ⟨xs, ed⟩ := hD.is_
      have := s1.was (by simp) L2'.n0
      rw [List.mem_singleton.mp z, ed] at this
      cases this
    have pbd : pb ∉ [d] := fun z => by
      obtain ⟨xs, ed⟩ := hD.is_
      have := LB.n0
      rw [List.mem_singleton.mp z, ed] at this
      cases this
    have s10 : Stp [d] H H10 := ((LB.st.trans (.new nl _)).mono (fun b hb => by cases hb)).trans st10
    have e10 : H10 p = some (.lst _) := st10.keep _ _ pd ((Stp.new (D := []) nl _).keep _ _ (by simp) L9.at_)
    have b10 : H10 pb = some (.lst _) := st10.keep _ _ pbd ((Stp.new (D := []) nl _).keep _ _ (by simp) LB.at_)
    have al10 := (L9.al.step (D := []) (.new nl _)).step st10
    have bl10 := (LB.al.step (D := []) (.new nl _)).step st10
    refine ⟨_, rfl, D, d, a, ns, 8, rfl, hD10, by decide, by decide, fun y H11 y0 y1 st11 hD11 => ?_⟩
    have s11 := s10.trans st11
    have e11 := st11.keep _ _ pd e10
    have b11 := st11.keep _ _ pbd b10
    have al11 := al10.step st11
    have bl11 := bl10.step st11
    refine ⟨_, rfl, (by show 2 ≤ sizeLine; decide), fun t nt => ⟨t, _, rfl, .inr (SqT.of upd_same), rfl, rfl, _, rfl, ?_⟩⟩
    have s12 := s11.up nt (.tup [.int 4, .int 7])
    have e12 := (Stp.new (D := []) nt (.tup [.int 4, .int 7])).keep _ _ (by simp) e11
    have b12 := (Stp.new (D := []) nt (.tup [.int 4, .int 7])).keep _ _ (by simp) b11
    have al12 := al11.step (D := []) (.new nt (.tup [.int 4, .int 7]))
    have bl12 := bl11.step (D := []) (.new nt (.tup [.int 4, .int 7]))
    have hD12 := hD11.up (o := .tup [.int 4, .int 7]) nt
    generalize upd H11 t (.tup [.int 4, .int 7]) = H12 at s12 e12 b12 al12 bl12 hD12 ⊢
    have hm2 : 0 ≤ (if (300 : Int) < m then 300 else m) ∧ (if (300 : Int) < m then 300 else m) ≤ 1900 := by split <;> omega
    refine ite2 (fun _ => ?_) (fun _ => ?_)
    case' refine_1 =>
      refine ⟨_, rfl, _, _, rfl, ?_⟩
      have hmm := hm2
      generalize (if (300 : Int) < m then 300 else m) = m2 at hmm ⊢
    case' refine_2 =>
      refine ⟨_, rfl, ?_⟩
      have hmm : 0 ≤ m ∧ m ≤ 1900 := ⟨m0, m1⟩
      generalize m = m2 at hmm ⊢
    all_goals (
      obtain ⟨vx, ex, ix1, ix2, ix3⟩ := al12.ix (x := y) y0 y1
      have hx := steps_good ex ix2
      refine ⟨_, rfl, _, rfl, _, rfl, p, _, _, _, rfl, rfl, SqL.of e12, ix1, _, rfl, _, rfl, D, d, a, ns, 4, rfl, hD12, by decide, by decide, fun z H13 z0 z1 st13 hD13 => ?_⟩
      obtain ⟨vy, ey, iy1, iy2, iy3⟩ := bl12.ix (x := z) z0 z1
      have hy := bases_good ey iy2
      refine ⟨pb, _, _, _, rfl, rfl, SqL.of (st13.keep _ _ pbd b12), iy1, _, rfl, .ref d, vx, vy, ex, ey, m2, rfl, ix3.step st13, iy3.step st13, fun vf H14 s14 af => ?_⟩
      have gf := loop_good hx hy hmm.1 hmm.2
      generalize exLoop ex ey m2 = ef at af gf
      have st14 : Stp [d] H H14 := (s12.trans st13).trans (s14.mono fun b hb => by cases hb)
      have hD14 := hD13.step (D' := []) s14 (by simp) (by simp)
      refine ⟨3, rfl, by decide, by decide, fun G nG => ?_⟩
      refine lc_range (lo := 0) (n := 3) (fun i H15 => ∃ vs, H15 G = some (.lst vs) ∧ vs.length ≤ i ∧ AtL H15 vs ((List.range i).map fun (k : Nat) => exGo (1 + (k : Int))) ∧ Stp [] H14 H15) ⟨[], upd_same, Nat.zero_le _, .nil, .new nG _⟩ ?_ ?_
      · rintro i H15 hi ⟨vs, eG, hl, al, s15⟩
        refine ⟨rfl, (by show 2 ≤ sizeLine; decide), fun t1 n1 => ⟨_, rfl, _, _, rfl, rfl, (by show 2 ≤ sizeLine; decide), fun t2 n2 => ⟨(by show 3 ≤ sizeLine; decide), fun t3 n3 => ?_⟩⟩⟩
        have c3 := ((Stp.new (D := []) n1 _).trans (.new n2 _)).trans (.new n3 (.tup [.str "go", .ref t1, .ref t2]))
        have eG3 := c3.keep _ _ (by simp) eG
        have n14G : H14 G = none := nG
        refine ⟨vs, eG3, Nat.lt_of_le_of_lt hl (Nat.lt_of_lt_of_le hi (by decide)), vs ++ [.ref t3], upd_same, by rw [List.length_append, List.length_singleton]; omega, ?_, (s15.trans c3).putnew n14G _⟩
        have k := Tk.put (us := vs ++ [.ref t3]) eG3
        rw [List.range_succ, List.map_append]
        refine ((al.step c3).tups k).append (.cons ?_ .nil)
        have k2 := Tk.back n3 k
        have k1 := Tk.back n2 k2
        have el : ((0 : Int) + (i : Int)) = (i : Int) := by omega
        refine ⟨t3, _, _, rfl, k _ _ upd_same, ⟨t1, rfl, k1 _ _ upd_same⟩, t2, rfl, ?_⟩
        exact (k2 _ _ upd_same).trans (by show some (HO.tup [V.str "num", V.int (1 + ((0 : Int) + (i : Int)))]) = _; rw [el])
      · rintro H15 ⟨vs, eG, hl, al, s15⟩
        have nGH : H14 G = none := nG
        have sH15 : Stp [d] H H15 := st14.trans (s15.mono fun b hb => by cases hb)
        have hD15 := hD14.step (D' := []) s15 (by simp) (by simp)
        have af15 := af.step s15
        obtain ⟨u0, u1, u2, rfl, g0, g1, g2⟩ : ∃ u0 u1 u2, vs = [u0, u1, u2] ∧ AtE H15 u0 (exGo 1) ∧ AtE H15 u1 (exGo 2) ∧ AtE H15 u2 (exGo 3) := by
          cases al with
          | cons a0 al => cases al with
            | cons a1 al => cases al with
              | cons a2 al => cases al; exact ⟨_, _, _, rfl, a0, a1, a2⟩
        let ρ2 : Rho := ⟨fun i => if i = 0 then exGo 1 else if i = 1 then exGo 2 else exGo 3, fun _ => 0, fun _ => "a"⟩
        have x0' : ∀ {σ : L2.St} {Hc : Hp}, σ[8]? = some (some (.ref G)) → Stp [] H15 Hc → (Bx.ext 0 (tOp (rIxL K) (tVar 8) (tC (.int 0)))).has ρ2 σ Hc := fun hσ sc => ext_ix hσ (sc.keep _ _ (by simp) eG) rfl (g0.step sc)
        have x1' : ∀ {σ : L2.St} {Hc : Hp}, σ[8]? = some (some (.ref G)) → Stp [] H15 Hc → (Bx.ext 1 (tOp (rIxL K) (tVar 8) (tC (.int 1)))).has ρ2 σ Hc := fun hσ sc => ext_ix hσ (sc.keep _ _ (by simp) eG) rfl (g1.step sc)
        have x2' : ∀ {σ : L2.St} {Hc : Hp}, σ[8]? = some (some (.ref G)) → Stp [] H15 Hc → (Bx.ext 2 (tOp (rIxL K) (tVar 8) (tC (.int 2)))).has ρ2 σ Hc := fun hσ sc => ext_ix hσ (sc.keep _ _ (by simp) eG) rfl (g2.step sc)
        refine stL (ρ := ρ2) [.nm "g", .ext 0 (tOp (rIxL K) (tVar 8) (tC (.int 0))), .two "add" (.ext 0 (tOp (rIxL K) (tVar 8) (tC (.int 0)))) (.ext 1 (tOp (rIxL K) (tVar 8) (tC (.int 1)))),
          .two "add" (.ext 0 (tOp (rIxL K) (tVar 8) (tC (.int 0)))) (.one "drop" (.nm "h")), .ext 2 (tOp (rIxL K) (tVar 8) (tC (.int 2)))] (by show 5 ≤ 100; decide) ?_ fun ph vsh H16 s16 alh nph => ?_
        · intro b hb
          simp only [List.mem_cons, List.not_mem_nil, or_false] at hb
          rcases hb with rfl | rfl | rfl | rfl | rfl
          · exact trivial
          · exact x0' rfl (.refl _ _)
          · exact ⟨x0' rfl (.refl _ _), x1' rfl (.refl _ _)⟩
          · exact ⟨x0' rfl (.refl _ _), trivial⟩
          · exact x2' rfl (.refl _ _)
        have LH := Lst.make s16 nph alh
        refine apB (ρ := ρ2) (.lt "a" (.ext 0 (tOp (rIxL K) (tVar 8) (tC (.int 0)))) (.lt "b" (.ext 1 (tOp (rIxL K) (tVar 8) (tC (.int 1)))) (.two "add" (.nm "a") (.nm "b")))) rfl LH.at_ (by rw [LH.al.length]; show 5 ≤ 1000; decide) ?_ fun v17 H17 s17 a17 => ?_
        · exact ⟨x0' rfl LH.st, x1' rfl LH.st, trivial, trivial⟩
        have LI := LH.app s17 a17
        have sI : Stp [d] H _ := sH15.trans (LI.st.mono fun b hb => by cases hb)
        have hDI := hD15.step (D' := []) LI.st (by simp) (by simp)
        have afI := af15.step LI.st
        refine ⟨_, rfl, D, d, a, ns, 5, rfl, hDI, by decide, by decide, fun k H18 k0 k1 st18 hD18 => ⟨_, _, rfl, rfl, _, rfl, ?_⟩⟩
        have sI8 := sI.trans st18
        have phd : ph ∉ [d] := fun z => by
          obtain ⟨xs, ed⟩ := hD15.is_
          have := LI.n0
          rw [List.mem_singleton.mp z, ed] at this
          cases this
        refine ite2 (fun _ => ?_) (fun _ => ?_)
        · refine ⟨_, rfl, _, rfl, _, rfl, D, d, a, ns, 6, rfl, hD18, by decide, by decide, fun k2 H19 k20 k21 st19 hD19 => ?_⟩
          obtain ⟨vh, eh, ih1, ih2, ih3⟩ := LI.al.ix (x := k2) k20 k21
          have hh := hands_good eh ih2
          refine ⟨ph, _, _, _, rfl, rfl, SqL.of (st19.keep _ _ phd (st18.keep _ _ phd LI.at_)), ih1, (by show 5 ≤ sizeLine; decide), fun pc npc => ⟨_, rfl, ?_⟩⟩
          refine q _ (.ct ef "g" "h" eh) _ ⟨pc, _, _, rfl, upd_same, ((afI.step st18).step st19).up npc _, ((ih3.step st18).step st19).up npc _⟩ ⟨by decide +kernel, by decide +kernel, by decide +kernel, gf.1, hh.1⟩ ?_ ?_ ((sI8.trans st19).up npc _) (hD19.up npc)
          · simp only [Ex.size]; omega
          · simp only [Ex.deep]; omega
        · exact ⟨_, rfl, q _ ef _ (afI.step st18) gf.1 (by omega) (by omega) sI8 hD18⟩)
end
end Wr
namespace Wr
open PySem PySem.Spec PyProof.Rows L2
section
variable {P : Program} {w : World} {K : PySem.W.Frag} {mg : Str → Option Value} {base : Heap}
theorem scAny : FnScope ["_law_d"] ["_law_d"] (defScope s_L_any) := ⟨rfl, rfl, rfl, by decide +kernel, rfl, by decide +kernel, by decide +kernel⟩
theorem u_long (G : GenDefs K mg) : Use P w K mg base "_law_long" ["_law_d"] 2 (spProgram K) := ok_long G.long G.zrange G.zmin (u_next G) (ok_again G.again) (ok_loop G.loop)
theorem u_any (G : GenDefs K mg) : Use P w K mg base "_law_any" ["_law_d"] 227 (spProgram K) := by
  have U : Use P w K mg base "_law_next" ["_law_dice_here", "_law_many"] 1 (spNext K) := u_next G
  have UL : Use P w K mg base "_law_long" ["_law_d"] 2 (spProgram K) := u_long G
  have UP : Use P w K mg base "_law_program" ["_law_d"] 226 (spProgram K) := u_program G
  refine G.any.use scAny (fun _ _ _ _ _ _ us hl => match us, hl with | [_], _ => rfl) (fun vs H Q E h => ?_) (fun cdv f A outer s H vs Q E hr h => ?_)
  · obtain ⟨D, d, a, ns, rfl, _⟩ := h
    rfl
  · obtain ⟨D, d, a, ns, rfl, hD, q⟩ := h
    have hr1 : Room 1 _ := hr.mono (by decide)
    have hr2 : Room 2 _ := hr.mono (by decide)
    refine ⟨_, pss_one (ps_ret (pe_ifExp (pt_cmpR op_eq (pe_use U hr1 (pa_cons (pv 0) (pa_cons pe_int pa_nil))) pe_int (nomark _)) (pe_use UL hr2 (pa_cons (pv 0) pa_nil)) (pe_use UP hr (pa_cons (pv 0) pa_nil)))), ?_⟩
    refine ⟨_, rfl, D, d, a, ns, 3, rfl, hD, by decide, by decide, fun x H1 x0 x1 st hD1 => ⟨rfl, _, rfl, ?_⟩⟩
    refine ite2 (fun _ => ?_) (fun _ => ?_)
    · exact ⟨_, rfl, D, d, a, ns, rfl, hD1, fun v e H2 h1 h2 h3 h4 s2 hD2 => q v e H2 h1 h2 h3 h4 (st.trans s2) hD2⟩
    · exact ⟨_, rfl, D, d, a, ns, rfl, hD1, fun v e H2 h1 h2 h3 h4 s2 hD2 => q v e H2 h1 h2 h3 h4 (st.trans s2) hD2⟩
end
end Wr
namespace Wr
open PySem PySem.Spec PyProof.Rows L2
section
variable {P : Program} {w : World} {K : PySem.W.Frag} {mg : Str → Option Value} {base : Heap}
/-- is it a whole number: of what is an int, what a bool -/
def spWhole (K : PySem.W.Frag) : Sp := fun vs H Q _ => ∃ (v : V) (t : Value) (b c : Bool), vs = [v] ∧ TyX K H v t ∧ PySem.W.kitOne K t (.type "int") = some b ∧ PySem.W.kitOne K t (.type "bool") = some c ∧ Q (.bl (b && !c)) H
theorem scWhole : FnScope ["held"] ["held"] (defScope s_is_whole) := ⟨rfl, rfl, rfl, by decide +kernel, rfl, by decide +kernel, by decide +kernel⟩
theorem ok_whole (F : Df K mg "is_whole" s_is_whole) (isi : mg "isinstance" = none) (it : mg "int" = none) (bo : mg "bool" = none) : Use P w K mg base "is_whole" ["held"] 1 (spWhole K) := by
  refine F.use scWhole (fun _ _ _ _ _ _ us hl => match us, hl with | [_], _ => rfl) (fun vs H Q E h => ?_) (fun cdv f A outer s H vs Q E hr h => ?_)
  · obtain ⟨v, t, b, c, rfl, _⟩ := h
    rfl
  · obtain ⟨v, t, b, c, rfl, ty, h1, h2, q⟩ := h
    refine ⟨_, pss_one (ps_ret (pe_and (pe_callB (r := rIsi K) call_isi (by rfl) isi (by decide +kernel) (pa_cons (pv 0) (pa_cons (pe_bltn (v := .ty "int") (u := .type "int") (by rfl) it (by decide +kernel) rfl) pa_nil)))
      (pe_one (pe_not (pe_callB (r := rIsi K) call_isi (by rfl) isi (by decide +kernel) (pa_cons (pv 0) (pa_cons (pe_bltn (v := .ty "bool") (u := .type "bool") (by rfl) bo (by decide +kernel) rfl) pa_nil))))))), ?_⟩
    refine ⟨_, rfl, v, .ty "int", t, .type "int", b, rfl, .ty _, ty, h1, b, rfl, ?_⟩
    cases b with
    | false => exact iteF q
    | true => exact iteT ⟨_, rfl, v, .ty "bool", t, .type "bool", c, rfl, .ty _, ty, h2, c, rfl, q⟩
/-- does it fit a place of a good part -/
def spFits : Sp := fun vs H Q _ => ∃ (x : Str) (v : V), vs = [.str x, v] ∧ ((x = "n" ∧ ∃ i, v = .int i) ∨ (x = "x" ∧ ∃ s, v = .str s) ∨ x = "e") ∧ Q (.bl true) H
theorem scFits : FnScope ["place", "held"] ["place", "held"] (defScope s_fits) := ⟨rfl, rfl, rfl, by decide +kernel, rfl, by decide +kernel, by decide +kernel⟩
theorem ok_fits (F : Df K mg "fits" s_fits) (isi : mg "isinstance" = none) (st : mg "str" = none) (U : Use P w K mg base "is_whole" ["held"] 1 (spWhole K)) : Use P w K mg base "fits" ["place", "held"] 2 spFits := by
  refine F.use scFits (fun _ _ _ _ _ _ us hl => match us, hl with | [_, _], _ => rfl) (fun vs H Q E h => ?_) (fun cdv f A outer s H vs Q E hr h => ?_)
  · obtain ⟨x, v, rfl, _⟩ := h
    rfl
  · obtain ⟨x, v, rfl, h, q⟩ := h
    refine ⟨_, pss_cons (ps_if (pt_cmpR op_eq (pv 0) pe_str (nomark _)) (pss_one (ps_ret (pe_use U hr (pa_cons (pv 1) pa_nil)))) pss_nil)
      (pss_cons (ps_if (pt_cmpR op_eq (pv 0) pe_str (nomark _)) (pss_one (ps_ret (pe_callB (r := rIsi K) call_isi (by rfl) isi (by decide +kernel) (pa_cons (pv 1) (pa_cons (pe_bltn (v := .ty "str") (u := .type "str") (by rfl) st (by decide +kernel) rfl) pa_nil))))) pss_nil)
      (pss_one (ps_ret pe_bl))), ?_⟩
    rcases h with ⟨rfl, i, rfl⟩ | ⟨rfl, s, rfl⟩ | rfl
    · refine ⟨_, rfl, rfl, _, rfl, iteT ?_⟩
      exact ⟨_, rfl, .int i, _, true, false, rfl, .base (.int i), kit_ty (by decide +kernel), kit_ty (by decide +kernel), q⟩
    · refine ⟨_, rfl, rfl, _, rfl, iteF ?_⟩
      refine ⟨_, rfl, rfl, _, rfl, iteT ?_⟩
      exact ⟨_, rfl, .str s, .ty "str", _, .type "str", true, rfl, .ty _, .base (.str s), kit_ty (by decide +kernel), q⟩
    · refine ⟨_, rfl, rfl, _, rfl, iteF ?_⟩
      refine ⟨_, rfl, rfl, _, rfl, iteF ?_⟩
      exact q
end
end Wr
namespace Wr
open PySem PySem.Spec PyProof.Rows L2
theorem Good.kid2 {S : List Str} {e k : Ex} (hS : ∀ x ∈ S, x ∈ letters) (g : Good S e) (h : k ∈ e.kids) : ∃ S', (∀ x ∈ S', x ∈ letters) ∧ Good S' k := by
  cases e with
  | num n => cases h
  | name x => cases h
  | fault => cases h
  | one w a => rw [List.mem_singleton.mp h]; exact ⟨S, hS, g.2⟩
  | two w a b =>
    simp only [Ex.kids, List.mem_cons, List.not_mem_nil, or_false] at h
    rcases h with rfl | rfl
    · exact ⟨S, hS, g.2.1⟩
    · exact ⟨S, hS, g.2.2⟩
  | ite a b c =>
    simp only [Ex.kids, List.mem_cons, List.not_mem_nil, or_false] at h
    rcases h with rfl | rfl | rfl
    · exact ⟨S, hS, g.1⟩
    · exact ⟨S, hS, g.2.1⟩
    · exact ⟨S, hS, g.2.2⟩
  | lt n a b =>
    simp only [Ex.kids, List.mem_cons, List.not_mem_nil, or_false] at h
    rcases h with rfl | rfl
    · exact ⟨S, hS, g.2.1⟩
    · exact ⟨_, consL hS g.1, g.2.2⟩
  | fn n a => rw [List.mem_singleton.mp h]; exact ⟨_, consL hS g.1, g.2⟩
  | ct a n k' b =>
    simp only [Ex.kids, List.mem_cons, List.not_mem_nil, or_false] at h
    rcases h with rfl | rfl
    · exact ⟨S, hS, g.2.2.2.1⟩
    · exact ⟨_, consL (consL hS g.2.1) g.1, g.2.2.2.2⟩
theorem ones_lf : ∀ w ∈ ones, inV (V.str w) [.str "let", .str "fun"] = false := by decide +kernel
theorem twos_lf : ∀ w ∈ twos, inV (V.str w) [.str "let", .str "fun"] = false := by decide +kernel
theorem word_lf {S : List Str} {e : Ex} (g : Good S e) (h : inV (V.str e.word) [.str "let", .str "fun"] = true) : (∃ x a b, e = .lt x a b) ∨ ∃ x a, e = .fn x a := by
  have no : ∀ {w : Str}, inV (V.str w) [.str "let", .str "fun"] = false → inV (V.str w) [.str "let", .str "fun"] = true → False := fun a b => by rw [a] at b; cases b
  cases e with
  | num n => exact (no (w := "num") (by decide +kernel) h).elim
  | name x => exact (no (w := "name") (by decide +kernel) h).elim
  | fault => exact (no (w := "fault") (by decide +kernel) h).elim
  | one w a => exact (no (ones_lf w g.1) h).elim
  | two w a b => exact (no (twos_lf w g.1) h).elim
  | ite a b c => exact (no (w := "if") (by decide +kernel) h).elim
  | lt n a b => exact .inl ⟨_, _, _, rfl⟩
  | fn n a => exact .inr ⟨_, _, rfl⟩
  | ct a n k b => exact (no (w := "catch") (by decide +kernel) h).elim
theorem word_nlf {S : List Str} {e : Ex} (g : Good S e) (h : ¬ inV (V.str e.word) [.str "let", .str "fun"] = true) (hc : ¬ e.isCt = true) (k : Option Str) : (e.ks k).map okV = List.replicate e.kids.length (okV k) := by
  cases e with
  | lt n a b => exact absurd (by show inV (V.str "let") [.str "let", .str "fun"] = true; decide +kernel) h
  | fn n a => exact absurd (by show inV (V.str "fun") [.str "let", .str "fun"] = true; decide +kernel) h
  | ct a n k b => exact absurd rfl hc
  | _ => rfl
theorem in_okV (k : Option Str) (x y : Str) : inV (okV k) [.str x, .str y] = decide (k = some x ∨ k = some y) := by
  cases k with
  | none => rfl
  | some z =>
    show (x == z || (y == z || false)) = decide (some z = some x ∨ some z = some y)
    rw [Bool.or_false]
    by_cases h : x = z
    · rw [h, decide_eq_true (Or.inl rfl)]; simp
    · by_cases h2 : y = z
      · rw [h2, decide_eq_true (Or.inr rfl)]; simp
      · rw [beq_eq_false_iff_ne.mpr h, beq_eq_false_iff_ne.mpr h2, decide_eq_false (by rintro (q | q); exact h (Option.some.inj q).symm; exact h2 (Option.some.inj q).symm)]; rfl
theorem rd_names {K : PySem.W.Frag} {D : Ends} {σ : L2.St} {H : Hp} {S : List Str} {e : Ex} {k : Option Str} {t p : Addr} (hg : Good S e) (hv : AtE H (.ref t) e) (h0 : σ[0]? = some (some (.ref t))) (h1 : σ[1]? = some (some (okV k))) (h2 : σ[2]? = some (some (.str e.word))) (h4 : σ[4]? = some (some (.ref p)))
    (hp : H p = some (.lst (List.replicate e.kids.length (okV k)))) (q : ∀ H', Stp [p] H H' → H' p = some (.lst ((e.ks k).map okV)) → D.nx σ H') :
    tIfS (tOr (tAnd (tTest (tOp (rIn K false) (tVar 2) (tTup (tCons (tC (V.str ("let"))) (tCons (tC (V.str ("fun"))) tNil))))) (tTest (tOp rEq (tOp (rIxT K) (tVar 0) (tC (V.int 1))) (tVar 1)))) (tAnd (tTest (tOp rEq (tVar 2) (tC (V.str ("catch"))))) (tTest (tOp (rIn K false) (tVar 1) (tSl (rSlT K) (tVar 0) (tPart (tC (V.int 2))) (tPart (tC (V.int 4)))))))) (tAsg (tC V.non) (gSub (tVar 4) (tUn (rU fun i => V.int (-i)) (tC (V.int 1))) rSetL)) tNext D σ H := by
  refine ⟨_, h2, (by show 2 ≤ sizeLine; decide), fun p1 np1 => ⟨p1, _, rfl, .inr (SqT.of upd_same), rfl, rfl, _, rfl, ?_⟩⟩
  have st1 : Stp [p] H (upd H p1 (.tup [V.str "let", V.str "fun"])) := .new np1 _
  have hp1 := Same.new np1 (.tup [V.str "let", V.str "fun"]) _ _ hp
  have hv1 := hv.same (Same.new np1 (.tup [V.str "let", V.str "fun"]))
  generalize upd H p1 (.tup [V.str "let", V.str "fun"]) = H1 at st1 hp1 hv1 ⊢
  refine ite2 (fun hc => ?_) (fun hc => ?_)
  · rcases word_lf hg hc with ⟨x, a, b, rfl⟩ | ⟨x, a, rfl⟩
    · obtain ⟨t2, v1, v2, e2, hx, _⟩ := hv1
      cases e2
      refine ⟨_, h0, t, _, _, .str x, rfl, rfl, SqT.of hx, atI_nat (j := 1) rfl, _, h1, scal_okV x k, _, rfl, ?_⟩
      rw [dec_okV]
      refine ite2 (fun hd => ?_) (fun hd => ?_)
      · have hk := of_decide_eq_true hd
        subst hk
        refine iteT ?_
        refine ⟨_, h4, 1, rfl, p, _, -1, 1, rfl, rfl, hp1, rfl, ?_⟩
        refine q _ (st1.trans (.put List.mem_cons_self (fun xs h => by rw [hp1] at h; cases h) _)) ?_
        rw [upd_same]
        show some (HO.lst [okV (some x), V.non]) = some (HO.lst [okV (some x), okV (hid (some x) x)])
        rw [hid, if_pos rfl]; rfl
      · refine ⟨_, h2, rfl, _, rfl, ?_⟩
        refine iteF ?_
        refine iteF ?_
        refine q _ st1 ?_
        rw [hp1]
        show some (HO.lst [okV k, okV k]) = some (HO.lst [okV k, okV (hid k x)])
        rw [hid, if_neg (of_decide_eq_false (by simpa using hd))]
    · obtain ⟨t2, v1, e2, hx, _⟩ := hv1
      cases e2
      refine ⟨_, h0, t, _, _, .str x, rfl, rfl, SqT.of hx, atI_nat (j := 1) rfl, _, h1, scal_okV x k, _, rfl, ?_⟩
      rw [dec_okV]
      refine ite2 (fun hd => ?_) (fun hd => ?_)
      · have hk := of_decide_eq_true hd
        subst hk
        refine iteT ?_
        refine ⟨_, h4, 1, rfl, p, _, -1, 0, rfl, rfl, hp1, rfl, ?_⟩
        refine q _ (st1.trans (.put List.mem_cons_self (fun xs h => by rw [hp1] at h; cases h) _)) ?_
        rw [upd_same]
        show some (HO.lst [V.non]) = some (HO.lst [okV (hid (some x) x)])
        rw [hid, if_pos rfl]; rfl
      · refine ⟨_, h2, rfl, _, rfl, ?_⟩
        refine iteF ?_
        refine iteF ?_
        refine q _ st1 ?_
        rw [hp1]
        show some (HO.lst [okV k]) = some (HO.lst [okV (hid k x)])
        rw [hid, if_neg (of_decide_eq_false (by simpa using hd))]
  · refine iteF ?_
    refine ⟨_, h2, rfl, _, rfl, ?_⟩
    rw [word_ct hg]
    refine ite2 (fun hd => ?_) (fun hd => ?_)
    · cases e with
      | ct a x k' b =>
        obtain ⟨t2, v1, v2, e2, hx, _⟩ := hv1
        cases e2
        refine ⟨_, h1, _, h0, 2, rfl, 4, rfl, t, _, rfl, SqT.of hx, (by show ¬ ((2 : Nat) = 0 ∧ _); exact fun h => by cases h.1), fun p2 np2 => ?_⟩
        have st2 := st1.trans (Stp.new (D := [p]) np2 (.tup [V.str x, V.str k']))
        have hp2 := Same.new np2 (.tup [V.str x, V.str k']) _ _ hp1
        refine ⟨p2, [V.str x, V.str k'], rfl, .inr (SqT.of upd_same), flat_okV k, rfl, _, rfl, ?_⟩
        show (if (inV (okV k) [V.str x, V.str k']) = true then _ else _)
        rw [in_okV]
        refine ite2 (fun hd => ?_) (fun hd => ?_)
        · have hk := of_decide_eq_true hd
          refine ⟨_, h4, 1, rfl, p, _, -1, 1, rfl, rfl, hp2, rfl, ?_⟩
          refine q _ (st2.trans (.put List.mem_cons_self (fun xs h => by rw [hp2] at h; cases h) _)) ?_
          rw [upd_same]
          show some (HO.lst [okV k, V.non]) = some (HO.lst [okV k, okV (hid (hid k x) k')])
          have : hid (hid k x) k' = none := by
            rcases hk with hk | hk
            · simp [hid, hk]
            · subst hk
              unfold hid
              by_cases c : some k' = some x
              · rw [if_pos c]; rfl
              · rw [if_neg c, if_pos rfl]
          rw [this]; rfl
        · refine q _ st2 ?_
          refine hp2.trans ?_
          show some (HO.lst [okV k, okV k]) = some (HO.lst [okV k, okV (hid (hid k x) k')])
          have hd := of_decide_eq_false (by simpa only [Bool.not_eq_true] using hd)
          have e1 : hid k x = k := if_neg fun h => hd (.inl h)
          have e2 : hid k k' = k := if_neg fun h => hd (.inr h)
          rw [e1, e2]
      | _ => cases hd
    · refine iteF ?_
      refine q _ st1 ?_
      rw [word_nlf hg (by simpa using hc) hd]
      exact hp1
end Wr
namespace Wr
open PySem PySem.Spec PyProof.Rows L2
theorem Stp.drop1 {p : Addr} {H H' : Hp} {o : HO} (s : Stp [p] (upd H p o) H') (n : H p = none) : Same H H' := fun b x hb =>
  s.keep b x (fun h => by rw [List.mem_singleton.mp h, n] at hb; cases hb) (Same.new n o b x hb)
theorem PapL.same {H H' : Hp} (s : Same H H') {vs : List V} {es : List Ex} {ks : List (Option Str)} (h : PapL H vs es ks) : PapL H' vs es ks := h.tups fun t xs e => s _ _ e
theorem PapL.snoc {H : Hp} : ∀ {vs : List V} {es : List Ex} {ks : List (Option Str)} {v : V} {e : Ex} {k : Option Str}, PapL H vs es ks → PapAt H v e k → PapL H (vs ++ [v]) (es ++ [e]) (ks ++ [k])
  | _, _, _, _, _, _, .nil, g => .cons g .nil
  | _, _, _, _, _, _, .cons a t, g => .cons a (t.snoc g)
theorem PapL.length {H : Hp} : ∀ {vs : List V} {es : List Ex} {ks : List (Option Str)}, PapL H vs es ks → vs.length = es.length ∧ vs.length = ks.length
  | _, _, _, .nil => ⟨rfl, rfl⟩
  | _, _, _, .cons _ t => by obtain ⟨a, b⟩ := t.length; simp [a, ← b]
/-- the words of the papers of the parts within -/
def Ex.ws (e : Ex) (k : Option Str) : List (Option Wd) := List.zipWith Ex.wd e.kids (e.ks k)
theorem PapL.at_ {H : Hp} : ∀ {vs : List V} {es : List Ex} {ks : List (Option Str)} {i : Nat} {v : V}, PapL H vs es ks → vs[i]? = some v → ∃ e k, (List.zipWith Ex.wd es ks)[i]? = some (e.wd k) ∧ PapAt H v e k
  | _, _, _, _, _, .nil, h => by simp at h
  | _, _, _, 0, _, .cons (e := e) (k := k) a t, h => by cases h; exact ⟨e, k, rfl, a⟩
  | _, _, _, i + 1, _, .cons a t, h => t.at_ (i := i) h
theorem Ex.ks_len (e : Ex) (k : Option Str) : (e.ks k).length = e.kids.length := by cases e <;> rfl
theorem Ex.ws_len (e : Ex) (k : Option Str) : (e.ws k).length = e.kids.length := by cases e <;> rfl
theorem Ex.kids_len (e : Ex) : e.kids.length ≤ 3 := by cases e <;> simp [Ex.kids]
theorem take_snoc {α : Type} {l : List α} {i : Nat} {x : α} (h : l[i]? = some x) : l.take (i + 1) = l.take i ++ [x] := by rw [List.take_add_one, h]; rfl
theorem tYes_if {σ : L2.St} {H : Hp} {F G : Hp → Prop} (h : F H) : tYes σ H fun b H3 => if b = true then F H3 else G H3 := by
  show (if true = true then F H else G H)
  rw [if_pos rfl]
  exact h
theorem hid_lets {k : Option Str} (hk : ∀ x, k = some x → x ∈ letters) (y : Str) : ∀ x, hid k y = some x → x ∈ letters := fun x h => by
  unfold hid at h
  by_cases c : k = some y
  · rw [if_pos c] at h; cases h
  · rw [if_neg c] at h; exact hk x h
theorem ks_lets {k : Option Str} (hk : ∀ x, k = some x → x ∈ letters) {e : Ex} {j : Option Str} (h : j ∈ e.ks k) : ∀ x, j = some x → x ∈ letters := by
  cases e <;> simp only [Ex.ks, List.mem_cons, List.not_mem_nil, or_false, or_self] at h
  · subst h; exact hk
  · subst h; exact hk
  · subst h; exact hk
  · rcases h with rfl | rfl
    · exact hk
    · exact hid_lets hk _
  · subst h; exact hid_lets hk _
  · rcases h with rfl | rfl
    · exact hk
    · exact hid_lets (hid_lets hk _) _
end Wr
namespace Wr
open PySem PySem.Spec PyProof.Rows L2
/-- zip of a text and a tuple -/
def ItzS (K : PySem.W.Frag) (z : Str) (b : Addr) (n : Nat) : It :=
  ⟨fun i H => ∃ (ys : List V) (c : Nat) (y : V), SqT K H b ys ∧ ys.length = n ∧ z.cps[i]? = some c ∧ ys[i]? = some y,
    fun i H v H' => ∃ (T : Addr) (c : Nat) (y : V), v = .ref T ∧ H T = none ∧ H' = upd H T (.tup [.str ⟨#[c]⟩, y]) ∧ z.cps[i]? = some c ∧ ∀ ys, SqT K H b ys → ys[i]? = some y,
    fun i H => ∃ ys : List V, SqT K H b ys ∧ ys.length = n ∧ (z.cps.size ≤ i ∨ ys.length ≤ i)⟩
theorem turn_zipS {P : Program} {w : World} {K : PySem.W.Frag} {elts : List Expr} {kk : Nat} {tpos : Pos} {b z TI TO i1 i2 : Addr} {n : Nat} {x : Str} {t : Tok} (S : ZipSep2 z TI TO i1 i2 [i1] [i2, b]) :
    Turn P w K (.Tuple elts kk tpos) (ItzS K x b n) [z, TI, TO, i1, i2] z (fun i h => (i ≤ x.cps.size ∧ i ≤ n) ∧ IsZip h z TI TO .none ∧ IsTupOf2 h TI (.ref i1) (.ref i2) ∧ (∃ a1 a2, IsTupOf2 h TO a1 a2) ∧ h.IsStrIter i1 (strIterType x) x t i ∧ h.IsTupleIter i2 b i) where
  mem := by simp
  obj := fun i h st c hc => by
    obtain ⟨_, hz, hTI, ⟨x, y, hTO⟩, ⟨o1, e1, d1⟩, ⟨o2, e2, _, d2⟩⟩ := st
    have e' : c = z ∨ c = TI ∨ c = TO ∨ c = i1 ∨ c = i2 := by simpa using hc
    rcases e' with q | q | q | q | q
    · rw [q]; exact ⟨_, hz, fun v q => nomatch q⟩
    · rw [q]; exact ⟨_, hTI, fun v q => nomatch q⟩
    · rw [q]; exact ⟨_, hTO, fun v q => nomatch q⟩
    · rw [q]; exact ⟨o1, e1, fun v q => by rw [d1.2] at q; cases q⟩
    · rw [q]; exact ⟨o2, e2, fun v q => by rw [d2] at q; cases q⟩
  keep := fun i h h' st k => by
    obtain ⟨hi, hz, hTI, ⟨x, y, hTO⟩, ⟨o1, e1, d1⟩, h2⟩ := st
    exact ⟨hi, k z (by simp) _ hz, k TI (by simp) _ hTI, ⟨x, y, k TO (by simp) _ hTO⟩, ⟨o1, k i1 (by simp) _ e1, d1⟩, h2.at fun o q => k i2 (by simp) o q⟩
  item := by
    intro X hP hw hK hc i pins s σ H E I hf st hg
    subst hP hw hK
    obtain ⟨hi, hz, hTI, ⟨x0, y0, hTO⟩, h1, h2⟩ := st
    obtain ⟨ys, c, y, hqy, hyn, hx, hy⟩ := hg
    obtain ⟨its2, rv2, p2, _⟩ := I.tuple hqy
    obtain ⟨u2, hu2, ru2⟩ := rv2.get hy
    have hzl : z < s.heap.objs.size := Heap.lt_size hz
    have hin : i < x.cps.size := by
      rcases Nat.lt_or_ge i x.cps.size with h | h
      · exact h
      · rw [Array.getElem?_eq_none h] at hx; cases hx
    have hne : b ≠ i2 := fun e => by
      obtain ⟨o2, e2, c2, _⟩ := h2
      obtain ⟨o3, e3, c3, _⟩ := id p2
      rw [e, e2] at e3
      cases e3
      have q := c2.symm.trans c3
      injection q with q
      exact absurd q (by decide)
    have hi2 : i < its2.toArray.size := by
      rw [List.size_toArray, ← rv2.length]
      exact (List.getElem?_eq_some_iff.mp hy).1
    have D1 := Draws.text (prog := X.prog) (w := X.w) (A := X.A.in1) (I.ok.hd hc) i1 x t
    have D2 := Draws.tuple (prog := X.prog) (w := X.w) (A := X.A.in1) (I.ok.hd hc) i2 b hne its2.toArray
    refine wpAny_pyNext_zipD2_item (i := i) S D1 D2 hz hTI hTO h1 ⟨h2, p2⟩ hin hi2 fun x1 x2 h' tk ⟨c', u, hc', ex1⟩ ex2 z' TO' h1' h2' hT hsz hk => ?_
    refine ⟨_, rfl, wpAny_letOwnedTupleGo_zip (s := { s with heap := h', toks := tk }) z' fun h'' z'' sb => ?_⟩
    have hT2 : h''.get? s.heap.objs.size = some { cls := .type "tuple", data := .seq #[x1, x2] } := (sb.2 _ (Nat.ne_of_gt hzl)).trans hT
    have ecc : c' = c := by rw [hx] at hc'; exact (Option.some.inj hc').symm
    subst ecc
    have e2 : x2 = u2 := by
      have := hu2
      have z : its2.toArray[i]? = some u2 := by simpa using hu2
      rw [z] at ex2
      exact (Option.some.inj ex2).symm
    subst ex1 e2
    have new : ObjOk X.prog X.w (upd H s.heap.objs.size (.tup [.str ⟨#[c']⟩, y])) h'' s.heap.objs.size (.tup [.str ⟨#[c']⟩, y]) :=
      ⟨by show 2 ≤ sizeLine; decide, [.str ⟨#[c']⟩ u, x2], .cons ⟨u, rfl⟩ (.cons ru2 .nil), ⟨_, hT2, rfl, _, rfl⟩⟩
    have I1 : Inv X pins σ (upd H s.heap.objs.size (.tup [.str ⟨#[c']⟩, y])) { s with heap := h'', toks := tk } :=
      I.turnedNew (t' := tk) (ch := [z, TI, TO, i1, i2]) (fun c o hb q => (sb.2 c (fun q' => hb (by simp [q']))).trans (hk c o (fun q' => hb (by simp [q'])) (fun q' => hb (by simp [q'])) (fun q' => hb (by simp [q'])) (fun q' => hb (by simp [q'])) q)) hf (Nat.le_refl _) new
    refine ⟨.ref s.heap.objs.size, _, I1, rfl, ⟨_, c', y, rfl, I.hok.fresh (Nat.le_refl _), rfl, hx, fun l hl => by rw [I.tuple_inj hl hqy]; exact hy⟩, ⟨⟨hin, by rw [← hyn]; exact (List.getElem?_eq_some_iff.mp hy).1⟩, z'', ?_, ⟨.str ⟨#[c']⟩ u, x2, ?_⟩, ?_, ?_⟩, fun c hcm => ?_⟩
    · exact (sb.2 _ S.TIz).trans (hk _ _ S.TIz S.TITO S.TIi1 S.TIi2 hTI)
    · exact (sb.2 _ S.TOz).trans TO'
    · obtain ⟨o1, e1, d1⟩ := h1'
      exact ⟨o1, (sb.2 _ (Ne.symm S.zi1)).trans e1, d1⟩
    · exact h2'.1.at fun o q => (sb.2 _ (Ne.symm S.zi2)).trans q
    · have hlt : c < s.heap.objs.size := by
        have e' : c = z ∨ c = TI ∨ c = TO ∨ c = i1 ∨ c = i2 := by simpa using hcm
        rcases e' with q | q | q | q | q
        · rw [q]; exact hzl
        · rw [q]; exact Heap.lt_size hTI
        · rw [q]; exact Heap.lt_size hTO
        · rw [q]; obtain ⟨_, e1, _⟩ := h1; exact Heap.lt_size e1
        · rw [q]; obtain ⟨_, e2, _⟩ := h2; exact Heap.lt_size e2
      rw [upd_ne (Nat.ne_of_lt hlt)]
      exact (hf c hcm).1
  done := by
    intro X hP hw hK hc i pins s σ H E I hf st hg
    subst hP hw hK
    obtain ⟨hi, hz, hTI, ⟨x0, y0, hTO⟩, h1, h2⟩ := st
    obtain ⟨ys, hqy, hyn, hend⟩ := hg
    obtain ⟨its2, rv2, p2, _⟩ := I.tuple hqy
    have l2 := rv2.length
    have hne : b ≠ i2 := fun e => by
      obtain ⟨o2, e2, c2, _⟩ := h2
      obtain ⟨o3, e3, c3, _⟩ := id p2
      rw [e, e2] at e3
      cases e3
      have q := c2.symm.trans c3
      injection q with q
      exact absurd q (by decide)
    have D1 := Draws.text (prog := X.prog) (w := X.w) (A := X.A.in1) (I.ok.hd hc) i1 x t
    have D2 := Draws.tuple (prog := X.prog) (w := X.w) (A := X.A.in1) (I.ok.hd hc) i2 b hne its2.toArray
    have hj : i ≤ its2.toArray.size := by
      rw [List.size_toArray, ← l2, hyn]
      exact hi.2
    have e2 : its2.toArray.size = ys.length := by
      rw [List.size_toArray]
      exact l2.symm
    have he : i = x.cps.size ∨ i = its2.toArray.size := by
      rcases hend with q | q
      · exact .inl (Nat.le_antisymm hi.1 q)
      · exact .inr (by rw [e2]; exact Nat.le_antisymm (by rw [hyn]; exact hi.2) q)
    exact wpAny_pyNext_zipD2_end (i := i) S D1 D2 hz hTI hTO h1 ⟨h2, p2⟩ hi.1 hj he fun h' tk hk => ⟨rfl, I.turnedL (t' := tk) (ch := [z, TI, TO, i1, i2]) (fun c o hb q =>
      hk c o (fun q' => hb (by simp [q'])) (fun q' => hb (by simp [q'])) (fun q' => hb (by simp [q'])) (fun q' => hb (by simp [q'])) q) hf⟩
  self := fun A i s Q E st h => wpAny_pyIter_zip st.2.1 h
def iZipS (K : PySem.W.Frag) (ta : TA) : TI := fun σ H R => ta σ H fun vs H1 => ∃ (x : Str) (b : Addr) (ys : List V), vs = [.str x, .ref b] ∧ SqT K H1 b ys ∧ R (ItzS K x b ys.length) H1
theorem pi_zipS {X : Cx} {e e2 : Expr} {ta : TA} {p pos tpos : Pos} {elts : List Expr} {kk : Nat} (hg : Gl X "zip") (hm : X.mg "zip" = none) (ha : PA X [e, e2] ta)
    (hs : starEach [e, e2] X.env = (false, eval e X.env) :: starEach [e2] X.env := by rfl) (hpl : (backTo pos (starEach [e2] X.env)).any (·.1) = false := by rfl) :
    PI X (.Tuple elts kk tpos) (.Call (.Name "zip" p) [e, e2] [] pos) (iZipS X.K ta) := by
  refine ⟨fun pins s σ H R I h => ?_⟩
  refine Call_ (ld_blt I hg hm PyProof.Rows.boot_zip (PyProof.Rows.callWith_type1 (thn (ha.run pos pins s σ H _ I h) fun us s1 ⟨vs, H1, I1, r1, q1⟩ => ?_) hs hpl))
  obtain ⟨x, b, ys, ex, hqy, q⟩ := q1
  subst ex
  obtain ⟨u, w', eu, ⟨t, ru⟩, rw'⟩ := vals2 r1
  subst eu ru
  cases rw'
  obtain ⟨its2, rv2, p2, _⟩ := I1.tuple hqy
  obtain ⟨o2, ho2, _⟩ := id p2
  have hb : b < s1.heap.objs.size := Heap.lt_size ho2
  refine zip_begins2 (begins_text x t) (begins_tuple b its2.toArray) trivial (show s1.heap.IsTuple b its2.toArray from p2) fun h' hz hTI hTO h1 h2 hsz hk => wpAny_pyIter_zip hz ?_
  have I2 : Inv X pins σ H1 { s1 with heap := h' } := I1.kept (t' := s1.toks) hk
  have S := zip_sep2 (N := s1.heap.objs.size) (fp1 := []) (fp2 := [b]) (by simp) (fun c hc => by rw [List.mem_singleton.mp hc]; exact hb)
  refine ⟨s1.heap.objs.size + 4, [s1.heap.objs.size + 4, s1.heap.objs.size + 2, s1.heap.objs.size + 3, s1.heap.objs.size, s1.heap.objs.size + 1], _, _, H1, rfl, I2, turn_zipS (n := ys.length) (x := x) (t := t) S, ⟨⟨Nat.zero_le _, Nat.zero_le _⟩, hz, hTI, ⟨_, _, hTO⟩, ⟨_, h1, rfl, rfl⟩, ⟨_, h2, rfl, rfl⟩⟩, fun c hcm => ?_, q⟩
  have e' : c = s1.heap.objs.size + 4 ∨ c = s1.heap.objs.size + 2 ∨ c = s1.heap.objs.size + 3 ∨ c = s1.heap.objs.size ∨ c = s1.heap.objs.size + 1 := by simpa using hcm
  have hle : s1.heap.objs.size ≤ c := by
    rcases e' with z | z | z | z | z
    · rw [z]; exact Nat.le_add_right _ _
    · rw [z]; exact Nat.le_add_right _ _
    · rw [z]; exact Nat.le_add_right _ _
    · rw [z]; exact Nat.le_refl _
    · rw [z]; exact Nat.le_add_right _ _
  exact I1.fpOk hle (I1.hok.fresh hle)
/-- a comprehension over zip of a text and a tuple of one length -/
theorem lc_zipS {K : PySem.W.Frag} {x : Str} {b : Addr} {ys : List V} {g : TG} {tt : TT} {te : TE} {vs : List Nat} {σ : L2.St} {H1 : Hp} {D : Addr} {Qd : Hp → Prop} (hl : x.cps.size = ys.length) (Pv : Nat → Hp → Prop) (h0 : Pv 0 (upd H1 D (.lst []))) (hq : ∀ i H, i ≤ ys.length → Pv i H → SqT K H b ys)
    (hs : ∀ i c y T H, x.cps[i]? = some c → ys[i]? = some y → Pv i H → H T = none → g (.ref T) (wipe σ vs) (upd H T (.tup [.str ⟨#[c]⟩, y])) fun σ2 H2 => wipe σ2 vs = wipe σ vs ∧ tt σ2 H2 fun b H3 =>
      if b = true then te σ2 H3 fun y H4 => ∃ acc, H4 D = some (.lst acc) ∧ acc.length < sizeLine ∧ Pv (i + 1) (upd H4 D (.lst (acc ++ [y]))) else Pv (i + 1) H3) (hd : ∀ H, Pv ys.length H → Qd H) :
    ∃ W : Nat → Nat → Hp → Prop, (∃ m, W 0 m (upd H1 D (.lst []))) ∧ ∀ i m H, W i m H →
      ((ItzS K x b ys.length).stop i H ∧ Qd H) ∨ ((ItzS K x b ys.length).go i H ∧ ∃ Nx : Hp → Prop, (∀ H', Nx H' → ∃ m', m' < m ∧ W (i + 1) m' H') ∧ ∀ v H', (ItzS K x b ys.length).yld i H v H' → g v (wipe σ vs) H' fun σ2 H2 => wipe σ2 vs = wipe σ vs ∧ tt σ2 H2 fun b H3 =>
        if b = true then te σ2 H3 fun y H4 => ∃ acc, H4 D = some (.lst acc) ∧ acc.length < sizeLine ∧ Nx (upd H4 D (.lst (acc ++ [y]))) else Nx H3) := by
  refine ⟨fun i m H => m = ys.length - i ∧ i ≤ ys.length ∧ Pv i H, ⟨ys.length, by simp, Nat.zero_le _, h0⟩, ?_⟩
  rintro i m H ⟨rfl, hi, p⟩
  have q := hq i H hi p
  by_cases hlt : i < ys.length
  · have hy : ys[i]? = some ys[i] := List.getElem?_eq_getElem hlt
    have hx : x.cps[i]? = some (x.cps[i]'(by omega)) := Array.getElem?_eq_getElem (by omega)
    refine .inr ⟨⟨ys, _, _, q, rfl, hx, hy⟩, Pv (i + 1), fun H' p' => ⟨ys.length - (i + 1), by omega, rfl, hlt, p'⟩, fun v H' yl => ?_⟩
    obtain ⟨T, c, y, rfl, hT, rfl, f1, f2⟩ := yl
    exact hs i c y T H f1 (f2 ys q) p hT
  · have e : i = ys.length := by omega
    subst e
    exact .inl ⟨⟨ys, q, rfl, .inr (Nat.le_refl _)⟩, hd H p⟩
end Wr
namespace Wr
open PySem PySem.Spec PyProof.Rows L2
/-- what stands behind a part's word: n, x, e -/
def Ex.shape : Ex → Str
  | .num _ => "n"
  | .name _ => "x"
  | .fault => ""
  | .one _ _ => "e"
  | .two _ _ _ => "ee"
  | .ite _ _ _ => "eee"
  | .lt _ _ _ => "xee"
  | .fn _ _ => "xe"
  | .ct _ _ _ _ => "exxe"
def stand (p : Str) : List Nat → List V → List V
  | c :: cs, x :: xs => if (⟨#[c]⟩ : Str) = p then x :: stand p cs xs else stand p cs xs
  | _, _ => []
theorem stand_snoc (p : Str) : ∀ (cs : List Nat) (xs : List V) (c : Nat) (x : V), cs.length = xs.length → stand p (cs ++ [c]) (xs ++ [x]) = stand p cs xs ++ (if (⟨#[c]⟩ : Str) = p then [x] else [])
  | [], [], c, x, _ => by simp only [List.nil_append, stand]
  | c0 :: cs, x0 :: xs, c, x, h => by
    simp only [List.cons_append, stand]
    rw [stand_snoc p cs xs c x (by simpa using h)]
    split <;> rfl
  | [], _ :: _, _, _, h => by simp at h
  | _ :: _, [], _, _, h => by simp at h
theorem stand_len (p : Str) : ∀ (cs : List Nat) (xs : List V), (stand p cs xs).length ≤ xs.length
  | [], _ => by simp [stand]
  | _ :: _, [] => by simp [stand]
  | c :: cs, x :: xs => by
    have := stand_len p cs xs
    simp only [stand]
    split <;> simp only [List.length_cons] <;> omega
/-- the items behind the word are as many as the shape asks for -/
theorem shape_len {H : Hp} {t : Addr} {e : Ex} {w : Str} {xs : List V} (h : AtE H (.ref t) e) (ht : H t = some (.tup (.str w :: xs))) : e.shape.cps.size = xs.length := by
  cases e with
  | num n => obtain ⟨_, e, h⟩ := h; cases e; rw [h] at ht; cases ht; show ("n" : Str).cps.size = 1; decide +kernel
  | name n => obtain ⟨_, e, h⟩ := h; cases e; rw [h] at ht; cases ht; show ("x" : Str).cps.size = 1; decide +kernel
  | fault => obtain ⟨_, e, h⟩ := h; cases e; rw [h] at ht; cases ht; decide +kernel
  | one w a => obtain ⟨_, _, e, h, _⟩ := h; cases e; rw [h] at ht; cases ht; show ("e" : Str).cps.size = 1; decide +kernel
  | two w a b => obtain ⟨_, _, _, e, h, _⟩ := h; cases e; rw [h] at ht; cases ht; show ("ee" : Str).cps.size = 2; decide +kernel
  | ite a b c => obtain ⟨_, _, _, _, e, h, _⟩ := h; cases e; rw [h] at ht; cases ht; show ("eee" : Str).cps.size = 3; decide +kernel
  | lt n a b => obtain ⟨_, _, _, e, h, _⟩ := h; cases e; rw [h] at ht; cases ht; show ("xee" : Str).cps.size = 3; decide +kernel
  | fn n a => obtain ⟨_, _, e, h, _⟩ := h; cases e; rw [h] at ht; cases ht; show ("xe" : Str).cps.size = 2; decide +kernel
  | ct a n k b => obtain ⟨_, _, _, e, h, _⟩ := h; cases e; rw [h] at ht; cases ht; show ("exxe" : Str).cps.size = 4; decide +kernel
section
variable {P : Program} {w : World} {K : PySem.W.Frag} {mg : Str → Option Value} {base : Heap}
/-- the table of shapes stands at sa -/
def ShapesAt (K : PySem.W.Frag) (w : World) (sa : Addr) : Prop := ∀ (S : List Str) (e : Ex), Good S e → KDct K w sa e.word (.str e.shape)
def spStanding : Sp := fun vs H Q _ => ∃ (t : Addr) (e : Ex) (S : List Str) (xs : List V) (p : Str), vs = [.ref t, .str p] ∧ AtE H (.ref t) e ∧ Good S e ∧ H t = some (.tup (.str e.word :: xs)) ∧ xs.length ≤ 4 ∧
  ∀ (l : Addr) (H' : Hp), Same H H' → H l = none → H' l = some (.lst (stand p e.shape.cps.toList xs)) → Q (.ref l) H'
theorem scStanding : FnScope ["thing", "place", "kind", "held"] ["thing", "place"] (defScope s_standing) := ⟨rfl, rfl, rfl, by decide +kernel, rfl, by decide +kernel, by decide +kernel⟩
theorem ok_standing {sa : Addr} (hSh : ShapesAt K w sa) (hmg : mg "SHAPES" = some (.ref sa)) (F : Df K mg "standing" s_standing) (zip : mg "zip" = none) : Use P w K mg base "standing" ["thing", "place"] 1 spStanding := by
  refine F.use scStanding (fun _ _ _ _ _ _ us hl => match us, hl with | [_, _], _ => rfl) (fun vs H Q E h => ?_) (fun cdv f A outer s H vs Q E hr h => ?_)
  · obtain ⟨t, e, S, xs, p, rfl, _⟩ := h
    rfl
  · obtain ⟨t, e, S, xs, p, rfl, hv, hg, ht, h4, q⟩ := h
    refine ⟨_, pss_one (ps_ret (pe_lc (own := [("kind", 2), ("held", 3)]) (g := gTup K 2 (gCons (gName 2) (gCons (gName 3) gNil))) (by rfl) scStanding.nd
      (pi_zipS (by rfl) zip (pa_cons (pe_ix ix_kdict (pe_glob (v := .ref sa) (by rfl) hmg rfl) (pe_ix ix_tup (pv 0) pe_int (fun _ _ => rfl)) (fun _ _ => rfl)) (pa_cons (pe_slice sl_tup (pv 0) (po_some pe_int) po_none) pa_nil)))
      (blkOk_by (own := [("kind", 2), ("held", 3)]) (N := ["thing", "place", "kind", "held"]) (sc := defScope s_standing) (by decide +kernel))
      (fun _ _ _ _ _ => pg_tup rfl (pgs_cons (pg_name (i := 2) scStanding.nd rfl (Or.inl rfl)) (pgs_cons (pg_name (i := 3) scStanding.nd rfl (Or.inl rfl)) pgs_nil)))
      (fun _ _ _ _ _ => pts_one (pt_cmpR op_eq (pv 2) (pv 1) (nomark _))) (fun _ _ _ _ _ => pv 3))), ?_⟩
    refine ⟨_, rfl, t, _, _, .str e.word, rfl, rfl, SqT.of ht, atI_nat (j := 0) rfl, sa, e.word, .str e.shape, rfl, rfl, hSh S e hg, _, rfl, 1, rfl, t, _, rfl, SqT.of ht, cut1_no _ _ _, fun p2 np2 => ?_⟩
    rw [cut1]
    have sm1 := Same.new np2 (.tup xs)
    have hp2 : upd H p2 (.tup xs) p2 = some (.tup xs) := upd_same
    generalize upd H p2 (.tup xs) = H1 at sm1 hp2 ⊢
    refine ⟨e.shape, p2, xs, rfl, SqT.of hp2, fun D nD => ?_⟩
    have hsz := shape_len hv ht
    have hlen : e.shape.cps.toList.length = xs.length := by rw [Array.length_toList]; exact hsz
    refine lc_zipS (K := K) (x := e.shape) (b := p2) (ys := xs) hsz (fun i H2 => Same H1 H2 ∧ i ≤ xs.length ∧ H2 D = some (.lst (stand p (e.shape.cps.toList.take i) (xs.take i)))) ⟨Same.new nD _, Nat.zero_le _, upd_same⟩ (fun i H2 _ h => SqT.of (h.1 _ _ hp2)) ?_ ?_
    · rintro i c y T H2 hc hy ⟨sm, hi, hD⟩ nT
      have hi2 : i < xs.length := (List.getElem?_eq_some_iff.mp hy).1
      have hc' : e.shape.cps.toList[i]? = some c := by rw [Array.getElem?_toList]; exact hc
      have hsn : stand p (e.shape.cps.toList.take (i + 1)) (xs.take (i + 1)) = stand p (e.shape.cps.toList.take i) (xs.take i) ++ (if (⟨#[c]⟩ : Str) = p then [y] else []) := by
        rw [take_snoc hc', take_snoc hy]
        exact stand_snoc _ _ _ _ _ (by rw [List.length_take, List.length_take, hlen])
      refine ⟨T, _, rfl, SqT.of upd_same, rfl, _, _, rfl, _, _, rfl, rfl, rfl, ?_⟩
      refine ⟨_, rfl, _, rfl, rfl, _, rfl, ?_⟩
      have smT := Same.new nT (.tup [.str ⟨#[c]⟩, y])
      refine ite2 (fun h => ?_) (fun h => ?_)
      · have h := V.str.inj (of_decide_eq_true h)
        refine ⟨_, rfl, _, smT _ _ hD, ?_, ?_, hi2, ?_⟩
        · refine Nat.lt_of_le_of_lt (stand_len _ _ _) ?_
          rw [List.length_take]
          have : (5 : Nat) < sizeLine := by decide
          omega
        · exact fun b o hb => by
            rw [upd_ne (fun z => by rw [z, nD] at hb; cases hb)]
            exact smT _ _ (sm _ _ hb)
        · rw [upd_same, hsn, if_pos h]
      · refine ⟨sm.trans smT, hi2, ?_⟩
        rw [hsn, if_neg (fun z => h (decide_eq_true (congrArg V.str z))), List.append_nil]
        exact smT _ _ hD
    · rintro H2 ⟨sm, _, hD⟩
      rw [List.take_of_length_le (by omega), List.take_of_length_le (Nat.le_refl _)] at hD
      exact q D H2 (sm1.trans sm) (sm1.free nD) hD
end
end Wr
namespace Wr
open PySem PySem.Spec PyProof.Rows L2
/-- a text of one sign for a kind of place, and what stands there -/
def FitsV (c : Nat) (y : V) : Prop := ((⟨#[c]⟩ : Str) = "n" ∧ ∃ i, y = .int i) ∨ ((⟨#[c]⟩ : Str) = "x" ∧ ∃ s, y = .str s) ∨ (⟨#[c]⟩ : Str) = "e"
theorem fit_n (i : Int) : FitsV 110 (.int i) := .inl ⟨by decide +kernel, i, rfl⟩
theorem fit_x (s : Str) : FitsV 120 (.str s) := .inr (.inl ⟨by decide +kernel, s, rfl⟩)
theorem fit_e (y : V) : FitsV 101 y := .inr (.inr (by decide +kernel))
theorem sh_n : ("n" : Str).cps = #[110] ∧ ("x" : Str).cps = #[120] ∧ ("" : Str).cps = #[] ∧ ("e" : Str).cps = #[101] ∧ ("ee" : Str).cps = #[101, 101] ∧ ("eee" : Str).cps = #[101, 101, 101] ∧ ("xee" : Str).cps = #[120, 101, 101] ∧ ("xe" : Str).cps = #[120, 101] ∧ ("exxe" : Str).cps = #[101, 120, 120, 101] := by decide +kernel
inductive FitsL : List Nat → List V → Prop where
  | nil : FitsL [] []
  | cons {c : Nat} {y : V} {cs : List Nat} {ys : List V} : FitsV c y → FitsL cs ys → FitsL (c :: cs) (y :: ys)
theorem all_fit {cs : List Nat} {xs : List V} (h : FitsL cs xs) : ∀ {i : Nat} {c : Nat} {y : V}, cs[i]? = some c → xs[i]? = some y → FitsV c y := by
  induction h with
  | nil => intro i c y h; simp at h
  | cons a t ih =>
    intro i c y h1 h2
    cases i with
    | zero => cases h1; cases h2; exact a
    | succ i => exact ih h1 h2
theorem shape_fits {H : Hp} {t : Addr} {e : Ex} {w : Str} {xs : List V} (h : AtE H (.ref t) e) (ht : H t = some (.tup (.str w :: xs))) : FitsL e.shape.cps.toList xs := by
  obtain ⟨s1, s2, s3, s4, s5, s6, s7, s8, s9⟩ := sh_n
  cases e with
  | num n => obtain ⟨_, e, h⟩ := h; cases e; rw [h] at ht; cases ht; show FitsL ("n" : Str).cps.toList _; rw [s1]; exact .cons (fit_n _) .nil
  | name n => obtain ⟨_, e, h⟩ := h; cases e; rw [h] at ht; cases ht; show FitsL ("x" : Str).cps.toList _; rw [s2]; exact .cons (fit_x _) .nil
  | fault => obtain ⟨_, e, h⟩ := h; cases e; rw [h] at ht; cases ht; show FitsL ("" : Str).cps.toList _; rw [s3]; exact .nil
  | one w a => obtain ⟨_, _, e, h, _⟩ := h; cases e; rw [h] at ht; cases ht; show FitsL ("e" : Str).cps.toList _; rw [s4]; exact .cons (fit_e _) .nil
  | two w a b => obtain ⟨_, _, _, e, h, _⟩ := h; cases e; rw [h] at ht; cases ht; show FitsL ("ee" : Str).cps.toList _; rw [s5]; exact .cons (fit_e _) (.cons (fit_e _) .nil)
  | ite a b c => obtain ⟨_, _, _, _, e, h, _⟩ := h; cases e; rw [h] at ht; cases ht; show FitsL ("eee" : Str).cps.toList _; rw [s6]; exact .cons (fit_e _) (.cons (fit_e _) (.cons (fit_e _) .nil))
  | lt n a b => obtain ⟨_, _, _, e, h, _⟩ := h; cases e; rw [h] at ht; cases ht; show FitsL ("xee" : Str).cps.toList _; rw [s7]; exact .cons (fit_x _) (.cons (fit_e _) (.cons (fit_e _) .nil))
  | fn n a => obtain ⟨_, _, e, h, _⟩ := h; cases e; rw [h] at ht; cases ht; show FitsL ("xe" : Str).cps.toList _; rw [s8]; exact .cons (fit_x _) (.cons (fit_e _) .nil)
  | ct a n k b => obtain ⟨_, _, _, e, h, _⟩ := h; cases e; rw [h] at ht; cases ht; show FitsL ("exxe" : Str).cps.toList _; rw [s9]; exact .cons (fit_e _) (.cons (fit_x _) (.cons (fit_x _) (.cons (fit_e _) .nil)))
section
variable {P : Program} {w : World} {K : PySem.W.Frag} {mg : Str → Option Value} {base : Heap}
def spShape : Sp := fun vs H Q _ => ∃ (t : Addr) (e : Ex) (S : List Str) (xs : List V), vs = [.ref t] ∧ AtE H (.ref t) e ∧ Good S e ∧ H t = some (.tup (.str e.word :: xs)) ∧ xs.length ≤ 4 ∧ ∀ H', Same H H' → Q (.bl true) H'
theorem scHas_shape : FnScope ["thing", "word", "shape", "place", "held"] ["thing"] (defScope s_has_shape) := ⟨rfl, rfl, rfl, by decide +kernel, rfl, by decide +kernel, by decide +kernel⟩
theorem ok_has_shape {sa : Addr} {es : Array DictEntry} {n : Nat} (hKD : KDict K w sa es n) (hSh : ShapesAt K w sa) (hmg : mg "SHAPES" = some (.ref sa)) (F : Df K mg "has_shape" s_has_shape) (zip : mg "zip" = none) (isi : mg "isinstance" = none) (tup : mg "tuple" = none) (st : mg "str" = none) (len : mg "len" = none) (all' : mg "all" = none)
    (U : Use P w K mg base "fits" ["place", "held"] 2 spFits) : Use P w K mg base "has_shape" ["thing"] 3 spShape := by
  refine F.use scHas_shape (fun _ _ _ _ _ _ us hl => match us, hl with | [_], _ => rfl) (fun vs H Q E h => ?_) (fun cdv f A outer s H vs Q E hr h => ?_)
  · obtain ⟨t, e, S, xs, rfl, _⟩ := h
    rfl
  · obtain ⟨t, e, S, xs, rfl, hv, hg, ht, h4, q⟩ := h
    refine ⟨_, pss_cons (ps_if (PW.pt (pw_or (pt_not (pt_val (pe_callB (r := rIsi K) call_isi (by rfl) isi (by decide +kernel) (pa_cons (pv 0) (pa_cons (pe_bltn (v := .ty "tuple") (u := .type "tuple") (by rfl) tup (by decide +kernel) rfl) pa_nil))))) (pw_or1 (pt_cmpR op_eq (pe_callB call_len_seq (by rfl) len PySem.boot_len (pa_cons (pv 0) pa_nil)) pe_int (nomark _))))) (pss_one (ps_ret pe_bl)) pss_nil)
      (pss_cons (ps_set (i := 1) scHas_shape.nd rfl (Or.inl rfl) (pe_ix ix_tup (pv 0) pe_int (fun _ _ => rfl)))
      (pss_cons (ps_if (PW.pt (pw_or (pt_not (pt_val (pe_callB (r := rIsi K) call_isi (by rfl) isi (by decide +kernel) (pa_cons (pv 1) (pa_cons (pe_bltn (v := .ty "str") (u := .type "str") (by rfl) st (by decide +kernel) rfl) pa_nil))))) (pw_or1 (pt_cmpR (op_notIn_kd hKD) (pv 1) (pe_glob (v := .ref sa) (by rfl) hmg rfl) rfl)))) (pss_one (ps_ret pe_bl)) pss_nil)
      (pss_cons (ps_set (i := 2) scHas_shape.nd rfl (Or.inl rfl) (pe_ix ix_kdict (pe_glob (v := .ref sa) (by rfl) hmg rfl) (pv 1) (fun _ _ => rfl)))
      (pss_cons (ps_if (pt_cmpR op_ne (pe_callB call_len_seq (by rfl) len PySem.boot_len (pa_cons (pv 0) pa_nil)) (pe_op op_add (pe_callB call_len_str (by rfl) len PySem.boot_len (pa_cons (pv 2) pa_nil)) pe_int) (nomark _)) (pss_one (ps_ret pe_bl)) pss_nil)
      (pss_one (ps_ret (pe_callB (cr_all rfl) (by rfl) all' (by decide +kernel) (pa_cons
        (pe_lc (own := [("place", 3), ("held", 4)]) (g := gTup K 2 (gCons (gName 3) (gCons (gName 4) gNil))) (tt := tYes) (by rfl) scHas_shape.nd
          (pi_zipS (by rfl) zip (pa_cons (pv 2) (pa_cons (pe_slice sl_tup (pv 0) (po_some pe_int) po_none) pa_nil)))
          (blkOk_by (own := [("place", 3), ("held", 4)]) (N := ["thing", "word", "shape", "place", "held"]) (sc := defScope s_has_shape) (by decide +kernel))
          (fun _ _ _ _ _ => pg_tup rfl (pgs_cons (pg_name (i := 3) scHas_shape.nd rfl (Or.inl rfl)) (pgs_cons (pg_name (i := 4) scHas_shape.nd rfl (Or.inl rfl)) pgs_nil)))
          (fun _ _ _ _ _ => pts_nil) (fun _ _ _ _ _ => pe_use U hr (pa_cons (pv 3) (pa_cons (pv 4) pa_nil)))) pa_nil)))))))), ?_⟩
    have hsz := shape_len hv ht
    have hfit := shape_fits hv ht
    refine ⟨_, rfl, .ref t, .ty "tuple", _, .type "tuple", true, rfl, .ty _, .base (.tup ht), kit_ty (by decide +kernel), true, rfl, ?_⟩
    refine iteF ?_
    refine ⟨_, rfl, t, _, rfl, .inr (SqT.of ht), rfl, _, rfl, ?_⟩
    rw [show decide (V.int ((V.str e.word :: xs).length : Int) = V.int 0) = false from decide_eq_false (fun z => by have := V.int.inj z; rw [List.length_cons] at this; omega)]
    refine iteF ?_
    refine ⟨_, rfl, t, _, _, .str e.word, rfl, rfl, SqT.of ht, atI_nat (j := 0) rfl, ?_⟩
    refine ⟨_, rfl, .str e.word, .ty "str", _, .type "str", true, rfl, .ty _, .base (.str _), kit_ty (by decide +kernel), true, rfl, iteF ?_⟩
    obtain ⟨es', n', u', _, _, hns, _⟩ := hSh S e hg
    refine ⟨_, rfl, e.word, some u', rfl, rfl, hns, _, rfl, iteF ?_⟩
    refine ⟨_, rfl, sa, e.word, .str e.shape, rfl, rfl, hSh S e hg, ?_⟩
    refine ⟨_, rfl, t, _, rfl, .inr (SqT.of ht), _, rfl, e.shape, rfl, ?_, _, _, rfl, rfl, rfl, _, rfl, ?_⟩
    · have hh : e.shape.length = xs.length := hsz
      have : (4 : Nat) ≤ sizeLine := by decide
      omega
    rw [show (!decide (V.int ((V.str e.word :: xs).length : Int) = V.int ((e.shape.length : Int) + 1))) = false from by
      have hh : e.shape.length = xs.length := hsz
      rw [hh, List.length_cons, decide_eq_true (by push_cast; rfl)]; rfl]
    refine iteF ?_
    refine ⟨_, rfl, _, rfl, 1, rfl, t, _, rfl, SqT.of ht, cut1_no _ _ _, fun p2 np2 => ?_⟩
    rw [cut1]
    have sm1 := Same.new np2 (.tup xs)
    have hp2 : upd H p2 (.tup xs) p2 = some (.tup xs) := upd_same
    generalize upd H p2 (.tup xs) = H1 at sm1 hp2 ⊢
    refine ⟨e.shape, p2, xs, rfl, SqT.of hp2, fun D nD => ?_⟩
    refine lc_zipS (K := K) (x := e.shape) (b := p2) (ys := xs) hsz (fun i H2 => Same H1 H2 ∧ i ≤ xs.length ∧ H2 D = some (.lst ((List.replicate i true).map V.bl))) ⟨Same.new nD _, Nat.zero_le _, upd_same⟩ (fun i H2 _ h => SqT.of (h.1 _ _ hp2)) ?_ ?_
    · rintro i c y T H2 hc hy ⟨sm, hi, hD⟩ nT
      have hi2 : i < xs.length := (List.getElem?_eq_some_iff.mp hy).1
      have hc' : e.shape.cps.toList[i]? = some c := by rw [Array.getElem?_toList]; exact hc
      refine ⟨T, _, rfl, SqT.of upd_same, rfl, _, _, rfl, _, _, rfl, rfl, rfl, tYes_if ?_⟩
      have smT := Same.new nT (.tup [.str ⟨#[c]⟩, y])
      refine ⟨_, rfl, _, rfl, ⟨#[c]⟩, y, rfl, all_fit hfit hc' hy, _, smT _ _ hD, ?_, ?_, hi2, ?_⟩
      · rw [List.length_map, List.length_replicate]
        have : (4 : Nat) ≤ sizeLine := by decide
        omega
      · exact fun b o hb => by
          rw [upd_ne (fun z => by rw [z, nD] at hb; cases hb)]
          exact smT _ _ (sm _ _ hb)
      · rw [upd_same, List.replicate_succ', List.map_append]; rfl
    · rintro H2 ⟨sm, _, hD⟩
      refine ⟨D, List.replicate xs.length true, rfl, SqL.of hD, ?_⟩
      rw [show (List.replicate xs.length true).all id = true from by simp]
      exact q H2 (sm1.trans sm)
end
end Wr
/-! len(set(a list of few texts)) -/
namespace Wr
open PySem PySem.Spec PyProof.Rows L2
/-- how many unlike texts the first i are -/
def unl (xs : List Str) : Nat → Nat
  | 0 => 0
  | i + 1 => if (xs.take i).any (· == xs.getD i Str.empty) = true then unl xs i else unl xs i + 1
theorem unl_le (xs : List Str) : ∀ i, unl xs i ≤ i
  | 0 => Nat.le_refl _
  | i + 1 => by
    have := unl_le xs i
    simp only [unl]
    split <;> omega
section
variable {prog : Program} {w : World} {A : Around} {R : Result → Shared → Prop} {I : Addr} {fp wr : List Addr} {G : Array GenState → Array GenState → Prop} {n : Nat} {P : Nat → Value → Prop} {St : Nat → Shared → Prop}
theorem fillT (W : WalksS prog w A.in1 I fp wr G n P St) (D : Addr) (nf : D ∉ fp) (xs : List Str) (hn : xs.length = n) (hb : n + 1 < scanBound) (hv : ∀ i v, P i v → ∃ t, v = .str (xs.getD i Str.empty) t) :
    ∀ (k i : Nat) (s : Shared), n - i = k → i ≤ n → St i s → s.heap.SetOf (PySem.strKind prog w) D (fun z => (xs.take i).any (· == z)) (unl xs i) →
      (∀ s', Moved (D :: wr) G s s' → s'.heap.SetOf (PySem.strKind prog w) D (fun z => (xs.take n).any (· == z)) (unl xs n) → R (.ok (.ret .none)) s') →
      codeAny (model prog w) A (.builtin "set.update.loop" ⟨[.ref D, .ref I], []⟩) R s := by
  have nw : D ∉ wr := fun h => nf (W.sub _ h)
  have up : ∀ b ∈ wr, b ∈ D :: wr := fun b hb => List.mem_cons_of_mem _ hb
  intro k
  induction k with
  | zero =>
    intro i s hk hi hst hS hR
    obtain rfl : i = n := by omega
    refine codeAny_builtin PyProof.Rows.F.entry_set_update_loop (by
      rw [Around.under_plainId PyProof.Rows.F.plain_set_update_loop _]
      show wpAny _ A.in1 (pyNext (.ref I) >>= _) _ _ s
      exact wpAny_bind (W.done s _ _ hst fun s' hm => wpAny_pure (hR s' (hm.mono up) (by
        obtain ⟨o, es, ep, t, ho, rest⟩ := hS
        exact ⟨o, es, ep, t, hm.heap D _ nw ho, rest⟩))))
  | succ k ih =>
    intro i s hk hi hst hS hR
    have hlt : i < n := by omega
    refine codeAny_builtin PyProof.Rows.F.entry_set_update_loop (by
      rw [Around.under_plainId PyProof.Rows.F.plain_set_update_loop _]
      show wpAny _ A.in1 (pyNext (.ref I) >>= _) _ _ s
      refine wpAny_bind (W.item i s _ _ hlt hst fun v s' hP hst' hm => ?_)
      obtain ⟨t, rfl⟩ := hv i v hP
      have hS' : s'.heap.SetOf (PySem.strKind prog w) D (fun z => (xs.take i).any (· == z)) (unl xs i) := by
        obtain ⟨o, es, ep, tb, ho, rest⟩ := hS
        exact ⟨o, es, ep, tb, hm.heap D _ nw ho, rest⟩
      show wpAny _ A.in1 (holding [Value.str (xs.getD i Str.empty) t] (setAdd D (.str (xs.getD i Str.empty) t)) >>= _) _ _ s'
      have hu := unl_le xs i
      refine wpAny_bind (wpAny_holding (by
        unfold setAdd
        refine wpAny_holding (wpAny_bind ((PySem.strKind prog w).pyHash (k := xs.getD i Str.empty) (strKind_is _ _ _ _) ?_))
        refine wpAny_setAddHashed_of (knd := PySem.strKind prog w) (s := { s' with toks := s'.toks + 1 }) (strKind_is _ _ _ _) rfl hS' (by omega) fun h' hsb hS2 => ?_
        have hSi : h'.SetOf (PySem.strKind prog w) D (fun z => (xs.take (i + 1)).any (· == z)) (unl xs (i + 1)) := by
          have hx : xs[i]? = some (xs.getD i Str.empty) := by
            rw [List.getD_eq_getElem?_getD, List.getElem?_eq_getElem (by omega)]; rfl
          refine SetOf_congr hS2 (fun z => ?_) rfl
          rw [List.take_add_one, hx, List.any_append]
          show ((xs.take i).any (· == z) || decide (z = xs.getD i Str.empty)) = ((xs.take i).any (· == z) || ((xs.getD i Str.empty == z) || false))
          rw [Bool.or_false]
          congr 1
          by_cases e : z = xs.getD i Str.empty
          · rw [← e]; simp
          · rw [decide_eq_false e]
            exact (beq_eq_false_iff_ne.mpr fun q => e q.symm).symm
        refine wpAny_pure ⟨plainId_quiet PyProof.Rows.F.plain_set_update_loop _, ih (i + 1) _ (by omega) hlt (W.frame _ s' _ _ hst' (Nat.le_succ _) fun b hb o e => ?_) hSi fun s2 hm2 hS3 => ?_⟩
        · rw [hsb.2 b (fun h : b = D => nf (h ▸ hb))]; exact e
        · exact hR s2 (Moved.trans W.gtrans ((hm.mono up).then_heap (Nat.le_succ _) fun b o hb e => by
            rw [hsb.2 b (fun h : b = D => hb (by rw [h]; exact List.mem_cons_self))]; exact e) hm2) hS3)))
end
section
variable {prog : Program} {w : World} {A : Around} {E : Value → Shared → Prop} {s : Shared}
theorem call_setT {l : Addr} {items : Array Value} {xs : List Str} {Q : Value → Shared → Prop} (hh : A.handled = none) (hl : s.heap.IsList l items) (hi : PyProof.Rows.StrsAre items.toList xs) (hn : items.size + 1 < scanBound)
    (h : ∀ (h' : Heap) (tk : Nat), h'.SetOf (PySem.strKind prog w) s.heap.objs.size (fun z => (xs.take items.size).any (· == z)) (unl xs items.size) → (∀ b o, b < s.heap.objs.size → s.heap.get? b = some o → h'.get? b = some o) → Q (.ref s.heap.objs.size) { s with heap := h', toks := tk }) :
    wpAny (model prog w) A (call (.type "set") [.ref l]) Q E s := by
  obtain ⟨c, tl, hmro⟩ := PySem.F.called_set.mro
  have hmade := PySem.F.called_set.made; have hsub := PySem.F.called_set.sub
  refine wpAny_call (codeAny_of_tree (show wpAny _ _ (callAny (.type "set") _) _ _ _ from ?_))
  refine wpAny_pure ⟨Code.quiet_builtin _ (by decide +kernel), codeAny_builtin PySem.F.entry_type_call (by
    rw [Around.under_plain (weight_type_call_type "set" [.ref l] []) rfl]
    have h1 := PySem.F.called_set.notType; have h2 := PySem.F.called_set.canCreate; have hct := PySem.F.typeCall_set_1 (.ref l)
    repeat (any_goals (first | assumption | wp_step))
    refine codeAny_mono (code_set_new_1 (.ref l) (E := E) (Q₁ := fun obj t => ∃ led : Bool, obj = .ref s.heap.objs.size ∧ t = { s with heap := s.heap.push { cls := .type "set", dict := none, data := .set #[] 0 (.fresh 0 0 led) } }) fun led => ⟨led, rfl, rfl⟩) fun r t hr => ?_
    cases r with
    | error e => exact hr
    | ok fl =>
      cases fl with
      | ret obj =>
        obtain ⟨led, rfl, rfl⟩ := hr
        generalize eS : ({ cls := .type "set", dict := none, data := .set #[] 0 (.fresh 0 0 led) } : Obj) = oS
        have hS : (s.heap.push oS).get? s.heap.objs.size = some oS := Heap.get?_push_size _ (by rw [← eS]; rfl)
        have hT : Shared.TypeIs { s with heap := s.heap.push oS } (.ref s.heap.objs.size) "set" := ⟨_, hS, by rw [← eS]⟩
        have hli := PySem.F.called_set.init.lookup; have hbi := PySem.F.called_set.init.bind (.ref s.heap.objs.size)
        repeat (any_goals (first | assumption | wp_step))
        refine codeAny_mono (codeAny_call_builtin (R := wants (fun r u => r = .none ∧ ∃ h' tk, u = { s with heap := h', toks := tk } ∧ h'.SetOf (PySem.strKind prog w) s.heap.objs.size (fun z => (xs.take items.size).any (· == z)) (unl xs items.size) ∧ (∀ b o, b < s.heap.objs.size → s.heap.get? b = some o → h'.get? b = some o)) E)
          PySem.F.called_set.init.plain PySem.F.entry_set_init (check_set_init_1 hT ?_)) fun r u hr => ?_
        · obtain ⟨⟨ocls, odict, odata, oslots⟩, hol, hcl, nl, hdl⟩ := hl
          simp only at hcl hdl
          subst hcl hdl
          have hol' : (s.heap.push oS).get? l = some { cls := .type "list", dict := odict, data := .seq items nl, slots := oslots } := Heap.get?_push_of_some _ hol
          have hsls := PySem.F.sub_list_set; have hslf := PySem.F.sub_list_frozenset; have hne : (Value.type "list" == Value.type "dict") = false := by decide
          have hl1 : (s.heap.push oS).IsList l items := ⟨_, hol', rfl, nl, rfl⟩
          have hlS : l < s.heap.objs.size := Heap.lt_size hol
          have sz : (s.heap.push oS).objs.size = s.heap.objs.size + 1 := Heap.size_push _ _
          have hneI : l ≠ (s.heap.push oS).objs.size := by rw [sz]; exact Nat.ne_of_lt (Nat.lt_succ_of_lt hlS)
          have nf : s.heap.objs.size ∉ [(s.heap.push oS).objs.size, l] := by
            rw [sz]; intro q; simp only [List.mem_cons, List.not_mem_nil, or_false] at q
            rcases q with q | q
            · exact Nat.succ_ne_self _ q.symm
            · exact absurd q (Nat.ne_of_gt hlS)
          have hget : ((s.heap.push oS).push { cls := .type "list_iterator", data := .fields #[.ref l, .int 0 0] }).get? s.heap.objs.size = some oS := Heap.get?_push_of_some _ hS
          subst eS
          unfold Builtin.«set.__init__» noKeywords Builtin.Frozenset.updateFrom
          generalize hPI : pyIter = PI
          wp_walk
          subst hPI
          refine wpAny_pyIter_list hl1 ?_; refine wpAny_bind (wpAny_runValue ?_)
          have hsz : xs.length = items.size := by rw [← StrsAre.len_eq hi, Array.length_toList]
          refine fillT ((Walks.list (show A.in1.in1.in1.handled = none by simp [hh]) _ l hneI items).toS) s.heap.objs.size nf xs hsz hn (fun i v hv => SS.strs_at hi i v (by rw [Array.getElem?_toList]; exact hv)) (items.size - 0) 0 _ (by omega) (Nat.zero_le _)
            ⟨⟨_, Heap.get?_push_size _ rfl, rfl, rfl⟩, (hl1.push _)⟩ ?hS0 ?hR
          case hS0 =>
            exact PyProof.Rows.SetOf_congr ((PyProof.Rows.setObjOf_fresh (knd := PySem.strKind prog w) led).setOf hget (by unfold scanBound; omega)) (fun _ => rfl) rfl
          case hR =>
            intro s' hm hS'
            obtain ⟨h', g', d', tk', os'⟩ := s'
            obtain rfl : g' = s.gens := hm.gens
            obtain rfl : d' = s.drawn := hm.drawn
            obtain rfl : os' = s.os := hm.os
            refine wpAny_pure (show wpAny _ _ (ret Value.none) _ _ _ from wpAny_pure ⟨rfl, h', tk', rfl, hS', fun b o hb e => ?_⟩)
            refine hm.heap b o (fun q => ?_) (Heap.get?_push_of_some _ (Heap.get?_push_of_some _ e))
            simp only [List.mem_cons, List.not_mem_nil, or_false] at q
            rcases q with q | q
            · exact absurd q (Nat.ne_of_lt hb)
            · exact absurd q (Nat.ne_of_lt (by rw [sz]; exact Nat.lt_succ_of_lt hb))
        · cases r with
          | error e => exact hr
          | ok fl =>
            cases fl with
            | ret r =>
              obtain ⟨rfl, h', tk, rfl, hS', hk'⟩ := hr
              repeat (any_goals (first | assumption | wp_step))
              exact h _ _ hS' hk'
            | _ => exact hr.elim
      | _ => exact hr.elim)⟩
end
/-- len(set(xs)) of a list of few texts -/
def tLenSetT (K : PySem.W.Frag) (ta : TE) : TE := fun σ H Q => ta σ H fun x H1 => ∃ (l : Addr) (xs : List Str), x = .ref l ∧ SqL K H1 l (xs.map V.str) ∧ xs.length ≤ 1000 ∧ Q (.int (unl xs xs.length : Nat)) H1
theorem pe_lenSetT {X : Cx} {a : Expr} {ta : TE} {p p2 q pos : Pos} (hg : Gl X "len") (hm : X.mg "len" = none) (hg2 : Gl X "set") (hm2 : X.mg "set" = none) (ha : PE X a ta) (hc : X.calm = true := by rfl)
    (na : starEach [a] X.env = (false, eval a X.env) :: starEach [] X.env := by rfl) : PE X (.Call (.Name "len" p) [.Call (.Name "set" p2) [a] [] q] [] pos) (tLenSetT X.K ta) := by
  refine ⟨fun pins s σ H Q I h => ?_⟩
  refine Call_ (ld_blt I hg hm boot_len (PyProof.Rows.callWith_builtin1 (PyProof.Rows.args_cons (Call_ (ld_blt I hg2 hm2 boot_set (PyProof.Rows.callWith_type1 (PyProof.Rows.args_cons (thn (ha.run pins s σ H _ I h) fun v s1 ⟨x, H1, I1, r1, q1⟩ => PyProof.Rows.args_nil ?_) na) na rfl))) rfl) rfl rfl))
  obtain ⟨l, xs, rfl, hq, hl, q1⟩ := q1
  cases r1
  obtain ⟨its, r, pl, hz⟩ := I1.list hq
  have hlen : its.toArray.size = xs.length := by rw [List.size_toArray, ← r.length, List.length_map]
  refine call_setT (I1.ok.hd hc) pl.isList (by simpa using strsAre_of r) (by rw [hlen]; unfold scanBound; omega) fun h' tk hS hk => PyProof.Rows.args_nil ?_
  rw [hlen] at hS
  have hu := unl_le xs xs.length
  obtain ⟨o, es, ep, t, ho, hex, hd, _, _, _, hf, hn⟩ := hS
  have I2 : Inv X pins σ H1 { s1 with heap := h', toks := tk } := I1.kept fun b o e => hk b o (Heap.lt_size e) e
  exact call_len_set ho hex hd hf (by rw [hn] <;> omega) ⟨.int (unl xs xs.length : Nat), H1, I2.tok _, ⟨_, by rw [hn]⟩, q1⟩
end Wr
/-! get of a written dict -/
namespace Wr
open PySem PySem.Spec PyProof.Rows L2
/-- what the written dict at a holds at the key k -/
def KLook (K : PySem.W.Frag) (w : World) (a : Addr) (k : Str) (o : Option V) : Prop := ∃ es n r, KDict K w a es n ∧ PySem.W.nsIn K a k = some r ∧ RelO o r
theorem KLook.dct {K : PySem.W.Frag} {w : World} {a : Addr} {k : Str} {v : V} (h : KDct K w a k v) (low : (a == sysModules) = false) : KLook K w a k (some v) := by
  obtain ⟨es, n, u, hl, hk, e, r⟩ := h
  exact ⟨es, n, some u, ⟨hl, hk, low⟩, e, r⟩
section
variable {X : Cx} {pins : List (Addr × Obj)} {σ : L2.St} {H : Hp} {s : Shared} {a : Addr} {k : Str} {d : V} {u r : Value} {o : Option V} {A : Around} {E : Value → Shared → Prop}
theorem kd_get2 {Q : Value → Shared → Prop} (I : Inv X pins σ H s) (g : KLook X.K X.w a k o) (ry : RelV (.str k) u) (rd : RelV d r) (h : ∀ w' s', Inv X pins σ H s' → RelV (o.getD d) w' → Q w' s') :
    wpAny (model X.prog X.w) A (call (.builtin "dict.get") [.ref a, u, r]) Q E s := by
  obtain ⟨es, n, ro, D, e, hr⟩ := g
  obtain ⟨t, rfl⟩ := ry
  have hm := PySem.W.mapOf_K (prog := X.prog) (w := X.w) I.kIn D.at_ D.lit
  refine call_meetsIn PySem.F.slot_dict_get hm.typeIs PySem.F.entry_dict_get (PySem.F.args_dict_get_3 _ _ _) (meets_dict_get_default (strKind X.prog X.w) a (PySem.strKind_is X.prog X.w k t) D.low r) ⟨_, hm, h _ _ (I.tok _) ?_⟩
  rw [PySem.W.find_K D.at_ e]
  exact hr.getD rd
theorem kd_get1 {Q : Value → Shared → Prop} (I : Inv X pins σ H s) (g : KLook X.K X.w a k o) (ry : RelV (.str k) u) (h : ∀ w' s', Inv X pins σ H s' → RelV (o.getD .non) w' → Q w' s') :
    wpAny (model X.prog X.w) A (call (.builtin "dict.get") [.ref a, u]) Q E s := by
  obtain ⟨es, n, ro, D, e, hr⟩ := g
  obtain ⟨t, rfl⟩ := ry
  have hm := PySem.W.mapOf_K (prog := X.prog) (w := X.w) I.kIn D.at_ D.lit
  refine call_meetsIn PySem.F.slot_dict_get hm.typeIs PySem.F.entry_dict_get (PySem.F.args_dict_get_2 _ _) (meets_dict_get (strKind X.prog X.w) a (PySem.strKind_is X.prog X.w k t) D.low) ⟨_, hm, h _ _ (I.tok _) ?_⟩
  rw [PySem.W.find_K D.at_ e]
  exact hr.getD rfl
end
def tKGet2 (K : PySem.W.Frag) (w : World) (td ty tx : TE) : TE := fun σ H Q => td σ H fun x H1 => ∃ a, x = .ref a ∧ (∃ es n, KDict K w a es n) ∧ ty σ H1 fun y H2 => tx σ H2 fun z H3 => ∃ k o, y = .str k ∧ KLook K w a k o ∧ Q (o.getD z) H3
def tKGet1 (K : PySem.W.Frag) (w : World) (td ty : TE) : TE := fun σ H Q => td σ H fun x H1 => ∃ a, x = .ref a ∧ (∃ es n, KDict K w a es n) ∧ ty σ H1 fun y H2 => ∃ k o, y = .str k ∧ KLook K w a k o ∧ Q (o.getD .non) H2
section
variable {X : Cx} {o e f : Expr} {apos cpos : Pos} {td ty tx : TE}
theorem kd_at {pins : List (Addr × Obj)} {σ : L2.St} {H : Hp} {s : Shared} {a : Addr} {es : Array DictEntry} {n : Nat} (I : Inv X pins σ H s) (D : KDict X.K X.w a es n) : s.TypeIs (.ref a) "dict" ∧ ∀ b, Value.ref a = .ref b → ∃ ob, s.heap.get? b = some ob ∧ ob.dict = none := by
  refine ⟨kd_type D I, fun b q => ?_⟩
  cases q
  exact ⟨_, I.kIn _ _ D.at_, rfl⟩
theorem pe_kget2 (ho : PE X o td) (he : PE X e ty) (hf : PE X f tx) (m : M2 X o "get" apos e f cpos) : PE X (.Call (.Attribute o "get" apos) [e, f] [] cpos) (tKGet2 X.K X.w td ty tx) := by
  refine ⟨fun pins s σ H Q I h => wpAny_Call_method m.base m.few m.line PySem.F.plainAttrs_dict PySem.F.slot_dict_get PySem.F.type_dict_get (thn (ho.run pins s σ H _ I h) fun u s1 ⟨x, H1, I1, rx, a, ex, ⟨es, n, D⟩, q1⟩ => ?_)⟩
  subst ex
  cases rx
  obtain ⟨t1, t2⟩ := kd_at I1 D
  refine ⟨t1, t2, ?_⟩
  rw [m.trees]
  refine Calls.callWith_builtin rfl (Calls.evalArgs_plain (Calls.spliced_cons (thn (he.run pins s1 σ H1 _ I1 q1) fun iv s2 ⟨y, H2, I2, ry, q2⟩ => Calls.spliced_cons (thn (hf.run pins s2 σ H2 _ I2 q2) fun fv s3 ⟨z, H3, I3, rz, k, ov, ey, g, q3⟩ => Calls.spliced_nil ?_))))
  subst ey
  exact kd_get2 I3 g ry rz fun w' s4 I4 rw' => ⟨_, H3, I4, rw', q3⟩
theorem pe_kget1 (ho : PE X o td) (he : PE X e ty) (m : M1 X o "get" apos e cpos) : PE X (.Call (.Attribute o "get" apos) [e] [] cpos) (tKGet1 X.K X.w td ty) := by
  refine ⟨fun pins s σ H Q I h => wpAny_Call_method m.base m.few m.line PySem.F.plainAttrs_dict PySem.F.slot_dict_get PySem.F.type_dict_get (thn (ho.run pins s σ H _ I h) fun u s1 ⟨x, H1, I1, rx, a, ex, ⟨es, n, D⟩, q1⟩ => ?_)⟩
  subst ex
  cases rx
  obtain ⟨t1, t2⟩ := kd_at I1 D
  refine ⟨t1, t2, ?_⟩
  rw [m.trees]
  refine Calls.callWith_builtin rfl (Calls.evalArgs_plain (Calls.spliced_cons (thn (he.run pins s1 σ H1 _ I1 q1) fun iv s2 ⟨y, H2, I2, ry, k, ov, ey, g, q2⟩ => Calls.spliced_nil ?_)))
  subst ey
  exact kd_get1 I2 g ry fun w' s3 I3 rw' => ⟨_, H2, I3, rw', q2⟩
end
end Wr
/-! {**d, k: v} -/
namespace Wr
open PySem PySem.Spec PyProof.Rows L2
section
variable {prog : Program} {w : World} {A : Around} {E : Value → Shared → Prop} {s : Shared}
theorem put_mix {d : Addr} {kvs : List (Key × Value)} {k : Key} {key v : Value} {Q : Unit → Shared → Prop} (hkey : (mixKind prog w).is k key = true) (hm : s.heap.DictOf (mixKind prog w) d kvs)
    (hQ : ∀ h', h'.DictOf (mixKind prog w) d (stored kvs k v) → Heap.SameBut d s.heap h' → Q () { s with heap := h' }) (hsz : kvs.length ≤ sizeLine) :
    wpAny (model prog w) A (dictPut d ((mixKind prog w).hash k) key v) Q E s := by
  obtain ⟨o, es, ep, ho, hc, hd, hk, hp, hn⟩ := hm
  have hes : es.size ≤ sizeLine := by have e1 := hp.length; have e2 : es.toList.length = es.size := (by simp); omega
  have hidx : (es.findIdx? fun e => (mixKind prog w).is k e.key) = kvs.findIdx? fun kv => decide (kv.1 = k) := by rw [← hp.findIdx k]; obtain ⟨l⟩ := es; simp
  unfold dictPut
  refine wpAny_bind (wpAny_dictFind_of hkey ho hd hk ?_)
  cases hi : es.findIdx? fun e => (mixKind prog w).is k e.key with
  | some i =>
    have here := any_of_findIdx_some (hidx ▸ hi)
    refine wpAny_updateDict ho hd (hQ _ ⟨_, _, ep, Heap.get?_update_self _ ho (Obj.isFreed_of_dict (Obj.data_mapDict hd _)), hc.mapDict _, Obj.data_mapDict hd _, hk.modify _ _, ?_, ?_⟩ (Heap.SameBut.update ..))
    · rw [stored, if_pos here]
      have hl : (es.toList.findIdx? fun e => (mixKind prog w).is k e.key) = some i := by rw [← hi]; obtain ⟨l⟩ := es; simp
      have z := hp.modify hn hl v
      obtain ⟨l⟩ := es; simpa using z
    · rw [stored, if_pos here, keys_map_store]; exact hn
  | none =>
    have hnot : k ∉ kvs.map (·.1) := not_mem_of_findIdx_none (hidx ▸ hi)
    have hany : ¬ (kvs.any fun kv => decide (kv.1 = k)) = true := fun z => by
      obtain ⟨kv, hkv, he⟩ := List.any_eq_true.mp z
      exact hnot (List.mem_map.mpr ⟨kv, hkv, of_decide_eq_true he⟩)
    refine wpAny_updateDictKeys (hz := hes) ho hd (hQ _ ⟨_, _, ep + 1, Heap.get?_update_self _ ho (Obj.isFreed_of_dict (Obj.data_mapDictKeys hd _)), hc.mapDictKeys _, Obj.data_mapDictKeys hd _, hk.push hkey _, ?_, ?_⟩ (Heap.SameBut.update ..))
    · rw [stored, if_neg hany]
      have z := hp.append hkey ((mixKind prog w).hash k) v
      obtain ⟨l⟩ := es; simpa using z
    · rw [stored, if_neg hany, List.map_append, List.nodup_append]
      refine ⟨hn, by simp, fun a ha b hb e => ?_⟩
      simp only [List.map_cons, List.map_nil, List.mem_singleton] at hb
      subst hb; subst e
      exact hnot ha
/-- the pairs of one dict are put into another -/
theorem merge_mix {d o : Addr} {kvs more : List (Key × Value)} {Q : Unit → Shared → Prop} (hdo : d ≠ o) (hoS : (o == sysModules) = false) (hd : s.heap.DictOf (mixKind prog w) d kvs) (ho : s.heap.DictOf (mixKind prog w) o more)
    (hQ : ∀ h', h'.DictOf (mixKind prog w) d (merged kvs more) → Heap.SameBut d s.heap h' → Q () { s with heap := h' }) (hsz : kvs.length + more.length ≤ sizeLine) :
    wpAny (model prog w) A (mergeMapping d (.ref o) false) Q E s := by
  obtain ⟨od, esd, epd, hod, hcd, hdd, hkd, hpd, hnd⟩ := id hd
  obtain ⟨oo, eso, epo, hoo, hco, hdo', hko, hpo, hno⟩ := id ho
  have hlen : more.length = eso.size := by rw [← hpo.length]; simp
  have noref : ∀ e ∈ eso, ∀ a, e.key ≠ .ref a := fun e he a q => by
    obtain ⟨k, hk, _⟩ := hko e he
    rcases keyIs_shape (k := k) (v := e.key) hk with ⟨i, t, _, h⟩ | ⟨x, t, _, h⟩ <;> (rw [q] at h; cases h)
  unfold mergeMapping
  refine wpAny_bind (wpAny_isInstance ho.typeIs isSubtype_dict_dict ?_)
  rw [if_pos rfl]
  refine wpAny_bind (wpAny_specialOf ho.typeIs F.slot_dict_iter.lookup ?_)
  refine wpAny_bind (wpAny_pure ?_)
  rw [beq_self_eq_true]
  dsimp only
  rw [if_neg (by rw [hoS]; exact Bool.false_ne_true)]
  refine wpAny_bind (wpAny_dictEntries hod hdd ?_)
  have loop : wpAny (model prog w) A (do
      let es ← dictEntries o
      let epoch ← dictEpoch o
      forIn (List.range es.size) PUnit.unit fun i (_ : PUnit) => (do
        let es' ← dictEntries o
        match es'[i]? with
        | some e => do
          holding [e.key, e.val] (dictPut d e.hash e.key e.val)
          let ep' ← dictEpoch o
          if (ep' != epoch) = true then do
            (unsupported "dict.changed-during-merge" : Sem PUnit)
            pure (ForInStep.yield PUnit.unit)
          else pure (ForInStep.yield PUnit.unit)
        | _ => do
          (unsupported "dict.changed-during-merge" : Sem PUnit)
          pure (ForInStep.yield PUnit.unit) : Sem (ForInStep PUnit))
      pure ()) Q E s := by
    refine wpAny_bind (wpAny_dictEntries hoo hdo' (wpAny_bind (wpAny_dictEpoch hoo hdo' (wpAny_bind ?_))))
    refine wpAny_forIn_list _
      (fun rest _ s' => ∃ h' i, s' = { s with heap := h' } ∧ rest = List.range' i (eso.size - i) ∧ i ≤ eso.size ∧ h'.DictOf (mixKind prog w) d (merged kvs (more.take i)) ∧ h'.get? o = some oo ∧ Heap.SameBut d s.heap h')
      _ ?_ ?_ _ _ ⟨s.heap, 0, rfl, by rw [List.range_eq_range']; simp, Nat.zero_le _, by simpa [merged] using hd, hoo, Heap.SameBut.refl _ _⟩
    · rintro x rest b s' ⟨h', i, rfl, hr, hi, hd', hoo', hs'⟩
      have hlt : i < eso.size := by
        rcases Nat.lt_or_ge i eso.size with h | h
        · exact h
        · rw [Nat.sub_eq_zero_of_le h] at hr; simp at hr
      obtain ⟨rfl, hrest⟩ : x = i ∧ rest = List.range' (i + 1) (eso.size - (i + 1)) := by
        have e : eso.size - i = (eso.size - (i + 1)) + 1 := (by omega)
        rw [e, List.range'_succ] at hr
        injection hr with h1 h2
        exact ⟨h1, h2⟩
      refine wpAny_bind (wpAny_dictEntries hoo' hdo' ?_)
      rw [Array.getElem?_eq_getElem hlt]
      obtain ⟨⟨k, v⟩, hkv⟩ : ∃ kv, more[x]? = some kv := ⟨more[x]'(by rw [hlen]; exact hlt), List.getElem?_eq_getElem _⟩
      obtain ⟨hkey, hval⟩ := hpo.get? (e := eso[x]) (by simp [hlt]) hkv
      obtain ⟨k', hkey', hhash⟩ := hko eso[x] (Array.getElem_mem hlt)
      obtain rfl : k' = k := (mixKind prog w).inj _ _ _ hkey' hkey
      show wpAny _ _ (holding [eso[x].key, eso[x].val] (dictPut d eso[x].hash eso[x].key eso[x].val) >>= _) _ _ _
      rw [hhash, hval]
      have hmx : (merged kvs (more.take x)).length ≤ sizeLine := by
        have e1 := merged_length_le kvs (more.take x)
        have e2 : (more.take x).length ≤ more.length := (by rw [List.length_take]; omega)
        omega
      refine wpAny_bind (wpAny_holding (put_mix hkey hd' (fun h'' hd'' hs'' => ?_) hmx))
      have hoo'' : h''.get? o = some oo := (hs''.2 o (Ne.symm hdo)).trans hoo'
      refine wpAny_bind (wpAny_dictEpoch hoo'' hdo' ?_)
      rw [if_neg (by simp)]
      exact wpAny_pure ⟨h'', x + 1, rfl, hrest, hlt, by rw [merged_take_succ kvs more x (k', v) hkv]; exact hd'', hoo'', hs'.trans hs''⟩
    · rintro b s' ⟨h', i, rfl, hr, hi, hd', hoo', hs'⟩
      have hin : i = eso.size := by
        rcases Nat.lt_or_ge i eso.size with h | h
        · have e : eso.size - i = (eso.size - i - 1) + 1 := (by omega)
          rw [e, List.range'_succ] at hr; simp at hr
        · omega
      rw [hin, ← hlen, List.take_length] at hd'
      exact wpAny_pure (hQ h' hd' hs')
  simp only [Bool.false_eq_true, if_false]
  split
  · refine wpAny_bind (wpAny_dictEntries hoo hdo' (wpAny_bind ?_))
    rw [← Array.forIn_toList]
    refine wpAny_forIn_list _ (fun rest _ s' => s' = s ∧ ∀ e ∈ rest, e ∈ eso) _ ?_ ?_ _ _ ⟨rfl, fun e he => Array.mem_toList_iff.mp he⟩
    · rintro x rest b s' ⟨rfl, hm⟩
      have nr := noref x (hm x List.mem_cons_self)
      have fin : wpAny (model prog w) A (pure (ForInStep.yield PUnit.unit) : Sem (ForInStep PUnit)) (fun r s₁ => match r with
        | .done b => False
        | .yield b => s₁ = s' ∧ ∀ e ∈ rest, e ∈ eso) E s' := wpAny_pure ⟨rfl, fun e he => hm e (List.mem_cons_of_mem _ he)⟩
      cases hx : x.key with
      | ref a => exact absurd hx (nr a)
      | _ => exact wpAny_pure ⟨rfl, fun e he => hm e (List.mem_cons_of_mem _ he)⟩
    · rintro b s' ⟨rfl, _⟩
      exact loop
  · exact loop
end
/-- {**d, k: v}: a new dict with the pairs of d, and one more, or one anew -/
def tDispS (td tk tv : TE) : TE := fun σ H Q => ∀ p, H p = none → td σ (upd H p (.dK [])) fun x H1 => ∃ (d : Addr) (kvs : List (Key × V)), x = .ref d ∧ H1 p = some (.dK []) ∧ H1 d = some (.dK kvs) ∧ d ≠ p ∧ kvs.length < sizeLine ∧
  ∀ q, H1 q = none → tk σ (upd (upd H1 p (.dK (mergeK [] kvs))) q (.dK [])) fun y H2 => tv σ H2 fun z H3 => ∃ (k : Key), y = kV k ∧ H3 p = some (.dK (mergeK [] kvs)) ∧ H3 q = some (.dK []) ∧ q ≠ p ∧
    Q (.ref p) (upd (upd H3 q (.dK (putK [] k z))) p (.dK (mergeK (mergeK [] kvs) (putK [] k z))))
theorem pe_dispS {X : Cx} {e k v : Expr} {td tk tv : TE} {pos : Pos} (he : PE X e td) (hk : PE X k tk) (hv : PE X v tv) : PE X (.Dict [none, some k] [e, v] pos) (tDispS td tk tv) := by
  refine ⟨fun pins s σ H Q I h => ?_⟩
  rw [show eval (.Dict [none, some k] [e, v] pos) X.env = (do
    standAt pos
    dictDisplay ((evalEachOpt [none, some k] X.env).zip ((evalEach [e, v] X.env).map fun v => do let x ← v; standAt pos; pure x))) from rfl]
  refine wpAny_bind (wpAny_standAt ?_)
  show wpAny _ _ (dictDisplay [(none, do let x ← eval e X.env; standAt pos; pure x), (some (eval k X.env), do let x ← eval v X.env; standAt pos; pure x)]) _ _ _
  unfold dictDisplay
  have hn := I.hok.fresh (Nat.le_refl s.heap.objs.size)
  have I1 := I.laid (a := s.heap.objs.size) (o := .dK []) (h' := s.heap.push { cls := .type "dict", data := .dict #[] }) (t' := s.toks) (fun _ _ q => Heap.get?_push_of_some _ q) (Nat.le_refl _) (dk_empty s.heap I.big)
  have h1 := h _ hn
  simp only [List.forIn_cons, List.forIn_nil, List.isEmpty, if_true, pure_bind, bind_assoc, List.nil_append, List.length_cons, List.length_nil, Nat.zero_add, show ((1 : Nat) == 17) = false from rfl, Bool.false_eq_true, if_false]
  refine wpAny_bind (wpAny_alloc ?_)
  refine wpAny_bind (wpAny_holding (wpAny_bind (thn (he.run pins _ σ _ _ I1 (h _ hn)) fun u s2 ⟨x, H1, I2, rx, d, kvs, ex, ep, ed, hdp, hl, q1⟩ => wpAny_bind (wpAny_standAt (wpAny_pure ?_)))))
  subst ex
  cases rx
  obtain ⟨z0, hsys0, vs0, rel0, dd0⟩ := dk_of I2.hok ep
  cases rel0
  obtain ⟨z1, hsys1, vs1, rel1, dd1⟩ := dk_of I2.hok ed
  have l1 := rel1.length
  refine wpAny_bind (wpAny_onRaise (wpAny_tryCatch (wpAny_onRaise (wpAny_holding (merge_mix (Ne.symm hdp) hsys1 dd0 dd1 (fun h3 dd3 hs3 => ?_) (by rw [List.length_nil, ← l1]; omega))))))
  have he3 : ∃ q, h3.get? s.heap.objs.size = some q := let ⟨q, _, _, hq, _⟩ := dd3; ⟨q, hq⟩
  have zm : (mergeK [] kvs).length ≤ sizeLine := by
    have h1 := length_mergeK kvs []
    rw [List.length_nil] at h1; omega
  have I3 := d_write (t' := s2.toks) I2 (a := s.heap.objs.size) (ob := .dK (mergeK [] kvs)) (by rw [ep]; exact True.intro) hs3 he3 (dk_new zm hsys0 (rel1.merge .nil) dd3)
  have hq0 := I3.hok.fresh (Nat.le_refl h3.objs.size)
  have hqn : H1 h3.objs.size = none := by
    by_cases c : h3.objs.size = s.heap.objs.size
    · rw [c, upd_same] at hq0; cases hq0
    · rw [upd_ne c] at hq0; exact hq0
  have hqp : h3.objs.size ≠ s.heap.objs.size := fun c => by rw [c, upd_same] at hq0; cases hq0
  have I4 := I3.laid (a := h3.objs.size) (o := .dK []) (h' := h3.push { cls := .type "dict", data := .dict #[] }) (t' := s2.toks) (fun _ _ q => Heap.get?_push_of_some _ q) (Nat.le_refl _) (dk_empty h3 I3.big)
  refine wpAny_bind (wpAny_holding (PySem.wpAny_subDict (knd := mixKind X.prog X.w) (by show 1 ≤ 15; decide) (evalPairs_cons (thn (hk.run pins _ σ _ _ I4 (q1 _ hqn)) fun ku s5 ⟨y, H5, I5, ry, q5⟩ =>
    wpAny_bind (thn (hv.run pins s5 σ H5 _ I5 q5) fun vu s6 ⟨z, H6, I6, rz, kk, ey, ep6, eq6, hqp6, q6⟩ => wpAny_bind (wpAny_standAt (wpAny_pure (evalPairs_nil ?_))))))))
  subst ey
  obtain ⟨rs, c, rk⟩ := carries_of (P := X.prog) (w := X.w) (kvs := [(kk, z)]) (ws := [(ku, vu)]) (.cons ⟨ry, rz⟩ .nil)
  obtain ⟨z7, hsys7, vs7, rel7, dd7⟩ := dk_of I6.hok eq6
  cases rel7
  refine ⟨rs, c, dd7, fun h8 dd8 hs8 => ?_⟩
  have he8 : ∃ q, h8.get? h3.objs.size = some q := let ⟨q, _, _, hq, _⟩ := dd8; ⟨q, hq⟩
  have z8 : (mergeK [] [(kk, z)]).length ≤ sizeLine := by
    have h1 := length_mergeK [(kk, z)] []
    rw [sizeLine_eq]
    simp only [List.length_nil, List.length_cons] at h1
    omega
  have I8 := d_write (t' := s6.toks + [(ku, vu)].length) I6 (a := h3.objs.size) (ob := .dK (mergeK [] [(kk, z)])) (by rw [eq6]; exact True.intro) hs8 he8 (dk_new z8 hsys7 (rk.merge .nil) dd8)
  have ep8 : upd H6 h3.objs.size (.dK (mergeK [] [(kk, z)])) s.heap.objs.size = some (.dK (mergeK [] kvs)) := by rw [upd_ne hqp.symm]; exact ep6
  obtain ⟨z9, hsys9, vs9, rel9, dd9⟩ := dk_of I8.hok ep8
  obtain ⟨za, hsysa, vsa, rela, dda⟩ := dk_of I8.hok (show upd H6 h3.objs.size (.dK (mergeK [] [(kk, z)])) h3.objs.size = _ from upd_same)
  have l9 := rel9.length
  have la := rela.length
  have zk : (mergeK [] kvs).length + (mergeK [] [(kk, z)]).length ≤ sizeLine := by
    have h1 := length_mergeK kvs []
    have h2 := length_mergeK [(kk, z)] []
    simp only [List.length_nil, List.length_cons] at h1 h2
    omega
  refine wpAny_bind (wpAny_onRaise (wpAny_holding (merge_mix hqp.symm hsysa dd9 dda (fun hb ddb hsb => wpAny_pure ?_) (by rw [← l9, ← la]; exact zk))))
  have heb : ∃ q, hb.get? s.heap.objs.size = some q := let ⟨q, _, _, hq, _⟩ := ddb; ⟨q, hq⟩
  have zb : (mergeK (mergeK [] kvs) (mergeK [] [(kk, z)])).length ≤ sizeLine := by
    have h1 := length_mergeK (mergeK [] [(kk, z)]) (mergeK [] kvs)
    omega
  have Ib := d_write (t' := s6.toks + [(ku, vu)].length) I8 (a := s.heap.objs.size) (ob := .dK (mergeK (mergeK [] kvs) (mergeK [] [(kk, z)]))) (by rw [ep8]; exact True.intro) hsb heb (dk_new zb hsys9 (rela.merge rel9) ddb)
  exact ⟨.ref s.heap.objs.size, _, Ib, rfl, q6⟩
end Wr
namespace Wr
open PySem PySem.Spec PyProof.Rows L2
/-! ### methods by their name -/
/-- the method m of the class at C stands as the text st says -/
def DfM (K : PySem.W.Frag) (C : Addr) (c m : Str) (st : Stmt) : Prop :=
  ∃ f fd, FunD K m c (defArgs st) (defBody st) (defScope st) [] [] f fd ∧ Meth K C m f
/-- it may be called, by its promise -/
def UseM (P : Program) (w : World) (K : PySem.W.Frag) (mg : Str → Option Value) (base : Heap) (C : Addr) (m : Str) (ps : List Str) (k : Nat) (sp : Sp) : Prop :=
  ∃ f fd, FnOk P w K mg base CX0 k f fd ps sp ∧ Meth K C m f ∧ Binds K fd ps []
/-- the class x at C, its __init__ as the text st says -/
def DfC (K : PySem.W.Frag) (mg : Str → Option Value) (C : Addr) (x c : Str) (st : Stmt) : Prop :=
  ∃ f fd, FunD K "__init__" c (defArgs st) (defBody st) (defScope st) [] [] f fd ∧ Mk K C f ∧ mg x = some (.ref C)
def UseC (P : Program) (w : World) (K : PySem.W.Frag) (mg : Str → Option Value) (base : Heap) (C : Addr) (x : Str) (ps : List Str) (k : Nat) (sp : Sp) : Prop :=
  ∃ f fd, FnOk P w K mg base CX0 k f fd ps sp ∧ Mk K C f ∧ mg x = some (.ref C) ∧ Binds K fd ps []
abbrev BindM (m c : Str) (st : Stmt) (ps : List Str) : Prop := ∀ (kV doc pm : Value) (an : Option Addr) (cdv ct : Value) (us : List Value), us.length = ps.length →
  bindArgs (PySem.W.fnOf m c (defArgs st) (defBody st) (defScope st) .none kV doc pm an cdv ct) ⟨us, []⟩ = pure (ps.zip us)
section
variable {P : Program} {w : World} {K : PySem.W.Frag} {mg : Str → Option Value} {base : Heap} {C : Addr}
theorem DfM.use {c m : Str} {st : Stmt} {N ps : List Str} {k : Nat} {sp : Sp} (D : DfM K C c m st) (S : FnScope N ps (defScope st)) (b : BindM m c st ps) (len : ∀ vs H Q E, sp vs H Q E → vs.length = ps.length)
    (hbody : ∀ (cdv : Value) (f : Addr) (A : Around) (outer : List Env) (s : Shared) (H : Hp) (vs : List V) (Q : VK) (E : XK), Room k (A.deeper (envOfC c (defScope st) s.heap.objs.size f cdv)) → sp vs H Q E →
      ∃ t, PSs (cxOf CX0 P w K mg base N c (defScope st) f cdv A outer s H E).nox (defBody st) t ∧ t { nx := fun _ H' => Q .non H', rt := Q } (start N vs) H) : UseM P w K mg base C m ps (k + 1) sp := by
  obtain ⟨f, fd, F, M⟩ := D
  refine ⟨f, fd, F.ok S len fun cdv A outer s H vs Q E hr h => ?_, M, F.bindsN b⟩
  obtain ⟨t, h1, h2⟩ := hbody cdv f A outer s H vs Q E hr h
  exact ⟨t, h1.nox, h2⟩
theorem DfC.use {x c : Str} {st : Stmt} {N ps : List Str} {k : Nat} {sp : Sp} (D : DfC K mg C x c st) (S : FnScope N ps (defScope st)) (b : BindM "__init__" c st ps) (len : ∀ vs H Q E, sp vs H Q E → vs.length = ps.length)
    (hbody : ∀ (cdv : Value) (f : Addr) (A : Around) (outer : List Env) (s : Shared) (H : Hp) (vs : List V) (Q : VK) (E : XK), Room k (A.deeper (envOfC c (defScope st) s.heap.objs.size f cdv)) → sp vs H Q E →
      ∃ t, PSs (cxOf CX0 P w K mg base N c (defScope st) f cdv A outer s H E).nox (defBody st) t ∧ t { nx := fun _ H' => Q .non H', rt := Q } (start N vs) H) : UseC P w K mg base C x ps (k + 1) sp := by
  obtain ⟨f, fd, F, M, m⟩ := D
  refine ⟨f, fd, F.ok S len fun cdv A outer s H vs Q E hr h => ?_, M, m, F.bindsN b⟩
  obtain ⟨t, h1, h2⟩ := hbody cdv f A outer s H vs Q E hr h
  exact ⟨t, h1.nox, h2⟩
theorem UseM.mono {m : Str} {ps : List Str} {k j : Nat} {sp : Sp} (U : UseM P w K mg base C m ps k sp) (h : k ≤ j) : UseM P w K mg base C m ps j sp := by
  obtain ⟨f, fd, F, r⟩ := U
  exact ⟨f, fd, F.mono h, r⟩
end
section
variable {X : Cx} {C : Addr} {x m : Str} {ps : List Str} {k : Nat} {sp : Sp} {o e : Expr} {es : List Expr} {ta : TE} {t : TA} {p pos apos : Pos}
/-- a call of a method with arguments -/
theorem pe_useM {pl : Sem Bool} (c : Cls X.K C) (U : UseM X.prog X.w X.K X.mg X.base C m ps k sp) (hr : Room k X.A) (he : PE X o ta) (ha : PA X (e :: es) t)
    (hst : starEach (e :: es) X.env = (false, eval e X.env) :: starEach es X.env := by rfl) (hpl : (backTo pos (starEach es X.env)).any (·.1) = false := by rfl)
    (ht : eval (.Call (.Attribute o m apos) (e :: es) [] pos) X.env = (do
      let ov ← eval o X.env; standAt apos.atName
      let (f, first) ← holding [ov] (getMethod ov m pl)
      callWith pos f first (backTo pos (starEach (e :: es) X.env)) (backToKw pos (keywordEach [] X.env))) := by rfl) :
    PE X (.Call (.Attribute o m apos) (e :: es) [] pos) (tMeth C m sp [] E0 ta t) := by
  obtain ⟨f, fd, F, M, b⟩ := U
  exact pe_meth he c M F hr b .nil pass0 ha hst hpl ht
/-- .. without -/
theorem pe_useM0 {pl : Sem Bool} (c : Cls X.K C) (U : UseM X.prog X.w X.K X.mg X.base C m ps k sp) (hr : Room k X.A) (he : PE X o ta)
    (ht : eval (.Call (.Attribute o m apos) [] [] pos) X.env = (do
      let ov ← eval o X.env; standAt apos.atName
      let (f, first) ← holding [ov] (getMethod ov m pl)
      callWith pos f first (backTo pos (starEach [] X.env)) (backToKw pos (keywordEach [] X.env))) := by rfl) :
    PE X (.Call (.Attribute o m apos) [] [] pos) (tMeth C m sp [] E0 ta tNil) := by
  obtain ⟨f, fd, F, M, b⟩ := U
  exact pe_meth0 he c M F hr b .nil pass0 ht
/-- a new instance -/
theorem pe_useC (U : UseC X.prog X.w X.K X.mg X.base C x ps k sp) (hr : Room (k + 1) X.A) (ha : PA X (e :: es) t) (hg : Gl X x := by rfl)
    (hdb : (x == ("__debug__" : Str)) = false := by decide) (he : starEach (e :: es) X.env = (false, eval e X.env) :: starEach es X.env := by rfl) (hpl : (backTo pos (starEach es X.env)).any (·.1) = false := by rfl) :
    PE X (.Call (.Name x p) (e :: es) [] pos) (tMake C sp [] E0 t) := by
  obtain ⟨f, fd, F, M, m, b⟩ := U
  exact pe_make M F hr hg m b .nil pass0 ha hdb he hpl
theorem pe_useC0 (U : UseC X.prog X.w X.K X.mg X.base C x ps k sp) (hr : Room (k + 1) X.A) (hg : Gl X x := by rfl) (hdb : (x == ("__debug__" : Str)) = false := by decide) :
    PE X (.Call (.Name x p) [] [] pos) (tMake C sp [] E0 tNil) := by
  obtain ⟨f, fd, F, M, m, b⟩ := U
  exact pe_make0 M F hr hg m b .nil pass0 hdb
end
/-- a constant of the module that is an int -/
def GInt (mg : Str → Option Value) (x : Str) (i : Int) : Prop := ∃ t, mg x = some (.int i t)
/-- a written tuple -/
def TupK (K : PySem.W.Frag) (a : Addr) (xs : List V) : Prop := ∃ (o : Obj) (its : Array Value) (n : Nat), K.lookup a = some o ∧ o.cls = .type "tuple" ∧ o.data = .seq its n ∧ its.size ≤ sizeLine ∧ Vals xs its.toList
theorem TupK.seq {K : PySem.W.Frag} {a : Addr} {xs : List V} (h : TupK K a xs) (H : Hp) : SqT K H a xs := .inr h
/-- the names of the attributes of a class are no attributes of it -/
def NoAts (K : PySem.W.Frag) (C : Addr) (fs : List Str) : Prop := ∀ f ∈ fs, NoAttr K C f
/-- a constant of the module that is a text -/
def GStr (mg : Str → Option Value) (x s : Str) : Prop := ∃ t, mg x = some (.str s t)
/-- a written tuple, of which methods are asked -/
def TupD (K : PySem.W.Frag) (a : Addr) (xs : List V) : Prop := ∃ (o : Obj) (its : Array Value) (n : Nat), K.lookup a = some o ∧ o.cls = .type "tuple" ∧ o.dict = none ∧ o.data = .seq its n ∧ its.size ≤ sizeLine ∧ Vals xs its.toList
theorem TupD.k {K : PySem.W.Frag} {a : Addr} {xs : List V} (h : TupD K a xs) : TupK K a xs := by
  obtain ⟨o, its, n, h1, h2, _, h3⟩ := h
  exact ⟨o, its, n, h1, h2, h3⟩
theorem TupD.ty {K : PySem.W.Frag} {a : Addr} {xs : List V} (h : TupD K a xs) (H : Hp) : tyV K "tuple" (.ref a) H := by
  obtain ⟨o, its, n, h1, h2, h3, _⟩ := h
  exact .inr (.inl ⟨rfl, o, h1, h2, h3⟩)
end Wr
namespace Wr
open PySem PySem.Spec PyProof.Rows L2
/-! ### what stands in a part -/
def Ex.ns : Ex → List Str
  | .name x => [x]
  | .lt x _ _ => [x]
  | .fn x _ => [x]
  | .ct _ x k _ => [x, k]
  | _ => []
def Ex.nv : Ex → V
  | .num n => .int n
  | _ => .non
theorem AtL.val {H : Hp} : ∀ {vs : List V} {es : List Ex} {i : Nat} {v : V}, AtL H vs es → vs[i]? = some v → ∃ e, es[i]? = some e ∧ AtE H v e
  | _, _, _, _, .nil, h => by simp at h
  | _, _, 0, _, .cons (e := e) a _, h => by cases h; exact ⟨e, rfl, a⟩
  | _, _, i + 1, _, .cons _ t, h => t.val (i := i) h
theorem word_num {S : List Str} {e : Ex} (g : Good S e) (h : e.word = "num") : ∃ n, e = .num n := by
  cases e with
  | num n => exact ⟨n, rfl⟩
  | name x => exact absurd h (by show ¬ ("name" : Str) = "num"; decide +kernel)
  | fault => exact absurd h (by show ¬ ("fault" : Str) = "num"; decide +kernel)
  | one w a => exact absurd h (ones_ne w g.1).2.1
  | two w a b => exact absurd h (twos_ne w g.1).2.1
  | ite a b c => exact absurd h (by show ¬ ("if" : Str) = "num"; decide +kernel)
  | lt n a b => exact absurd h (by show ¬ ("let" : Str) = "num"; decide +kernel)
  | fn n a => exact absurd h (by show ¬ ("fun" : Str) = "num"; decide +kernel)
  | ct a n k b => exact absurd h (by show ¬ ("catch" : Str) = "num"; decide +kernel)
theorem word_nm {S : List Str} {e : Ex} (g : Good S e) (h : e.word = "name") : ∃ n, e = .name n := by
  cases e with
  | name n => exact ⟨n, rfl⟩
  | num x => exact absurd h (by show ¬ ("num" : Str) = "name"; decide +kernel)
  | fault => exact absurd h (by show ¬ ("fault" : Str) = "name"; decide +kernel)
  | one w a => exact absurd h (ones_ne w g.1).2.2.2.1
  | two w a b => exact absurd h (twos_ne w g.1).2.2.2.1
  | ite a b c => exact absurd h (by show ¬ ("if" : Str) = "name"; decide +kernel)
  | lt n a b => exact absurd h (by show ¬ ("let" : Str) = "name"; decide +kernel)
  | fn n a => exact absurd h (by show ¬ ("fun" : Str) = "name"; decide +kernel)
  | ct a n k b => exact absurd h (by show ¬ ("catch" : Str) = "name"; decide +kernel)
theorem flat_str (ys : List Str) : (ys.map V.str).all flatV = true := flat_strs ys
theorem sg_n : (⟨#[110]⟩ : Str) = "n" ∧ (⟨#[120]⟩ : Str) = "x" ∧ (⟨#[101]⟩ : Str) = "e" ∧ ("n" : Str) ≠ "x" ∧ ("n" : Str) ≠ "e" ∧ ("x" : Str) ≠ "e" := by decide +kernel
theorem stand_ns {H : Hp} {t : Addr} {e : Ex} {w : Str} {xs : List V} (h : AtE H (.ref t) e) (ht : H t = some (.tup (.str w :: xs))) :
    stand "x" e.shape.cps.toList xs = e.ns.map V.str ∧ AtL H (stand "e" e.shape.cps.toList xs) e.kids := by
  obtain ⟨s1, s2, s3, s4, s5, s6, s7, s8, s9⟩ := sh_n
  obtain ⟨g1, g2, g3, d1, d2, d3⟩ := sg_n
  have xe := d3; have ex := d3.symm; have nx := d1; have ne := d2
  cases e with
  | num n => obtain ⟨_, e, h⟩ := h; cases e; rw [h] at ht; cases ht; show stand "x" ("n" : Str).cps.toList _ = _ ∧ AtL H (stand "e" ("n" : Str).cps.toList _) _; rw [s1]; simp only [stand, g1, if_neg nx, if_neg ne]; exact ⟨rfl, .nil⟩
  | name n => obtain ⟨_, e, h⟩ := h; cases e; rw [h] at ht; cases ht; show stand "x" ("x" : Str).cps.toList _ = _ ∧ AtL H (stand "e" ("x" : Str).cps.toList _) _; rw [s2]; simp only [stand, g2, if_neg xe, if_true]; exact ⟨rfl, .nil⟩
  | fault => obtain ⟨_, e, h⟩ := h; cases e; rw [h] at ht; cases ht; show stand "x" ("" : Str).cps.toList _ = _ ∧ AtL H (stand "e" ("" : Str).cps.toList _) _; rw [s3]; exact ⟨rfl, .nil⟩
  | one w a => obtain ⟨_, _, e, h, ha⟩ := h; cases e; rw [h] at ht; cases ht; show stand "x" ("e" : Str).cps.toList _ = _ ∧ AtL H (stand "e" ("e" : Str).cps.toList _) _; rw [s4]; simp only [stand, g3, if_neg ex, if_true]; exact ⟨rfl, .cons ha .nil⟩
  | two w a b => obtain ⟨_, _, _, e, h, ha, hb⟩ := h; cases e; rw [h] at ht; cases ht; show stand "x" ("ee" : Str).cps.toList _ = _ ∧ AtL H (stand "e" ("ee" : Str).cps.toList _) _; rw [s5]; simp only [stand, g3, if_neg ex, if_true]; exact ⟨rfl, .cons ha (.cons hb .nil)⟩
  | ite a b c => obtain ⟨_, _, _, _, e, h, ha, hb, hc⟩ := h; cases e; rw [h] at ht; cases ht; show stand "x" ("eee" : Str).cps.toList _ = _ ∧ AtL H (stand "e" ("eee" : Str).cps.toList _) _; rw [s6]; simp only [stand, g3, if_neg ex, if_true]; exact ⟨rfl, .cons ha (.cons hb (.cons hc .nil))⟩
  | lt n a b => obtain ⟨_, _, _, e, h, ha, hb⟩ := h; cases e; rw [h] at ht; cases ht; show stand "x" ("xee" : Str).cps.toList _ = _ ∧ AtL H (stand "e" ("xee" : Str).cps.toList _) _; rw [s7]; simp only [stand, g2, g3, if_neg ex, if_neg xe, if_true]; exact ⟨rfl, .cons ha (.cons hb .nil)⟩
  | fn n a => obtain ⟨_, _, e, h, ha⟩ := h; cases e; rw [h] at ht; cases ht; show stand "x" ("xe" : Str).cps.toList _ = _ ∧ AtL H (stand "e" ("xe" : Str).cps.toList _) _; rw [s8]; simp only [stand, g2, g3, if_neg ex, if_neg xe, if_true]; exact ⟨rfl, .cons ha .nil⟩
  | ct a n k b => obtain ⟨_, _, _, e, h, ha, hb⟩ := h; cases e; rw [h] at ht; cases ht; show stand "x" ("exxe" : Str).cps.toList _ = _ ∧ AtL H (stand "e" ("exxe" : Str).cps.toList _) _; rw [s9]; simp only [stand, g2, g3, if_neg ex, if_neg xe, if_true]; exact ⟨rfl, .cons ha (.cons hb .nil)⟩
theorem Ex.ns_len (e : Ex) : e.ns.length ≤ 2 := by cases e <;> simp [Ex.ns]
theorem Good.ns_letters {S : List Str} {e : Ex} (hS : ∀ x ∈ S, x ∈ letters) (g : Good S e) : ∀ x ∈ e.ns, x ∈ letters := by
  intro x hx
  cases e with
  | name n => rw [List.mem_singleton.mp hx]; exact hS _ g
  | lt n a b => rw [List.mem_singleton.mp hx]; exact g.1
  | fn n a => rw [List.mem_singleton.mp hx]; exact g.1
  | ct a n k b =>
    rcases List.mem_cons.mp hx with rfl | h
    · exact g.1
    · rw [List.mem_singleton.mp h]; exact g.2.1
  | _ => simp [Ex.ns] at hx
theorem Good.unl {S : List Str} {e : Ex} (g : Good S e) : unl e.ns e.ns.length = e.ns.length := by
  cases e with
  | ct a n k b =>
    have h : n ≠ k := g.2.2.1
    show (if ([n] : List Str).any (· == k) = true then _ else _) = 2
    rw [if_neg (by simp [h])]
    rfl
  | _ => rfl
section
variable {P : Program} {w : World} {K : PySem.W.Frag} {mg : Str → Option Value} {base : Heap}
/-- a good part is not refused -/
def spWhy : Sp := fun vs H Q _ => ∃ (t b : Addr) (e : Ex) (S bs : List Str) (a r : Nat), vs = [.ref t, .int a, .int r, .ref b] ∧ AtE H (.ref t) e ∧ Good S e ∧ (∀ x ∈ S, x ∈ letters) ∧ a < 200 ∧ r ≤ 40 ∧ H b = some (.tup (bs.map V.str)) ∧ (∀ x ∈ S, x ∈ bs) ∧
  ∀ H', Same H H' → Q .non H'
theorem scWhy_not : FnScope ["thing", "at", "around", "bound", "word", "names", "name"] ["thing", "at", "around", "bound"] (defScope s_why_not) := ⟨rfl, rfl, rfl, by decide +kernel, rfl, by decide +kernel, by decide +kernel⟩
theorem inV_str (x : Str) (ys : List Str) : inV (.str x) (ys.map V.str) = decide (x ∈ ys) := by
  induction ys with
  | nil => rfl
  | cons y ys ih =>
    show (eqV (.str y) (.str x) || inV (.str x) (ys.map V.str)) = _
    rw [ih]
    show (decide (y = x) || decide (x ∈ ys)) = _
    by_cases h : y = x
    · subst h; simp
    · have : x ≠ y := fun z => h z.symm
      simp [h, this]
theorem ok_why_not {na : Addr} (F : Df K mg "why_not" s_why_not) (mP : GInt mg "MOST_PARTS" 200) (mA : GInt mg "MOST_AROUND" 40) (mN : GInt mg "MOST_NUMBER" 1000000) (mNm : mg "NAMES" = some (.ref na)) (hNm : TupK K na (letters.map V.str))
    (abs' : mg "abs" = none) (all' : mg "all" = none) (len : mg "len" = none) (set' : mg "set" = none) (U_shape : Use P w K mg base "has_shape" ["thing"] 3 spShape) (U_stand : Use P w K mg base "standing" ["thing", "place"] 1 spStanding) : Use P w K mg base "why_not" ["thing", "at", "around", "bound"] 4 spWhy := by
  refine F.use scWhy_not (fun _ _ _ _ _ _ us hl => match us, hl with | [_, _, _, _], _ => rfl) (fun vs H Q E h => ?_) (fun cdv f A outer s H vs Q E hr h => ?_)
  · obtain ⟨t, b, e, S, bs, a, r, rfl, _⟩ := h
    rfl
  · obtain ⟨t, b, e, S, bs, a, r, rfl, hv, hg, hS, ha, hr4, hb, hSb, q⟩ := h
    have hr1 : Room 1 _ := hr.mono (by decide)
    obtain ⟨tP, mP⟩ := mP
    obtain ⟨tA, mA⟩ := mA
    obtain ⟨tN, mN⟩ := mN
    refine ⟨_, pss_cons (ps_if (pt_cmpR op_ge (pv 1) (pe_glob (v := .int 200) (by rfl) mP ⟨_, rfl⟩) (nomark _)) (pss_one (ps_ret pe_str)) pss_nil)
      (pss_cons (ps_if (pt_cmpR op_gt (pv 2) (pe_glob (v := .int 40) (by rfl) mA ⟨_, rfl⟩) (nomark _)) (pss_one (ps_ret pe_str)) pss_nil)
      (pss_cons (ps_if (pt_not (pt_val (pe_use U_shape hr (pa_cons (pv 0) pa_nil)))) (pss_one (ps_ret pe_str)) pss_nil)
      (pss_cons (ps_set (i := 4) scWhy_not.nd rfl (Or.inl rfl) (pe_ix ix_tup (pv 0) pe_int (fun _ _ => rfl)))
      (pss_cons (ps_set (i := 5) scWhy_not.nd rfl (Or.inl rfl) (pe_use U_stand hr1 (pa_cons (pv 0) (pa_cons pe_str pa_nil))))
      (pss_cons (ps_if (PW.pt (pw_and (pt_cmpR op_eq (pv 4) pe_str (nomark _)) (pw_and1 (pt_cmpR op_gt (pe_callB call_abs (by rfl) abs' (by decide +kernel) (pa_cons (pe_ix ix_tup (pv 0) pe_int (fun _ _ => rfl)) pa_nil)) (pe_glob (v := .int 1000000) (by rfl) mN ⟨_, rfl⟩) (nomark _))))) (pss_one (ps_ret pe_str)) pss_nil)
      (pss_cons (ps_if (PW.pt (pw_or (pt_not (pt_val (pe_callB (cr_all rfl) (by rfl) all' (by decide +kernel) (pa_cons
          (pe_lc (own := [("name", 6)]) (g := gName 6) (tt := tYes) (by rfl) scWhy_not.nd (pi_list (pv 5)) (blkOk_by (own := [("name", 6)]) (N := ["thing", "at", "around", "bound", "word", "names", "name"]) (sc := defScope s_why_not) (by decide +kernel))
            (fun _ _ _ _ _ => pg_name (i := 6) scWhy_not.nd rfl (Or.inl rfl)) (fun _ _ _ _ _ => pts_nil) (fun _ _ _ _ _ => pe_cmpR (r := rIn K false) op_in_seq (pv 6) (pe_glob (v := .ref na) (by rfl) mNm rfl) rfl)) pa_nil))))
          (pw_or1 (pt_cmpR op_lt (pe_lenSetT (by rfl) len (by rfl) set' (pv 5)) (pe_callB call_len_seq (by rfl) len PySem.boot_len (pa_cons (pv 5) pa_nil)) (nomark _))))) (pss_one (ps_ret pe_str)) pss_nil)
      (pss_cons (ps_if (PW.pt (pw_and (pt_cmpR op_eq (pv 4) pe_str (nomark _)) (pw_and1 (pt_cmpR (r := rIn K true) op_notIn_seq (pe_ix ix_list (pv 5) pe_int (fun _ _ => rfl)) (pv 3) rfl)))) (pss_one (ps_ret pe_str)) pss_nil)
      (pss_one (ps_ret pe_non))))))))), ?_⟩
    obtain ⟨t', xs, et, ht, _, h5⟩ := hv.words
    cases et
    have h4 : xs.length ≤ 4 := by rw [List.length_cons] at h5; omega
    refine ⟨_, rfl, _, _, rfl, rfl, _, rfl, ?_⟩
    rw [decide_eq_false (by omega)]
    refine iteF ⟨_, rfl, _, _, rfl, rfl, _, rfl, ?_⟩
    rw [decide_eq_false (by omega)]
    refine iteF ⟨_, rfl, t, e, S, xs, rfl, hv, hg, ht, h4, fun H1 sm1 => ⟨true, rfl, iteF ?_⟩⟩
    have ht1 := sm1 _ _ ht
    refine ⟨_, rfl, t, _, _, .str e.word, rfl, rfl, SqT.of ht1, atI_nat (j := 0) rfl, ?_⟩
    refine ⟨_, rfl, t, e, S, xs, "x", rfl, hv.same sm1, hg, ht1, h4, fun nl H2 sm2 nn hn2 => ?_⟩
    obtain ⟨en, _⟩ := stand_ns hv ht
    rw [en] at hn2
    have ht2 := sm2 _ _ ht1
    have hb2 := sm2 _ _ (sm1 _ _ hb)
    have step3 : ∀ (u : TS) (D : Ends), u D [some (.ref t), some (.int a), some (.int r), some (.ref b), some (.str e.word), some (.ref nl), none] H2 →
        tSeq (tIfS (tAnd (tTest (tOp rEq (tVar 4) (tC (.str "num")))) (tTest (tOp (rI0 fun i j => V.bl (decide (j < i))) (tCB (fun xs H Q => ∃ i, xs = [.int i] ∧ Q (.int (if i < 0 then -i else i)) H) (tCons (tOp (rIxT K) (tVar 0) (tC (.int 1))) tNil)) (tC (.int 1000000)))))
          (tRet (tC (.str "number"))) tNext) u D [some (.ref t), some (.int a), some (.int r), some (.ref b), some (.str e.word), some (.ref nl), none] H2 := by
      intro u D hu
      refine ⟨_, rfl, rfl, _, rfl, ?_⟩
      refine ite2 (fun hw => ?_) (fun _ => iteF hu)
      obtain ⟨n, rfl⟩ := word_num hg (V.str.inj (of_decide_eq_true hw))
      obtain ⟨_, e1, h1⟩ := hv
      cases e1
      rw [h1] at ht
      cases ht
      refine ⟨_, rfl, t, _, _, .int n, rfl, rfl, SqT.of ht2, atI_nat (j := 1) rfl, n, rfl, _, _, rfl, rfl, _, rfl, ?_⟩
      obtain ⟨g1, g2⟩ : -1000000 ≤ n ∧ n ≤ 1000000 := hg
      rw [decide_eq_false (by split <;> omega)]
      exact iteF hu
    refine step3 _ _ ?_
    refine ⟨_, rfl, nl, rfl, ⟨_, SqL.of hn2⟩, fun D nD => ?_⟩
    have hnl : e.ns.length ≤ 2 := e.ns_len
    refine lc_list (K := K) (a := nl) (xs := e.ns.map V.str) (fun i H3 => Same H2 H3 ∧ i ≤ e.ns.length ∧ H3 D = some (.lst ((List.replicate i true).map V.bl))) ⟨Same.new nD _, Nat.zero_le _, upd_same⟩ (fun i H3 _ h => SqL.of (h.1 _ _ hn2)) ?_ ?_
    · rintro i x H3 hx ⟨sm, hi, hD⟩
      obtain ⟨y, hy, rfl⟩ : ∃ y, e.ns[i]? = some y ∧ V.str y = x := by
        rw [List.getElem?_map] at hx
        cases hq : e.ns[i]? with
        | none => rw [hq] at hx; cases hx
        | some y => rw [hq] at hx; exact ⟨y, rfl, Option.some.inj hx⟩
      have hi2 : i < e.ns.length := (List.getElem?_eq_some_iff.mp hy).1
      have hmem := hg.ns_letters hS y (List.mem_of_getElem? hy)
      refine ⟨rfl, tYes_if ?_⟩
      refine ⟨_, rfl, na, _, rfl, .inr (hNm.seq _), rfl, flat_strs _, _, hD, ?_, ?_, hi2, ?_⟩
      · rw [List.length_map, List.length_replicate]
        have : (4 : Nat) ≤ sizeLine := by decide
        omega
      · exact fun c o hc => by
          rw [upd_ne (fun z => by rw [z, nD] at hc; cases hc)]
          exact sm _ _ hc
      · rw [upd_same, List.replicate_succ', List.map_append]
        show some (HO.lst (_ ++ [V.bl (inV (.str y) (letters.map V.str))])) = _
        rw [inV_str, decide_eq_true hmem]
        rfl
    · rintro H3 ⟨sm, _, hD⟩
      refine ⟨D, _, rfl, SqL.of hD, ?_⟩
      rw [show (List.replicate (e.ns.map V.str).length true).all id = true from by simp]
      refine ⟨true, rfl, iteF ?_⟩
      have hn3 := sm _ _ hn2
      have hb3 := sm _ _ hb2
      refine ⟨_, rfl, nl, e.ns, rfl, SqL.of hn3, by omega, ?_⟩
      refine ⟨_, rfl, nl, _, rfl, .inl (SqL.of hn3), _, _, rfl, rfl, _, rfl, ?_⟩
      rw [hg.unl, List.length_map, decide_eq_false (by omega)]
      refine iteF ⟨_, rfl, rfl, _, rfl, ?_⟩
      have fin : Q .non H3 := q H3 (fun c o hc => sm _ _ (sm2 _ _ (sm1 _ _ hc)))
      refine ite2 (fun hw => ?_) (fun _ => iteF fin)
      obtain ⟨n, rfl⟩ := word_nm hg (V.str.inj (of_decide_eq_true hw))
      refine ⟨_, rfl, nl, _, _, .str n, rfl, rfl, SqL.of hn3, atI_nat (j := 0) rfl, _, rfl, b, _, rfl, .inr (SqT.of hb3), rfl, flat_strs _, _, rfl, ?_⟩
      rw [show (if true = true then !inV (.str n) (bs.map V.str) else inV (.str n) (bs.map V.str)) = false from by
        rw [if_pos rfl, inV_str, decide_eq_true (hSb n hg)]; rfl]
      exact iteF fin
end
end Wr
namespace Wr
open PySem PySem.Spec PyProof.Rows L2
/-! ### the plain way, as a machine -/
def bump (ts : Str → Nat) (w : Str) : Str → Nat := fun z => if z = w then ts z + 1 else ts z
def Ex.cnt : Ex → Str → Nat
  | .num _, z => if z = "num" then 1 else 0
  | .name _, z => if z = "name" then 1 else 0
  | .fault, z => if z = "fault" then 1 else 0
  | .one w a, z => (if z = w then 1 else 0) + a.cnt z
  | .two w a b, z => (if z = w then 1 else 0) + (a.cnt z + b.cnt z)
  | .ite a b c, z => (if z = "if" then 1 else 0) + (a.cnt z + (b.cnt z + c.cnt z))
  | .lt _ a b, z => (if z = "let" then 1 else 0) + (a.cnt z + b.cnt z)
  | .fn _ a, z => (if z = "fun" then 1 else 0) + a.cnt z
  | .ct a _ _ b, z => (if z = "catch" then 1 else 0) + (a.cnt z + b.cnt z)
def adv (ts : Str → Nat) (e : Ex) : Str → Nat := fun z => ts z + e.cnt z
def advL (ts : Str → Nat) : List Ex → Str → Nat
  | [] => ts
  | e :: es => advL (adv ts e) es
/-- a part: the expression, and how many of each word were ahead -/
structure Pt where
  e : Ex
  ts : Str → Nat
/-- the part within at place i -/
def Pt.kid (p : Pt) (i : Nat) : Pt := ⟨p.e.kids.getD i .fault, advL (bump p.ts p.e.word) (p.e.kids.take i)⟩
/-- worths, what names are bound to, what waits, rows of it (the innermost first) -/
inductive Z where
  | nil
  | num (n : Int)
  | bx (b : Nat)
  | fn (p : Pt) (x : Str) (en : Z)
  | rs (ws : Z)
  | put (x : Str) (w en : Z)
  | cons (w ws : Z)
  | wi0 (p : Pt) (en : Z)
  | wi1 (p : Pt) (en w : Z)
  | ch (p : Pt) (en : Z)
  | na (p : Pt) (en : Z)
  | ca (p : Pt) (en : Z)
  | la (p : Pt) (en : Z)
  | el (p : Pt) (en : Z)
  | dw (w : Z)
  | df (f : Str)
  | dr (ls : Z) (k : Nat)
namespace Z
def dom : Z → List Str
  | .put x _ en => x :: en.dom
  | _ => []
def get (x : Str) : Z → Z
  | .put y w en => if y = x then w else en.get x
  | _ => .nil
def len : Z → Nat
  | .cons _ ws => ws.len + 1
  | _ => 0
def app : Z → Z → Z
  | .cons w ws, z => .cons w (ws.app z)
  | _, z => z
def isCa : Z → Bool
  | .ca _ _ => true
  | _ => false
/-- up to the innermost catch, and what is below -/
def top : Z → Z
  | .cons w ws => if w.isCa = true then .cons w .nil else .cons w ws.top
  | _ => .nil
def low : Z → Z
  | .cons w ws => if w.isCa = true then ws else ws.low
  | _ => .nil
/-- the innermost catch -/
def hd : Z → Z
  | .cons w ws => if w.isCa = true then w else ws.hd
  | _ => .nil
/-- the places of the catches, from the bottom -/
def cpos : Z → List Nat
  | .cons w ws => if w.isCa = true then ws.cpos ++ [ws.len] else ws.cpos
  | _ => []
/-- the lasts -/
def las : Z → Z
  | .cons (.la p en) ws => .cons (.la p en) ws.las
  | .cons _ ws => ws.las
  | _ => .nil
def at_ : Z → Nat → Z
  | .cons w _, 0 => w
  | .cons _ ws, i + 1 => ws.at_ i
  | _, _ => .nil
def isNum : Z → Option Int
  | .num n => some n
  | _ => none
/-- what kind of worth this is -/
def kind : Z → Str
  | .num _ => "number"
  | .fn _ _ _ => "fun"
  | .rs _ => "rest"
  | _ => "box"
end Z
inductive Md where
  | pt (p : Pt) (en : Z)
  | wo (w : Z)
  | fa (f : Str)
inductive Fin where
  | long
  | num (n : Int)
  | kind (s : Str)
  | fault (f : Str)
structure Ms where
  md : Md
  ws : Z
  said : List Int
  ways : List (Int × Int × Int)
  goes : Nat
  bxs : List Z
  fin : Option Fin
def bump3 (i : Nat) (t : Int × Int × Int) : Int × Int × Int := if i = 0 then (t.1 + 1, t.2.1, t.2.2) else if i = 1 then (t.1, t.2.1 + 1, t.2.2) else (t.1, t.2.1, t.2.2 + 1)
namespace Ms
def to (m : Ms) (d : Md) : Ms := { m with md := d }
def deed (m : Ms) (i w : Nat) : Ms := { m with ways := m.ways.modify i (bump3 w) }
def push (m : Ms) (z : Z) : Ms := { m with ws := .cons z m.ws }
/-- as much is left as is spent, or all is over -/
def spend (m : Ms) (f : Ms → Ms) : Ms := match m.goes with
  | 0 => { m with fin := some .long }
  | g + 1 => f { m with goes := g }
def dropFrom (m : Ms) (ls : Z) (k : Nat) : Ms :=
  if k = ls.len then m.to (.wo (.num 0)) else match ls.at_ k with
    | .la p en => ((m.deed (p.ts "last") 2).push (.dr ls (k + 1))).to (.pt (p.kid 1) en)
    | _ => m
def throw (m : Ms) (w : Z) : Ms := match m.ws.hd with
  | .ca p en => match p.e with
    | .ct _ x k _ => { m with ws := m.ws.low, md := .pt (p.kid 1) (.put k (.rs m.ws.top) (.put x w en)) }
    | _ => m
  | _ => m.to (.fa "throw")
/-- what add, take and less tell -/
def reach (w : Str) (a b : Int) : Int := if w = "add" then a + b else if w = "take" then a - b else if a < b then 1 else 0
def most : Int := 1000000000000
def fin1 (m : Ms) (w : Str) (a : Z) : Ms :=
  if w = "say" then (match a with | .num n => { m with said := m.said ++ [n], md := .wo (.num n) } | _ => m.to (.fa "number"))
  else if w = "box" then { m with bxs := m.bxs ++ [a], md := .wo (.bx m.bxs.length) }
  else if w = "look" then (match a with | .bx b => m.to (.wo (m.bxs.getD b .nil)) | _ => m.to (.fa "box"))
  else if w = "throw" then m.throw a
  else (match a with | .rs ws => m.spend fun m => m.dropFrom ws.las 0 | _ => m.to (.fa "rest"))
def fin2 (m : Ms) (w : Str) (a b : Z) : Ms :=
  if w = "call" then (match a with | .fn p x en => m.spend fun m => m.to (.pt p (.put x b en)) | _ => m.to (.fa "fun"))
  else if w = "put" then (match a with | .bx i => { m with bxs := m.bxs.set i b, md := .wo b } | _ => m.to (.fa "box"))
  else if w = "go" then (match a with | .rs ws => m.spend fun m => { m with ws := ws.app m.ws, md := .wo b } | _ => m.to (.fa "rest"))
  else (match a, b with | .num i, .num j => if (reach w i j).natAbs ≤ 1000000000000 then m.to (.wo (.num (reach w i j))) else m.to (.fa "number") | _, _ => m.to (.fa "number"))
def begin_ (m : Ms) (p : Pt) (en : Z) : Ms := match p.e with
  | .num n => m.to (.wo (.num n))
  | .name x => m.to (.wo (en.get x))
  | .fault => m.to (.fa "told")
  | .fn x _ => m.to (.wo (.fn (p.kid 0) x en))
  | .one _ _ => (m.push (.wi0 p en)).to (.pt (p.kid 0) en)
  | .two w _ _ => (m.push (if w = "last" then .la p en else if w = "else" then .el p en else .wi0 p en)).to (.pt (p.kid 0) en)
  | .ite _ _ _ => (m.push (.ch p en)).to (.pt (p.kid 0) en)
  | .lt _ _ _ => (m.push (.na p en)).to (.pt (p.kid 0) en)
  | .ct _ _ _ _ => (m.push (.ca p en)).to (.pt (p.kid 0) en)
/-- a worth comes to what waits -/
def takeW (m : Ms) (z w : Z) : Ms := match z with
  | .wi0 p en => (match p.e with | .one x _ => m.fin1 x w | _ => (m.push (.wi1 p en w)).to (.pt (p.kid 1) en))
  | .wi1 p _ a => m.fin2 p.e.word a w
  | .ch p en => (match w with | .num n => m.to (.pt (p.kid (if n = 0 then 2 else 1)) en) | _ => m.to (.fa "number"))
  | .na p en => (match p.e with | .lt x _ _ => m.to (.pt (p.kid 1) (.put x w en)) | _ => m)
  | .la p en => ((m.deed (p.ts "last") 0).push (.dw w)).to (.pt (p.kid 1) en)
  | .dw a => m.to (.wo a)
  | .df f => m.to (.fa f)
  | .dr ls k => m.dropFrom ls k
  | _ => m
/-- a fault comes -/
def takeF (m : Ms) (z : Z) (f : Str) : Ms := match z with
  | .la p en => ((m.deed (p.ts "last") 1).push (.df f)).to (.pt (p.kid 1) en)
  | .el p en => m.to (.pt (p.kid 1) en)
  | _ => m
def step (m : Ms) : Ms := match m.md with
  | .pt p en => m.begin_ p en
  | .wo w => (match m.ws with
    | .cons z ws => { m with ws := ws }.takeW z w
    | _ => { m with fin := some (match w with | .num n => .num n | _ => .kind w.kind) })
  | .fa f => (match m.ws with
    | .cons z ws => { m with ws := ws }.takeF z f
    | _ => { m with fin := some (.fault f) })
end Ms
end Wr
namespace Wr
open PySem PySem.Spec PyProof.Rows L2
/-! ### the tree of parts -/
def partF (w : Str) (t : Nat) (num : V) (nl wl : Addr) : List (Str × V) := [("word", .str w), ("turn", .int t), ("number", num), ("names", .ref nl), ("within", .ref wl)]
theorem partF_look (w : Str) (t : Nat) (num : V) (nl wl : Addr) : (partF w t num nl wl).lookup ("word" : Str) = some (V.str w) ∧ (partF w t num nl wl).lookup ("turn" : Str) = some (V.int t) ∧ (partF w t num nl wl).lookup ("number" : Str) = some num ∧
    (partF w t num nl wl).lookup ("names" : Str) = some (V.ref nl) ∧ (partF w t num nl wl).lookup ("within" : Str) = some (V.ref wl) := ⟨by kernel_rfl, by kernel_rfl, by kernel_rfl, by kernel_rfl, by kernel_rfl⟩
theorem partF_put (a b c d e : V) : putF "within" e (putF "names" d (putF "number" c (putF "turn" b (putF "word" a [])))) = ([("word", a), ("turn", b), ("number", c), ("names", d), ("within", e)] : List (Str × V)) := by kernel_rfl
theorem partF_lens (a b c d : V) : (putF "word" a []).length = 1 ∧ (putF "turn" b (putF "word" a [])).length = 2 ∧ (putF "number" c (putF "turn" b (putF "word" a []))).length = 3 ∧ (putF "names" d (putF "number" c (putF "turn" b (putF "word" a [])))).length = 4 :=
  ⟨by kernel_rfl, by kernel_rfl, by kernel_rfl, by kernel_rfl⟩
theorem advL_snoc (ts : Str → Nat) : ∀ (es : List Ex) (e : Ex), advL ts (es ++ [e]) = adv (advL ts es) e
  | [], _ => rfl
  | x :: es, e => advL_snoc (adv ts x) es e
theorem adv_kids (ts : Str → Nat) (e : Ex) : advL (bump ts e.word) e.kids = adv ts e := by
  funext z
  cases e <;> simp only [Ex.kids, Ex.word, advL, adv, bump, Ex.cnt] <;> split <;> omega
/-- v is a part, xs the parts within -/
def PHd (C : Addr) (H : Hp) (v : V) (w : Str) (t : Nat) (num : V) (ns : List Str) (xs : List V) : Prop :=
  ∃ p dx nl wl, v = .ref p ∧ H p = some (.ins C dx (partF w t num nl wl)) ∧ H nl = some (.lst (ns.map V.str)) ∧ H wl = some (.lst xs)
theorem PHd.same {C : Addr} {H H' : Hp} (s : Same H H') {v : V} {w : Str} {t : Nat} {num : V} {ns : List Str} {xs : List V} : PHd C H v w t num ns xs → PHd C H' v w t num ns xs :=
  fun ⟨p, dx, nl, wl, e, h1, h2, h3⟩ => ⟨p, dx, nl, wl, e, s _ _ h1, s _ _ h2, s _ _ h3⟩
/-- v is the tree of e, ts being how many of each word were ahead -/
def PartAt (C : Addr) (H : Hp) : V → Ex → (Str → Nat) → Prop
  | v, .num n, ts => PHd C H v "num" (ts "num") (.int n) [] []
  | v, .name x, ts => PHd C H v "name" (ts "name") .non [x] []
  | v, .fault, ts => PHd C H v "fault" (ts "fault") .non [] []
  | v, .one w a, ts => ∃ x, PHd C H v w (ts w) .non [] [x] ∧ PartAt C H x a (bump ts w)
  | v, .two w a b, ts => ∃ x y, PHd C H v w (ts w) .non [] [x, y] ∧ PartAt C H x a (bump ts w) ∧ PartAt C H y b (adv (bump ts w) a)
  | v, .ite a b c, ts => ∃ x y z, PHd C H v "if" (ts "if") .non [] [x, y, z] ∧ PartAt C H x a (bump ts "if") ∧ PartAt C H y b (adv (bump ts "if") a) ∧ PartAt C H z c (adv (adv (bump ts "if") a) b)
  | v, .lt n a b, ts => ∃ x y, PHd C H v "let" (ts "let") .non [n] [x, y] ∧ PartAt C H x a (bump ts "let") ∧ PartAt C H y b (adv (bump ts "let") a)
  | v, .fn n a, ts => ∃ x, PHd C H v "fun" (ts "fun") .non [n] [x] ∧ PartAt C H x a (bump ts "fun")
  | v, .ct a n k b, ts => ∃ x y, PHd C H v "catch" (ts "catch") .non [n, k] [x, y] ∧ PartAt C H x a (bump ts "catch") ∧ PartAt C H y b (adv (bump ts "catch") a)
theorem PartAt.same {C : Addr} {H H' : Hp} (s : Same H H') : ∀ {e : Ex} {v : V} {ts : Str → Nat}, PartAt C H v e ts → PartAt C H' v e ts := by
  intro e
  induction e with
  | num n => exact fun {v ts} h => PHd.same s h
  | name n => exact fun {v ts} h => PHd.same s h
  | fault => exact fun {v ts} h => PHd.same s h
  | one w a ia => exact fun {v ts} ⟨x, h, ha⟩ => ⟨x, h.same s, ia ha⟩
  | two w a b ia ib => exact fun {v ts} ⟨x, y, h, ha, hb⟩ => ⟨x, y, h.same s, ia ha, ib hb⟩
  | ite a b c ia ib ic => exact fun {v ts} ⟨x, y, z, h, ha, hb, hc⟩ => ⟨x, y, z, h.same s, ia ha, ib hb, ic hc⟩
  | lt n a b ia ib => exact fun {v ts} ⟨x, y, h, ha, hb⟩ => ⟨x, y, h.same s, ia ha, ib hb⟩
  | fn n a ia => exact fun {v ts} ⟨x, h, ha⟩ => ⟨x, h.same s, ia ha⟩
  | ct a n k b ia ib => exact fun {v ts} ⟨x, y, h, ha, hb⟩ => ⟨x, y, h.same s, ia ha, ib hb⟩
/-- parts one behind the other -/
inductive PartL (C : Addr) (H : Hp) : List V → List Ex → (Str → Nat) → Prop where
  | nil {ts : Str → Nat} : PartL C H [] [] ts
  | cons {v : V} {e : Ex} {vs : List V} {es : List Ex} {ts : Str → Nat} : PartAt C H v e ts → PartL C H vs es (adv ts e) → PartL C H (v :: vs) (e :: es) ts
theorem PartL.same {C : Addr} {H H' : Hp} (s : Same H H') : ∀ {vs : List V} {es : List Ex} {ts : Str → Nat}, PartL C H vs es ts → PartL C H' vs es ts
  | _, _, _, .nil => .nil
  | _, _, _, .cons a t => .cons (a.same s) (PartL.same s t)
theorem PartL.snoc {C : Addr} {H : Hp} : ∀ {vs : List V} {es : List Ex} {ts : Str → Nat} {v : V} {e : Ex}, PartL C H vs es ts → PartAt C H v e (advL ts es) → PartL C H (vs ++ [v]) (es ++ [e]) ts
  | _, _, _, _, _, .nil, g => .cons g .nil
  | _, _, _, _, _, .cons a t, g => .cons a (t.snoc g)
theorem PartL.length {C : Addr} {H : Hp} : ∀ {vs : List V} {es : List Ex} {ts : Str → Nat}, PartL C H vs es ts → vs.length = es.length
  | _, _, _, .nil => rfl
  | _, _, _, .cons _ t => by rw [List.length_cons, List.length_cons, t.length]
theorem PartL.at_ {C : Addr} {H : Hp} : ∀ {vs : List V} {es : List Ex} {ts : Str → Nat} {i : Nat} {v : V}, PartL C H vs es ts → vs[i]? = some v → ∃ e, es[i]? = some e ∧ PartAt C H v e (advL ts (es.take i))
  | _, _, _, _, _, .nil, h => by simp at h
  | _, _, _, 0, _, .cons (e := e) a _, h => by cases h; exact ⟨e, rfl, a⟩
  | _, _, _, i + 1, _, .cons _ t, h => t.at_ (i := i) h
theorem PartAt.mk_ {C : Addr} {H : Hp} {e : Ex} {ts : Str → Nat} {v : V} {xs : List V} (h : PHd C H v e.word (ts e.word) e.nv e.ns xs) (l : PartL C H xs e.kids (bump ts e.word)) : PartAt C H v e ts := by
  cases e with
  | num n => cases l; exact h
  | name x => cases l; exact h
  | fault => cases l; exact h
  | one w a => cases l with | cons ha l => cases l; exact ⟨_, h, ha⟩
  | two w a b => cases l with | cons ha l => cases l with | cons hb l => cases l; exact ⟨_, _, h, ha, hb⟩
  | ite a b c => cases l with | cons ha l => cases l with | cons hb l => cases l with | cons hc l => cases l; exact ⟨_, _, _, h, ha, hb, hc⟩
  | lt n a b => cases l with | cons ha l => cases l with | cons hb l => cases l; exact ⟨_, _, h, ha, hb⟩
  | fn n a => cases l with | cons ha l => cases l; exact ⟨_, h, ha⟩
  | ct a n k b => cases l with | cons ha l => cases l with | cons hb l => cases l; exact ⟨_, _, h, ha, hb⟩
theorem PartAt.open_ {C : Addr} {H : Hp} {e : Ex} {ts : Str → Nat} {v : V} (h : PartAt C H v e ts) : ∃ xs, PHd C H v e.word (ts e.word) e.nv e.ns xs ∧ PartL C H xs e.kids (bump ts e.word) := by
  cases e with
  | num n => exact ⟨_, h, .nil⟩
  | name n => exact ⟨_, h, .nil⟩
  | fault => exact ⟨_, h, .nil⟩
  | one w a => obtain ⟨x, h, ha⟩ := h; exact ⟨_, h, .cons ha .nil⟩
  | two w a b => obtain ⟨x, y, h, ha, hb⟩ := h; exact ⟨_, h, .cons ha (.cons hb .nil)⟩
  | ite a b c => obtain ⟨x, y, z, h, ha, hb, hc⟩ := h; exact ⟨_, h, .cons ha (.cons hb (.cons hc .nil))⟩
  | lt n a b => obtain ⟨x, y, h, ha, hb⟩ := h; exact ⟨_, h, .cons ha (.cons hb .nil)⟩
  | fn n a => obtain ⟨x, h, ha⟩ := h; exact ⟨_, h, .cons ha .nil⟩
  | ct a n k b => obtain ⟨x, y, h, ha, hb⟩ := h; exact ⟨_, h, .cons ha (.cons hb .nil)⟩
section
variable {P : Program} {w : World} {K : PySem.W.Frag} {mg : Str → Option Value} {base : Heap}
/-! ### the classes -/
def partNs : List Str := ["word", "turn", "number", "names", "within"]
def treeNs : List Str := ["top", "size", "turns"]
def readNs : List Str := ["size", "turns"]
/-- self and the attributes in turn, a new instance -/
def spPartInit (C : Addr) : Sp := fun vs H Q _ => ∃ (p dx : Addr) (a b c d e : V), vs = [.ref p, a, b, c, d, e] ∧ H p = some (.ins C dx []) ∧ Q .non (upd H p (.ins C dx [("word", a), ("turn", b), ("number", c), ("names", d), ("within", e)]))
theorem scPartI : FnScope ["self", "word", "turn", "number", "names", "within"] ["self", "word", "turn", "number", "names", "within"] (defScope s_Part_init) := ⟨rfl, rfl, rfl, by decide +kernel, rfl, by decide +kernel, by decide +kernel⟩
theorem upd_upd {H : Hp} {p : Addr} {a b : HO} : upd (upd H p a) p b = upd H p b := by
  funext q
  by_cases h : q = p
  · subst h; rw [upd_same, upd_same]
  · rw [upd_ne h, upd_ne h, upd_ne h]
theorem ok_partI {C : Addr} (F : DfC K mg C "Part" "Part.__init__" s_Part_init) (c : Cls K C) (na : NoAts K C partNs) : UseC P w K mg base C "Part" ["self", "word", "turn", "number", "names", "within"] 1 (spPartInit C) := by
  refine F.use scPartI (fun _ _ _ _ _ _ us hl => match us, hl with | [_, _, _, _, _, _], _ => rfl) (fun vs H Q E h => ?_) (fun cdv f A outer s H vs Q E hr h => ?_)
  · obtain ⟨p, dx, a, b, c, d, e, rfl, _⟩ := h
    rfl
  · obtain ⟨p, dx, a, b, c', d, e, rfl, hp, q⟩ := h
    obtain ⟨l1, l2, l3, l4⟩ := partF_lens a b c' d
    refine ⟨_, pss_cons (ps_fld (pv 0) (pv 1) rfl) (pss_cons (ps_fld (pv 0) (pv 2) rfl) (pss_cons (ps_fld (pv 0) (pv 3) rfl) (pss_cons (ps_fld (pv 0) (pv 4) rfl) (pss_one (ps_fld (pv 0) (pv 5) rfl))))), ?_⟩
    refine ⟨_, rfl, _, rfl, p, C, dx, _, rfl, hp, c, na _ (by decide +kernel), by show 0 < 1000; decide, ?_⟩
    refine ⟨_, rfl, _, rfl, p, C, dx, _, rfl, upd_same, c, na _ (by decide +kernel), by rw [l1]; decide, ?_⟩
    refine ⟨_, rfl, _, rfl, p, C, dx, _, rfl, upd_same, c, na _ (by decide +kernel), by rw [l2]; decide, ?_⟩
    refine ⟨_, rfl, _, rfl, p, C, dx, _, rfl, upd_same, c, na _ (by decide +kernel), by rw [l3]; decide, ?_⟩
    refine ⟨_, rfl, _, rfl, p, C, dx, _, rfl, upd_same, c, na _ (by decide +kernel), by rw [l4]; decide, ?_⟩
    rw [partF_put, upd_upd, upd_upd, upd_upd, upd_upd]
    exact q
def spTreeInit (C : Addr) : Sp := fun vs H Q _ => ∃ (p dx : Addr) (a b c : V), vs = [.ref p, a, b, c] ∧ H p = some (.ins C dx []) ∧ Q .non (upd H p (.ins C dx [("top", a), ("size", b), ("turns", c)]))
theorem scTreeI : FnScope ["self", "top", "size", "turns"] ["self", "top", "size", "turns"] (defScope s_Tree_init) := ⟨rfl, rfl, rfl, by decide +kernel, rfl, by decide +kernel, by decide +kernel⟩
theorem treeF_put (a b c : V) : putF "turns" c (putF "size" b (putF "top" a [])) = ([("top", a), ("size", b), ("turns", c)] : List (Str × V)) ∧ (putF "top" a []).length = 1 ∧ (putF "size" b (putF "top" a [])).length = 2 := ⟨by kernel_rfl, by kernel_rfl, by kernel_rfl⟩
theorem ok_treeI {C : Addr} (F : DfC K mg C "Tree" "Tree.__init__" s_Tree_init) (c : Cls K C) (na : NoAts K C treeNs) : UseC P w K mg base C "Tree" ["self", "top", "size", "turns"] 1 (spTreeInit C) := by
  refine F.use scTreeI (fun _ _ _ _ _ _ us hl => match us, hl with | [_, _, _, _], _ => rfl) (fun vs H Q E h => ?_) (fun cdv f A outer s H vs Q E hr h => ?_)
  · obtain ⟨p, dx, a, b, c, rfl, _⟩ := h
    rfl
  · obtain ⟨p, dx, a, b, c', rfl, hp, q⟩ := h
    obtain ⟨e0, l1, l2⟩ := treeF_put a b c'
    refine ⟨_, pss_cons (ps_fld (pv 0) (pv 1) rfl) (pss_cons (ps_fld (pv 0) (pv 2) rfl) (pss_one (ps_fld (pv 0) (pv 3) rfl))), ?_⟩
    refine ⟨_, rfl, _, rfl, p, C, dx, _, rfl, hp, c, na _ (by decide +kernel), by show 0 < 1000; decide, ?_⟩
    refine ⟨_, rfl, _, rfl, p, C, dx, _, rfl, upd_same, c, na _ (by decide +kernel), by rw [l1]; decide, ?_⟩
    refine ⟨_, rfl, _, rfl, p, C, dx, _, rfl, upd_same, c, na _ (by decide +kernel), by rw [l2]; decide, ?_⟩
    rw [e0, upd_upd, upd_upd]
    exact q
/-- a reader at r: how many parts it has seen, of each word -/
structure RdrAt (C : Addr) (H : Hp) (r td : Addr) (size : Nat) (ts : Str → Nat) : Prop where
  ob : ∃ dx, H r = some (.ins C dx [("size", .int size), ("turns", .ref td)])
  tb : ∃ kvs : List (Key × V), H td = some (.dK kvs) ∧ kvs.length ≤ size ∧ ∀ z : Str, (valV kvs (Sum.inr z)).getD (.int 0) = .int (ts z)
theorem RdrAt.ne {C : Addr} {H : Hp} {r td : Addr} {size : Nat} {ts : Str → Nat} (h : RdrAt C H r td size ts) : r ≠ td := fun e => by
  obtain ⟨dx, h1⟩ := h.ob
  obtain ⟨kvs, h2, _⟩ := h.tb
  rw [e, h2] at h1
  cases h1
theorem RdrAt.step {C : Addr} {H H' : Hp} {r td : Addr} {size : Nat} {ts : Str → Nat} (h : RdrAt C H r td size ts) (s : Same H H') : RdrAt C H' r td size ts := by
  obtain ⟨dx, h1⟩ := h.ob
  obtain ⟨kvs, h2, g⟩ := h.tb
  exact ⟨⟨dx, s _ _ h1⟩, ⟨kvs, s _ _ h2, g⟩⟩
theorem rdrF (a b c : V) : putF "turns" b (putF "size" a []) = ([("size", a), ("turns", b)] : List (Str × V)) ∧ (putF "size" a []).length = 1 ∧ ([("size", a), ("turns", b)] : List (Str × V)).lookup ("size" : Str) = some a ∧ ([("size", a), ("turns", b)] : List (Str × V)).lookup ("turns" : Str) = some b ∧
    putF "size" c ([("size", a), ("turns", b)] : List (Str × V)) = ([("size", c), ("turns", b)] : List (Str × V)) ∧ ([("size", a), ("turns", b)] : List (Str × V)).lookup ("part_of" : Str) = none ∧ ([("size", a), ("turns", b)] : List (Str × V)).lookup ("parts_of" : Str) = none := ⟨by kernel_rfl, by kernel_rfl, by kernel_rfl, by kernel_rfl, by kernel_rfl, by kernel_rfl, by kernel_rfl⟩
def spReadInit (C : Addr) : Sp := fun vs H Q _ => ∃ (p dx : Addr), vs = [.ref p] ∧ H p = some (.ins C dx []) ∧ ∀ (td : Addr) (H' : Hp), H td = none → RdrAt C H' p td 0 (fun _ => 0) → (∀ b o, H b = some o → b ≠ p → H' b = some o) → Q .non H'
theorem scReadI : FnScope ["self"] ["self"] (defScope s_Reader_init) := ⟨rfl, rfl, rfl, by decide +kernel, rfl, by decide +kernel, by decide +kernel⟩
theorem ok_readI {C : Addr} (F : DfC K mg C "Reader" "Reader.__init__" s_Reader_init) (c : Cls K C) (na : NoAts K C readNs) : UseC P w K mg base C "Reader" ["self"] 1 (spReadInit C) := by
  refine F.use scReadI (fun _ _ _ _ _ _ us hl => match us, hl with | [_], _ => rfl) (fun vs H Q E h => ?_) (fun cdv f A outer s H vs Q E hr h => ?_)
  · obtain ⟨p, dx, rfl, _⟩ := h
    rfl
  · obtain ⟨p, dx, rfl, hp, q⟩ := h
    refine ⟨_, pss_cons (ps_fld (pv 0) pe_int rfl) (pss_one (ps_fld (pv 0) pe_dnewK rfl)), ?_⟩
    refine ⟨_, rfl, p, C, dx, _, rfl, hp, c, na _ (by decide +kernel), by show 0 < 1000; decide, ?_⟩
    intro td ntd
    have ne : p ≠ td := fun e => by rw [← e, upd_same] at ntd; cases ntd
    obtain ⟨e0, l1, _⟩ := rdrF (.int 0) (.ref td) .non
    refine ⟨_, rfl, p, C, dx, _, rfl, by rw [upd_ne ne]; exact upd_same, c, na _ (by decide +kernel), by rw [l1]; decide, ?_⟩
    rw [e0]
    have htd : H td = none := by rw [upd_ne ne.symm] at ntd; exact ntd
    refine q td _ htd ⟨⟨dx, upd_same⟩, ⟨[], by rw [upd_ne ne.symm, upd_same], Nat.le_refl _, fun z => rfl⟩⟩ fun b o hb hne => ?_
    rw [upd_ne hne, upd_ne (ne_of_none hb htd), upd_ne hne]
    exact hb
end
end Wr
set_option maxHeartbeats 0
namespace H19
open PySem PySem.Spec PyProof.Rows L2 Wr
section
variable {w : World} {K : PySem.W.Frag} {h : Heap} {mg : Str → Option Value}
theorem f_Part_init (X : K.In h) (G : h.Ns mainGlobals mg) (c : Says w K) : DfC K mg (He.ga K "Part") "Part" "Part.__init__" s_Part_init := by
  obtain ⟨fd, F⟩ := c.1.d.def_ 0 (d := d_Part_init) rfl
  exact ⟨_, fd, F, He.mkr_ok (c.1.d.fact 0 (f := .mkr "Part") rfl), He.glo_ok X G (c.1.d.fact 1 (f := .glo "Part") rfl)⟩
theorem f_Tree_init (X : K.In h) (G : h.Ns mainGlobals mg) (c : Says w K) : DfC K mg (He.ga K "Tree") "Tree" "Tree.__init__" s_Tree_init := by
  obtain ⟨fd, F⟩ := c.1.d.def_ 1 (d := d_Tree_init) rfl
  exact ⟨_, fd, F, He.mkr_ok (c.1.d.fact 2 (f := .mkr "Tree") rfl), He.glo_ok X G (c.1.d.fact 3 (f := .glo "Tree") rfl)⟩
theorem f_Reader_init (X : K.In h) (G : h.Ns mainGlobals mg) (c : Says w K) : DfC K mg (He.ga K "Reader") "Reader" "Reader.__init__" s_Reader_init := by
  obtain ⟨fd, F⟩ := c.1.d.def_ 2 (d := d_Reader_init) rfl
  exact ⟨_, fd, F, He.mkr_ok (c.1.d.fact 4 (f := .mkr "Reader") rfl), He.glo_ok X G (c.1.d.fact 5 (f := .glo "Reader") rfl)⟩
theorem f_Reader_part_of (X : K.In h) (G : h.Ns mainGlobals mg) (c : Says w K) : DfM K (He.ga K "Reader") "Reader.part_of" "part_of" s_Reader_part_of := by
  obtain ⟨fd, F⟩ := c.1.d.def_ 3 (d := d_Reader_part_of) rfl
  exact ⟨_, fd, F, He.meth_ok (c.1.d.fact 6 (f := .meth "Reader" "part_of") rfl)⟩
theorem f_Reader_parts_of (X : K.In h) (G : h.Ns mainGlobals mg) (c : Says w K) : DfM K (He.ga K "Reader") "Reader.parts_of" "parts_of" s_Reader_parts_of := by
  obtain ⟨fd, F⟩ := c.1.d.def_ 4 (d := d_Reader_parts_of) rfl
  exact ⟨_, fd, F, He.meth_ok (c.1.d.fact 7 (f := .meth "Reader" "parts_of") rfl)⟩
theorem f_why_not (X : K.In h) (G : h.Ns mainGlobals mg) (c : Says w K) : Df K mg "why_not" s_why_not := by
  obtain ⟨fd, F⟩ := c.1.d.def_ 5 (d := d_why_not) rfl
  exact ⟨_, fd, F, He.glo_ok X G (c.1.d.fact 8 (f := .glo "why_not") rfl)⟩
theorem ga_why_not (X : K.In h) (G : h.Ns mainGlobals mg) (c : Says w K) : mg "why_not" = some (.ref (He.ga K "why_not")) := He.glo_ok X G (c.1.d.fact 8 (f := .glo "why_not") rfl)
theorem f_has_shape (X : K.In h) (G : h.Ns mainGlobals mg) (c : Says w K) : Df K mg "has_shape" s_has_shape := by
  obtain ⟨fd, F⟩ := c.1.d.def_ 6 (d := d_has_shape) rfl
  exact ⟨_, fd, F, He.glo_ok X G (c.1.d.fact 9 (f := .glo "has_shape") rfl)⟩
theorem ga_has_shape (X : K.In h) (G : h.Ns mainGlobals mg) (c : Says w K) : mg "has_shape" = some (.ref (He.ga K "has_shape")) := He.glo_ok X G (c.1.d.fact 9 (f := .glo "has_shape") rfl)
theorem f_fits (X : K.In h) (G : h.Ns mainGlobals mg) (c : Says w K) : Df K mg "fits" s_fits := by
  obtain ⟨fd, F⟩ := c.1.d.def_ 7 (d := d_fits) rfl
  exact ⟨_, fd, F, He.glo_ok X G (c.1.d.fact 10 (f := .glo "fits") rfl)⟩
theorem ga_fits (X : K.In h) (G : h.Ns mainGlobals mg) (c : Says w K) : mg "fits" = some (.ref (He.ga K "fits")) := He.glo_ok X G (c.1.d.fact 10 (f := .glo "fits") rfl)
theorem f_is_whole (X : K.In h) (G : h.Ns mainGlobals mg) (c : Says w K) : Df K mg "is_whole" s_is_whole := by
  obtain ⟨fd, F⟩ := c.1.d.def_ 8 (d := d_is_whole) rfl
  exact ⟨_, fd, F, He.glo_ok X G (c.1.d.fact 11 (f := .glo "is_whole") rfl)⟩
theorem ga_is_whole (X : K.In h) (G : h.Ns mainGlobals mg) (c : Says w K) : mg "is_whole" = some (.ref (He.ga K "is_whole")) := He.glo_ok X G (c.1.d.fact 11 (f := .glo "is_whole") rfl)
theorem f_standing (X : K.In h) (G : h.Ns mainGlobals mg) (c : Says w K) : Df K mg "standing" s_standing := by
  obtain ⟨fd, F⟩ := c.1.d.def_ 9 (d := d_standing) rfl
  exact ⟨_, fd, F, He.glo_ok X G (c.1.d.fact 12 (f := .glo "standing") rfl)⟩
theorem ga_standing (X : K.In h) (G : h.Ns mainGlobals mg) (c : Says w K) : mg "standing" = some (.ref (He.ga K "standing")) := He.glo_ok X G (c.1.d.fact 12 (f := .glo "standing") rfl)
theorem f_tree_of (X : K.In h) (G : h.Ns mainGlobals mg) (c : Says w K) : Df K mg "tree_of" s_tree_of := by
  obtain ⟨fd, F⟩ := c.1.d.def_ 10 (d := d_tree_of) rfl
  exact ⟨_, fd, F, He.glo_ok X G (c.1.d.fact 13 (f := .glo "tree_of") rfl)⟩
theorem ga_tree_of (X : K.In h) (G : h.Ns mainGlobals mg) (c : Says w K) : mg "tree_of" = some (.ref (He.ga K "tree_of")) := He.glo_ok X G (c.1.d.fact 13 (f := .glo "tree_of") rfl)
theorem f_written (X : K.In h) (G : h.Ns mainGlobals mg) (c : Says w K) : Df K mg "written" s_written := by
  obtain ⟨fd, F⟩ := c.1.d.def_ 11 (d := d_written) rfl
  exact ⟨_, fd, F, He.glo_ok X G (c.1.d.fact 14 (f := .glo "written") rfl)⟩
theorem ga_written (X : K.In h) (G : h.Ns mainGlobals mg) (c : Says w K) : mg "written" = some (.ref (He.ga K "written")) := He.glo_ok X G (c.1.d.fact 14 (f := .glo "written") rfl)
theorem f_words_of (X : K.In h) (G : h.Ns mainGlobals mg) (c : Says w K) : Df K mg "words_of" s_words_of := by
  obtain ⟨fd, F⟩ := c.1.d.def_ 12 (d := d_words_of) rfl
  exact ⟨_, fd, F, He.glo_ok X G (c.1.d.fact 15 (f := .glo "words_of") rfl)⟩
theorem ga_words_of (X : K.In h) (G : h.Ns mainGlobals mg) (c : Says w K) : mg "words_of" = some (.ref (He.ga K "words_of")) := He.glo_ok X G (c.1.d.fact 15 (f := .glo "words_of") rfl)
theorem f_is_number (X : K.In h) (G : h.Ns mainGlobals mg) (c : Says w K) : Df K mg "is_number" s_is_number := by
  obtain ⟨fd, F⟩ := c.1.d.def_ 13 (d := d_is_number) rfl
  exact ⟨_, fd, F, He.glo_ok X G (c.1.d.fact 16 (f := .glo "is_number") rfl)⟩
theorem ga_is_number (X : K.In h) (G : h.Ns mainGlobals mg) (c : Says w K) : mg "is_number" = some (.ref (He.ga K "is_number")) := He.glo_ok X G (c.1.d.fact 16 (f := .glo "is_number") rfl)
theorem f_Reading_init (X : K.In h) (G : h.Ns mainGlobals mg) (c : Says w K) : DfC K mg (He.ga K "Reading") "Reading" "Reading.__init__" s_Reading_init := by
  obtain ⟨fd, F⟩ := c.1.d.def_ 14 (d := d_Reading_init) rfl
  exact ⟨_, fd, F, He.mkr_ok (c.1.d.fact 17 (f := .mkr "Reading") rfl), He.glo_ok X G (c.1.d.fact 18 (f := .glo "Reading") rfl)⟩
theorem f_Reading_takes (X : K.In h) (G : h.Ns mainGlobals mg) (c : Says w K) : DfM K (He.ga K "Reading") "Reading.takes" "takes" s_Reading_takes := by
  obtain ⟨fd, F⟩ := c.1.d.def_ 15 (d := d_Reading_takes) rfl
  exact ⟨_, fd, F, He.meth_ok (c.1.d.fact 19 (f := .meth "Reading" "takes") rfl)⟩
theorem f_Reading_takes_name (X : K.In h) (G : h.Ns mainGlobals mg) (c : Says w K) : DfM K (He.ga K "Reading") "Reading.takes_name" "takes_name" s_Reading_takes_name := by
  obtain ⟨fd, F⟩ := c.2.1.d.def_ 0 (d := d_Reading_takes_name) rfl
  exact ⟨_, fd, F, He.meth_ok (c.2.1.d.fact 0 (f := .meth "Reading" "takes_name") rfl)⟩
theorem f_Reading_begin (X : K.In h) (G : h.Ns mainGlobals mg) (c : Says w K) : DfM K (He.ga K "Reading") "Reading.begin" "begin" s_Reading_begin := by
  obtain ⟨fd, F⟩ := c.2.1.d.def_ 1 (d := d_Reading_begin) rfl
  exact ⟨_, fd, F, He.meth_ok (c.2.1.d.fact 1 (f := .meth "Reading" "begin") rfl)⟩
theorem f_Reading_put (X : K.In h) (G : h.Ns mainGlobals mg) (c : Says w K) : DfM K (He.ga K "Reading") "Reading.put" "put" s_Reading_put := by
  obtain ⟨fd, F⟩ := c.2.1.d.def_ 2 (d := d_Reading_put) rfl
  exact ⟨_, fd, F, He.meth_ok (c.2.1.d.fact 2 (f := .meth "Reading" "put") rfl)⟩
theorem f_place_of_next (X : K.In h) (G : h.Ns mainGlobals mg) (c : Says w K) : Df K mg "place_of_next" s_place_of_next := by
  obtain ⟨fd, F⟩ := c.2.1.d.def_ 3 (d := d_place_of_next) rfl
  exact ⟨_, fd, F, He.glo_ok X G (c.2.1.d.fact 3 (f := .glo "place_of_next") rfl)⟩
theorem ga_place_of_next (X : K.In h) (G : h.Ns mainGlobals mg) (c : Says w K) : mg "place_of_next" = some (.ref (He.ga K "place_of_next")) := He.glo_ok X G (c.2.1.d.fact 3 (f := .glo "place_of_next") rfl)
theorem f_is_complete (X : K.In h) (G : h.Ns mainGlobals mg) (c : Says w K) : Df K mg "is_complete" s_is_complete := by
  obtain ⟨fd, F⟩ := c.2.1.d.def_ 4 (d := d_is_complete) rfl
  exact ⟨_, fd, F, He.glo_ok X G (c.2.1.d.fact 4 (f := .glo "is_complete") rfl)⟩
theorem ga_is_complete (X : K.In h) (G : h.Ns mainGlobals mg) (c : Says w K) : mg "is_complete" = some (.ref (He.ga K "is_complete")) := He.glo_ok X G (c.2.1.d.fact 4 (f := .glo "is_complete") rfl)
theorem f_read (X : K.In h) (G : h.Ns mainGlobals mg) (c : Says w K) : Df K mg "read" s_read := by
  obtain ⟨fd, F⟩ := c.2.1.d.def_ 5 (d := d_read) rfl
  exact ⟨_, fd, F, He.glo_ok X G (c.2.1.d.fact 5 (f := .glo "read") rfl)⟩
theorem ga_read (X : K.In h) (G : h.Ns mainGlobals mg) (c : Says w K) : mg "read" = some (.ref (He.ga K "read")) := He.glo_ok X G (c.2.1.d.fact 5 (f := .glo "read") rfl)
theorem f_L_dice (X : K.In h) (G : h.Ns mainGlobals mg) (c : Says w K) : Df K mg "_law_dice" s_L_dice := by
  obtain ⟨fd, F⟩ := c.2.1.d.def_ 6 (d := d_L_dice) rfl
  exact ⟨_, fd, F, He.glo_ok X G (c.2.1.d.fact 6 (f := .glo "_law_dice") rfl)⟩
theorem f_L_next (X : K.In h) (G : h.Ns mainGlobals mg) (c : Says w K) : Df K mg "_law_next" s_L_next := by
  obtain ⟨fd, F⟩ := c.2.1.d.def_ 7 (d := d_L_next) rfl
  exact ⟨_, fd, F, He.glo_ok X G (c.2.1.d.fact 7 (f := .glo "_law_next") rfl)⟩
theorem f_L_like (X : K.In h) (G : h.Ns mainGlobals mg) (c : Says w K) : Df K mg "_law_like" s_L_like := by
  obtain ⟨fd, F⟩ := c.2.1.d.def_ 8 (d := d_L_like) rfl
  exact ⟨_, fd, F, He.glo_ok X G (c.2.1.d.fact 8 (f := .glo "_law_like") rfl)⟩
theorem f_L_name (X : K.In h) (G : h.Ns mainGlobals mg) (c : Says w K) : Df K mg "_law_name" s_L_name := by
  obtain ⟨fd, F⟩ := c.2.1.d.def_ 9 (d := d_L_name) rfl
  exact ⟨_, fd, F, He.glo_ok X G (c.2.1.d.fact 9 (f := .glo "_law_name") rfl)⟩
theorem f_L_leaf (X : K.In h) (G : h.Ns mainGlobals mg) (c : Says w K) : Df K mg "_law_leaf" s_L_leaf := by
  obtain ⟨fd, F⟩ := c.2.1.d.def_ 10 (d := d_L_leaf) rfl
  exact ⟨_, fd, F, He.glo_ok X G (c.2.1.d.fact 10 (f := .glo "_law_leaf") rfl)⟩
theorem f_L_with (X : K.In h) (G : h.Ns mainGlobals mg) (c : Says w K) : Df K mg "_law_with" s_L_with := by
  obtain ⟨fd, F⟩ := c.2.1.d.def_ 11 (d := d_L_with) rfl
  exact ⟨_, fd, F, He.glo_ok X G (c.2.1.d.fact 11 (f := .glo "_law_with") rfl)⟩
theorem f_L_free (X : K.In h) (G : h.Ns mainGlobals mg) (c : Says w K) : Df K mg "_law_free" s_L_free := by
  obtain ⟨fd, F⟩ := c.2.1.d.def_ 12 (d := d_L_free) rfl
  exact ⟨_, fd, F, He.glo_ok X G (c.2.1.d.fact 12 (f := .glo "_law_free") rfl)⟩
theorem f_L_expr (X : K.In h) (G : h.Ns mainGlobals mg) (c : Says w K) : Df K mg "_law_expr" s_L_expr := by
  obtain ⟨fd, F⟩ := c.2.1.d.def_ 13 (d := d_L_expr) rfl
  exact ⟨_, fd, F, He.glo_ok X G (c.2.1.d.fact 13 (f := .glo "_law_expr") rfl)⟩
theorem f_L_let (X : K.In h) (G : h.Ns mainGlobals mg) (c : Says w K) : Df K mg "_law_let" s_L_let := by
  obtain ⟨fd, F⟩ := c.2.1.d.def_ 14 (d := d_L_let) rfl
  exact ⟨_, fd, F, He.glo_ok X G (c.2.1.d.fact 14 (f := .glo "_law_let") rfl)⟩
theorem f_L_use (X : K.In h) (G : h.Ns mainGlobals mg) (c : Says w K) : Df K mg "_law_use" s_L_use := by
  obtain ⟨fd, F⟩ := c.2.1.d.def_ 15 (d := d_L_use) rfl
  exact ⟨_, fd, F, He.glo_ok X G (c.2.1.d.fact 15 (f := .glo "_law_use") rfl)⟩
theorem f_L_catch (X : K.In h) (G : h.Ns mainGlobals mg) (c : Says w K) : Df K mg "_law_catch" s_L_catch := by
  obtain ⟨fd, F⟩ := c.2.2.d.def_ 0 (d := d_L_catch) rfl
  exact ⟨_, fd, F, He.glo_ok X G (c.2.2.d.fact 0 (f := .glo "_law_catch") rfl)⟩
theorem f_L_size (X : K.In h) (G : h.Ns mainGlobals mg) (c : Says w K) : Df K mg "_law_size" s_L_size := by
  obtain ⟨fd, F⟩ := c.2.2.d.def_ 1 (d := d_L_size) rfl
  exact ⟨_, fd, F, He.glo_ok X G (c.2.2.d.fact 1 (f := .glo "_law_size") rfl)⟩
theorem f_L_deep (X : K.In h) (G : h.Ns mainGlobals mg) (c : Says w K) : Df K mg "_law_deep" s_L_deep := by
  obtain ⟨fd, F⟩ := c.2.2.d.def_ 2 (d := d_L_deep) rfl
  exact ⟨_, fd, F, He.glo_ok X G (c.2.2.d.fact 2 (f := .glo "_law_deep") rfl)⟩
theorem f_L_program (X : K.In h) (G : h.Ns mainGlobals mg) (c : Says w K) : Df K mg "_law_program" s_L_program := by
  obtain ⟨fd, F⟩ := c.2.2.d.def_ 3 (d := d_L_program) rfl
  exact ⟨_, fd, F, He.glo_ok X G (c.2.2.d.fact 3 (f := .glo "_law_program") rfl)⟩
theorem f_L_loop (X : K.In h) (G : h.Ns mainGlobals mg) (c : Says w K) : Df K mg "_law_loop" s_L_loop := by
  obtain ⟨fd, F⟩ := c.2.2.d.def_ 4 (d := d_L_loop) rfl
  exact ⟨_, fd, F, He.glo_ok X G (c.2.2.d.fact 4 (f := .glo "_law_loop") rfl)⟩
theorem f_L_again (X : K.In h) (G : h.Ns mainGlobals mg) (c : Says w K) : Df K mg "_law_again" s_L_again := by
  obtain ⟨fd, F⟩ := c.2.2.d.def_ 5 (d := d_L_again) rfl
  exact ⟨_, fd, F, He.glo_ok X G (c.2.2.d.fact 5 (f := .glo "_law_again") rfl)⟩
theorem f_L_long (X : K.In h) (G : h.Ns mainGlobals mg) (c : Says w K) : Df K mg "_law_long" s_L_long := by
  obtain ⟨fd, F⟩ := c.2.2.d.def_ 6 (d := d_L_long) rfl
  exact ⟨_, fd, F, He.glo_ok X G (c.2.2.d.fact 6 (f := .glo "_law_long") rfl)⟩
theorem f_L_any (X : K.In h) (G : h.Ns mainGlobals mg) (c : Says w K) : Df K mg "_law_any" s_L_any := by
  obtain ⟨fd, F⟩ := c.2.2.d.def_ 7 (d := d_L_any) rfl
  exact ⟨_, fd, F, He.glo_ok X G (c.2.2.d.fact 7 (f := .glo "_law_any") rfl)⟩
theorem f_L_told (X : K.In h) (G : h.Ns mainGlobals mg) (c : Says w K) : Df K mg "_law_told" s_L_told := by
  obtain ⟨fd, F⟩ := c.2.2.d.def_ 8 (d := d_L_told) rfl
  exact ⟨_, fd, F, He.glo_ok X G (c.2.2.d.fact 8 (f := .glo "_law_told") rfl)⟩
theorem f_L_wants (X : K.In h) (G : h.Ns mainGlobals mg) (c : Says w K) : Df K mg "_law_wants" s_L_wants := by
  obtain ⟨fd, F⟩ := c.2.2.d.def_ 9 (d := d_L_wants) rfl
  exact ⟨_, fd, F, He.glo_ok X G (c.2.2.d.fact 9 (f := .glo "_law_wants") rfl)⟩
theorem f_L_figures (X : K.In h) (G : h.Ns mainGlobals mg) (c : Says w K) : Df K mg "_law_figures" s_L_figures := by
  obtain ⟨fd, F⟩ := c.2.2.d.def_ 10 (d := d_L_figures) rfl
  exact ⟨_, fd, F, He.glo_ok X G (c.2.2.d.fact 10 (f := .glo "_law_figures") rfl)⟩
theorem f_L_spot (X : K.In h) (G : h.Ns mainGlobals mg) (c : Says w K) : Df K mg "_law_spot" s_L_spot := by
  obtain ⟨fd, F⟩ := c.2.2.d.def_ 11 (d := d_L_spot) rfl
  exact ⟨_, fd, F, He.glo_ok X G (c.2.2.d.fact 11 (f := .glo "_law_spot") rfl)⟩
theorem f_L_built (X : K.In h) (G : h.Ns mainGlobals mg) (c : Says w K) : Df K mg "_law_built" s_L_built := by
  obtain ⟨fd, F⟩ := c.2.2.d.def_ 12 (d := d_L_built) rfl
  exact ⟨_, fd, F, He.glo_ok X G (c.2.2.d.fact 12 (f := .glo "_law_built") rfl)⟩
theorem f_L_changed (X : K.In h) (G : h.Ns mainGlobals mg) (c : Says w K) : Df K mg "_law_changed" s_L_changed := by
  obtain ⟨fd, F⟩ := c.2.2.d.def_ 13 (d := d_L_changed) rfl
  exact ⟨_, fd, F, He.glo_ok X G (c.2.2.d.fact 13 (f := .glo "_law_changed") rfl)⟩
theorem f_law (X : K.In h) (G : h.Ns mainGlobals mg) (c : Says w K) : Df K mg "law" s_law := by
  obtain ⟨fd, F⟩ := c.2.2.d.def_ 14 (d := d_law) rfl
  exact ⟨_, fd, F, He.glo_ok X G (c.2.2.d.fact 14 (f := .glo "law") rfl)⟩
theorem ga_law (X : K.In h) (G : h.Ns mainGlobals mg) (c : Says w K) : mg "law" = some (.ref (He.ga K "law")) := He.glo_ok X G (c.2.2.d.fact 14 (f := .glo "law") rfl)
theorem z_ValueError (X : K.In h) (G : h.Ns mainGlobals mg) (c : Says w K) : mg "ValueError" = none := He.free_ok X G (c.2.2.d.fact 15 (f := .free "ValueError") rfl)
theorem z_abs (X : K.In h) (G : h.Ns mainGlobals mg) (c : Says w K) : mg "abs" = none := He.free_ok X G (c.2.2.d.fact 16 (f := .free "abs") rfl)
theorem z_all (X : K.In h) (G : h.Ns mainGlobals mg) (c : Says w K) : mg "all" = none := He.free_ok X G (c.2.2.d.fact 17 (f := .free "all") rfl)
theorem z_bool (X : K.In h) (G : h.Ns mainGlobals mg) (c : Says w K) : mg "bool" = none := He.free_ok X G (c.2.1.d.fact 16 (f := .free "bool") rfl)
theorem z_dict (X : K.In h) (G : h.Ns mainGlobals mg) (c : Says w K) : mg "dict" = none := He.free_ok X G (c.2.2.d.fact 18 (f := .free "dict") rfl)
theorem z_enumerate (X : K.In h) (G : h.Ns mainGlobals mg) (c : Says w K) : mg "enumerate" = none := He.free_ok X G (c.2.1.d.fact 17 (f := .free "enumerate") rfl)
theorem z_int (X : K.In h) (G : h.Ns mainGlobals mg) (c : Says w K) : mg "int" = none := He.free_ok X G (c.2.2.d.fact 19 (f := .free "int") rfl)
theorem z_isinstance (X : K.In h) (G : h.Ns mainGlobals mg) (c : Says w K) : mg "isinstance" = none := He.free_ok X G (c.2.1.d.fact 18 (f := .free "isinstance") rfl)
theorem z_len (X : K.In h) (G : h.Ns mainGlobals mg) (c : Says w K) : mg "len" = none := He.free_ok X G (c.2.2.d.fact 20 (f := .free "len") rfl)
theorem z_list (X : K.In h) (G : h.Ns mainGlobals mg) (c : Says w K) : mg "list" = none := He.free_ok X G (c.2.1.d.fact 19 (f := .free "list") rfl)
theorem z_max (X : K.In h) (G : h.Ns mainGlobals mg) (c : Says w K) : mg "max" = none := He.free_ok X G (c.2.2.d.fact 21 (f := .free "max") rfl)
theorem z_min (X : K.In h) (G : h.Ns mainGlobals mg) (c : Says w K) : mg "min" = none := He.free_ok X G (c.1.d.fact 20 (f := .free "min") rfl)
theorem z_range (X : K.In h) (G : h.Ns mainGlobals mg) (c : Says w K) : mg "range" = none := He.free_ok X G (c.2.1.d.fact 20 (f := .free "range") rfl)
theorem z_set (X : K.In h) (G : h.Ns mainGlobals mg) (c : Says w K) : mg "set" = none := He.free_ok X G (c.2.2.d.fact 22 (f := .free "set") rfl)
theorem z_sorted (X : K.In h) (G : h.Ns mainGlobals mg) (c : Says w K) : mg "sorted" = none := He.free_ok X G (c.1.d.fact 21 (f := .free "sorted") rfl)
theorem z_str (X : K.In h) (G : h.Ns mainGlobals mg) (c : Says w K) : mg "str" = none := He.free_ok X G (c.2.1.d.fact 21 (f := .free "str") rfl)
theorem z_sum (X : K.In h) (G : h.Ns mainGlobals mg) (c : Says w K) : mg "sum" = none := He.free_ok X G (c.2.2.d.fact 23 (f := .free "sum") rfl)
theorem z_super (X : K.In h) (G : h.Ns mainGlobals mg) (c : Says w K) : mg "super" = none := He.free_ok X G (c.1.d.fact 22 (f := .free "super") rfl)
theorem z_tuple (X : K.In h) (G : h.Ns mainGlobals mg) (c : Says w K) : mg "tuple" = none := He.free_ok X G (c.2.1.d.fact 22 (f := .free "tuple") rfl)
theorem z_zip (X : K.In h) (G : h.Ns mainGlobals mg) (c : Says w K) : mg "zip" = none := He.free_ok X G (c.2.2.d.fact 24 (f := .free "zip") rfl)
theorem c_Part (X : K.In h) (G : h.Ns mainGlobals mg) (c : Says w K) : Cls K (He.ga K "Part") := He.cls_ok (c.1.d.fact 23 (f := .cls "Part") rfl)
theorem na_Part (X : K.In h) (G : h.Ns mainGlobals mg) (c : Says w K) : NoAts K (He.ga K "Part") ["word", "turn", "number", "names", "within"] := by
  intro f hf
  simp only [List.mem_cons, List.not_mem_nil, or_false] at hf
  rcases hf with rfl | rfl | rfl | rfl | rfl
  · exact He.noat_ok (c.2.1.d.fact 23 (f := .noat "Part" "word") rfl)
  · exact He.noat_ok (c.2.2.d.fact 25 (f := .noat "Part" "turn") rfl)
  · exact He.noat_ok (c.1.d.fact 24 (f := .noat "Part" "number") rfl)
  · exact He.noat_ok (c.2.1.d.fact 24 (f := .noat "Part" "names") rfl)
  · exact He.noat_ok (c.2.2.d.fact 26 (f := .noat "Part" "within") rfl)
theorem c_Tree (X : K.In h) (G : h.Ns mainGlobals mg) (c : Says w K) : Cls K (He.ga K "Tree") := He.cls_ok (c.1.d.fact 25 (f := .cls "Tree") rfl)
theorem na_Tree (X : K.In h) (G : h.Ns mainGlobals mg) (c : Says w K) : NoAts K (He.ga K "Tree") ["top", "size", "turns"] := by
  intro f hf
  simp only [List.mem_cons, List.not_mem_nil, or_false] at hf
  rcases hf with rfl | rfl | rfl
  · exact He.noat_ok (c.2.1.d.fact 25 (f := .noat "Tree" "top") rfl)
  · exact He.noat_ok (c.2.2.d.fact 27 (f := .noat "Tree" "size") rfl)
  · exact He.noat_ok (c.1.d.fact 26 (f := .noat "Tree" "turns") rfl)
theorem c_Reader (X : K.In h) (G : h.Ns mainGlobals mg) (c : Says w K) : Cls K (He.ga K "Reader") := He.cls_ok (c.2.1.d.fact 26 (f := .cls "Reader") rfl)
theorem na_Reader (X : K.In h) (G : h.Ns mainGlobals mg) (c : Says w K) : NoAts K (He.ga K "Reader") ["size", "turns"] := by
  intro f hf
  simp only [List.mem_cons, List.not_mem_nil, or_false] at hf
  rcases hf with rfl | rfl
  · exact He.noat_ok (c.2.2.d.fact 28 (f := .noat "Reader" "size") rfl)
  · exact He.noat_ok (c.1.d.fact 27 (f := .noat "Reader" "turns") rfl)
theorem c_Reading (X : K.In h) (G : h.Ns mainGlobals mg) (c : Says w K) : Cls K (He.ga K "Reading") := He.cls_ok (c.2.1.d.fact 27 (f := .cls "Reading") rfl)
theorem na_Reading (X : K.In h) (G : h.Ns mainGlobals mg) (c : Says w K) : NoAts K (He.ga K "Reading") ["waiting", "whole"] := by
  intro f hf
  simp only [List.mem_cons, List.not_mem_nil, or_false] at hf
  rcases hf with rfl | rfl
  · exact He.noat_ok (c.2.2.d.fact 29 (f := .noat "Reading" "waiting") rfl)
  · exact He.noat_ok (c.1.d.fact 28 (f := .noat "Reading" "whole") rfl)
theorem gx_BadProgram (X : K.In h) (G : h.Ns mainGlobals mg) (c : Says w K) : mg "BadProgram" = some (.ref (He.ga K "BadProgram")) := He.glo_ok X G (c.2.1.d.fact 28 (f := .glo "BadProgram") rfl)
theorem gx_BadFuel (X : K.In h) (G : h.Ns mainGlobals mg) (c : Says w K) : mg "BadFuel" = some (.ref (He.ga K "BadFuel")) := He.glo_ok X G (c.2.2.d.fact 30 (f := .glo "BadFuel") rfl)
theorem gx_BadPapers (X : K.In h) (G : h.Ns mainGlobals mg) (c : Says w K) : mg "BadPapers" = some (.ref (He.ga K "BadPapers")) := He.glo_ok X G (c.1.d.fact 29 (f := .glo "BadPapers") rfl)
theorem gx_BadText (X : K.In h) (G : h.Ns mainGlobals mg) (c : Says w K) : mg "BadText" = some (.ref (He.ga K "BadText")) := He.glo_ok X G (c.2.1.d.fact 29 (f := .glo "BadText") rfl)
theorem gx_RestError (X : K.In h) (G : h.Ns mainGlobals mg) (c : Says w K) : mg "RestError" = some (.ref (He.ga K "RestError")) := He.glo_ok X G (c.2.2.d.fact 31 (f := .glo "RestError") rfl)
theorem xc_BadProgram (X : K.In h) (G : h.Ns mainGlobals mg) (c : Says w K) : ExcC K (He.ga K "BadProgram") := excB_ok (c.1.tst 0 (f := fun K => excB K "BadProgram") rfl)
theorem xv_BadProgram (X : K.In h) (G : h.Ns mainGlobals mg) (c : Says w K) : PySem.W.kitOne K (.ref (He.ga K "BadProgram")) (.type "ValueError") = some true := kitB_ok (u := fun _ => .type "ValueError") (c.2.1.tst 0 (f := fun K => kitB K "BadProgram" (fun _ => .type "ValueError") true) rfl)
theorem xr_BadProgram (X : K.In h) (G : h.Ns mainGlobals mg) (c : Says w K) : PySem.W.exmOne K (.ref (He.ga K "BadProgram")) (.ref (He.ga K "RestError")) = some true := exmB_ok (c.2.2.tst 0 (f := fun K => exmB K "BadProgram" "RestError") rfl)
theorem xi_BadProgram_BadProgram (X : K.In h) (G : h.Ns mainGlobals mg) (c : Says w K) : PySem.W.kitOne K (.ref (He.ga K "BadProgram")) (.ref (He.ga K "BadProgram")) = some true := kitB_ok (u := fun K => .ref (He.ga K "BadProgram")) (c.1.tst 1 (f := fun K => kitB K "BadProgram" (fun K => .ref (He.ga K "BadProgram")) true) rfl)
theorem xi_BadProgram_BadFuel (X : K.In h) (G : h.Ns mainGlobals mg) (c : Says w K) : PySem.W.kitOne K (.ref (He.ga K "BadProgram")) (.ref (He.ga K "BadFuel")) = some false := kitB_ok (u := fun K => .ref (He.ga K "BadFuel")) (c.2.1.tst 1 (f := fun K => kitB K "BadProgram" (fun K => .ref (He.ga K "BadFuel")) false) rfl)
theorem xi_BadProgram_BadPapers (X : K.In h) (G : h.Ns mainGlobals mg) (c : Says w K) : PySem.W.kitOne K (.ref (He.ga K "BadProgram")) (.ref (He.ga K "BadPapers")) = some false := kitB_ok (u := fun K => .ref (He.ga K "BadPapers")) (c.2.2.tst 1 (f := fun K => kitB K "BadProgram" (fun K => .ref (He.ga K "BadPapers")) false) rfl)
theorem xi_BadProgram_BadText (X : K.In h) (G : h.Ns mainGlobals mg) (c : Says w K) : PySem.W.kitOne K (.ref (He.ga K "BadProgram")) (.ref (He.ga K "BadText")) = some false := kitB_ok (u := fun K => .ref (He.ga K "BadText")) (c.1.tst 2 (f := fun K => kitB K "BadProgram" (fun K => .ref (He.ga K "BadText")) false) rfl)
theorem xc_BadFuel (X : K.In h) (G : h.Ns mainGlobals mg) (c : Says w K) : ExcC K (He.ga K "BadFuel") := excB_ok (c.2.1.tst 2 (f := fun K => excB K "BadFuel") rfl)
theorem xv_BadFuel (X : K.In h) (G : h.Ns mainGlobals mg) (c : Says w K) : PySem.W.kitOne K (.ref (He.ga K "BadFuel")) (.type "ValueError") = some true := kitB_ok (u := fun _ => .type "ValueError") (c.2.2.tst 2 (f := fun K => kitB K "BadFuel" (fun _ => .type "ValueError") true) rfl)
theorem xr_BadFuel (X : K.In h) (G : h.Ns mainGlobals mg) (c : Says w K) : PySem.W.exmOne K (.ref (He.ga K "BadFuel")) (.ref (He.ga K "RestError")) = some true := exmB_ok (c.1.tst 3 (f := fun K => exmB K "BadFuel" "RestError") rfl)
theorem xi_BadFuel_BadProgram (X : K.In h) (G : h.Ns mainGlobals mg) (c : Says w K) : PySem.W.kitOne K (.ref (He.ga K "BadFuel")) (.ref (He.ga K "BadProgram")) = some false := kitB_ok (u := fun K => .ref (He.ga K "BadProgram")) (c.2.1.tst 3 (f := fun K => kitB K "BadFuel" (fun K => .ref (He.ga K "BadProgram")) false) rfl)
theorem xi_BadFuel_BadFuel (X : K.In h) (G : h.Ns mainGlobals mg) (c : Says w K) : PySem.W.kitOne K (.ref (He.ga K "BadFuel")) (.ref (He.ga K "BadFuel")) = some true := kitB_ok (u := fun K => .ref (He.ga K "BadFuel")) (c.2.2.tst 3 (f := fun K => kitB K "BadFuel" (fun K => .ref (He.ga K "BadFuel")) true) rfl)
theorem xi_BadFuel_BadPapers (X : K.In h) (G : h.Ns mainGlobals mg) (c : Says w K) : PySem.W.kitOne K (.ref (He.ga K "BadFuel")) (.ref (He.ga K "BadPapers")) = some false := kitB_ok (u := fun K => .ref (He.ga K "BadPapers")) (c.1.tst 4 (f := fun K => kitB K "BadFuel" (fun K => .ref (He.ga K "BadPapers")) false) rfl)
theorem xi_BadFuel_BadText (X : K.In h) (G : h.Ns mainGlobals mg) (c : Says w K) : PySem.W.kitOne K (.ref (He.ga K "BadFuel")) (.ref (He.ga K "BadText")) = some false := kitB_ok (u := fun K => .ref (He.ga K "BadText")) (c.2.1.tst 4 (f := fun K => kitB K "BadFuel" (fun K => .ref (He.ga K "BadText")) false) rfl)
theorem xc_BadPapers (X : K.In h) (G : h.Ns mainGlobals mg) (c : Says w K) : ExcC K (He.ga K "BadPapers") := excB_ok (c.2.2.tst 4 (f := fun K => excB K "BadPapers") rfl)
theorem xv_BadPapers (X : K.In h) (G : h.Ns mainGlobals mg) (c : Says w K) : PySem.W.kitOne K (.ref (He.ga K "BadPapers")) (.type "ValueError") = some true := kitB_ok (u := fun _ => .type "ValueError") (c.1.tst 5 (f := fun K => kitB K "BadPapers" (fun _ => .type "ValueError") true) rfl)
theorem xr_BadPapers (X : K.In h) (G : h.Ns mainGlobals mg) (c : Says w K) : PySem.W.exmOne K (.ref (He.ga K "BadPapers")) (.ref (He.ga K "RestError")) = some true := exmB_ok (c.2.1.tst 5 (f := fun K => exmB K "BadPapers" "RestError") rfl)
theorem xi_BadPapers_BadProgram (X : K.In h) (G : h.Ns mainGlobals mg) (c : Says w K) : PySem.W.kitOne K (.ref (He.ga K "BadPapers")) (.ref (He.ga K "BadProgram")) = some false := kitB_ok (u := fun K => .ref (He.ga K "BadProgram")) (c.2.2.tst 5 (f := fun K => kitB K "BadPapers" (fun K => .ref (He.ga K "BadProgram")) false) rfl)
theorem xi_BadPapers_BadFuel (X : K.In h) (G : h.Ns mainGlobals mg) (c : Says w K) : PySem.W.kitOne K (.ref (He.ga K "BadPapers")) (.ref (He.ga K "BadFuel")) = some false := kitB_ok (u := fun K => .ref (He.ga K "BadFuel")) (c.1.tst 6 (f := fun K => kitB K "BadPapers" (fun K => .ref (He.ga K "BadFuel")) false) rfl)
theorem xi_BadPapers_BadPapers (X : K.In h) (G : h.Ns mainGlobals mg) (c : Says w K) : PySem.W.kitOne K (.ref (He.ga K "BadPapers")) (.ref (He.ga K "BadPapers")) = some true := kitB_ok (u := fun K => .ref (He.ga K "BadPapers")) (c.2.1.tst 6 (f := fun K => kitB K "BadPapers" (fun K => .ref (He.ga K "BadPapers")) true) rfl)
theorem xi_BadPapers_BadText (X : K.In h) (G : h.Ns mainGlobals mg) (c : Says w K) : PySem.W.kitOne K (.ref (He.ga K "BadPapers")) (.ref (He.ga K "BadText")) = some false := kitB_ok (u := fun K => .ref (He.ga K "BadText")) (c.2.2.tst 6 (f := fun K => kitB K "BadPapers" (fun K => .ref (He.ga K "BadText")) false) rfl)
theorem xc_BadText (X : K.In h) (G : h.Ns mainGlobals mg) (c : Says w K) : ExcC K (He.ga K "BadText") := excB_ok (c.1.tst 7 (f := fun K => excB K "BadText") rfl)
theorem xv_BadText (X : K.In h) (G : h.Ns mainGlobals mg) (c : Says w K) : PySem.W.kitOne K (.ref (He.ga K "BadText")) (.type "ValueError") = some true := kitB_ok (u := fun _ => .type "ValueError") (c.2.1.tst 7 (f := fun K => kitB K "BadText" (fun _ => .type "ValueError") true) rfl)
theorem xr_BadText (X : K.In h) (G : h.Ns mainGlobals mg) (c : Says w K) : PySem.W.exmOne K (.ref (He.ga K "BadText")) (.ref (He.ga K "RestError")) = some true := exmB_ok (c.2.2.tst 7 (f := fun K => exmB K "BadText" "RestError") rfl)
theorem xi_BadText_BadProgram (X : K.In h) (G : h.Ns mainGlobals mg) (c : Says w K) : PySem.W.kitOne K (.ref (He.ga K "BadText")) (.ref (He.ga K "BadProgram")) = some false := kitB_ok (u := fun K => .ref (He.ga K "BadProgram")) (c.1.tst 8 (f := fun K => kitB K "BadText" (fun K => .ref (He.ga K "BadProgram")) false) rfl)
theorem xi_BadText_BadFuel (X : K.In h) (G : h.Ns mainGlobals mg) (c : Says w K) : PySem.W.kitOne K (.ref (He.ga K "BadText")) (.ref (He.ga K "BadFuel")) = some false := kitB_ok (u := fun K => .ref (He.ga K "BadFuel")) (c.2.1.tst 8 (f := fun K => kitB K "BadText" (fun K => .ref (He.ga K "BadFuel")) false) rfl)
theorem xi_BadText_BadPapers (X : K.In h) (G : h.Ns mainGlobals mg) (c : Says w K) : PySem.W.kitOne K (.ref (He.ga K "BadText")) (.ref (He.ga K "BadPapers")) = some false := kitB_ok (u := fun K => .ref (He.ga K "BadPapers")) (c.2.2.tst 8 (f := fun K => kitB K "BadText" (fun K => .ref (He.ga K "BadPapers")) false) rfl)
theorem xi_BadText_BadText (X : K.In h) (G : h.Ns mainGlobals mg) (c : Says w K) : PySem.W.kitOne K (.ref (He.ga K "BadText")) (.ref (He.ga K "BadText")) = some true := kitB_ok (u := fun K => .ref (He.ga K "BadText")) (c.1.tst 9 (f := fun K => kitB K "BadText" (fun K => .ref (He.ga K "BadText")) true) rfl)
theorem xf_BadProgram (X : K.In h) (G : h.Ns mainGlobals mg) (c : Says w K) : XfC K (He.ga K "BadProgram") := xfB_ok (c.2.1.tst 9 (f := fun K => xfB K (He.ga K "BadProgram")) rfl)
theorem xf_BadPapers (X : K.In h) (G : h.Ns mainGlobals mg) (c : Says w K) : XfC K (He.ga K "BadPapers") := xfB_ok (c.2.2.tst 9 (f := fun K => xfB K (He.ga K "BadPapers")) rfl)
theorem xf_BadText (X : K.In h) (G : h.Ns mainGlobals mg) (c : Says w K) : XfC K (He.ga K "BadText") := xfB_ok (c.1.tst 10 (f := fun K => xfB K (He.ga K "BadText")) rfl)
theorem no_BadProgram_at (X : K.In h) (G : h.Ns mainGlobals mg) (c : Says w K) : PySem.W.findIn K (.ref (He.ga K "BadProgram")) "at" = some none := noB_ok (c.2.1.tst 10 (f := fun K => noB K "BadProgram" "at") rfl)
theorem no_BadProgram_why (X : K.In h) (G : h.Ns mainGlobals mg) (c : Says w K) : PySem.W.findIn K (.ref (He.ga K "BadProgram")) "why" = some none := noB_ok (c.2.2.tst 10 (f := fun K => noB K "BadProgram" "why") rfl)
theorem no_BadPapers_number (X : K.In h) (G : h.Ns mainGlobals mg) (c : Says w K) : PySem.W.findIn K (.ref (He.ga K "BadPapers")) "number" = some none := noB_ok (c.1.tst 11 (f := fun K => noB K "BadPapers" "number") rfl)
theorem no_BadText_place (X : K.In h) (G : h.Ns mainGlobals mg) (c : Says w K) : PySem.W.findIn K (.ref (He.ga K "BadText")) "place" = some none := noB_ok (c.2.1.tst 11 (f := fun K => noB K "BadText" "place") rfl)
theorem ox_BadProgram (X : K.In h) (G : h.Ns mainGlobals mg) (c : Says w K) : OexC K (He.ga K "BadProgram") := oexB_ok (c.2.2.tst 11 (f := fun K => oexB K "BadProgram") rfl)
theorem in_BadProgram (X : K.In h) (G : h.Ns mainGlobals mg) (c : Says w K) : iniB Pg.main.file K "BadProgram" = true := (c.1.tst 12 (f := fun K => iniB Pg.main.file K "BadProgram") rfl)
theorem ox_BadText (X : K.In h) (G : h.Ns mainGlobals mg) (c : Says w K) : OexC K (He.ga K "BadText") := oexB_ok (c.2.1.tst 12 (f := fun K => oexB K "BadText") rfl)
theorem in_BadText (X : K.In h) (G : h.Ns mainGlobals mg) (c : Says w K) : iniB Pg.main.file K "BadText" = true := (c.2.2.tst 12 (f := fun K => iniB Pg.main.file K "BadText") rfl)
theorem cod_law (X : K.In h) (G : h.Ns mainGlobals mg) (c : Says w K) : codB K "law" 472 468 = true := (c.1.tst 13 (f := fun K => codB K "law" 472 468) rfl)
theorem g_MOST_PARTS (X : K.In h) (G : h.Ns mainGlobals mg) (c : Says w K) : GInt mg "MOST_PARTS" 200 := He.int_ok X G (c.2.1.d.fact 30 (f := .int "MOST_PARTS" 200) rfl)
theorem g_MOST_AROUND (X : K.In h) (G : h.Ns mainGlobals mg) (c : Says w K) : GInt mg "MOST_AROUND" 40 := He.int_ok X G (c.2.2.d.fact 32 (f := .int "MOST_AROUND" 40) rfl)
theorem g_MOST_NUMBER (X : K.In h) (G : h.Ns mainGlobals mg) (c : Says w K) : GInt mg "MOST_NUMBER" 1000000 := He.int_ok X G (c.2.1.d.fact 31 (f := .int "MOST_NUMBER" 1000000) rfl)
theorem a_NAMES (X : K.In h) (G : h.Ns mainGlobals mg) (c : Says w K) : mg "NAMES" = some (.ref (He.ga K "NAMES")) := He.glo_ok X G (c.2.2.d.fact 33 (f := .glo "NAMES") rfl)
theorem tp_NAMES (X : K.In h) (G : h.Ns mainGlobals mg) (c : Says w K) : TupD K (He.ga K "NAMES") (([.str "a", .str "b", .str "c", .str "d", .str "e", .str "f", .str "g", .str "h"] : List He.Dv).map (He.Dv.v K)) := tupDB_ok (c.1.tst 14 (f := fun K => tupDB K "NAMES" [.str "a", .str "b", .str "c", .str "d", .str "e", .str "f", .str "g", .str "h"]) rfl)
theorem a_SHAPES (X : K.In h) (G : h.Ns mainGlobals mg) (c : Says w K) : mg "SHAPES" = some (.ref (He.ga K "SHAPES")) := He.glo_ok X G (c.2.1.d.fact 32 (f := .glo "SHAPES") rfl)
theorem kd_SHAPES (X : K.In h) (G : h.Ns mainGlobals mg) (c : Says w K) : ∃ es n, KDict K w (He.ga K "SHAPES") es n := c.2.2.tab 0
theorem kv_SHAPES_ok (X : K.In h) (G : h.Ns mainGlobals mg) (c : Says w K) {q : Str × He.Dv} (hq : q ∈ kv_SHAPES) : ∃ u, PySem.W.nsIn K (He.ga K "SHAPES") q.1 = some (some u) ∧ RelV (q.2.v K) u := He.valsB_ok (c.2.2.tst 13 (f := fun K => He.valsB K (He.ga K "SHAPES") kv_SHAPES) rfl) hq
theorem ky_SHAPES (X : K.In h) (G : h.Ns mainGlobals mg) (c : Says w K) {z : Str} (hz : z ∉ (["num", "name", "add", "take", "less", "if", "let", "fun", "call", "say", "box", "look", "put", "catch", "throw", "go", "drop", "last", "else", "fault"] : List Str)) : PySem.W.nsIn K (He.ga K "SHAPES") z = some none := keysB_ok (c.2.1.tst 13 (f := fun K => keysB K (He.ga K "SHAPES") ["num", "name", "add", "take", "less", "if", "let", "fun", "call", "say", "box", "look", "put", "catch", "throw", "go", "drop", "last", "else", "fault"]) rfl) hz
theorem g_FIGURES (X : K.In h) (G : h.Ns mainGlobals mg) (c : Says w K) : GStr mg "FIGURES" "0123456789" := He.str_ok X G (c.1.d.fact 30 (f := .str "FIGURES" "0123456789") rfl)
theorem g_MOST_FIGURES (X : K.In h) (G : h.Ns mainGlobals mg) (c : Says w K) : GInt mg "MOST_FIGURES" 7 := He.int_ok X G (c.2.2.d.fact 34 (f := .int "MOST_FIGURES" 7) rfl)
theorem a_AS_THEY_ARE (X : K.In h) (G : h.Ns mainGlobals mg) (c : Says w K) : mg "AS_THEY_ARE" = some (.ref (He.ga K "AS_THEY_ARE")) := He.glo_ok X G (c.1.d.fact 31 (f := .glo "AS_THEY_ARE") rfl)
theorem tp_AS_THEY_ARE (X : K.In h) (G : h.Ns mainGlobals mg) (c : Says w K) : TupD K (He.ga K "AS_THEY_ARE") (([.str "num", .str "name"] : List He.Dv).map (He.Dv.v K)) := tupDB_ok (c.2.1.tst 14 (f := fun K => tupDB K "AS_THEY_ARE" [.str "num", .str "name"]) rfl)
end
end H19
namespace Wr
open PySem PySem.Spec PyProof.Rows L2
/-! ### what is new -/
/-- the things of H' that are none of H -/
def nw (H H' : Hp) : Hp := fun a => if (H a).isSome = true then none else H' a
theorem nw_at {H H' : Hp} {a : Addr} (h : H a = none) : nw H H' a = H' a := by
  show (if (H a).isSome = true then none else H' a) = H' a
  rw [h]; rfl
theorem nw_of {H H' : Hp} {a : Addr} {o : HO} (h : nw H H' a = some o) : H a = none ∧ H' a = some o := by
  have h : (if (H a).isSome = true then none else H' a) = some o := h
  cases e : H a with
  | none => rw [e] at h; exact ⟨rfl, h⟩
  | some u => rw [e] at h; cases h
theorem nw_same (H H' : Hp) : Same (nw H H') H' := fun _ _ h => (nw_of h).2
theorem nw_mono {H0 H H' H'' : Hp} (h : ∀ a, H a = none → H0 a = none) (k : ∀ b o, H b = none → H' b = some o → H'' b = some o) : Same (nw H H') (nw H0 H'') := fun b o q => by
  obtain ⟨q1, q2⟩ := nw_of q
  rw [nw_at (h b q1)]
  exact k b o q1 q2
theorem Stp.old {D : List Addr} {H H' : Hp} (s : Stp D H H') (hD : ∀ b ∈ D, H b ≠ none → H' b ≠ none) {a : Addr} (h : H' a = none) : H a = none := by
  cases e : H a with
  | none => rfl
  | some o =>
    by_cases m : a ∈ D
    · exact absurd h (hD a m (by rw [e]; exact fun z => nomatch z))
    · rw [s.keep a o m e] at h; cases h
/-! ### sizes -/
def szL : List Ex → Nat
  | [] => 0
  | e :: es => e.size + szL es
theorem szL_snoc (es : List Ex) (e : Ex) : szL (es ++ [e]) = szL es + e.size := by
  induction es with
  | nil => simp [szL]
  | cons a es ih => simp only [List.cons_append, szL, ih]; omega
theorem szL_take {es : List Ex} {i : Nat} {e : Ex} (h : es[i]? = some e) : szL (es.take i) + e.size ≤ szL es := by
  induction es generalizing i with
  | nil => simp at h
  | cons a es ih =>
    cases i with
    | zero => cases h; simp only [List.take_zero, szL]; omega
    | succ i => have := ih (i := i) h; simp only [List.take_succ_cons, szL]; omega
theorem Ex.size_kd (e : Ex) : e.size = 1 + szL e.kids := by
  cases e <;> simp only [Ex.size, Ex.kids, szL] <;> omega
/-- the parts within, the last with the names -/
def KG (S ns : List Str) (es : List Ex) : Prop := ∀ i e, es[i]? = some e → Good (if i + 1 = es.length then ns ++ S else S) e
theorem Good.kg {S : List Str} {e : Ex} (g : Good S e) : KG S e.ns e.kids := by
  intro i k h
  cases e with
  | num n => simp [Ex.kids] at h
  | name n => simp [Ex.kids] at h
  | fault => simp [Ex.kids] at h
  | one w a =>
    match i, h with
    | 0, h => cases h; exact g.2
  | two w a b =>
    match i, h with
    | 0, h => cases h; exact g.2.1
    | 1, h => cases h; exact g.2.2
  | ite a b c =>
    match i, h with
    | 0, h => cases h; exact g.1
    | 1, h => cases h; exact g.2.1
    | 2, h => cases h; exact g.2.2
  | lt n a b =>
    match i, h with
    | 0, h => cases h; exact g.2.1
    | 1, h => cases h; exact g.2.2
  | fn n a =>
    match i, h with
    | 0, h => cases h; exact g.2
  | ct a n k' b =>
    match i, h with
    | 0, h => cases h; exact g.2.2.2.1
    | 1, h => cases h; exact g.2.2.2.2
section
variable {P : Program} {w : World} {K : PySem.W.Frag} {mg : Str → Option Value} {base : Heap}
/-- a good part is read: its tree, all new -/
def spPartOf (RC PC : Addr) (n : Nat) : Sp := fun vs H Q _ => ∃ (r td t b : Addr) (sz a : Nat) (ts : Str → Nat) (e : Ex) (S bs : List Str), vs = [.ref r, .ref t, .int a, .ref b] ∧ RdrAt RC H r td sz ts ∧ AtE H (.ref t) e ∧ Good S e ∧ (∀ x ∈ S, x ∈ letters) ∧
  H b = some (.tup (bs.map V.str)) ∧ (∀ x ∈ S, x ∈ bs) ∧ bs.length ≤ 2 * a ∧ a + e.deep ≤ 41 ∧ sz + e.size ≤ 200 ∧ e.deep ≤ n ∧
  ∀ v H', Stp [r, td] H H' → RdrAt RC H' r td (sz + e.size) (adv ts e) → PartAt PC (nw H H') v e ts → Q v H'
/-- parts are read, one behind the other -/
def spPartsOf (RC PC : Addr) (n : Nat) : Sp := fun vs H Q _ => ∃ (r td l b nl : Addr) (sz a : Nat) (ts : Str → Nat) (es : List Ex) (S bs ns : List Str) (xs : List V), vs = [.ref r, .ref l, .int a, .ref b, .ref nl] ∧ RdrAt RC H r td sz ts ∧ H l = some (.lst xs) ∧ AtL H xs es ∧ KG S ns es ∧
  (∀ x ∈ S, x ∈ letters) ∧ (∀ x ∈ ns, x ∈ letters) ∧ H b = some (.tup (bs.map V.str)) ∧ (∀ x ∈ S, x ∈ bs) ∧ H nl = some (.lst (ns.map V.str)) ∧ bs.length + 2 ≤ 2 * a ∧ ns.length ≤ 2 ∧ (∀ e ∈ es, a + e.deep ≤ 41 ∧ e.deep ≤ n) ∧ sz + szL es ≤ 200 ∧ es.length ≤ 3 ∧
  ∀ wl ys H', Stp [r, td] H H' → H wl = none → H' wl = some (.lst ys) → RdrAt RC H' r td (sz + szL es) (advL ts es) → PartL PC (nw H H') ys es ts → Q (.ref wl) H'
theorem scParts_of : FnScope ["self", "things", "around", "bound", "names", "found", "k", "thing", "here"] ["self", "things", "around", "bound", "names"] (defScope s_Reader_parts_of) := ⟨rfl, rfl, rfl, by decide +kernel, rfl, by decide +kernel, by decide +kernel⟩
theorem ok_parts_of {RC PC : Addr} {n k : Nat} (F : DfM K RC "Reader.parts_of" "parts_of" s_Reader_parts_of) (c : Cls K RC) (enum : mg "enumerate" = none) (len : mg "len" = none) (U : UseM P w K mg base RC "part_of" ["self", "thing", "around", "bound"] k (spPartOf RC PC n)) :
    UseM P w K mg base RC "parts_of" ["self", "things", "around", "bound", "names"] (k + 1) (spPartsOf RC PC n) := by
  refine F.use scParts_of (fun _ _ _ _ _ _ us hl => match us, hl with | [_, _, _, _, _], _ => rfl) (fun vs H Q E h => ?_) (fun cdv f A outer s H vs Q E hr h => ?_)
  · obtain ⟨r, td, l, b, nl, sz, a, ts, es, S, bs, ns, xs, rfl, _⟩ := h
    rfl
  · obtain ⟨r, td, l, b, nl, sz, a, ts, es, S, bs, ns, xs, rfl, hR, hl, hx, hk, hS, hns, hb, hSb, hnl, hbl, hnn, hd, hz, he3, q⟩ := h
    refine ⟨_, pss_cons (ps_set (i := 5) scParts_of.nd rfl (Or.inl rfl) (pe_lst pa_nil))
      (pss_cons (ps_for PassesOwn.never rfl (pi_enum (by rfl) enum (pa_cons (pv 1) pa_nil)) (pg_tup rfl (pgs_cons (pg_name (i := 6) scParts_of.nd rfl (Or.inl rfl)) (pgs_cons (pg_name (i := 7) scParts_of.nd rfl (Or.inl rfl)) pgs_nil)))
        (pss_cons (ps_set (i := 8) scParts_of.nd rfl (Or.inl rfl) (pe_ifExp (pt_cmpR op_eq (pv 6) (pe_op op_sub (pe_callB call_len_seq (by rfl) len PySem.boot_len (pa_cons (pv 1) pa_nil)) pe_int) (nomark _)) (pe_tup (StX.pa_star (pv 3) (StX.pa_star (pv 4) pa_nil))) (pv 3)))
        (pss_one (ps_expr (pe_bm PySem.F.plainAttrs_list PySem.F.slot_list_append PySem.F.type_list_append mt_append (pv 5) (pa_cons (pe_useM c U hr (pv 0) (pa_cons (pv 7) (pa_cons (pv 2) (pa_cons (pv 8) pa_nil)))) pa_nil))))))
      (pss_one (ps_ret (pv 5)))), ?_⟩
    refine ⟨by show 0 ≤ sizeLine; decide, fun D nD => ?_⟩
    have hxl := hx.length
    have sD := Same.new nD (.lst [])
    have ne1 : ∀ {q o}, H q = some o → q ≠ D := fun h => ne_of_none h nD
    obtain ⟨dx0, hr0⟩ := id hR.ob
    obtain ⟨kv0, ht0, _⟩ := id hR.tb
    have up : ∀ {a}, upd H D (.lst []) a = none → H a = none := fun {a} h => by
      by_cases e : a = D
      · rw [e]; exact nD
      · rw [upd_ne e] at h; exact h
    refine ⟨_, rfl, l, xs, rfl, SqL.of (sD _ _ hl), ?_⟩
    refine for_it (walk_enum (K := K) (a := l) (xs := xs)) (fun i σ H2 => ∃ (ys : List V) (s6 s7 s8 : Option V), σ = [some (.ref r), some (.ref l), some (.int a), some (.ref b), some (.ref nl), some (.ref D), s6, s7, s8] ∧ Stp [r, td] H H2 ∧ H2 D = some (.lst ys) ∧
      RdrAt RC H2 r td (sz + szL (es.take i)) (advL ts (es.take i)) ∧ PartL PC (nw (upd H D (.lst [])) H2) ys (es.take i) ts) ⟨[], none, none, none, rfl, Stp.same sD, upd_same, hR.step sD, .nil⟩
      (fun i σ H2 hi h => ?_) ?_ ?_
    · obtain ⟨ys, s6, s7, s8, rfl, s2, _⟩ := h
      exact SqL.of (s2.keep _ _ (fun z => by
        rcases List.mem_cons.mp z with z | z
        · rw [z, hr0] at hl; cases hl
        · rw [List.mem_singleton.mp z, ht0] at hl; cases hl) hl)
    · rintro i v σ H2 H2' hi ⟨ys, s6, s7, s8, rfl, s2, hD2, R2, L2'⟩ ⟨T, x, y, rfl, nT, rfl, ex, hy⟩
      cases ex
      obtain ⟨e, hee, hae⟩ := hx.val hy
      have hie : i < es.length := by omega
      have hmem : e ∈ es := List.mem_of_getElem? hee
      obtain ⟨hd1, hd2⟩ := hd e hmem
      have hg := hk i e hee
      have hsz := szL_take hee
      have sT := Same.new nT (.tup [.int (i : Nat), y])
      have s2' : Stp [r, td] H (upd H2 T (.tup [.int (i : Nat), y])) := s2.trans (Stp.same sT)
      have noD : ∀ {q o}, H q = some o → (∀ z, o ≠ .ins RC dx0 z) → (∀ z, o ≠ .dK z) → q ∉ [r, td] := fun {q o} h n1 n2 z => by
        rcases List.mem_cons.mp z with z | z
        · rw [z, hr0] at h; cases h; exact n1 _ rfl
        · rw [List.mem_singleton.mp z, ht0] at h; cases h; exact n2 _ rfl
      have hl2 := s2'.keep _ _ (noD hl (fun _ z => nomatch z) (fun _ z => nomatch z)) hl
      have hb2 := s2'.tups _ _ hb
      have hnl2 := s2'.keep _ _ (noD hnl (fun _ z => nomatch z) (fun _ z => nomatch z)) hnl
      have R2' := R2.step sT
      have hD2' := sT _ _ hD2
      have ha2 := hae.tups s2'.tups
      obtain ⟨t, _, et, _⟩ := ha2.words
      subst et
      refine ⟨T, _, rfl, SqT.of upd_same, rfl, _, _, rfl, _, _, rfl, rfl, ?_⟩
      have lenx : xs.length = es.length := hxl
      -- here
      have fin : ∀ (hb' : Addr) (bs' : List Str) (H3 : Hp), Same (upd H2 T (.tup [.int (i : Nat), .ref t])) H3 → H3 hb' = some (.tup (bs'.map V.str)) → (∀ x ∈ (if i + 1 = es.length then ns ++ S else S), x ∈ bs') → bs'.length ≤ 2 * a →
          (∀ x ∈ (if i + 1 = es.length then ns ++ S else S), x ∈ letters) ∧ RdrAt RC H3 r td (sz + szL (es.take i)) (advL ts (es.take i)) ∧ AtE H3 (.ref t) e ∧ ∀ v H4, Stp [r, td] H3 H4 → RdrAt RC H4 r td (sz + szL (es.take i) + e.size) (adv (advL ts (es.take i)) e) → PartAt PC (nw H3 H4) v e (advL ts (es.take i)) →
            H4 D = some (.lst ys) ∧ ys.length < sizeLine ∧ Stp [r, td] H (upd H4 D (.lst (ys ++ [v]))) ∧ RdrAt RC (upd H4 D (.lst (ys ++ [v]))) r td (sz + szL (es.take (i + 1))) (advL ts (es.take (i + 1))) ∧ PartL PC (nw (upd H D (.lst [])) (upd H4 D (.lst (ys ++ [v])))) (ys ++ [v]) (es.take (i + 1)) ts := by
        intro hb' bs' H3 sm3 hb3 hsub hbl'
        refine ⟨?_, R2'.step sm3, ha2.same sm3, fun v H4 s4 R4 P4 => ?_⟩
        · intro x hx
          by_cases c1 : i + 1 = es.length
          · rw [if_pos c1] at hx
            rcases List.mem_append.mp hx with h | h
            · exact hns x h
            · exact hS x h
          · rw [if_neg c1] at hx; exact hS x hx
        have hD3 := sm3 _ _ hD2'
        obtain ⟨dx1, hr1⟩ := id R2.ob
        obtain ⟨kv1, ht1, _⟩ := id R2.tb
        have hDn : D ∉ [r, td] := fun z => by
          rcases List.mem_cons.mp z with z | z
          · exact absurd z.symm (ne1 hr0)
          · exact absurd (List.mem_singleton.mp z).symm (ne1 ht0)
        have hD4 := s4.keep _ _ hDn hD3
        have n3 : ∀ {q}, H3 q = none → upd H D (.lst []) q = none := fun {q} h => by
          by_cases e : q = D
          · rw [e, hD3] at h; cases h
          · rw [upd_ne e]
            have h2 : H2 q = none := sT.free (sm3.free h)
            cases hq : H q with
            | none => rfl
            | some o =>
              by_cases m : q ∈ [r, td]
              · rcases List.mem_cons.mp m with m | m
                · rw [m, hr1] at h2; cases h2
                · rw [List.mem_singleton.mp m, ht1] at h2; cases h2
              · rw [s2.keep _ _ m hq] at h2; cases h2
        have hyl : ys.length = (es.take i).length := L2'.length
        refine ⟨hD4, ?_, ?_, ?_, ?_⟩
        · have : (3 : Nat) < sizeLine := by decide
          rw [List.length_take] at hyl
          omega
        · refine ⟨fun q o m h => ?_, fun q z h => ?_⟩
          · rw [upd_ne (ne1 h)]
            exact s4.keep _ _ m (sm3 _ _ (s2'.keep _ _ m h))
          · rw [upd_ne (ne1 h)]
            exact s4.tups _ _ (sm3 _ _ (s2'.tups _ _ h))
        · rw [take_snoc hee, szL_snoc, advL_snoc, ← Nat.add_assoc]
          obtain ⟨dx4, hr4⟩ := R4.ob
          obtain ⟨kv4, ht4, g4⟩ := R4.tb
          exact ⟨⟨dx4, by rw [upd_ne (ne1 hr0)]; exact hr4⟩, ⟨kv4, by rw [upd_ne (ne1 ht0)]; exact ht4, g4⟩⟩
        · rw [take_snoc hee]
          refine (L2'.same (nw_mono (fun _ h => h) fun q o h1 h2 => ?_)).snoc (P4.same (nw_mono (fun _ h => n3 h) fun q o h1 h2 => ?_))
          · have hqD : q ≠ D := fun e => by rw [e, upd_same] at h1; cases h1
            rw [upd_ne hqD] at h1 ⊢
            refine s4.keep _ _ (fun m => ?_) (sm3 _ _ (sT _ _ h2))
            rcases List.mem_cons.mp m with m | m
            · rw [m, hr0] at h1; cases h1
            · rw [List.mem_singleton.mp m, ht0] at h1; cases h1
          · have hqD : q ≠ D := fun e => by rw [e, hD3] at h1; cases h1
            rw [upd_ne hqD]
            exact h2
      refine ⟨_, rfl, _, rfl, l, _, rfl, .inl (SqL.of hl2), _, _, rfl, rfl, rfl, _, rfl, ?_⟩
      refine ite2 (fun hlast => ?_) (fun hlast => ?_)
      · have hlast := V.int.inj (of_decide_eq_true hlast)
        have c1 : i + 1 = es.length := by omega
        refine ⟨_, rfl, b, _, rfl, .inl (SqT.of hb2), _, rfl, nl, _, rfl, .inr (SqL.of hnl2), ?_, fun hb' nb' => ?_⟩
        · have : (100 : Nat) ≤ sizeLine := by decide
          have : a ≤ 41 := by omega
          simp only [List.length_append, List.length_map, List.append_nil]
          omega
        · refine ⟨_, rfl, .inl ⟨rfl, _, SqL.of (Same.new nb' _ _ _ hD2')⟩, ?_⟩
          obtain ⟨dx2, hr2⟩ := R2'.ob
          have hr3 := Same.new nb' (.tup (bs.map V.str ++ (ns.map V.str ++ []))) _ _ hr2
          obtain ⟨_, _, _, _, _, lk, _⟩ := rdrF (.int (sz + szL (es.take i) : Nat)) (.ref td) .non
          refine ⟨_, rfl, r, dx2, _, rfl, hr3, lk, ?_⟩
          refine ⟨_, rfl, _, rfl, ?_⟩
          obtain ⟨f1, f2, f3, f4⟩ := fin hb' (bs ++ ns) (upd (upd H2 T (.tup [.int (i : Nat), .ref t])) hb' (.tup (bs.map V.str ++ (ns.map V.str ++ [])))) (Same.new nb' _) (by rw [upd_same, List.map_append, List.append_nil]) (fun x hx => by
            rw [if_pos c1] at hx
            rcases List.mem_append.mp hx with h | h
            · exact List.mem_append.mpr (.inr h)
            · exact List.mem_append.mpr (.inl (hSb x h))) (by rw [List.length_append]; omega)
          refine ⟨_, rfl, r, td, t, hb', sz + szL (es.take i), a, advL ts (es.take i), e, _, bs ++ ns, rfl, f2, f3, hg, f1, by rw [upd_same, List.map_append, List.append_nil], fun x hx => by
            rw [if_pos c1] at hx
            rcases List.mem_append.mp hx with h | h
            · exact List.mem_append.mpr (.inr h)
            · exact List.mem_append.mpr (.inl (hSb x h)), by rw [List.length_append]; omega, hd1, by omega, hd2, fun v H4 s4 R4 P4 => ?_⟩
          obtain ⟨g1, g2, g3, g4, g5⟩ := f4 v H4 s4 R4 P4
          exact ⟨D, ys, v, rfl, rfl, g1, g2, _, _, _, _, rfl, g3, upd_same, g4, g5⟩
      · have c1 : i + 1 ≠ es.length := fun z => by
          refine hlast (decide_eq_true (congrArg V.int ?_))
          show ((i : Nat) : Int) = ((xs.length : Nat) : Int) - 1
          omega
        refine ⟨_, rfl, ?_⟩
        refine ⟨_, rfl, .inl ⟨rfl, _, SqL.of hD2'⟩, ?_⟩
        obtain ⟨dx2, hr2⟩ := R2'.ob
        obtain ⟨_, _, _, _, _, lk, _⟩ := rdrF (.int (sz + szL (es.take i) : Nat)) (.ref td) .non
        refine ⟨_, rfl, r, dx2, _, rfl, hr2, lk, ?_⟩
        refine ⟨_, rfl, _, rfl, ?_⟩
        obtain ⟨f1, f2, f3, f4⟩ := fin b bs _ (Same.refl _) hb2 (fun x hx => by rw [if_neg c1] at hx; exact hSb x hx) (by omega)
        refine ⟨_, rfl, r, td, t, b, sz + szL (es.take i), a, advL ts (es.take i), e, _, bs, rfl, f2, f3, hg, f1, hb2, fun x hx => by rw [if_neg c1] at hx; exact hSb x hx, by omega, hd1, by omega, hd2, fun v H4 s4 R4 P4 => ?_⟩
        obtain ⟨g1, g2, g3, g4, g5⟩ := f4 v H4 s4 R4 P4
        exact ⟨D, ys, v, rfl, rfl, g1, g2, _, _, _, _, rfl, g3, upd_same, g4, g5⟩
    · rintro σ H2 ⟨ys, s6, s7, s8, rfl, s2, hD2, R2, L2'⟩
      rw [hxl, List.take_of_length_le (Nat.le_refl _)] at R2 L2'
      exact ⟨_, rfl, q D ys H2 s2 nD hD2 R2 (L2'.same (nw_mono (fun _ h => up h) fun _ _ _ h => h))⟩
end
end Wr
namespace Wr
open PySem PySem.Spec PyProof.Rows L2
section
variable {P : Program} {w : World} {K : PySem.W.Frag} {mg : Str → Option Value} {base : Heap}
theorem putK_more (kvs : List (Key × V)) (k : Key) (v : V) : (putK kvs k v).length ≤ kvs.length + 1 := by
  unfold putK
  split
  · rw [List.length_map]; exact Nat.le_succ _
  · rw [List.length_append]; exact Nat.le_refl _
theorem scPart_of : FnScope ["self", "thing", "around", "bound", "at", "why", "word", "turn", "number", "names", "within"] ["self", "thing", "around", "bound"] (defScope s_Reader_part_of) := ⟨rfl, rfl, rfl, by decide +kernel, rfl, by decide +kernel, by decide +kernel⟩
theorem ok_part_of {RC PC : Addr} {n k : Nat} (hk4 : 4 ≤ k) (F : DfM K RC "Reader.part_of" "part_of" s_Reader_part_of) (c : Cls K RC) (na : NoAts K RC readNs) (U_why : Use P w K mg base "why_not" ["thing", "at", "around", "bound"] 4 spWhy) (U_stand : Use P w K mg base "standing" ["thing", "place"] 1 spStanding)
    (U_parts : UseM P w K mg base RC "parts_of" ["self", "things", "around", "bound", "names"] k (spPartsOf RC PC n)) (U_Part : UseC P w K mg base PC "Part" ["self", "word", "turn", "number", "names", "within"] 1 (spPartInit PC)) :
    UseM P w K mg base RC "part_of" ["self", "thing", "around", "bound"] (k + 1) (spPartOf RC PC (n + 1)) := by
  refine F.use scPart_of (fun _ _ _ _ _ _ us hl => match us, hl with | [_, _, _, _], _ => rfl) (fun vs H Q E h => ?_) (fun cdv f A outer s H vs Q E hr h => ?_)
  · obtain ⟨r, td, t, b, sz, a, ts, e, S, bs, rfl, _⟩ := h
    rfl
  · obtain ⟨r, td, t, b, sz, a, ts, e, S, bs, rfl, hR, hv, hg, hS, hb, hSb, hbl, hd, hz, hn, q⟩ := h
    have hu := hu_of hr
    have hr1 : Room 1 _ := hr.mono (by omega)
    have hr2 : Room 2 _ := hr.mono (by omega)
    have hr4 : Room 4 _ := hr.mono (by omega)
    refine ⟨_, pss_cons (ps_set (i := 4) scPart_of.nd rfl (Or.inl rfl) (pe_fld (pv 0) rfl))
      (pss_cons (ps_set (i := 5) scPart_of.nd rfl (Or.inl rfl) (pe_use U_why hr4 (pa_cons (pv 1) (pa_cons (pv 4) (pa_cons (pv 2) (pa_cons (pv 3) pa_nil))))))
      (pss_cons (ps_if (pt_cmpR op_notN (pv 5) pe_non (nomark _)) (pss_one ps_never) pss_nil)
      (pss_cons (ps_fld (pv 0) (pe_op op_add (pv 4) pe_int) rfl)
      (pss_cons (ps_set (i := 6) scPart_of.nd rfl (Or.inl rfl) (pe_ix ix_tup (pv 1) pe_int (fun _ _ => rfl)))
      (pss_cons (ps_set (i := 7) scPart_of.nd rfl (Or.inl rfl) (pe_dget2 hu (pe_fld (pv 0) rfl) (pv 6) pe_int ⟨rfl, rfl, rfl, rfl⟩))
      (pss_cons (ps_dput hu (pe_fld (pv 0) rfl) (pv 6) (pe_op op_add (pv 7) pe_int) rfl)
      (pss_cons (ps_set (i := 8) scPart_of.nd rfl (Or.inl rfl) (pe_ifExp (pt_cmpR op_eq (pv 6) pe_str (nomark _)) (pe_ix ix_tup (pv 1) pe_int (fun _ _ => rfl)) pe_non))
      (pss_cons (ps_set (i := 9) scPart_of.nd rfl (Or.inl rfl) (pe_use U_stand hr1 (pa_cons (pv 1) (pa_cons pe_str pa_nil))))
      (pss_cons (ps_set (i := 10) scPart_of.nd rfl (Or.inl rfl) (pe_useM c U_parts hr (pv 0) (pa_cons (pe_use U_stand hr1 (pa_cons (pv 1) (pa_cons pe_str pa_nil))) (pa_cons (pe_op op_add (pv 2) pe_int) (pa_cons (pv 3) (pa_cons (pv 9) pa_nil))))))
      (pss_one (ps_ret (pe_useC U_Part hr2 (pa_cons (pv 6) (pa_cons (pv 7) (pa_cons (pv 8) (pa_cons (pv 9) (pa_cons (pv 10) pa_nil))))))))))))))))), ?_⟩
    obtain ⟨t', xs, et, ht, _, h5⟩ := hv.words
    cases et
    have h4 : xs.length ≤ 4 := by rw [List.length_cons] at h5; omega
    obtain ⟨dx, hro⟩ := hR.ob
    obtain ⟨kvs, htd, hkl, hts⟩ := hR.tb
    have hrt := hR.ne
    obtain ⟨_, _, lk1, lk2, pt, _, lk3⟩ := rdrF (.int sz) (.ref td) (.int (sz + 1 : Nat))
    obtain ⟨_, _, _, lk2', _, _, lk3'⟩ := rdrF (.int (sz + 1 : Nat)) (.ref td) .non
    have hsp := e.size_pos
    have hdp := e.deep_pos
    -- at, why
    refine ⟨_, rfl, r, RC, dx, _, _, rfl, hro, c, na _ (by decide +kernel), lk1, ?_⟩
    refine ⟨_, rfl, _, rfl, _, rfl, _, rfl, t, b, e, S, bs, sz, a, rfl, hv, hg, hS, by omega, by omega, hb, hSb, fun H1 sm1 => ?_⟩
    refine ⟨_, rfl, rfl, _, rfl, iteF ?_⟩
    have hro1 := sm1 _ _ hro
    have htd1 := sm1 _ _ htd
    -- size
    refine ⟨_, rfl, _, _, rfl, rfl, _, rfl, r, RC, dx, _, rfl, hro1, c, na _ (by decide +kernel), by show 2 < 1000; decide, ?_⟩
    have e1 : putF "size" (V.int ((sz : Int) + 1)) ([("size", V.int sz), ("turns", V.ref td)] : List (Str × V)) = ([("size", V.int (sz + 1 : Nat)), ("turns", V.ref td)] : List (Str × V)) := pt
    rw [e1]
    have ntr : t ≠ r := fun z => by rw [z, hro] at ht; cases ht
    have ntt : t ≠ td := fun z => by rw [z, htd] at ht; cases ht
    have ht2 : upd H1 r (.ins RC dx [("size", .int (sz + 1 : Nat)), ("turns", .ref td)]) t = some (.tup (.str e.word :: xs)) := by rw [upd_ne ntr]; exact sm1 _ _ ht
    have htd2 : upd H1 r (.ins RC dx [("size", .int (sz + 1 : Nat)), ("turns", .ref td)]) td = some (.dK kvs) := by rw [upd_ne hrt.symm]; exact htd1
    refine ⟨_, rfl, t, _, _, .str e.word, rfl, rfl, SqT.of ht2, atI_nat (j := 0) rfl, ?_⟩
    refine ⟨_, rfl, r, RC, dx, _, _, rfl, upd_same, c, na _ (by decide +kernel), lk2', td, rfl, .inl ⟨kvs, .inl htd2⟩, _, rfl, _, DGet.k (k := Sum.inr e.word) htd2, ?_⟩
    rw [hts]
    refine ⟨_, rfl, _, _, rfl, rfl, _, rfl, r, RC, dx, _, _, rfl, upd_same, c, na _ (by decide +kernel), lk2', _, rfl, td, _, rfl, DPut.k (k := Sum.inr e.word) htd2 (by have h9 : (200 : Nat) < sizeLine := (by decide); omega), ?_⟩
    -- the heap behind it
    generalize eH3 : upd (upd H1 r (.ins RC dx [("size", .int (sz + 1 : Nat)), ("turns", .ref td)])) td (.dK (putK kvs (Sum.inr e.word) (V.int ((ts e.word : Int) + 1)))) = H3
    have hro3 : H3 r = some (.ins RC dx [("size", .int (sz + 1 : Nat)), ("turns", .ref td)]) := by rw [← eH3, upd_ne hrt]; exact upd_same
    have R3 : RdrAt RC H3 r td (sz + 1) (bump ts e.word) := by
      refine ⟨⟨dx, hro3⟩, ⟨_, by rw [← eH3]; exact upd_same, ?_, fun z => ?_⟩⟩
      · exact Nat.le_trans (putK_more _ _ _) (by omega)
      · rw [valV_put]
        by_cases hz : z = e.word
        · subst hz
          rw [if_pos rfl]
          show V.int _ = V.int ((if e.word = e.word then ts e.word + 1 else ts e.word : Nat) : Int)
          rw [if_pos rfl]; rfl
        · rw [if_neg (fun q => hz (Sum.inr.inj q)), hts]
          show V.int _ = V.int ((if z = e.word then ts z + 1 else ts z : Nat) : Int)
          rw [if_neg hz]
    have s3 : Stp [r, td] H H3 := by
      refine ⟨fun q o m h => ?_, fun q z h => ?_⟩
      · have m1 : q ≠ r := fun z => m (by rw [z]; exact List.mem_cons_self)
        have m2 : q ≠ td := fun z => m (by rw [z]; simp)
        rw [← eH3, upd_ne m2, upd_ne m1]
        exact sm1 _ _ h
      · have m1 : q ≠ r := fun e => by rw [e, hro] at h; cases h
        have m2 : q ≠ td := fun e => by rw [e, htd] at h; cases h
        rw [← eH3, upd_ne m2, upd_ne m1]
        exact sm1 _ _ h
    have ht3 := s3.tups _ _ ht
    have hv3 := hv.tups s3.tups
    have stepN : ∀ (u : TS) (D : Ends) (σ : L2.St), σ[6]? = some (some (.str e.word)) → σ[1]? = some (some (.ref t)) → u D (σ.set 8 (some e.nv)) H3 → tSeq (tAsg (tIf (tTest (tOp rEq (tVar 6) (tC (.str "num")))) (tOp (rIxT K) (tVar 1) (tC (.int 1))) (tC .non)) (gName 8)) u D σ H3 := by
      intro u D σ h6 h1 hu
      refine ⟨_, h6, rfl, _, rfl, ?_⟩
      refine ite2 (fun hw => ?_) (fun hw => ?_)
      · obtain ⟨n, rfl⟩ := word_num hg (V.str.inj (of_decide_eq_true hw))
        obtain ⟨_, e1, h2⟩ := hv3
        cases e1
        exact ⟨_, h1, t, _, _, .int n, rfl, rfl, SqT.of h2, atI_nat (j := 1) rfl, hu⟩
      · have : e.nv = .non := by
          cases e with
          | num n => exact absurd (decide_eq_true rfl) hw
          | _ => rfl
        rw [this] at hu
        exact hu
    refine stepN _ _ _ rfl rfl ?_
    refine ⟨_, rfl, t, e, S, xs, "x", rfl, hv3, hg, ht3, h4, fun nl H4 sm4 nn4 hn4 => ?_⟩
    obtain ⟨en, el⟩ := stand_ns hv3 ht3
    rw [en] at hn4
    have ht4 := sm4 _ _ ht3
    have hv4 := hv3.same sm4
    refine ⟨_, rfl, r, dx, _, rfl, sm4 _ _ hro3, lk3', _, rfl, t, e, S, xs, "e", rfl, hv4, hg, ht4, h4, fun l H5 sm5 nn5 hl5 => ?_⟩
    have sm35 : Same H3 H5 := sm4.trans sm5
    have kdd : ∀ k ∈ e.kids, a + 1 + k.deep ≤ 41 ∧ k.deep ≤ n := fun k hk => by
      have := kid_deep hk
      omega
    have hsk := e.size_kd
    refine ⟨_, rfl, _, _, rfl, rfl, _, rfl, _, rfl, r, td, l, b, nl, sz + 1, a + 1, bump ts e.word, e.kids, S, bs, e.ns, _, rfl, R3.step sm35, hl5, el.tups (fun q z h => sm35 _ _ h), hg.kg, hS, hg.ns_letters hS, sm35 _ _ (s3.tups _ _ hb), hSb, sm5 _ _ hn4, by omega, e.ns_len, kdd, by omega, e.kids_len,
      fun wl ys H6 s6 nw6 hwl6 R6 L6 => ?_⟩
    refine ⟨_, rfl, _, rfl, _, rfl, _, rfl, _, rfl, fun x dx' nx ndx nxd => ?_⟩
    refine ⟨x, dx', _, _, _, _, _, rfl, upd_same, rfl, ?_⟩
    rw [upd_upd]
    have s06 : Stp [r, td] H H6 := (s3.trans (Stp.same sm35)).trans s6
    have gone : ∀ {G : Hp} {z : Nat} {us : Str → Nat}, Stp [r, td] H G → RdrAt RC G r td z us → ∀ {q}, G q = none → H q = none := fun {G z us} s R {q} h => by
      obtain ⟨d1, g1⟩ := R.ob
      obtain ⟨kv1, g2, _⟩ := R.tb
      refine s.old (fun b hb _ => ?_) h
      rcases List.mem_cons.mp hb with hb | hb
      · rw [hb, g1]; exact fun z => nomatch z
      · rw [List.mem_singleton.mp hb, g2]; exact fun z => nomatch z
    have s05 : Stp [r, td] H H5 := s3.trans (Stp.same sm35)
    have nx0 := gone s06 R6 nx
    have ndx0 := gone s06 R6 ndx
    have nl0 := gone s3 R3 nn4
    have wl0 := gone s05 (R3.step sm35) nw6
    have up6 : ∀ {q o}, H6 q = some o → upd (upd H6 dx' (.own x)) x (.ins PC dx' (partF e.word (ts e.word) e.nv nl wl)) q = some o := fun {q o} h => by
      rw [upd_ne (ne_of_none h nx), upd_ne (ne_of_none h ndx)]
      exact h
    refine q (.ref x) (upd (upd H6 dx' (.own x)) x (.ins PC dx' (partF e.word (ts e.word) e.nv nl wl))) ⟨fun q o m h => up6 (s06.keep _ _ m h), fun q z h => up6 (s06.tups _ _ h)⟩ ?_ (PartAt.mk_ (xs := ys) ⟨x, dx', nl, wl, rfl, ?_, ?_, ?_⟩ ?_)
    · have e2 : sz + e.size = sz + 1 + szL e.kids := by omega
      rw [e2, ← adv_kids]
      exact R6.step fun _ _ h => up6 h
    · rw [nw_at nx0]; exact upd_same
    · rw [nw_at nl0]; exact up6 (s6.keep _ _ (fun m => by
        rcases List.mem_cons.mp m with m | m
        · rw [m, hro] at nl0; cases nl0
        · rw [List.mem_singleton.mp m, htd] at nl0; cases nl0) (sm5 _ _ hn4))
    · rw [nw_at wl0]; exact up6 hwl6
    · exact L6.same (nw_mono (fun _ h => gone s05 (R3.step sm35) h) fun _ _ _ h => up6 h)
end
section
variable {P : Program} {w : World} {K : PySem.W.Frag} {mg : Str → Option Value} {base : Heap}
theorem ok_part {RC PC : Addr} (F : DfM K RC "Reader.part_of" "part_of" s_Reader_part_of) (F' : DfM K RC "Reader.parts_of" "parts_of" s_Reader_parts_of) (c : Cls K RC) (na : NoAts K RC readNs) (enum : mg "enumerate" = none) (len : mg "len" = none)
    (U_why : Use P w K mg base "why_not" ["thing", "at", "around", "bound"] 4 spWhy) (U_stand : Use P w K mg base "standing" ["thing", "place"] 1 spStanding) (U_Part : UseC P w K mg base PC "Part" ["self", "word", "turn", "number", "names", "within"] 1 (spPartInit PC)) :
    ∀ n, UseM P w K mg base RC "part_of" ["self", "thing", "around", "bound"] (2 * n + 5) (spPartOf RC PC n)
  | 0 => F.use scPart_of (fun _ _ _ _ _ _ us hl => match us, hl with | [_, _, _, _], _ => rfl) (fun vs H Q E h => by
      obtain ⟨r, td, t, b, sz, a, ts, e, S, bs, rfl, _⟩ := h
      rfl) (fun cdv f A outer s H vs Q E hr h => by
      obtain ⟨r, td, t, b, sz, a, ts, e, S, bs, rfl, _, _, _, _, _, _, _, _, _, hn, _⟩ := h
      have := e.deep_pos
      omega)
  | n + 1 => ok_part_of (k := 2 * n + 6) (by omega) F c na U_why U_stand (ok_parts_of F' c enum len (ok_part F F' c na enum len U_why U_stand U_Part n)) U_Part
/-- a tree stands at p -/
def TreeAt (TC PC : Addr) (H : Hp) (p : Addr) (e : Ex) : Prop := ∃ dx td top kvs, H p = some (.ins TC dx [("top", top), ("size", .int e.size), ("turns", .ref td)]) ∧ PartAt PC H top e (fun _ => 0) ∧ H td = some (.dK kvs) ∧ ∀ z : Str, (valV kvs (Sum.inr z : Key)).getD (.int 0) = .int (e.cnt z)
def spTree (TC PC : Addr) : Sp := fun vs H Q _ => ∃ (v : V) (e : Ex), vs = [v] ∧ AtE H v e ∧ Good [] e ∧ e.deep ≤ 41 ∧ e.size ≤ 200 ∧ ∀ p H', Same H H' → TreeAt TC PC (nw H H') p e → Q (.ref p) H'
theorem scTree_of : FnScope ["program", "reader", "top"] ["program"] (defScope s_tree_of) := ⟨rfl, rfl, rfl, by decide +kernel, rfl, by decide +kernel, by decide +kernel⟩
theorem ok_tree_of {RC PC TC : Addr} (F : Df K mg "tree_of" s_tree_of) (c : Cls K RC) (na : NoAts K RC readNs) (U_part : UseM P w K mg base RC "part_of" ["self", "thing", "around", "bound"] 87 (spPartOf RC PC 41)) (U_Reader : UseC P w K mg base RC "Reader" ["self"] 1 (spReadInit RC))
    (U_Tree : UseC P w K mg base TC "Tree" ["self", "top", "size", "turns"] 1 (spTreeInit TC)) : Use P w K mg base "tree_of" ["program"] 88 (spTree TC PC) := by
  refine F.use scTree_of (fun _ _ _ _ _ _ us hl => match us, hl with | [_], _ => rfl) (fun vs H Q E h => ?_) (fun cdv f A outer s H vs Q E hr h => ?_)
  · obtain ⟨v, e, rfl, _⟩ := h
    rfl
  · obtain ⟨v, e, rfl, hv, hg, hd, hz, q⟩ := h
    have hr2 : Room 2 _ := hr.mono (by decide)
    refine ⟨_, pss_cons (ps_set (i := 1) scTree_of.nd rfl (Or.inl rfl) (pe_useC0 U_Reader hr2))
      (pss_cons (ps_set (i := 2) scTree_of.nd rfl (Or.inl rfl) (pe_useM c U_part hr (pv 1) (pa_cons (pv 0) (pa_cons pe_int (pa_cons (pe_tup pa_nil) pa_nil)))))
      (pss_one (ps_ret (pe_useC U_Tree hr2 (pa_cons (pv 2) (pa_cons (pe_fld (pv 1) rfl) (pa_cons (pe_fld (pv 1) rfl) pa_nil))))))), ?_⟩
    refine fun x dx nx ndx nxd => ⟨x, dx, rfl, upd_same, fun td H1 ntd R1 k1 => ⟨rfl, ?_⟩⟩
    have a0 : ∀ {q o}, H q = some o → H1 q = some o := fun {q o} h => k1 q o (by rw [upd_ne (ne_of_none h nx), upd_ne (ne_of_none h ndx)]; exact h) (ne_of_none h nx)
    have sm1 : Same H H1 := fun _ _ h => a0 h
    obtain ⟨dx1, hx1⟩ := R1.ob
    obtain ⟨_, _, lk1, lk2, _, lk3, _⟩ := rdrF (.int 0) (.ref td) .non
    have td0 : H td = none := by
      cases e : H td with
      | none => rfl
      | some o =>
        rw [upd_ne (ne_of_none e nx), upd_ne (ne_of_none e ndx), e] at ntd
        cases ntd
    refine ⟨_, rfl, x, dx1, _, rfl, hx1, lk3, _, rfl, by show 0 ≤ sizeLine; decide, fun b nb => ?_⟩
    obtain ⟨t, _, et, _⟩ := (hv.same sm1).words
    subst et
    have smb := Same.new nb (.tup [])
    refine ⟨x, td, t, b, 0, 0, fun _ => 0, e, [], [], rfl, R1.step smb, (hv.same sm1).same smb, hg, (by simp), upd_same, (by simp), (by simp), by omega, by omega, hd, fun top H3 s3 R3 P3 => ?_⟩
    obtain ⟨dx3, hx3⟩ := R3.ob
    obtain ⟨kv3, ht3, _, hv3⟩ := R3.tb
    obtain ⟨_, _, mk1, mk2, _⟩ := rdrF (.int (0 + e.size : Nat)) (.ref td) .non
    refine ⟨_, rfl, _, rfl, x, RC, dx3, _, _, rfl, hx3, c, na _ (by decide +kernel), mk1, _, rfl, x, RC, dx3, _, _, rfl, hx3, c, na _ (by decide +kernel), mk2, ?_⟩
    refine fun y dy ny ndy nyd => ⟨y, dy, _, _, _, rfl, upd_same, rfl, ?_⟩
    rw [upd_upd]
    have s13 : Same H H3 := fun q o h => s3.keep q o (fun m => by
      rcases List.mem_cons.mp m with m | m
      · rw [m, nx] at h; cases h
      · rw [List.mem_singleton.mp m, td0] at h; cases h) (smb _ _ (sm1 _ _ h))
    have up3 : ∀ {q o z}, H3 q = some o → upd (upd H3 dy (.own y)) y z q = some o := fun {q o z} h => by
      rw [upd_ne (ne_of_none h ny), upd_ne (ne_of_none h ndy)]
      exact h
    refine q y _ (fun q o h => up3 (s13 _ _ h)) ⟨dy, td, top, kv3, ?_, ?_, ?_, fun z => ?_⟩
    · rw [nw_at (s13.free ny), upd_same, Nat.zero_add]
    · refine P3.same (nw_mono (fun q h => sm1.free (smb.free h)) fun q o _ h => up3 h)
    · rw [nw_at td0]; exact up3 ht3
    · rw [hv3 z]
      show V.int ((0 + e.cnt z : Nat) : Int) = _
      rw [Nat.zero_add]
end
end Wr
namespace Wr
open PySem PySem.Spec PyProof.Rows L2
/-! ### the words of a program -/
def numS (n : Int) : Str := Str.ofString (toString n)
def Ex.wds : Ex → List Str
  | .num n => [numS n]
  | .name x => [x]
  | .fault => ["fault"]
  | .one w a => w :: a.wds
  | .two w a b => w :: (a.wds ++ b.wds)
  | .ite a b c => "if" :: (a.wds ++ (b.wds ++ c.wds))
  | .lt x a b => "let" :: x :: (a.wds ++ b.wds)
  | .fn x a => "fun" :: x :: a.wds
  | .ct a x k b => "catch" :: (a.wds ++ (x :: k :: b.wds))
theorem Ex.wds_len (e : Ex) : e.wds.length + 2 ≤ 3 * e.size := by
  induction e <;> simp only [Ex.wds, Ex.size, List.length_cons, List.length_append, List.length_nil] <;> omega
theorem Ex.wds_pos (e : Ex) : 1 ≤ e.wds.length := by
  induction e <;> simp only [Ex.wds, List.length_cons, List.length_append, List.length_nil] <;> omega
/-- what stands behind a word -/
inductive Itm where
  | n (i : Int)
  | x (s : Str)
  | e (a : Ex)
def Ex.items : Ex → List Itm
  | .num n => [.n n]
  | .name x => [.x x]
  | .fault => []
  | .one _ a => [.e a]
  | .two _ a b => [.e a, .e b]
  | .ite a b c => [.e a, .e b, .e c]
  | .lt x a b => [.x x, .e a, .e b]
  | .fn x a => [.x x, .e a]
  | .ct a x k b => [.e a, .x x, .x k, .e b]
def Itm.wds : Itm → List Str
  | .n i => [numS i]
  | .x s => [s]
  | .e a => a.wds
def Itm.At (H : Hp) : Itm → V → Prop
  | .n i, v => v = .int i
  | .x s, v => v = .str s
  | .e a, v => AtE H v a
def Itm.isE : Itm → Bool
  | .e _ => true
  | _ => false
inductive ItL (H : Hp) : List V → List Itm → Prop where
  | nil : ItL H [] []
  | cons {v : V} {i : Itm} {vs : List V} {is : List Itm} : i.At H v → ItL H vs is → ItL H (v :: vs) (i :: is)
theorem Itm.At.tups {H H' : Hp} (s : ∀ t xs, H t = some (.tup xs) → H' t = some (.tup xs)) {i : Itm} {v : V} (h : i.At H v) : i.At H' v := by
  cases i with
  | n k => exact h
  | x k => exact h
  | e a => exact AtE.tups s h
theorem ItL.length {H : Hp} : ∀ {vs : List V} {is : List Itm}, ItL H vs is → vs.length = is.length
  | _, _, .nil => rfl
  | _, _, .cons _ t => congrArg (· + 1) t.length
theorem ItL.at_ {H : Hp} : ∀ {vs : List V} {is : List Itm} {j : Nat} {v : V}, ItL H vs is → vs[j]? = some v → ∃ i, is[j]? = some i ∧ i.At H v
  | _, _, 0, _, .cons h _, e => by cases e; exact ⟨_, rfl, h⟩
  | _, _, j + 1, _, .cons _ t, e => t.at_ (j := j) e
theorem AtE.items {H : Hp} {v : V} {e : Ex} (h : AtE H v e) : ∃ t xs, v = .ref t ∧ H t = some (.tup (.str e.word :: xs)) ∧ ItL H xs e.items := by
  cases e with
  | num n => obtain ⟨t, rfl, h⟩ := h; exact ⟨t, _, rfl, h, .cons rfl .nil⟩
  | name x => obtain ⟨t, rfl, h⟩ := h; exact ⟨t, _, rfl, h, .cons rfl .nil⟩
  | fault => obtain ⟨t, rfl, h⟩ := h; exact ⟨t, _, rfl, h, .nil⟩
  | one w a => obtain ⟨t, x, rfl, h, ha⟩ := h; exact ⟨t, _, rfl, h, .cons ha .nil⟩
  | two w a b => obtain ⟨t, x, y, rfl, h, ha, hb⟩ := h; exact ⟨t, _, rfl, h, .cons ha (.cons hb .nil)⟩
  | ite a b c => obtain ⟨t, x, y, z, rfl, h, ha, hb, hc⟩ := h; exact ⟨t, _, rfl, h, .cons ha (.cons hb (.cons hc .nil))⟩
  | lt n a b => obtain ⟨t, x, y, rfl, h, ha, hb⟩ := h; exact ⟨t, _, rfl, h, .cons rfl (.cons ha (.cons hb .nil))⟩
  | fn n a => obtain ⟨t, x, rfl, h, ha⟩ := h; exact ⟨t, _, rfl, h, .cons rfl (.cons ha .nil)⟩
  | ct a n k b => obtain ⟨t, x, y, rfl, h, ha, hb⟩ := h; exact ⟨t, _, rfl, h, .cons ha (.cons rfl (.cons rfl (.cons hb .nil)))⟩
theorem AtE.of_items {H : Hp} {t : Addr} {xs : List V} {e : Ex} (h : H t = some (.tup (.str e.word :: xs))) (l : ItL H xs e.items) : AtE H (.ref t) e := by
  cases e with
  | num n => cases l with | cons a l => cases l; cases a; exact ⟨t, rfl, h⟩
  | name n => cases l with | cons a l => cases l; cases a; exact ⟨t, rfl, h⟩
  | fault => cases l; exact ⟨t, rfl, h⟩
  | one w a => cases l with | cons a l => cases l; exact ⟨t, _, rfl, h, a⟩
  | two w a b => cases l with | cons a l => cases l with | cons b l => cases l; exact ⟨t, _, _, rfl, h, a, b⟩
  | ite a b c => cases l with | cons a l => cases l with | cons b l => cases l with | cons c l => cases l; exact ⟨t, _, _, _, rfl, h, a, b, c⟩
  | lt n a b => cases l with | cons z l => cases l with | cons a l => cases l with | cons b l => cases l; cases z; exact ⟨t, _, _, rfl, h, a, b⟩
  | fn n a => cases l with | cons z l => cases l with | cons a l => cases l; cases z; exact ⟨t, _, rfl, h, a⟩
  | ct a n k b => cases l with | cons a l => cases l with | cons z l => cases l with | cons y l => cases l with | cons b l => cases l; cases z; cases y; exact ⟨t, _, _, rfl, h, a, b⟩
def itmC : Itm → Nat
  | .n _ => 110
  | .x _ => 120
  | .e _ => 101
theorem Ex.shape_items (e : Ex) : e.shape.cps.toList = e.items.map itmC := by
  cases e with
  | num n => show ("n" : Str).cps.toList = [110]; decide +kernel
  | name n => show ("x" : Str).cps.toList = [120]; decide +kernel
  | fault => show ("" : Str).cps.toList = []; decide +kernel
  | one w a => show ("e" : Str).cps.toList = [101]; decide +kernel
  | two w a b => show ("ee" : Str).cps.toList = [101, 101]; decide +kernel
  | ite a b c => show ("eee" : Str).cps.toList = [101, 101, 101]; decide +kernel
  | lt n a b => show ("xee" : Str).cps.toList = [120, 101, 101]; decide +kernel
  | fn n a => show ("xe" : Str).cps.toList = [120, 101]; decide +kernel
  | ct a n k b => show ("exxe" : Str).cps.toList = [101, 120, 120, 101]; decide +kernel
theorem itmC_e (i : Itm) : ((⟨#[itmC i]⟩ : Str) = "e") ↔ i.isE = true := by
  cases i with
  | n i => show ((⟨#[110]⟩ : Str) = "e") ↔ false = true; constructor <;> intro h <;> revert h <;> decide +kernel
  | x i => show ((⟨#[120]⟩ : Str) = "e") ↔ false = true; constructor <;> intro h <;> revert h <;> decide +kernel
  | e i => exact ⟨fun _ => rfl, fun _ => by show (⟨#[101]⟩ : Str) = "e"; decide +kernel⟩
def Ex.lead (e : Ex) : List Str := if e.word ∈ (["num", "name"] : List Str) then [] else [e.word]
theorem word_lead {S : List Str} {e : Ex} (g : Good S e) : e.wds = e.lead ++ e.items.flatMap Itm.wds := by
  have h1 : ∀ w ∈ ones, w ∉ (["num", "name"] : List Str) := by decide +kernel
  have h2 : ∀ w ∈ twos, w ∉ (["num", "name"] : List Str) := by decide +kernel
  cases e with
  | num n => rfl
  | name x => rfl
  | fault => rfl
  | one w a =>
    show w :: a.wds = (if w ∈ (["num", "name"] : List Str) then [] else [w]) ++ (a.wds ++ [])
    rw [if_neg (h1 w g.1), List.append_nil]; rfl
  | two w a b =>
    show w :: (a.wds ++ b.wds) = (if w ∈ (["num", "name"] : List Str) then [] else [w]) ++ (a.wds ++ (b.wds ++ []))
    rw [if_neg (h2 w g.1), List.append_nil]; rfl
  | ite a b c => unfold Ex.lead; rw [if_neg (show (Ex.ite a b c).word ∉ (["num", "name"] : List Str) from (by decide +kernel : ("if" : Str) ∉ (["num", "name"] : List Str)))]; simp only [Ex.wds, Ex.items, Ex.word, List.flatMap_cons, List.flatMap_nil, Itm.wds, List.append_nil, List.cons_append, List.nil_append]
  | lt x a b => unfold Ex.lead; rw [if_neg (show (Ex.lt x a b).word ∉ (["num", "name"] : List Str) from (by decide +kernel : ("let" : Str) ∉ (["num", "name"] : List Str)))]; simp only [Ex.wds, Ex.items, Ex.word, List.flatMap_cons, List.flatMap_nil, Itm.wds, List.append_nil, List.cons_append, List.nil_append]
  | fn x a => unfold Ex.lead; rw [if_neg (show (Ex.fn x a).word ∉ (["num", "name"] : List Str) from (by decide +kernel : ("fun" : Str) ∉ (["num", "name"] : List Str)))]; simp only [Ex.wds, Ex.items, Ex.word, List.flatMap_cons, List.flatMap_nil, Itm.wds, List.append_nil, List.cons_append, List.nil_append]
  | ct a x k b => unfold Ex.lead; rw [if_neg (show (Ex.ct a x k b).word ∉ (["num", "name"] : List Str) from (by decide +kernel : ("catch" : Str) ∉ (["num", "name"] : List Str)))]; simp only [Ex.wds, Ex.items, Ex.word, List.flatMap_cons, List.flatMap_nil, Itm.wds, List.append_nil, List.cons_append, List.nil_append]
theorem items_kids (e : Ex) : ∀ a, Itm.e a ∈ e.items → a ∈ e.kids := by
  cases e <;> simp [Ex.items, Ex.kids]
theorem kid_good {S : List Str} {e : Ex} (g : Good S e) : ∀ a ∈ e.kids, ∃ S', Good S' a := by
  cases e with
  | num n => intro a h; cases h
  | name n => intro a h; cases h
  | fault => intro a h; cases h
  | one w x => intro a h; simp only [Ex.kids, List.mem_singleton] at h; rw [h]; exact ⟨_, g.2⟩
  | two w x y => intro a h; simp only [Ex.kids, List.mem_cons, List.not_mem_nil, or_false] at h; rcases h with rfl | rfl; exact ⟨_, g.2.1⟩; exact ⟨_, g.2.2⟩
  | ite x y z => intro a h; simp only [Ex.kids, List.mem_cons, List.not_mem_nil, or_false] at h; rcases h with rfl | rfl | rfl; exact ⟨_, g.1⟩; exact ⟨_, g.2.1⟩; exact ⟨_, g.2.2⟩
  | lt n x y => intro a h; simp only [Ex.kids, List.mem_cons, List.not_mem_nil, or_false] at h; rcases h with rfl | rfl; exact ⟨_, g.2.1⟩; exact ⟨_, g.2.2⟩
  | fn n x => intro a h; simp only [Ex.kids, List.mem_singleton] at h; rw [h]; exact ⟨_, g.2⟩
  | ct x n k y => intro a h; simp only [Ex.kids, List.mem_cons, List.not_mem_nil, or_false] at h; rcases h with rfl | rfl; exact ⟨_, g.2.2.2.1⟩; exact ⟨_, g.2.2.2.2⟩
theorem kid_sz {e a : Ex} (h : a ∈ e.kids) : a.size < e.size := by
  cases e <;> simp only [Ex.kids, List.mem_cons, List.not_mem_nil, or_false] at h <;> simp only [Ex.size] <;> first | (cases h; done) | (rcases h with rfl | rfl | rfl <;> omega) | (rcases h with rfl | rfl <;> omega) | (rw [h]; omega)
theorem items_num {S : List Str} {e : Ex} (g : Good S e) : ∀ n, Itm.n n ∈ e.items → -1000000 ≤ n ∧ n ≤ 1000000 := by
  cases e with
  | num n => intro k h; simp only [Ex.items, List.mem_singleton, Itm.n.injEq] at h; rw [h]; exact g
  | _ => intro k h; simp [Ex.items] at h
theorem log2_lt {n k : Nat} (h : n < 2 ^ k) (hk : 0 < k) : n.log2 < k := by
  by_cases z : n = 0
  · rw [z]; exact hk
  · exact (Nat.log2_lt z).mpr h
theorem num_log {n : Int} (h : -1000000 ≤ n ∧ n ≤ 1000000) : n.natAbs.log2 < 1920 :=
  Nat.lt_trans (log2_lt (k := 20) (by omega) (by decide)) (by decide)
/-- the walk of zip of a text and a tuple -/
theorem walk_zipS {K : PySem.W.Frag} {x : Str} {b : Addr} {ys : List V} (hl : x.cps.size = ys.length) : Walk (ItzS K x b ys.length) ys.length (fun H => SqT K H b ys)
    (fun i H v H' => ∃ (T : Addr) (c : Nat) (y : V), v = .ref T ∧ H T = none ∧ H' = upd H T (.tup [.str ⟨#[c]⟩, y]) ∧ x.cps[i]? = some c ∧ ys[i]? = some y) where
  goes := fun i H hi q => ⟨ys, x.cps[i]'(by omega), ys[i], q, rfl, Array.getElem?_eq_getElem (by omega), List.getElem?_eq_getElem hi⟩
  stops := fun H q => ⟨ys, q, rfl, .inr (Nat.le_refl _)⟩
  yields := fun i H v H' hi q ⟨T, c, y, e1, e2, e3, e4, e5⟩ => ⟨T, c, y, e1, e2, e3, e4, e5 ys q⟩
end Wr
namespace Wr
open PySem PySem.Spec PyProof.Rows L2
theorem Same.putNew {H0 H : Hp} {l : Addr} (s : Same H0 H) (n : H0 l = none) (o : HO) : Same H0 (upd H l o) := fun b u hb => by
  rw [upd_ne (fun z => by rw [z, n] at hb; cases hb)]
  exact s _ _ hb
section
variable {P : Program} {w : World} {K : PySem.W.Frag} {mg : Str → Option Value} {base : Heap}
def leaveW : List Str := ["num", "name"]
def spWords (n : Nat) : Sp := fun vs H Q _ => ∃ (v : V) (e : Ex) (S : List Str), vs = [v] ∧ AtE H v e ∧ Good S e ∧ e.deep ≤ n ∧ e.size ≤ 200 ∧ ∀ (l : Addr) (H' : Hp), Same H H' → H l = none → H' l = some (.lst (e.wds.map V.str)) → Q (.ref l) H'
theorem scWords : FnScope ["expression", "word", "words", "place", "held"] ["expression"] (defScope s_words_of) := ⟨rfl, rfl, rfl, by decide +kernel, rfl, by decide +kernel, by decide +kernel⟩
theorem ok_words {sa la : Addr} (n : Nat) (F : Df K mg "words_of" s_words_of) (hSh : ShapesAt K w sa) (hmg : mg "SHAPES" = some (.ref sa)) (mL : mg "AS_THEY_ARE" = some (.ref la)) (hL : TupK K la (leaveW.map V.str)) (zip : mg "zip" = none) (st : mg "str" = none)
    (U : Use P w K mg base "words_of" ["expression"] (n + 1) (spWords n)) : Use P w K mg base "words_of" ["expression"] (n + 2) (spWords (n + 1)) := by
  refine F.use scWords (fun _ _ _ _ _ _ us hl => match us, hl with | [_], _ => rfl) (fun vs H Q E h => ?_) (fun cdv f A outer s H vs Q E hr h => ?_)
  · obtain ⟨v, e, S, rfl, _⟩ := h
    rfl
  · obtain ⟨v, e, S, rfl, hv, hg, hd, hs, q⟩ := h
    obtain ⟨t, xs, rfl, ht, hit⟩ := hv.items
    refine ⟨_, pss_cons (ps_set (i := 1) scWords.nd rfl (Or.inl rfl) (pe_ix ix_tup (pv 0) pe_int (fun _ _ => rfl)))
      (pss_cons (ps_set (i := 2) scWords.nd rfl (Or.inl rfl) (pe_ifExp (pt_cmpR (r := rIn K false) op_in_seq (pv 1) (pe_glob (v := .ref la) (by rfl) mL rfl) rfl) (pe_lst pa_nil) (pe_lst (pa_cons (pv 1) pa_nil))))
      (pss_cons (ps_for PassesOwn.never rfl (pi_zipS (by rfl) zip (pa_cons (pe_ix ix_kdict (pe_glob (v := .ref sa) (by rfl) hmg rfl) (pv 1) (fun _ _ => rfl)) (pa_cons (pe_slice sl_tup (pv 0) (po_some pe_int) po_none) pa_nil)))
          (pg_tup rfl (pgs_cons (pg_name (i := 3) scWords.nd rfl (Or.inl rfl)) (pgs_cons (pg_name (i := 4) scWords.nd rfl (Or.inl rfl)) pgs_nil)))
          (pss_one (ps_if (pt_cmpR op_eq (pv 3) pe_str (nomark _))
            (pss_one (ps_expr (pe_bm PySem.F.plainAttrs_list PySem.F.slot_list_extend PySem.F.type_list_extend mt_extend (pv 2) (pa_cons (pe_use U hr (pa_cons (pv 4) pa_nil)) pa_nil))))
            (pss_one (ps_expr (pe_bm PySem.F.plainAttrs_list PySem.F.slot_list_append PySem.F.type_list_append mt_append (pv 2) (pa_cons (pe_callTy (CallR.or call_str_int SkE.call_str_str) (by rfl) st (by decide +kernel) (pa_cons (pv 4) pa_nil)) pa_nil)))))))
      (pss_one (ps_ret (pv 2))))), ?_⟩
    refine ⟨_, rfl, t, _, _, .str e.word, rfl, rfl, SqT.of ht, atI_nat (j := 0) rfl, ?_⟩
    have flat : (leaveW.map V.str).all flatV = true := flat_strs leaveW
    have lead : ∀ Q : VK, (∀ D, H D = none → Q (.ref D) (upd H D (.lst (e.lead.map V.str)))) → tIf (tTest (tOp (rIn K false) (tVar 1) (tC (.ref la)))) (tLst tNil) (tLst (tCons (tVar 1) tNil)) [some (.ref t), some (.str e.word), none, none, none] H Q := fun Q h => by
      refine ⟨_, rfl, la, _, rfl, .inr (hL.seq _), rfl, flat, _, rfl, ?_⟩
      rw [inV_str]
      by_cases hw : e.word ∈ leaveW
      · rw [decide_eq_true hw]
        have el : e.lead = [] := if_pos hw
        rw [el] at h
        exact iteT ⟨by show 0 ≤ sizeLine; decide, h⟩
      · rw [decide_eq_false hw]
        have el : e.lead = [e.word] := if_neg hw
        rw [el] at h
        exact iteF ⟨_, rfl, by show 1 ≤ sizeLine; decide, h⟩
    refine lead _ fun D nD => ?_
    have sD := Same.new nD (.lst (e.lead.map V.str))
    refine ⟨_, rfl, sa, e.word, .str e.shape, rfl, rfl, hSh S e hg, _, rfl, 1, rfl, t, _, rfl, SqT.of (sD _ _ ht), cut1_no _ _ _, fun p2 np2 => ?_⟩
    rw [cut1]
    have sm1 := sD.trans (Same.new np2 (.tup xs))
    have hp2 : upd (upd H D (.lst (e.lead.map V.str))) p2 (.tup xs) p2 = some (.tup xs) := upd_same
    have hD1 : upd (upd H D (.lst (e.lead.map V.str))) p2 (.tup xs) D = some (.lst (e.lead.map V.str)) := by rw [upd_ne (ne_of_none upd_same np2)]; exact upd_same
    generalize upd (upd H D (.lst (e.lead.map V.str))) p2 (.tup xs) = H1 at sm1 hp2 hD1 ⊢
    have hsz := shape_len hv ht
    have hlen := hit.length
    have hwl := word_lead hg
    have hwn := e.wds_len
    have h600 : (600 : Nat) < sizeLine := by decide
    have pre_len : ∀ i, (e.lead ++ (e.items.take i).flatMap Itm.wds).length ≤ 600 := fun i => by
      have h1 : (e.lead ++ e.items.flatMap Itm.wds).length ≤ 600 := by rw [← hwl]; omega
      have h2 : e.items.flatMap Itm.wds = (e.items.take i).flatMap Itm.wds ++ (e.items.drop i).flatMap Itm.wds := by rw [← List.flatMap_append, List.take_append_drop]
      rw [h2] at h1
      simp only [List.length_append] at h1 ⊢
      omega
    refine ⟨e.shape, p2, xs, rfl, SqT.of hp2, ?_⟩
    refine for_it (walk_zipS (K := K) hsz) (fun i σ H2 => ∃ s3 s4, σ = [some (.ref t), some (.str e.word), some (.ref D), s3, s4] ∧ (∀ b o, H1 b = some o → b ≠ D → H2 b = some o) ∧ H2 D = some (.lst ((e.lead ++ (e.items.take i).flatMap Itm.wds).map V.str)))
      ⟨none, none, rfl, fun b o h _ => h, by rw [List.take_zero, List.flatMap_nil, List.append_nil]; exact hD1⟩ (fun i σ H2 _ ⟨_, _, _, k, _⟩ => SqT.of (k _ _ hp2 (fun e => by rw [e, hD1] at hp2; cases hp2))) ?_ ?_
    · rintro i v σ H2 H2' hi ⟨s3, s4, rfl, k2, hD2⟩ ⟨T, c, y, rfl, nT, rfl, hc, hy⟩
      obtain ⟨it, hii, hat⟩ := hit.at_ hy
      have hc' : c = itmC it := by
        have h := e.shape_items
        have h2 : e.shape.cps.toList[i]? = some c := by rw [Array.getElem?_toList]; exact hc
        rw [h, List.getElem?_map, hii] at h2
        exact (Option.some.inj h2).symm
      have sT := Same.new nT (.tup [.str ⟨#[c]⟩, y])
      have hsn : (e.items.take (i + 1)).flatMap Itm.wds = (e.items.take i).flatMap Itm.wds ++ it.wds := by
        rw [take_snoc hii, List.flatMap_append, List.flatMap_cons, List.flatMap_nil, List.append_nil]
      have hpl := pre_len (i + 1)
      rw [hsn, ← List.append_assoc, List.length_append] at hpl
      have tupk : ∀ t xs, H t = some (.tup xs) → upd H2 T (.tup [.str ⟨#[c]⟩, y]) t = some (.tup xs) := fun t xs h => sT _ _ (k2 _ _ (sm1 _ _ h) (fun e => by
        have h' := sm1 _ _ h
        rw [e, hD1] at h'; cases h'))
      have hat2 : it.At (upd H2 T (.tup [.str ⟨#[c]⟩, y])) y := hat.tups tupk
      have hD3 := sT _ _ hD2
      refine ⟨T, _, rfl, SqT.of upd_same, rfl, _, _, rfl, _, _, rfl, rfl, ?_⟩
      refine ⟨_, rfl, rfl, _, rfl, ?_⟩
      have keep : ∀ H3 o, (∀ b o, upd H2 T (.tup [.str ⟨#[c]⟩, y]) b = some o → H3 b = some o) → ∀ b o', H1 b = some o' → b ≠ D → upd H3 D o b = some o' := fun H3 o h b o' hb ne => by
        rw [upd_ne ne]; exact h _ _ (sT _ _ (k2 _ _ hb ne))
      refine ite2 (fun h => ?_) (fun h => ?_)
      · have hE : it.isE = true := (itmC_e it).mp (by rw [← hc']; exact V.str.inj (of_decide_eq_true h))
        cases it with
        | e a =>
          have hka := items_kids e a (List.mem_of_getElem? hii)
          have hda := kid_deep hka
          have hsa := kid_sz hka
          obtain ⟨S', ga⟩ := kid_good hg a hka
          refine ⟨_, rfl, .inl ⟨rfl, _, SqL.of hD3⟩, ?_⟩
          refine ⟨_, rfl, y, a, S', rfl, hat2, ga, by omega, by omega, fun l H3 s3' nl hl => ?_⟩
          refine ⟨D, l, _, _, rfl, rfl, s3' _ _ hD3, hl, by rw [List.length_map, List.length_map]; have hz : (Itm.e a).wds.length = a.wds.length := rfl; omega, ?_⟩
          refine ⟨_, _, rfl, keep H3 _ s3', ?_⟩
          rw [upd_same, hsn, ← List.append_assoc]; simp only [List.map_append, Itm.wds, List.map_cons, List.map_nil]
        | _ => cases hE
      · have hE : ¬ it.isE = true := fun z => h (decide_eq_true (congrArg V.str (by rw [hc']; exact (itmC_e it).mpr z)))
        have app : ∀ z : Str, it.wds = [z] → ∃ s3 s4, [some (.ref t), some (.str e.word), some (.ref D), some (.str ⟨#[c]⟩), some y] = [some (V.ref t), some (.str e.word), some (.ref D), s3, s4] ∧
            (∀ b o, H1 b = some o → b ≠ D → upd (upd H2 T (.tup [.str ⟨#[c]⟩, y])) D (.lst ((e.lead ++ (e.items.take i).flatMap Itm.wds).map V.str ++ [.str z])) b = some o) ∧
            upd (upd H2 T (.tup [.str ⟨#[c]⟩, y])) D (.lst ((e.lead ++ (e.items.take i).flatMap Itm.wds).map V.str ++ [.str z])) D = some (.lst ((e.lead ++ (e.items.take (i + 1)).flatMap Itm.wds).map V.str)) := fun z hz => by
          refine ⟨_, _, rfl, keep _ _ (fun _ _ h => h), ?_⟩
          rw [upd_same, hsn, hz, ← List.append_assoc]; simp only [List.map_append, List.map_cons, List.map_nil]
        have l1 : ∀ z : Str, it.wds = [z] → ((e.lead ++ (e.items.take i).flatMap Itm.wds).map V.str).length < sizeLine := fun z hz => by
          rw [List.length_map]; rw [hz, List.length_singleton] at hpl; omega
        refine ⟨_, rfl, .inl ⟨rfl, _, SqL.of hD3⟩, ?_⟩
        cases it with
        | e a => exact absurd rfl hE
        | n k =>
          have hy2 : y = .int k := hat
          subst hy2
          exact ⟨_, rfl, .inl ⟨k, rfl, num_log (items_num hg k (List.mem_of_getElem? hii)), D, _, _, rfl, rfl, hD3, l1 _ rfl, app _ rfl⟩⟩
        | x z =>
          have hy2 : y = .str z := hat
          subst hy2
          exact ⟨_, rfl, .inr ⟨z, rfl, D, _, _, rfl, rfl, hD3, l1 _ rfl, app _ rfl⟩⟩
    · rintro σ H2 ⟨s3, s4, rfl, k2, hD2⟩
      rw [hlen, List.take_of_length_le (Nat.le_refl _), ← hwl] at hD2
      refine ⟨_, rfl, q D H2 (fun b o h => k2 _ _ (sm1 _ _ h) (ne_of_none h nD)) nD hD2⟩
end
end Wr
namespace Wr
open PySem PySem.Spec PyProof.Rows L2 TL
/-! ### numbers as texts -/
theorem numS_nat (m : Nat) : (numS (m : Int)).cps.toList = numL m := tl_num m
theorem numS_neg (m : Nat) : (numS (Int.negSucc m)).cps.toList = 45 :: numL (m + 1) := by
  have e : numS (Int.negSucc m) = Str.ofString ("-" ++ toString (m + 1)) := rfl
  rw [e, PyProof.Rows.signs_ofString, String.toList_append, List.map_append]
  have h := tl_num (m + 1)
  rw [tl_ofString] at h
  have h2 : (toString ((m + 1 : Nat) : Int)).toList.map Char.toNat = numL (m + 1) := h
  have h3 : (toString (m + 1)).toList.map Char.toNat = numL (m + 1) := h2
  rw [h3]
  rfl
theorem subAt0 {x : Str} {c : Nat} : Builtin.Str.subAt x ⟨#[c]⟩ 0 = true ↔ x.cps.toList.take 1 = [c] := by
  unfold Builtin.Str.subAt
  rw [beq_iff_eq, ← Array.toList_inj, Array.toList_extract]
  show List.extract x.cps.toList 0 1 = [c] ↔ _
  rw [List.extract_eq_take_drop]
  exact Iff.rfl
theorem minus : (Str.ofString "-") = (⟨#[45]⟩ : Str) := by decide +kernel
theorem sub_neg {x : Str} {cs : List Nat} (h : x.cps.toList = 45 :: cs) : (Txt.removeprefix x "-").cps.toList = cs := by
  have hl : x.length = cs.length + 1 := by rw [len_tl, show tl x = 45 :: cs from h]; rfl
  rw [minus, StrLaws.removeprefix_eq, if_pos]
  · show (x.cps.toList.drop 1).take (x.length - 1) = cs
    rw [h, hl]
    show cs.take (cs.length + 1 - 1) = cs
    exact List.take_of_length_le (by omega)
  · have h1 : (⟨#[45]⟩ : Str).length = 1 := rfl
    rw [h1, subAt0.mpr (by rw [h]; rfl), Bool.and_true]
    exact decide_eq_true (by omega)
theorem sub_pos {x : Str} (h : ∀ c cs, x.cps.toList = c :: cs → c ≠ 45) : Txt.removeprefix x "-" = x := by
  rw [minus, StrLaws.removeprefix_eq, if_neg]
  intro q
  rw [Bool.and_eq_true] at q
  have := subAt0.mp q.2
  cases e : x.cps.toList with
  | nil => rw [e] at this; cases this
  | cons c cs => rw [e] at this; cases this; exact h _ _ e rfl
/-- the figures of a number -/
theorem fig_num (n : Int) : (Txt.removeprefix (numS n) "-").cps.toList = numL n.natAbs := by
  cases n with
  | ofNat m =>
    rw [sub_pos fun c cs h => ?_]
    · exact numS_nat m
    · intro e
      have := numS_nat m
      have hm : c ∈ numL m := by rw [← this]; show c ∈ (numS (m : Int)).cps.toList; rw [show (numS (m : Int)).cps.toList = c :: cs from h]; exact List.mem_cons_self
      rw [e] at hm
      exact numL_free (.inl (by decide)) hm
  | negSucc m => exact sub_neg (numS_neg m)
/-- the last figure but the first isn't nought -/
theorem numL_head : ∀ {m : Nat}, 0 < m → ∃ c cs, numL m = c :: cs ∧ c ≠ 48 := by
  intro m
  induction m using Nat.strongRecOn with
  | _ n ih =>
    intro h
    by_cases q : n < 10
    · exact ⟨48 + n, [], numL_lt q, by omega⟩
    · obtain ⟨c, cs, e, hc⟩ := ih (n / 10) (by omega) (by omega)
      exact ⟨c, cs ++ [48 + n % 10], by rw [numL_step (by omega), e]; rfl, hc⟩
theorem numS_zero : numS 0 = "0" := by decide +kernel
/-- int(str(n)) -/
theorem numS_back {n : Int} (h : -1000000 ≤ n ∧ n ≤ 1000000) : PySem.intText? (numS n) = some n := by
  have hl : ∀ m, m ≤ 1000000 → (numL m).length ≤ 7 := fun m h => numL_len (by decide) (by omega)
  cases n with
  | ofNat m => exact int_num (by have h2 : (m : Int) ≤ 1000000 := h.2; have := hl m (by omega); omega)
  | negSucc m =>
    have e := numS_neg m
    have l := hl (m + 1) (by omega)
    have r := intText_neg (x := numS (Int.negSucc m)) e (numL_digits _) (numL_ne _) (by rw [len_tl, show tl _ = _ from e]; simp only [List.length_cons]; omega)
    rw [numL_val] at r
    rw [r]; rfl
theorem numS_len {n : Int} (h : -1000000 ≤ n ∧ n ≤ 1000000) : (numS n).length ≤ 8 := by
  have hl : ∀ m, m ≤ 1000000 → (numL m).length ≤ 7 := fun m h => numL_len (by decide) (by omega)
  rw [len_tl]
  cases n with
  | ofNat m => rw [show tl (numS (Int.ofNat m)) = numL m from numS_nat m]; have h2 : (m : Int) ≤ 1000000 := h.2; have := hl m (by omega); omega
  | negSucc m => rw [show tl (numS (Int.negSucc m)) = 45 :: numL (m + 1) from numS_neg m]; have := hl (m + 1) (by omega); simp only [List.length_cons]; omega
theorem numS_free (n : Int) : 32 ∉ tl (numS n) := PyProof.Rows.int_text_free' 32 ⟨by decide, by decide⟩ n
/-! ### each word -/
theorem wds_word {S : List Str} {e : Ex} (hS : ∀ x ∈ S, x ∈ letters) (g : Good S e) : ∀ z ∈ e.wds, z.length ≤ 8 ∧ 32 ∉ tl z := by
  have l1 : ∀ z ∈ letters, z.length ≤ 8 ∧ 32 ∉ tl z := by decide +kernel
  have l2 : ∀ z ∈ ones, z.length ≤ 8 ∧ 32 ∉ tl z := by decide +kernel
  have l3 : ∀ z ∈ twos, z.length ≤ 8 ∧ 32 ∉ tl z := by decide +kernel
  have l4 : ∀ z ∈ (["fault", "if", "let", "fun", "catch"] : List Str), z.length ≤ 8 ∧ 32 ∉ tl z := by decide +kernel
  have ext : ∀ {S : List Str} {x : Str}, (∀ x ∈ S, x ∈ letters) → x ∈ letters → ∀ y ∈ x :: S, y ∈ letters := fun h hx y hy => by
    rcases List.mem_cons.mp hy with rfl | hy
    · exact hx
    · exact h y hy
  induction e generalizing S with
  | num n => intro z h; rw [List.mem_singleton.mp h]; exact ⟨numS_len g, numS_free n⟩
  | name x => intro z h; rw [List.mem_singleton.mp h]; exact l1 x (hS x g)
  | fault => intro z h; rw [List.mem_singleton.mp h]; exact l4 _ (by simp)
  | one w a ia =>
    intro z h
    rcases List.mem_cons.mp h with rfl | h
    · exact l2 _ g.1
    · exact ia hS g.2 z h
  | two w a b ia ib =>
    intro z h
    rcases List.mem_cons.mp h with rfl | h
    · exact l3 _ g.1
    · rcases List.mem_append.mp h with h | h
      · exact ia hS g.2.1 z h
      · exact ib hS g.2.2 z h
  | ite a b c ia ib ic =>
    intro z h
    rcases List.mem_cons.mp h with rfl | h
    · exact l4 _ (by simp)
    · rcases List.mem_append.mp h with h | h
      · exact ia hS g.1 z h
      · rcases List.mem_append.mp h with h | h
        · exact ib hS g.2.1 z h
        · exact ic hS g.2.2 z h
  | lt x a b ia ib =>
    intro z h
    rcases List.mem_cons.mp h with rfl | h
    · exact l4 _ (by simp)
    · rcases List.mem_cons.mp h with rfl | h
      · exact l1 _ g.1
      · rcases List.mem_append.mp h with h | h
        · exact ia hS g.2.1 z h
        · exact ib (ext hS g.1) g.2.2 z h
  | fn x a ia =>
    intro z h
    rcases List.mem_cons.mp h with rfl | h
    · exact l4 _ (by simp)
    · rcases List.mem_cons.mp h with rfl | h
      · exact l1 _ g.1
      · exact ia (ext hS g.1) g.2 z h
  | ct a x k b ia ib =>
    intro z h
    rcases List.mem_cons.mp h with rfl | h
    · exact l4 _ (by simp)
    · rcases List.mem_append.mp h with h | h
      · exact ia hS g.2.2.2.1 z h
      · rcases List.mem_cons.mp h with rfl | h
        · exact l1 _ g.1
        · rcases List.mem_cons.mp h with rfl | h
          · exact l1 _ g.2.1
          · exact ib (ext (ext hS g.2.1) g.1) g.2.2.2.2 z h
theorem sum_le {l : List Nat} {k : Nat} (h : ∀ x ∈ l, x ≤ k) : l.sum ≤ l.length * k := by
  induction l with
  | nil => simp
  | cons a r ih =>
    have h1 := h a List.mem_cons_self
    have h2 := ih fun x hx => h x (List.mem_cons_of_mem _ hx)
    rw [List.sum_cons, List.length_cons, Nat.succ_mul]
    omega
/-- the text of a program -/
def Ex.text (e : Ex) : Str := Txt.join " " e.wds
theorem text_split {S : List Str} {e : Ex} (hS : ∀ x ∈ S, x ∈ letters) (g : Good S e) : Txt.split e.text " " = e.wds :=
  split_join (y := " ") (s := 32) (S := []) (by decide +kernel) (by decide +kernel) (fun h => by have := e.wds_pos; rw [h] at this; exact absurd this (by decide)) fun p hp => (wds_word hS g p hp).2
end Wr
namespace Wr
open PySem PySem.Spec PyProof.Rows L2 TL
def figsOf (x : Str) : Str := Txt.removeprefix x "-"
def figS : Str := "0123456789"
def isNum (x : Str) : Bool := if (figsOf x).length = 0 ∨ 7 < (figsOf x).length then false else if (figsOf x).cps.toList.all (fun c => decide (c ∈ figS.cps.toList)) = true then decide (x = "0") || !decide ((figsOf x).cps.toList.head? = some 48) else false
theorem isNum_num {n : Int} (h : -1000000 ≤ n ∧ n ≤ 1000000) : isNum (numS n) = true := by
  have e := fig_num n
  have l := numL_len (n := n.natAbs) (k := 7) (by decide) (by omega)
  have lf : (figsOf (numS n)).length = (numL n.natAbs).length := by rw [len_tl]; exact congrArg List.length e
  have ne := numL_ne n.natAbs
  have l0 : (numL n.natAbs).length ≠ 0 := fun z => ne (List.length_eq_zero_iff.mp z)
  unfold isNum
  rw [if_neg (by rw [lf]; omega), if_pos]
  · by_cases z : n = 0
    · rw [z, decide_eq_true numS_zero]; rfl
    · obtain ⟨c, cs, hc, h48⟩ := numL_head (m := n.natAbs) (by omega)
      have e2 : (figsOf (numS n)).cps.toList = c :: cs := e.trans hc
      rw [e2]
      have : decide ((c :: cs).head? = some 48) = false := decide_eq_false (fun q => h48 (Option.some.inj q))
      rw [this, Bool.or_eq_true]; exact .inr rfl
  · rw [List.all_eq_true]
    intro c hc
    have hc : c ∈ (figsOf (numS n)).cps.toList := hc
    rw [show (figsOf (numS n)).cps.toList = numL n.natAbs from e] at hc
    have r := numL_digits _ c hc
    have ef : figS.cps.toList = [48, 49, 50, 51, 52, 53, 54, 55, 56, 57] := by decide +kernel
    rw [ef]
    refine decide_eq_true ?_
    have : c = 48 ∨ c = 49 ∨ c = 50 ∨ c = 51 ∨ c = 52 ∨ c = 53 ∨ c = 54 ∨ c = 55 ∨ c = 56 ∨ c = 57 := by omega
    simp only [List.mem_cons, List.not_mem_nil, or_false]
    exact this
def allW : List Str := (["fault", "if", "let", "fun", "catch"] : List Str) ++ ones ++ twos
theorem isNum_word : ∀ z ∈ allW, isNum z = false := by decide +kernel
section
variable {P : Program} {w : World} {K : PySem.W.Frag} {mg : Str → Option Value} {base : Heap}
theorem words_all {sa la : Addr} (F : Df K mg "words_of" s_words_of) (hSh : ShapesAt K w sa) (hmg : mg "SHAPES" = some (.ref sa)) (mL : mg "AS_THEY_ARE" = some (.ref la)) (hL : TupK K la (leaveW.map V.str)) (zip : mg "zip" = none) (st : mg "str" = none) :
    ∀ n : Nat, Use P w K mg base "words_of" ["expression"] (n + 1) (spWords n)
  | 0 => use_no F (fun _ _ _ _ _ _ us hl => match us, hl with | [_], _ => rfl) 1 fun vs H Q E ⟨v, e, _, _, _, _, hd, _⟩ => by have := e.deep_pos; omega
  | n + 1 => ok_words n F hSh hmg mL hL zip st (words_all F hSh hmg mL hL zip st n)
def spWritten : Sp := fun vs H Q _ => ∃ (v : V) (e : Ex), vs = [v] ∧ AtE H v e ∧ Good [] e ∧ e.deep ≤ 41 ∧ e.size ≤ 200 ∧ ∀ (H' : Hp), Same H H' → Q (.str e.text) H'
theorem scWritten : FnScope ["program"] ["program"] (defScope s_written) := ⟨rfl, rfl, rfl, by decide +kernel, rfl, by decide +kernel, by decide +kernel⟩
theorem ok_written {TC PC : Addr} (F : Df K mg "written" s_written) (U_tree : Use P w K mg base "tree_of" ["program"] 88 (spTree TC PC)) (U_words : Use P w K mg base "words_of" ["expression"] 42 (spWords 41)) : Use P w K mg base "written" ["program"] 89 spWritten := by
  refine F.use scWritten (fun _ _ _ _ _ _ us hl => match us, hl with | [_], _ => rfl) (fun vs H Q E h => ?_) (fun cdv f A outer s H vs Q E hr h => ?_)
  · obtain ⟨v, e, rfl, _⟩ := h
    rfl
  · obtain ⟨v, e, rfl, hv, hg, hd, hz, q⟩ := h
    have hr42 : Room 42 _ := hr.mono (by decide)
    refine ⟨_, pss_cons (ps_expr (pe_use U_tree hr (pa_cons (pv 0) pa_nil))) (pss_one (ps_ret (pe_join pe_str (pe_use U_words hr42 (pa_cons (pv 0) pa_nil))))), ?_⟩
    refine ⟨_, rfl, v, e, rfl, hv, hg, hd, hz, fun p H1 sm1 _ => ?_⟩
    refine ⟨⟨_, rfl⟩, _, rfl, v, e, [], rfl, hv.same sm1, hg, hd, hz, fun l H2 sm2 nl hl => ?_⟩
    refine ⟨" ", l, e.wds, rfl, rfl, .inl (SqL.of hl), ?_, q H2 (sm1.trans sm2)⟩
    have h1 := sum_le (l := e.wds.map (·.length)) (k := 8) fun x hx => by
      obtain ⟨z, hz, rfl⟩ := List.mem_map.mp hx
      exact (wds_word (by simp) hg z hz).1
    rw [List.length_map] at h1
    have h2 := e.wds_len
    have h3 : ((" " : Str)).length = 1 := by decide +kernel
    rw [h3]
    omega
def spIsNum : Sp := fun vs H Q _ => ∃ x : Str, vs = [.str x] ∧ x.length ≤ 20000 ∧ ∀ H', Same H H' → Q (.bl (isNum x)) H'
theorem scIsNum : FnScope ["word", "figures", "sign"] ["word"] (defScope s_is_number) := ⟨rfl, rfl, rfl, by decide +kernel, rfl, by decide +kernel, by decide +kernel⟩
theorem ok_isnum (F : Df K mg "is_number" s_is_number) (len : mg "len" = none) (all' : mg "all" = none) (mF : ∃ t, mg "FIGURES" = some (.str figS t)) (mM : GInt mg "MOST_FIGURES" 7) : Use P w K mg base "is_number" ["word"] 1 spIsNum := by
  refine F.use scIsNum (fun _ _ _ _ _ _ us hl => match us, hl with | [_], _ => rfl) (fun vs H Q E h => ?_) (fun cdv f A outer s H vs Q E hr h => ?_)
  · obtain ⟨x, rfl, _⟩ := h
    rfl
  · obtain ⟨x, rfl, hx, q⟩ := h
    obtain ⟨tF, mF⟩ := mF
    obtain ⟨tM, mM⟩ := mM
    refine ⟨_, pss_cons (ps_set (i := 1) scIsNum.nd rfl (Or.inl rfl) (pe_m1 PySem.F.slot_str_removeprefix PySem.F.type_str_removeprefix mt_removeprefix (pv 0) pe_str))
      (pss_cons (ps_if (PW.pt (pw_or (pt_cmpR op_eq (pe_callB call_len_str (by rfl) len PySem.boot_len (pa_cons (pv 1) pa_nil)) pe_int (nomark _)) (pw_or1 (pt_cmpR op_gt (pe_callB call_len_str (by rfl) len PySem.boot_len (pa_cons (pv 1) pa_nil)) (pe_glob (v := .int 7) (by rfl) mM ⟨_, rfl⟩) (nomark _))))) (pss_one (ps_ret pe_bl)) pss_nil)
      (pss_cons (ps_if (pt_not (pt_val (pe_callB (cr_all rfl) (by rfl) all' (by decide +kernel) (pa_cons
        (pe_lc (own := [("sign", 2)]) (g := gName 2) (tt := tYes) (by rfl) scIsNum.nd (pi_str (pv 1)) (blkOk_by (own := [("sign", 2)]) (N := ["word", "figures", "sign"]) (sc := defScope s_is_number) (by decide +kernel))
          (fun _ _ _ _ _ => pg_name (i := 2) scIsNum.nd rfl (Or.inl rfl)) (fun _ _ _ _ _ => pts_nil) (fun _ _ _ _ _ => pe_cmpR op_in_sign (pv 2) (pe_glob (v := .str figS) (by rfl) mF ⟨_, rfl⟩) rfl)) pa_nil)))) (pss_one (ps_ret pe_bl)) pss_nil)
      (pss_one (ps_ret (pe_or (pe_cmpR op_eq (pv 0) pe_str (nomark _)) (pe_one (pe_cmpR op_ne (pe_ix ix_str (pv 1) pe_int (fun _ _ => rfl)) pe_str (nomark _)))))))), ?_⟩
    have hk : (20000 : Nat) < sizeLine := by decide
    have hfl : (figsOf x).length ≤ 20000 := by
      unfold figsOf
      rw [StrLaws.removeprefix_eq]
      split
      · rw [len_tl]
        show ((x.cps.toList.drop _).take _).length ≤ 20000
        rw [List.length_take, List.length_drop]
        have : x.length = x.cps.toList.length := len_tl x
        omega
      · exact hx
    refine ⟨_, rfl, ⟨_, rfl⟩, x, "-", rfl, rfl, by omega, ?_⟩
    refine ⟨_, rfl, figsOf x, rfl, by omega, rfl, _, rfl, ?_⟩
    by_cases h0 : (figsOf x).length = 0
    · have e : isNum x = false := if_pos (.inl h0)
      rw [e] at q
      exact ite2 (fun _ => iteT (q H (Same.refl _))) (fun h => absurd (decide_eq_true (by rw [h0]; rfl)) h)
    refine ite2 (fun h => absurd (by have := V.int.inj (of_decide_eq_true h); omega) h0) (fun _ => ?_)
    refine ⟨_, rfl, figsOf x, rfl, by omega, _, _, rfl, rfl, _, rfl, ?_⟩
    by_cases h7 : 7 < (figsOf x).length
    · have e : isNum x = false := if_pos (.inr h7)
      rw [e] at q
      exact ite2 (fun _ => q H (Same.refl _)) (fun h => absurd (decide_eq_true (by omega)) h)
    refine ite2 (fun h => absurd (of_decide_eq_true h) (by omega)) (fun _ => ?_)
    have e : isNum x = (if (figsOf x).cps.toList.all (fun c => decide (c ∈ figS.cps.toList)) = true then decide (x = "0") || !decide ((figsOf x).cps.toList.head? = some 48) else false) := if_neg (fun z => z.elim h0 h7)
    rw [e] at q
    refine ⟨_, rfl, _, rfl, fun D nD => ?_⟩
    have hsz : (figsOf x).cps.size = (figsOf x).cps.toList.length := by rw [Array.length_toList]
    refine lc_it (walk_str (z := figsOf x)) (fun i H2 => Same H H2 ∧ H2 D = some (.lst ((((figsOf x).cps.toList.take i).map fun c => decide (c ∈ figS.cps.toList)).map V.bl))) ⟨Same.new nD _, upd_same⟩ (fun _ _ _ _ => True.intro) ?_ ?_
    · rintro i v H2 H2' hi ⟨sm, hD⟩ ⟨rfl, c, hc, rfl⟩
      refine ⟨rfl, tYes_if ?_⟩
      refine ⟨_, rfl, c, figS, rfl, rfl, _, hD, ?_, Same.putNew sm nD _, ?_⟩
      · rw [List.length_map, List.length_map, List.length_take]
        have : (figsOf x).length = (figsOf x).cps.toList.length := len_tl _
        omega
      · have hc' : (figsOf x).cps.toList[i]? = some c := by rw [Array.getElem?_toList]; exact hc
        rw [upd_same, take_snoc hc', List.map_append, List.map_append]; rfl
    · rintro H2 ⟨sm, hD⟩
      rw [hsz, List.take_of_length_le (Nat.le_refl _)] at hD
      refine ⟨D, _, rfl, SqL.of hD, ?_⟩
      rw [List.all_map]
      by_cases ha : (figsOf x).cps.toList.all (fun c => decide (c ∈ figS.cps.toList)) = true
      · rw [if_pos ha] at q
        have ha' : (figsOf x).cps.toList.all (id ∘ fun c => decide (c ∈ figS.cps.toList)) = true := ha
        rw [ha']
        refine ⟨_, rfl, iteF ?_⟩
        refine ⟨_, rfl, rfl, _, rfl, ?_⟩
        by_cases hx0 : x = "0"
        · rw [decide_eq_true hx0, Bool.true_or] at q
          exact ite2 (fun _ => q H2 sm) (fun h => absurd (decide_eq_true (congrArg V.str hx0)) h)
        · rw [decide_eq_false hx0, Bool.false_or] at q
          refine ite2 (fun h => absurd (V.str.inj (of_decide_eq_true h)) hx0) (fun _ => ?_)
          obtain ⟨c, cs, hcs⟩ : ∃ c cs, (figsOf x).cps.toList = c :: cs := by
            cases e : (figsOf x).cps.toList with
            | nil => exact absurd (by rw [len_tl]; exact congrArg List.length e) h0
            | cons c cs => exact ⟨c, cs, rfl⟩
          rw [hcs] at q
          refine ⟨_, rfl, figsOf x, 0, c, rfl, rfl, by omega, by rw [hcs]; exact atI_nat (j := 0) rfl, rfl, ?_⟩
          have ed : decide (V.str ⟨#[c]⟩ = V.str "0") = decide ((c :: cs).head? = some 48) := by
            have e0 : (Str.ofString "0") = (⟨#[48]⟩ : Str) := by decide +kernel
            rw [e0]
            refine decide_eq_decide.mpr ⟨fun h => ?_, fun h => ?_⟩
            · have := V.str.inj h
              injection this with this
              have : c = 48 := by simpa using this
              rw [this]; rfl
            · rw [Option.some.inj h]
          rw [ed]
          exact q H2 sm
      · rw [if_neg ha] at q
        have ha' : (figsOf x).cps.toList.all (id ∘ fun c => decide (c ∈ figS.cps.toList)) = false := by
          have : ¬ (figsOf x).cps.toList.all (id ∘ fun c => decide (c ∈ figS.cps.toList)) = true := ha
          exact Bool.eq_false_iff.mpr this
        rw [ha']
        exact ⟨_, rfl, iteT (q H2 sm)⟩
end
end Wr
namespace Wr
open PySem PySem.Spec PyProof.Rows L2 TL
/-! ### reading, as a machine -/
abbrev Wt := List (Str × List Itm)
def shapeW (w : Str) : Str := if w ∈ ones then "e" else if w ∈ twos then "ee" else if w = "if" then "eee" else if w = "let" then "xee" else if w = "fun" then "xe" else if w = "catch" then "exxe" else ""
def mkEx (w : Str) : List Itm → Ex
  | [.e a] => .one w a
  | [.e a, .e b] => .two w a b
  | [.e a, .e b, .e c] => .ite a b c
  | [.x x, .e a, .e b] => .lt x a b
  | [.x x, .e a] => .fn x a
  | [.e a, .x x, .x k, .e b] => .ct a x k b
  | _ => .fault
def put : Wt → Itm → Wt × Option Ex
  | [], .e a => ([], some a)
  | [], _ => ([], none)
  | (w, as) :: r, i => if as.length + 1 = (shapeW w).length then put r (.e (mkEx w (as ++ [i]))) else ((w, as ++ [i]) :: r, none)
/-- what may stand next -/
def nxt (p : Str × List Itm) (c : Nat) : Prop := p.1 ∈ allW ∧ p.2.map itmC ++ [c] = (shapeW p.1).cps.toList.take (p.2.length + 1)
def numV (z : Str) : Int := (PySem.intText? z).getD 0
def isX : Wt → Bool
  | p :: _ => decide ((shapeW p.1).cps.toList[p.2.length]? = some 120)
  | [] => false
def taken (wt : Wt) (z : Str) : Wt × Option Ex :=
  if isX wt = true then put wt (.x z)
  else if z ∈ letters then put wt (.e (.name z))
  else if isNum z = true then put wt (.e (.num (numV z)))
  else if (shapeW z).length = 0 then put wt (.e .fault)
  else ((z, []) :: wt, none)
/-- what waits is well made -/
structure WtOk (wt : Wt) : Prop where
  top : ∀ p r, wt = p :: r → nxt p 101 ∨ nxt p 120
  low : ∀ p r, wt = p :: r → ∀ q ∈ r, nxt q 101
/-- a thing may be put -/
structure PutOk (wt : Wt) (i : Itm) : Prop where
  top : ∀ p r, wt = p :: r → nxt p (itmC i)
  low : ∀ p r, wt = p :: r → ∀ q ∈ r, nxt q 101
  nil : wt = [] → i.isE = true
/-- a word that may stand next -/
def Fit (wt : Wt) (z : Str) : Prop := (isX wt = true ∧ z ∈ letters) ∨ (isX wt = false ∧ (z ∈ letters ∨ (z ∉ letters ∧ isNum z = true ∧ z.length ≤ 640 ∧ PySem.intText? z = some (numV z) ∧ -1000000 ≤ numV z ∧ numV z ≤ 1000000) ∨ z ∈ allW))
inductive Rd : Wt → List Str → Wt × Option Ex → Prop where
  | last {wt : Wt} {z : Str} {r : Wt × Option Ex} (f : Fit wt z) (h : taken wt z = r) : Rd wt [z] r
  | cons {wt wt' : Wt} {z : Str} {zs : List Str} {r : Wt × Option Ex} (f : Fit wt z) (h : taken wt z = (wt', none)) (k : Rd wt' zs r) : Rd wt (z :: zs) r
theorem Rd.app {wt wt' : Wt} {xs ys : List Str} {r r' : Wt × Option Ex} (h : Rd wt xs r) (e : r = (wt', none)) (k : Rd wt' ys r') : Rd wt (xs ++ ys) r' := by
  induction h with
  | last f h => exact .cons f (h.trans e) k
  | cons f h _ ih => exact .cons f h (ih e)
theorem shapeW_all : ∀ w ∈ allW, (shapeW w).length ≤ 4 ∧ ((shapeW w).length = 0 → w = "fault") ∧ w ∉ letters ∧ w ≠ "num" ∧ w ≠ "name" := by decide +kernel
theorem shapeW_one : ∀ w ∈ ones, shapeW w = "e" := fun w h => if_pos h
theorem shapeW_two : ∀ w ∈ twos, shapeW w = "ee" := by decide +kernel
theorem shapeW_rest : shapeW "if" = "eee" ∧ shapeW "let" = "xee" ∧ shapeW "fun" = "xe" ∧ shapeW "catch" = "exxe" ∧ shapeW "fault" = "" := by decide +kernel
theorem cps_all : ("e" : Str).cps.toList = [101] ∧ ("ee" : Str).cps.toList = [101, 101] ∧ ("eee" : Str).cps.toList = [101, 101, 101] ∧ ("xee" : Str).cps.toList = [120, 101, 101] ∧ ("xe" : Str).cps.toList = [120, 101] ∧ ("exxe" : Str).cps.toList = [101, 120, 120, 101] ∧ ("" : Str).cps.toList = [] := by decide +kernel
theorem len_all : ("e" : Str).length = 1 ∧ ("ee" : Str).length = 2 ∧ ("eee" : Str).length = 3 ∧ ("xee" : Str).length = 3 ∧ ("xe" : Str).length = 2 ∧ ("exxe" : Str).length = 4 ∧ ("" : Str).length = 0 := by decide +kernel
theorem allW_mem : (∀ w ∈ ones, w ∈ allW) ∧ (∀ w ∈ twos, w ∈ allW) ∧ ("if" : Str) ∈ allW ∧ ("let" : Str) ∈ allW ∧ ("fun" : Str) ∈ allW ∧ ("catch" : Str) ∈ allW ∧ ("fault" : Str) ∈ allW := by decide +kernel
theorem allW_free : ∀ w ∈ allW, w ∉ letters ∧ isNum w = false := by decide +kernel
theorem itm_e {i : Itm} (h : itmC i = 101) : ∃ a, i = .e a := by
  cases i with
  | n k => exact absurd h (by show ¬ 110 = 101; decide)
  | x k => exact absurd h (by show ¬ 120 = 101; decide)
  | e a => exact ⟨a, rfl⟩
theorem itm_x {i : Itm} (h : itmC i = 120) : ∃ a, i = .x a := by
  cases i with
  | n k => exact absurd h (by show ¬ 110 = 120; decide)
  | x k => exact ⟨k, rfl⟩
  | e a => exact absurd h (by show ¬ 101 = 120; decide)
theorem inv_e {l : List Itm} {cs : List Nat} (h : l.map itmC = 101 :: cs) : ∃ a l', l = .e a :: l' ∧ l'.map itmC = cs := by
  cases l with
  | nil => cases h
  | cons i l =>
    injection h with h1 h2
    obtain ⟨a, rfl⟩ := itm_e h1
    exact ⟨a, l, rfl, h2⟩
theorem inv_x {l : List Itm} {cs : List Nat} (h : l.map itmC = 120 :: cs) : ∃ a l', l = .x a :: l' ∧ l'.map itmC = cs := by
  cases l with
  | nil => cases h
  | cons i l =>
    injection h with h1 h2
    obtain ⟨a, rfl⟩ := itm_x h1
    exact ⟨a, l, rfl, h2⟩
theorem inv_nil {l : List Itm} (h : l.map itmC = []) : l = [] := List.map_eq_nil_iff.mp h
/-- a whole expression -/
theorem mk_ok {w : Str} (hw : w ∈ allW) {l : List Itm} (h : l.map itmC = (shapeW w).cps.toList) : (mkEx w l).word = w ∧ (mkEx w l).items = l := by
  obtain ⟨c1, c2, c3, c4, c5, c6, c7⟩ := cps_all
  obtain ⟨s1, s2, s3, s4, s5⟩ := shapeW_rest
  unfold allW at hw
  rcases List.mem_append.mp hw with hw | hw
  · rcases List.mem_append.mp hw with hw | hw
    · simp only [List.mem_cons, List.not_mem_nil, or_false] at hw
      rcases hw with rfl | rfl | rfl | rfl | rfl
      · rw [s5, c7] at h
        cases l with
        | nil => exact ⟨rfl, rfl⟩
        | cons => cases h
      · rw [s1, c3] at h
        obtain ⟨_, l1, rfl, h1⟩ := inv_e h
        obtain ⟨_, l2, rfl, h2⟩ := inv_e h1
        obtain ⟨_, l3, rfl, h3⟩ := inv_e h2
        cases inv_nil h3
        exact ⟨rfl, rfl⟩
      · rw [s2, c4] at h
        obtain ⟨_, l1, rfl, h1⟩ := inv_x h
        obtain ⟨_, l2, rfl, h2⟩ := inv_e h1
        obtain ⟨_, l3, rfl, h3⟩ := inv_e h2
        cases inv_nil h3
        exact ⟨rfl, rfl⟩
      · rw [s3, c5] at h
        obtain ⟨_, l1, rfl, h1⟩ := inv_x h
        obtain ⟨_, l2, rfl, h2⟩ := inv_e h1
        cases inv_nil h2
        exact ⟨rfl, rfl⟩
      · rw [s4, c6] at h
        obtain ⟨_, l1, rfl, h1⟩ := inv_e h
        obtain ⟨_, l2, rfl, h2⟩ := inv_x h1
        obtain ⟨_, l3, rfl, h3⟩ := inv_x h2
        obtain ⟨_, l4, rfl, h4⟩ := inv_e h3
        cases inv_nil h4
        exact ⟨rfl, rfl⟩
    · rw [shapeW_one w hw, c1] at h
      obtain ⟨_, l1, rfl, h1⟩ := inv_e h
      cases inv_nil h1
      exact ⟨rfl, rfl⟩
  · rw [shapeW_two w hw, c2] at h
    obtain ⟨_, l1, rfl, h1⟩ := inv_e h
    obtain ⟨_, l2, rfl, h2⟩ := inv_e h1
    cases inv_nil h2
    exact ⟨rfl, rfl⟩
theorem take_all {α : Type} {l : List α} {n : Nat} (h : n = l.length) : l.take n = l := by rw [h]; exact List.take_of_length_le (Nat.le_refl _)
/-- the thing put, the last one -/
theorem nxt_full {w : Str} {as : List Itm} {i : Itm} (h : nxt (w, as) (itmC i)) (hl : as.length + 1 = (shapeW w).length) : (mkEx w (as ++ [i])).word = w ∧ (mkEx w (as ++ [i])).items = as ++ [i] := by
  refine mk_ok h.1 ?_
  have h2 : as.map itmC ++ [itmC i] = (shapeW w).cps.toList.take (as.length + 1) := h.2
  rw [List.map_append]
  show as.map itmC ++ [itmC i] = _
  rw [h2, take_all (by rw [hl, len_tl])]
theorem nxt_len {w : Str} {as : List Itm} {c : Nat} (h : nxt (w, as) c) : as.length + 1 ≤ (shapeW w).length := by
  have h2 := congrArg List.length h.2
  rw [List.length_append, List.length_map, List.length_take] at h2
  have h2 : as.length + 1 = min (as.length + 1) (shapeW w).cps.toList.length := h2
  rw [len_tl]
  show as.length + 1 ≤ (shapeW w).cps.toList.length
  omega
theorem nxt_get {w : Str} {as : List Itm} {c : Nat} (h : nxt (w, as) c) : (shapeW w).cps.toList[as.length]? = some c := by
  have h2 := congrArg (fun l => l[as.length]?) h.2
  have h2 : (as.map itmC ++ [c])[as.length]? = ((shapeW w).cps.toList.take (as.length + 1))[as.length]? := h2
  rw [List.getElem?_append_right (by rw [List.length_map]; exact Nat.le_refl _), List.length_map, Nat.sub_self, List.getElem?_take, if_pos (Nat.lt_succ_self _)] at h2
  exact h2.symm
theorem nxt_more {w : Str} {as : List Itm} {i : Itm} {c : Nat} (h : nxt (w, as) (itmC i)) (hc : (shapeW w).cps.toList[as.length + 1]? = some c) : nxt (w, as ++ [i]) c := by
  refine ⟨h.1, ?_⟩
  have h2 : as.map itmC ++ [itmC i] = (shapeW w).cps.toList.take (as.length + 1) := h.2
  show (as ++ [i]).map itmC ++ [c] = (shapeW w).cps.toList.take ((as ++ [i]).length + 1)
  rw [List.map_append, List.length_append]
  show (as.map itmC ++ [itmC i]) ++ [c] = (shapeW w).cps.toList.take (as.length + 1 + 1)
  rw [h2, take_snoc hc]
end Wr
namespace Wr
open PySem PySem.Spec PyProof.Rows L2 TL
theorem shape_c : ∀ w ∈ allW, ∀ c ∈ (shapeW w).cps.toList, c = 101 ∨ c = 120 := by decide +kernel
theorem letters_num : ∀ z ∈ letters, isNum z = false := by decide +kernel
theorem PutOk.out : ∀ {wt : Wt} {i : Itm} {wt' : Wt}, PutOk wt i → put wt i = (wt', none) → WtOk wt'
  | [], i, wt', h, e => by
    have he := h.nil rfl
    cases i with
    | e a => cases e
    | _ => cases he
  | (w, as) :: r, i, wt', h, e => by
    have hn := h.top _ _ rfl
    have hw := h.low _ _ rfl
    by_cases hl : as.length + 1 = (shapeW w).length
    · have e : put r (.e (mkEx w (as ++ [i]))) = (wt', none) := by
        have : put ((w, as) :: r) i = put r (.e (mkEx w (as ++ [i]))) := if_pos hl
        rw [← this]; exact e
      refine PutOk.out (wt := r) ⟨fun p r' ep => ?_, fun p r' ep q hq => ?_, fun _ => rfl⟩ e
      · exact hw p (by rw [ep]; exact List.mem_cons_self)
      · exact hw q (by rw [ep]; exact List.mem_cons_of_mem _ hq)
    · have e : ((w, as ++ [i]) :: r, (none : Option Ex)) = (wt', none) := by
        have : put ((w, as) :: r) i = ((w, as ++ [i]) :: r, none) := if_neg hl
        rw [← this]; exact e
      cases e
      have hle := nxt_len hn
      have hlt : as.length + 1 < (shapeW w).cps.toList.length := by
        have : (shapeW w).length = (shapeW w).cps.toList.length := len_tl _
        omega
      have hg := List.getElem?_eq_getElem hlt
      have hm := nxt_more hn hg
      refine ⟨fun p r' ep => ?_, fun p r' ep q hq => ?_⟩
      · cases ep
        rcases shape_c w hn.1 _ (List.getElem_mem hlt) with z | z
        · rw [z] at hm; exact .inl hm
        · rw [z] at hm; exact .inr hm
      · cases ep; exact hw q hq
theorem isX_get {wt : Wt} (h : WtOk wt) : (isX wt = true → ∃ p r, wt = p :: r ∧ nxt p 120) ∧ (isX wt = false → ∀ p r, wt = p :: r → nxt p 101) := by
  cases wt with
  | nil => exact ⟨fun z => (nomatch z), fun _ p r e => (nomatch e)⟩
  | cons p r =>
    obtain ⟨w, as⟩ := p
    have ht := h.top _ _ rfl
    refine ⟨fun z => ⟨_, _, rfl, ?_⟩, fun z p' r' e => ?_⟩
    · have z : (shapeW w).cps.toList[as.length]? = some 120 := of_decide_eq_true z
      rcases ht with ht | ht
      · rw [nxt_get ht] at z; cases z
      · exact ht
    · cases e
      have z : ¬ (shapeW w).cps.toList[as.length]? = some 120 := of_decide_eq_false z
      rcases ht with ht | ht
      · exact ht
      · exact absurd (nxt_get ht) z
theorem WtOk.putX {wt : Wt} (h : WtOk wt) (hx : isX wt = true) (z : Str) : PutOk wt (.x z) := by
  obtain ⟨p, r, rfl, hn⟩ := (isX_get h).1 hx
  exact ⟨fun p' r' e => by cases e; exact hn, fun p' r' e => h.low p' r' e, fun e => nomatch e⟩
theorem WtOk.putE {wt : Wt} (h : WtOk wt) (hx : isX wt = false) (a : Ex) : PutOk wt (.e a) :=
  ⟨fun p r e => (isX_get h).2 hx p r e, fun p r e => h.low p r e, fun _ => rfl⟩
theorem WtOk.begin {wt : Wt} (h : WtOk wt) (hx : isX wt = false) {z : Str} (hz : z ∈ allW) (hl : ¬ (shapeW z).length = 0) : WtOk ((z, []) :: wt) := by
  have hlt : 0 < (shapeW z).cps.toList.length := by
    have : (shapeW z).length = (shapeW z).cps.toList.length := len_tl _
    omega
  have hg := List.getElem?_eq_getElem hlt
  have hn : ∀ c, (shapeW z).cps.toList[0]? = some c → nxt (z, []) c := fun c hc => ⟨hz, by
    show [c] = (shapeW z).cps.toList.take 1
    have := take_snoc hc
    rw [this]; rfl⟩
  refine ⟨fun p r e => ?_, fun p r e q hq => ?_⟩
  · cases e
    have := hn _ hg
    rcases shape_c z hz _ (List.getElem_mem hlt) with y | y
    · rw [y] at this; exact .inl this
    · rw [y] at this; exact .inr this
  · cases e
    cases wt with
    | nil => cases hq
    | cons p r =>
      rcases List.mem_cons.mp hq with rfl | hq
      · exact (isX_get h).2 hx _ _ rfl
      · exact h.low _ _ rfl q hq
theorem WtOk.nil : WtOk [] := ⟨fun p r e => (nomatch e), fun p r e => (nomatch e)⟩
theorem WtOk.taken {wt wt' : Wt} {z : Str} (h : WtOk wt) (f : Fit wt z) (e : taken wt z = (wt', none)) : WtOk wt' := by
  unfold Wr.taken at e
  rcases f with ⟨hx, hz⟩ | ⟨hx, hz⟩
  · rw [if_pos hx] at e
    exact (h.putX hx z).out e
  · rw [if_neg (by rw [hx]; exact Bool.false_ne_true)] at e
    by_cases h1 : z ∈ letters
    · rw [if_pos h1] at e; exact (h.putE hx _).out e
    · rw [if_neg h1] at e
      by_cases h2 : isNum z = true
      · rw [if_pos h2] at e; exact (h.putE hx _).out e
      · rw [if_neg h2] at e
        by_cases h3 : (shapeW z).length = 0
        · rw [if_pos h3] at e; exact (h.putE hx _).out e
        · rw [if_neg h3] at e
          cases e
          rcases hz with hz | hz | hz
          · exact absurd hz h1
          · exact absurd hz.2.1 h2
          · exact h.begin hx hz h3
/-- an expression is read -/
theorem reads {e : Ex} : ∀ {S : List Str}, (∀ x ∈ S, x ∈ letters) → Good S e → ∀ {wt : Wt}, isX wt = false → Rd wt e.wds (put wt (.e e)) := by
  obtain ⟨s1, s2, s3, s4, s5⟩ := shapeW_rest
  obtain ⟨c1, c2, c3, c4, c5, c6, c7⟩ := cps_all
  obtain ⟨l1, l2, l3, l4, l5, l6, l7⟩ := len_all
  obtain ⟨a1, a2, a3, a4, a5, a6, a7⟩ := allW_mem
  have ext : ∀ {S : List Str} {x : Str}, (∀ x ∈ S, x ∈ letters) → x ∈ letters → ∀ y ∈ x :: S, y ∈ letters := fun h hx y hy => by
    rcases List.mem_cons.mp hy with rfl | hy
    · exact hx
    · exact h y hy
  have beg : ∀ {wt : Wt} {z : Str}, isX wt = false → z ∈ allW → ¬ (shapeW z).length = 0 → Fit wt z ∧ taken wt z = ((z, []) :: wt, none) := fun {wt z} hx hz hl => by
    refine ⟨.inr ⟨hx, .inr (.inr hz)⟩, ?_⟩
    obtain ⟨n1, n2⟩ := allW_free z hz
    unfold taken
    rw [if_neg (by rw [hx]; exact Bool.false_ne_true), if_neg n1, if_neg (by rw [n2]; exact Bool.false_ne_true), if_neg hl]
  have nm : ∀ {wt : Wt} {x : Str}, isX wt = true → x ∈ letters → Fit wt x ∧ taken wt x = put wt (.x x) := fun {wt x} hx hl => ⟨.inl ⟨hx, hl⟩, if_pos hx⟩
  have full : ∀ {w : Str} {as : List Itm} {r : Wt} {i : Itm}, as.length + 1 = (shapeW w).length → put ((w, as) :: r) i = put r (.e (mkEx w (as ++ [i]))) := fun h => if_pos h
  have more : ∀ {w : Str} {as : List Itm} {r : Wt} {i : Itm}, as.length + 1 ≠ (shapeW w).length → put ((w, as) :: r) i = ((w, as ++ [i]) :: r, none) := fun h => if_neg h
  have ix : ∀ {w : Str} {as : List Itm} {r : Wt} {c : Nat}, (shapeW w).cps.toList[as.length]? = some c → isX ((w, as) :: r) = decide (c = 120) := fun {w as r c} h => by
    show decide ((shapeW w).cps.toList[as.length]? = some 120) = _
    rw [h]
    exact decide_eq_decide.mpr ⟨fun z => Option.some.inj z, fun z => by rw [z]⟩
  induction e with
  | num n =>
    intro S hS g wt hx
    have hn := isNum_num g
    have hnl : numS n ∉ letters := fun z => by rw [letters_num _ z] at hn; cases hn
    have hv : numV (numS n) = n := by unfold numV; rw [numS_back g]; rfl
    refine .last (.inr ⟨hx, .inr (.inl ⟨hnl, hn, by have := numS_len g; omega, by rw [hv]; exact numS_back g, by rw [hv]; exact g⟩)⟩) ?_
    unfold taken
    rw [if_neg (by rw [hx]; exact Bool.false_ne_true), if_neg hnl, if_pos hn, hv]
  | name x =>
    intro S hS g wt hx
    refine .last (.inr ⟨hx, .inl (hS x g)⟩) ?_
    unfold taken
    rw [if_neg (by rw [hx]; exact Bool.false_ne_true), if_pos (hS x g)]
  | fault =>
    intro S hS g wt hx
    obtain ⟨n1, n2⟩ := allW_free _ a7
    refine .last (.inr ⟨hx, .inr (.inr a7)⟩) ?_
    unfold taken
    rw [if_neg (by rw [hx]; exact Bool.false_ne_true), if_neg n1, if_neg (by rw [n2]; exact Bool.false_ne_true), if_pos (by rw [s5]; exact l7)]
  | one w a ia =>
    intro S hS g wt hx
    have sw := shapeW_one w g.1
    obtain ⟨f, t⟩ := beg hx (a1 w g.1) (by rw [sw, l1]; decide)
    have k := ia hS g.2 (wt := (w, []) :: wt) (by rw [ix (c := 101) (by rw [sw, c1]; rfl)]; rfl)
    rw [full (by rw [sw, l1]; rfl)] at k
    exact .cons f t k
  | two w a b ia ib =>
    intro S hS g wt hx
    have sw := shapeW_two w g.1
    obtain ⟨f, t⟩ := beg hx (a2 w g.1) (by rw [sw, l2]; decide)
    have k1 := ia hS g.2.1 (wt := (w, []) :: wt) (by rw [ix (c := 101) (by rw [sw, c2]; rfl)]; rfl)
    have k2 := ib hS g.2.2 (wt := (w, [.e a]) :: wt) (by rw [ix (c := 101) (by rw [sw, c2]; rfl)]; rfl)
    rw [full (by rw [sw, l2]; rfl)] at k2
    exact .cons f t (k1.app (more (by rw [sw, l2]; simp)) k2)
  | ite a b c ia ib ic =>
    intro S hS g wt hx
    obtain ⟨f, t⟩ := beg hx a3 (by rw [s1, l3]; decide)
    have k1 := ia hS g.1 (wt := ("if", []) :: wt) (by rw [ix (c := 101) (by rw [s1, c3]; rfl)]; rfl)
    have k2 := ib hS g.2.1 (wt := ("if", [.e a]) :: wt) (by rw [ix (c := 101) (by rw [s1, c3]; rfl)]; rfl)
    have k3 := ic hS g.2.2 (wt := ("if", [.e a, .e b]) :: wt) (by rw [ix (c := 101) (by rw [s1, c3]; rfl)]; rfl)
    rw [full (by rw [s1, l3]; rfl)] at k3
    exact .cons f t (k1.app (more (by rw [s1, l3]; simp)) (k2.app (more (by rw [s1, l3]; simp)) k3))
  | lt x a b ia ib =>
    intro S hS g wt hx
    obtain ⟨f, t⟩ := beg hx a4 (by rw [s2, l4]; decide)
    obtain ⟨f1, t1⟩ := nm (wt := ("let", []) :: wt) (by rw [ix (c := 120) (by rw [s2, c4]; rfl)]; rfl) g.1
    rw [more (by rw [s2, l4]; simp)] at t1
    have k1 := ia hS g.2.1 (wt := ("let", [.x x]) :: wt) (by rw [ix (c := 101) (by rw [s2, c4]; rfl)]; rfl)
    have k2 := ib (ext hS g.1) g.2.2 (wt := ("let", [.x x, .e a]) :: wt) (by rw [ix (c := 101) (by rw [s2, c4]; rfl)]; rfl)
    rw [full (by rw [s2, l4]; rfl)] at k2
    exact .cons f t (.cons f1 t1 (k1.app (more (by rw [s2, l4]; simp)) k2))
  | fn x a ia =>
    intro S hS g wt hx
    obtain ⟨f, t⟩ := beg hx a5 (by rw [s3, l5]; decide)
    obtain ⟨f1, t1⟩ := nm (wt := ("fun", []) :: wt) (by rw [ix (c := 120) (by rw [s3, c5]; rfl)]; rfl) g.1
    rw [more (by rw [s3, l5]; simp)] at t1
    have k1 := ia (ext hS g.1) g.2 (wt := ("fun", [.x x]) :: wt) (by rw [ix (c := 101) (by rw [s3, c5]; rfl)]; rfl)
    rw [full (by rw [s3, l5]; rfl)] at k1
    exact .cons f t (.cons f1 t1 k1)
  | ct a x k b ia ib =>
    intro S hS g wt hx
    obtain ⟨f, t⟩ := beg hx a6 (by rw [s4, l6]; decide)
    have k1 := ia hS g.2.2.2.1 (wt := ("catch", []) :: wt) (by rw [ix (c := 101) (by rw [s4, c6]; rfl)]; rfl)
    obtain ⟨f1, t1⟩ := nm (wt := ("catch", [.e a]) :: wt) (by rw [ix (c := 120) (by rw [s4, c6]; rfl)]; rfl) g.1
    rw [more (by rw [s4, l6]; simp)] at t1
    obtain ⟨f2, t2⟩ := nm (wt := ("catch", [.e a, .x x]) :: wt) (by rw [ix (c := 120) (by rw [s4, c6]; rfl)]; rfl) g.2.1
    rw [more (by rw [s4, l6]; simp)] at t2
    have k2 := ib (ext (ext hS g.2.1) g.1) g.2.2.2.2 (wt := ("catch", [.e a, .x x, .x k]) :: wt) (by rw [ix (c := 101) (by rw [s4, c6]; rfl)]; rfl)
    rw [full (by rw [s4, l6]; rfl)] at k2
    exact .cons f t (k1.app (more (by rw [s4, l6]; simp)) (.cons f1 t1 (.cons f2 t2 k2)))
end Wr
namespace Wr
open PySem PySem.Spec PyProof.Rows L2 TL
/-! ### what a Reading is -/
inductive WL (H0 H : Hp) : List Addr → Wt → Prop where
  | nil : WL H0 H [] []
  | cons {a : Addr} {w : Str} {vs : List V} {as : List Itm} {ads : List Addr} {wt : Wt} : H0 a = none → H a = some (.lst (.str w :: vs)) → ItL H vs as → WL H0 H ads wt → WL H0 H (a :: ads) ((w, as) :: wt)
theorem ItL.tups {H H' : Hp} (s : ∀ t xs, H t = some (.tup xs) → H' t = some (.tup xs)) : ∀ {vs : List V} {is : List Itm}, ItL H vs is → ItL H' vs is
  | _, _, .nil => .nil
  | _, _, .cons h t => .cons (h.tups s) (t.tups s)
theorem ItL.snoc {H : Hp} : ∀ {vs : List V} {is : List Itm} {v : V} {i : Itm}, ItL H vs is → i.At H v → ItL H (vs ++ [v]) (is ++ [i])
  | _, _, _, _, .nil, h => .cons h .nil
  | _, _, _, _, .cons a t, h => .cons a (t.snoc h)
theorem WL.up {H0 H H' : Hp} : ∀ {ads : List Addr} {wt : Wt}, (∀ a ∈ ads, ∀ xs, H a = some (.lst xs) → H' a = some (.lst xs)) → (∀ t xs, H t = some (.tup xs) → H' t = some (.tup xs)) → WL H0 H ads wt → WL H0 H' ads wt
  | _, _, _, _, .nil => .nil
  | _, _, k, s, .cons n h i t => .cons n (k _ List.mem_cons_self _ h) (i.tups s) (t.up (fun a ha => k a (List.mem_cons_of_mem _ ha)) s)
theorem WL.len {H0 H : Hp} : ∀ {ads : List Addr} {wt : Wt}, WL H0 H ads wt → ads.length = wt.length
  | _, _, .nil => rfl
  | _, _, .cons _ _ _ t => congrArg (· + 1) t.len
theorem WL.lst {H0 H : Hp} : ∀ {ads : List Addr} {wt : Wt}, WL H0 H ads wt → ∀ a ∈ ads, H0 a = none ∧ ∃ xs, H a = some (.lst xs)
  | _, _, .cons n h _ t, a, ha => by
    rcases List.mem_cons.mp ha with rfl | ha
    · exact ⟨n, _, h⟩
    · exact t.lst a ha
def WhAt (H : Hp) (v : V) : Option Ex → Prop
  | none => v = .non
  | some e => AtE H v e
def rdgF (wl : Addr) (whv : V) : List (Str × V) := [("waiting", .ref wl), ("whole", whv)]
def rdgNs : List Str := ["waiting", "whole"]
theorem rdgF_look (wl : Addr) (v u : V) : (rdgF wl v).lookup ("waiting" : Str) = some (.ref wl) ∧ (rdgF wl v).lookup ("whole" : Str) = some v ∧ putF "whole" u (rdgF wl v) = rdgF wl u ∧ (rdgF wl v).lookup ("put" : Str) = none ∧ (rdgF wl v).lookup ("takes" : Str) = none ∧
    (rdgF wl v).lookup ("takes_name" : Str) = none ∧ (rdgF wl v).lookup ("begin" : Str) = none ∧ putF "whole" v (putF "waiting" (.ref wl) []) = rdgF wl v := ⟨by kernel_rfl, by kernel_rfl, by kernel_rfl, by kernel_rfl, by kernel_rfl, by kernel_rfl, by kernel_rfl, by kernel_rfl⟩
structure RdgAt (C : Addr) (H0 H : Hp) (r : Addr) (wt : Wt) (wh : Option Ex) : Prop where
  n0 : H0 r = none
  sm : Same H0 H
  ex : ∃ (dx wl : Addr) (ads : List Addr) (whv : V), H r = some (.ins C dx (rdgF wl whv)) ∧ H0 wl = none ∧ H wl = some (.lst (ads.reverse.map V.ref)) ∧ WL H0 H ads wt ∧ (wl :: ads).Nodup ∧ WhAt H whv wh
theorem shapesW {K : PySem.W.Frag} {w : World} {sa : Addr} (h : ShapesAt K w sa) : ∀ x ∈ allW, KDct K w sa x (.str (shapeW x)) := by
  obtain ⟨s1, s2, s3, s4, s5⟩ := shapeW_rest
  have ha : ("a" : Str) ∈ letters := by decide +kernel
  have hb : ("b" : Str) ∈ letters := by decide +kernel
  have hab : ("a" : Str) ≠ "b" := by decide +kernel
  intro x hx
  unfold allW at hx
  rcases List.mem_append.mp hx with hx | hx
  · rcases List.mem_append.mp hx with hx | hx
    · simp only [List.mem_cons, List.not_mem_nil, or_false] at hx
      rcases hx with rfl | rfl | rfl | rfl | rfl
      · rw [s5]; exact h [] .fault True.intro
      · rw [s1]; exact h [] (.ite .fault .fault .fault) ⟨True.intro, True.intro, True.intro⟩
      · rw [s2]; exact h [] (.lt "a" .fault .fault) ⟨ha, True.intro, True.intro⟩
      · rw [s3]; exact h [] (.fn "a" .fault) ⟨ha, True.intro⟩
      · rw [s4]; exact h [] (.ct .fault "a" "b" .fault) ⟨ha, hb, hab, True.intro, True.intro⟩
    · rw [shapeW_one x hx]; exact h [] (.one x .fault) ⟨hx, True.intro⟩
  · rw [shapeW_two x hx]; exact h [] (.two x .fault .fault) ⟨hx, True.intro, True.intro⟩
section
variable {P : Program} {w : World} {K : PySem.W.Frag} {mg : Str → Option Value} {base : Heap} {C : Addr}
def spComplete : Sp := fun vs H Q _ => ∃ (a : Addr) (x : Str) (us : List V), vs = [.ref a] ∧ H a = some (.lst (.str x :: us)) ∧ x ∈ allW ∧ Q (.bl (decide (us.length = (shapeW x).length))) H
theorem scComplete : FnScope ["started"] ["started"] (defScope s_is_complete) := ⟨rfl, rfl, rfl, by decide +kernel, rfl, by decide +kernel, by decide +kernel⟩
theorem ok_complete {sa : Addr} (F : Df K mg "is_complete" s_is_complete) (hSh : ShapesAt K w sa) (hmg : mg "SHAPES" = some (.ref sa)) (len : mg "len" = none) : Use P w K mg base "is_complete" ["started"] 1 spComplete := by
  refine F.use scComplete (fun _ _ _ _ _ _ us hl => match us, hl with | [_], _ => rfl) (fun vs H Q E h => ?_) (fun cdv f A outer s H vs Q E hr h => ?_)
  · obtain ⟨a, x, us, rfl, _⟩ := h
    rfl
  · obtain ⟨a, x, us, rfl, ha, hx, q⟩ := h
    refine ⟨_, pss_one (ps_ret (pe_cmpR op_eq (pe_callB call_len_seq (by rfl) len PySem.boot_len (pa_cons (pv 0) pa_nil)) (pe_op op_add (pe_callB call_len_str (by rfl) len PySem.boot_len (pa_cons (pe_ix ix_kdict (pe_glob (v := .ref sa) (by rfl) hmg rfl) (pe_ix ix_list (pv 0) pe_int (fun _ _ => rfl)) (fun _ _ => rfl)) pa_nil)) pe_int) (nomark _))), ?_⟩
    have hl := (shapeW_all x hx).1
    refine ⟨_, rfl, a, _, rfl, .inl (SqL.of ha), ?_⟩
    refine ⟨_, rfl, a, _, _, .str x, rfl, rfl, SqL.of ha, atI_nat (j := 0) rfl, sa, x, .str (shapeW x), rfl, rfl, shapesW hSh x hx, shapeW x, rfl, ?_, _, _, rfl, rfl, rfl, ?_⟩
    · have : (4 : Nat) ≤ sizeLine := by decide
      omega
    · have e : decide (V.int ((V.str x :: us).length : Int) = V.int (((shapeW x).length : Int) + 1)) = decide (us.length = (shapeW x).length) :=
        decide_eq_decide.mpr ⟨fun h => by have := V.int.inj h; rw [List.length_cons] at this; omega, fun h => by rw [List.length_cons, h]; rfl⟩
      rw [e]; exact q
def spPlaceN : Sp := fun vs H Q _ => ∃ (a : Addr) (x : Str) (us : List V) (c : Nat), vs = [.ref a] ∧ H a = some (.lst (.str x :: us)) ∧ x ∈ allW ∧ (shapeW x).cps.toList[us.length]? = some c ∧ Q (.str ⟨#[c]⟩) H
theorem scPlaceN : FnScope ["started"] ["started"] (defScope s_place_of_next) := ⟨rfl, rfl, rfl, by decide +kernel, rfl, by decide +kernel, by decide +kernel⟩
theorem ok_placeN {sa : Addr} (F : Df K mg "place_of_next" s_place_of_next) (hSh : ShapesAt K w sa) (hmg : mg "SHAPES" = some (.ref sa)) (len : mg "len" = none) : Use P w K mg base "place_of_next" ["started"] 1 spPlaceN := by
  refine F.use scPlaceN (fun _ _ _ _ _ _ us hl => match us, hl with | [_], _ => rfl) (fun vs H Q E h => ?_) (fun cdv f A outer s H vs Q E hr h => ?_)
  · obtain ⟨a, x, us, c, rfl, _⟩ := h
    rfl
  · obtain ⟨a, x, us, c, rfl, ha, hx, hc, q⟩ := h
    refine ⟨_, pss_one (ps_ret (pe_ix ix_str (pe_ix ix_kdict (pe_glob (v := .ref sa) (by rfl) hmg rfl) (pe_ix ix_list (pv 0) pe_int (fun _ _ => rfl)) (fun _ _ => rfl)) (pe_op op_sub (pe_callB call_len_seq (by rfl) len PySem.boot_len (pa_cons (pv 0) pa_nil)) pe_int) (fun _ _ => rfl))), ?_⟩
    have hl := (shapeW_all x hx).1
    refine ⟨_, rfl, a, _, _, .str x, rfl, rfl, SqL.of ha, atI_nat (j := 0) rfl, sa, x, .str (shapeW x), rfl, rfl, shapesW hSh x hx, ?_⟩
    refine ⟨_, rfl, a, _, rfl, .inl (SqL.of ha), _, _, rfl, rfl, shapeW x, _, c, rfl, rfl, ?_, ?_, q⟩
    · have : (4 : Nat) ≤ sizeLine := by decide
      omega
    · rw [show (((V.str x :: us).length : Int) - 1) = ((us.length : Nat) : Int) by rw [List.length_cons]; omega]
      exact atI_nat hc
end
end Wr
namespace Wr
open PySem PySem.Spec PyProof.Rows L2 TL
section
variable {C : Addr} {H0 H H' : Hp} {r : Addr} {wt : Wt} {wh : Option Ex}
/-- something new is laid -/
theorem RdgAt.same (h : RdgAt C H0 H r wt wh) (s : Same H H') : RdgAt C H0 H' r wt wh := by
  obtain ⟨n0, sm, dx, wl, ads, whv, h1, h2, h3, h4, h5, h6⟩ := h
  refine ⟨n0, sm.trans s, dx, wl, ads, whv, s _ _ h1, h2, s _ _ h3, h4.up (fun a _ xs h => s _ _ h) (fun t xs h => s _ _ h), h5, ?_⟩
  cases wh with
  | none => exact h6
  | some e => exact AtE.same s h6
/-- a thing appended to the innermost -/
theorem RdgAt.app {w : Str} {as : List Itm} {i : Itm} {v : V} (h : RdgAt C H0 H r ((w, as) :: wt) none) (hi : i.At H v) : ∃ (dx wl a : Addr) (ads : List Addr) (vs : List V), H r = some (.ins C dx (rdgF wl .non)) ∧ H wl = some (.lst (ads.reverse.map V.ref ++ [.ref a])) ∧ H a = some (.lst (.str w :: vs)) ∧ vs.length = as.length ∧
    RdgAt C H0 (upd H a (.lst (.str w :: vs ++ [v]))) r ((w, as ++ [i]) :: wt) none ∧ (upd H a (.lst (.str w :: vs ++ [v]))) r = some (.ins C dx (rdgF wl .non)) ∧ (upd H a (.lst (.str w :: vs ++ [v]))) wl = some (.lst (ads.reverse.map V.ref ++ [.ref a])) ∧
    ItL (upd H a (.lst (.str w :: vs ++ [v]))) (vs ++ [v]) (as ++ [i]) ∧ RdgAt C H0 (upd (upd H a (.lst (.str w :: vs ++ [v]))) wl (.lst (ads.reverse.map V.ref))) r wt none ∧
    (∀ t xs, H t = some (.tup xs) → upd (upd H a (.lst (.str w :: vs ++ [v]))) wl (.lst (ads.reverse.map V.ref)) t = some (.tup xs)) ∧ upd (upd H a (.lst (.str w :: vs ++ [v]))) wl (.lst (ads.reverse.map V.ref)) a = some (.lst (.str w :: vs ++ [v])) := by
  obtain ⟨n0, sm, dx, wl, ads, whv, h1, h2, h3, h4, h5, h6⟩ := h
  have h6 : whv = .non := h6
  subst h6
  cases h4 with
  | @cons a _ vs _ ads _ na ha hl ht =>
    have ner : r ≠ a := fun e => by rw [e, ha] at h1; cases h1
    have new : wl ≠ a := fun e => (List.nodup_cons.mp h5).1 (by rw [e]; exact List.mem_cons_self)
    have newr : wl ≠ r := fun e => by rw [e, h1] at h3; cases h3
    have nda := (List.nodup_cons.mp h5).2
    have ndw : (wl :: ads).Nodup := List.nodup_cons.mpr ⟨fun m => (List.nodup_cons.mp h5).1 (List.mem_cons_of_mem _ m), (List.nodup_cons.mp nda).2⟩
    have tk : ∀ t xs, H t = some (.tup xs) → upd H a (.lst (.str w :: vs ++ [v])) t = some (.tup xs) := fun t xs h => by rw [upd_ne (fun e => by rw [e, ha] at h; cases h)]; exact h
    have hs : Same H0 (upd H a (.lst (.str w :: vs ++ [v]))) := Same.putNew sm na _
    have hr1 : upd H a (.lst (.str w :: vs ++ [v])) r = some (.ins C dx (rdgF wl .non)) := by rw [upd_ne ner]; exact h1
    have hw1 : upd H a (.lst (.str w :: vs ++ [v])) wl = some (.lst (ads.reverse.map V.ref ++ [.ref a])) := by rw [upd_ne new, h3, List.reverse_cons, List.map_append]; rfl
    have hl1 : ItL (upd H a (.lst (.str w :: vs ++ [v]))) (vs ++ [v]) (as ++ [i]) := (hl.tups tk).snoc (hi.tups tk)
    have ht1 : WL H0 (upd H a (.lst (.str w :: vs ++ [v]))) ads wt := ht.up (fun b hb xs h => by rw [upd_ne (fun e => (List.nodup_cons.mp nda).1 (by rw [← e]; exact hb))]; exact h) tk
    have tk2 : ∀ t xs, H t = some (.tup xs) → upd (upd H a (.lst (.str w :: vs ++ [v]))) wl (.lst (ads.reverse.map V.ref)) t = some (.tup xs) := fun t xs h => by
      rw [upd_ne (fun e => by rw [e, h3] at h; cases h)]; exact tk t xs h
    refine ⟨dx, wl, a, ads, vs, h1, by rw [h3, List.reverse_cons, List.map_append]; rfl, ha, hl.length, ⟨n0, hs, dx, wl, a :: ads, .non, hr1, h2, by rw [hw1, List.reverse_cons, List.map_append]; rfl, .cons na upd_same hl1 ht1, h5, rfl⟩, hr1, hw1, hl1, ?_, tk2, by rw [upd_ne new.symm]; exact upd_same⟩
    refine ⟨n0, Same.putNew hs h2 _, dx, wl, ads, .non, by rw [upd_ne newr.symm]; exact hr1, h2, upd_same, ht1.up (fun b hb xs h => by rw [upd_ne (fun e => (List.nodup_cons.mp ndw).1 (by rw [← e]; exact hb))]; exact h) (fun t xs h => by rw [upd_ne (fun e => by rw [e, hw1] at h; cases h)]; exact h), ndw, rfl⟩
theorem RdgAt.lst (h : RdgAt C H0 H r wt wh) : ∃ (dx wl : Addr) (ads : List Addr) (whv : V), H r = some (.ins C dx (rdgF wl whv)) ∧ H wl = some (.lst (ads.reverse.map V.ref)) ∧ ads.length = wt.length ∧ (wh = none → whv = .non) := by
  obtain ⟨n0, sm, dx, wl, ads, whv, h1, h2, h3, h4, h5, h6⟩ := h
  exact ⟨dx, wl, ads, whv, h1, h3, h4.len, fun e => by subst e; exact h6⟩
/-- it is whole -/
theorem RdgAt.done {e : Ex} {v : V} (h : RdgAt C H0 H r [] none) (hv : AtE H v e) {dx wl : Addr} (hr : H r = some (.ins C dx (rdgF wl .non))) : RdgAt C H0 (upd H r (.ins C dx (rdgF wl v))) r [] (some e) := by
  obtain ⟨n0, sm, dx', wl', ads, whv, h1, h2, h3, h4, h5, h6⟩ := h
  rw [hr] at h1
  injection h1 with h1
  injection h1 with _ e1 e2
  have e3 : wl = wl' := by
    injection e2 with e2 _
    injection e2 with _ e2
    injection e2
  subst e3
  cases h4
  exact ⟨n0, Same.putNew sm n0 _, dx, wl, [], v, upd_same, h2, by rw [upd_ne (fun e => by rw [e, hr] at h3; cases h3)]; exact h3, .nil, h5, AtE.tups (fun t xs h => by rw [upd_ne (fun e => by rw [e, hr] at h; cases h)]; exact h) hv⟩
end
theorem lastGet (xs : List V) (y : V) : (xs ++ [y])[(xs ++ [y]).length - 1]? = some y := by simp
theorem PutOk.next {p : Str × List Itm} {r : Wt} {i : Itm} (h : PutOk (p :: r) i) (a : Ex) : PutOk r (.e a) :=
  ⟨fun p' r' ep => h.low _ _ rfl p' (by rw [ep]; exact List.mem_cons_self), fun p' r' ep q hq => h.low _ _ rfl q (by rw [ep]; exact List.mem_cons_of_mem _ hq), fun _ => rfl⟩
section
variable {P : Program} {w : World} {K : PySem.W.Frag} {mg : Str → Option Value} {base : Heap} {C : Addr}
def spPut (C : Addr) : Sp := fun vs H Q _ => ∃ (H0 : Hp) (r : Addr) (v : V) (wt : Wt) (i : Itm), vs = [.ref r, v] ∧ RdgAt C H0 H r wt none ∧ PutOk wt i ∧ i.At H v ∧ wt.length ≤ 3000 ∧ ∀ H', RdgAt C H0 H' r (put wt i).1 (put wt i).2 → Q .non H'
theorem scPut : FnScope ["self", "thing"] ["self", "thing"] (defScope s_Reading_put) := ⟨rfl, rfl, rfl, by decide +kernel, rfl, by decide +kernel, by decide +kernel⟩
theorem ok_put (F : DfM K C "Reading.put" "put" s_Reading_put) (c : Cls K C) (na : NoAts K C rdgNs) (len : mg "len" = none) (tup : mg "tuple" = none) (U : Use P w K mg base "is_complete" ["started"] 1 spComplete) : UseM P w K mg base C "put" ["self", "thing"] 2 (spPut C) := by
  refine F.use scPut (fun _ _ _ _ _ _ us hl => match us, hl with | [_, _], _ => rfl) (fun vs H Q E h => ?_) (fun cdv f A outer s H vs Q E hr h => ?_)
  · obtain ⟨H0, r, v, wt, i, rfl, _⟩ := h
    rfl
  · obtain ⟨H0, r, v, wt, i, rfl, hR, hP, hi, hl, q⟩ := h
    refine ⟨_, pss_cons (ps_while PassesOwn.never (pt_cmpR op_gt (pe_callB call_len_seq (by rfl) len PySem.boot_len (pa_cons (pe_fld (pv 0) rfl) pa_nil)) pe_int (nomark _))
        (pss_cons (ps_expr (pe_bm PySem.F.plainAttrs_list PySem.F.slot_list_append PySem.F.type_list_append mt_append (pe_ix ix_list (pe_fld (pv 0) rfl) (pe_un un_neg pe_int) (fun _ _ => rfl)) (pa_cons (pv 1) pa_nil)))
        (pss_cons (ps_if (pt_not (pt_val (pe_use U hr (pa_cons (pe_ix ix_list (pe_fld (pv 0) rfl) (pe_un un_neg pe_int) (fun _ _ => rfl)) pa_nil)))) (pss_one ps_retN) pss_nil)
        (pss_one (ps_set (i := 1) scPut.nd rfl (Or.inl rfl) (pe_tupleOf (by rfl) tup (pe_bm0 PySem.F.plainAttrs_list PySem.F.slot_list_pop PySem.F.type_list_pop mt_pop (pe_fld (pv 0) rfl))))))))
      (pss_one (ps_fld (pv 0) (pv 1) rfl)), ?_⟩
    refine ⟨fun n σ H1 => ∃ (v1 : V) (wt1 : Wt) (i1 : Itm), n = wt1.length ∧ σ = [some (.ref r), some v1] ∧ RdgAt C H0 H1 r wt1 none ∧ PutOk wt1 i1 ∧ i1.At H1 v1 ∧ wt1.length ≤ 3000 ∧ put wt1 i1 = put wt i, ⟨wt.length, v, wt, i, rfl, rfl, hR, hP, hi, hl, rfl⟩, ?_⟩
    rintro n σ H1 ⟨v1, wt1, i1, rfl, rfl, hR1, hP1, hi1, hl1, he1⟩
    obtain ⟨dx, wl, ads, whv, r1, r2, r3, r4⟩ := hR1.lst
    have r4 := r4 rfl
    subst r4
    obtain ⟨k1, k2, k3, _⟩ := rdgF_look wl .non v1
    refine ⟨_, rfl, r, C, dx, _, _, rfl, r1, c, na _ (by decide +kernel), k1, wl, _, rfl, .inl (SqL.of r2), ?_⟩
    refine ⟨_, _, rfl, rfl, _, rfl, ?_⟩
    have hlen : (ads.reverse.map V.ref).length = wt1.length := by rw [List.length_map, List.length_reverse, r3]
    rw [hlen]
    cases wt1 with
    | nil =>
      refine iteF ?_
      obtain ⟨e, rfl⟩ : ∃ e, i1 = .e e := by
        have := hP1.nil rfl
        cases i1 with
        | e e => exact ⟨e, rfl⟩
        | _ => cases this
      refine ⟨_, rfl, _, rfl, r, C, dx, _, rfl, r1, c, na _ (by decide +kernel), by show 2 < 1000; decide, ?_⟩
      rw [k3]
      have e1 : put wt i = ([], some e) := he1.symm
      rw [e1] at q
      exact q _ (hR1.done hi1 r1)
    | cons p wt2 =>
      obtain ⟨x, as⟩ := p
      have gt : decide ((0 : Int) < (((x, as) :: wt2).length : Int)) = true := decide_eq_true (by rw [List.length_cons]; omega)
      refine ite2 (fun _ => ?_) (fun h => absurd gt h)
      obtain ⟨dx', wl', a, ads', us, b1, b2, b3, b4, b5, b6, b7, b8, b9, b10, b11⟩ := hR1.app (i := i1) (v := v1) hi1
      obtain ⟨k1', _⟩ := rdgF_look wl' .non v1
      have hn := hP1.top _ _ rfl
      have hx : x ∈ allW := hn.1
      have h4 := (shapeW_all x hx).1
      have hle := nxt_len hn
      have h3000 : (3000 : Nat) < sizeLine := by decide
      refine ⟨fun σ' H' => ∃ (v1 : V) (wt1 : Wt) (i1 : Itm), wt1.length = wt2.length ∧ σ' = [some (.ref r), some v1] ∧ RdgAt C H0 H' r wt1 none ∧ PutOk wt1 i1 ∧ i1.At H' v1 ∧ wt1.length ≤ 3000 ∧ put wt1 i1 = put wt i,
        fun σ' H' ⟨v1, wt1, i1, e1, e2, e3, e4, e5, e6, e7⟩ => ⟨wt2.length, Nat.lt_succ_self _, v1, wt1, i1, e1.symm, e2, e3, e4, e5, e6, e7⟩, ?_⟩
      refine ⟨_, rfl, r, C, dx', _, _, rfl, b1, c, na _ (by decide +kernel), k1', 1, rfl, wl', _, _, .ref a, rfl, rfl, SqL.of b2, atI_last _ _, ?_⟩
      refine ⟨.inl ⟨rfl, _, SqL.of b3⟩, _, rfl, a, _, _, rfl, rfl, b3, by rw [List.length_cons, b4]; omega, ?_⟩
      refine ⟨_, rfl, r, C, dx', _, _, rfl, b6, c, na _ (by decide +kernel), k1', 1, rfl, wl', _, _, .ref a, rfl, rfl, SqL.of b7, atI_last _ _, ?_⟩
      refine ⟨a, x, us ++ [v1], rfl, upd_same, hx, ?_⟩
      by_cases hl2 : as.length + 1 = (shapeW x).length
      · have e1 : put ((x, as) :: wt2) i1 = put wt2 (.e (mkEx x (as ++ [i1]))) := if_pos hl2
        rw [decide_eq_true (by rw [List.length_append, b4]; exact hl2)]
        refine ⟨_, rfl, iteF ?_⟩
        refine ⟨_, rfl, r, C, dx', _, _, rfl, b6, c, na _ (by decide +kernel), k1', ?_⟩
        refine ⟨.inl ⟨rfl, _, SqL.of b7⟩, wl', _, .ref a, rfl, rfl, b7, lastGet _ _, ?_⟩
        rw [List.dropLast_concat]
        refine .inl ⟨a, _, rfl, SqL.of b11, fun b nb => ?_⟩
        have s3 := Same.new nb (.tup (.str x :: us ++ [v1]))
        obtain ⟨m1, m2⟩ := nxt_full hn hl2
        refine ⟨.ref b, wt2, .e (mkEx x (as ++ [i1])), rfl, rfl, b9.same s3, hP1.next _, ?_, by rw [List.length_cons] at hl1; omega, by rw [← e1]; exact he1⟩
        refine AtE.of_items (xs := us ++ [v1]) (by rw [m1]; exact upd_same) ?_
        rw [m2]
        exact b8.tups fun t xs h => s3 _ _ (by rw [upd_ne (fun e => by rw [e, b7] at h; cases h)]; exact h)
      · have e1 : put ((x, as) :: wt2) i1 = ((x, as ++ [i1]) :: wt2, none) := if_neg hl2
        rw [decide_eq_false (by rw [List.length_append, b4]; exact hl2)]
        refine ⟨_, rfl, iteT ?_⟩
        rw [← he1, e1] at q
        exact q _ b5
end
end Wr
namespace Wr
open PySem PySem.Spec PyProof.Rows L2 TL
theorem refs_inj : ∀ {l l' : List Addr}, l.map V.ref = l'.map V.ref → l = l'
  | [], [], _ => rfl
  | a :: l, b :: l', h => by
    injection h with h1 h2
    rw [V.ref.inj h1, refs_inj h2]
  | [], _ :: _, h => nomatch h
  | _ :: _, [], h => nomatch h
section
variable {P : Program} {w : World} {K : PySem.W.Frag} {mg : Str → Option Value} {base : Heap} {C : Addr}
def spTakes (C : Addr) (sel : Wt → Str → Prop) : Sp := fun vs H Q _ => ∃ (H0 : Hp) (r : Addr) (z : Str) (wt : Wt), vs = [.ref r, .str z] ∧ sel wt z ∧ RdgAt C H0 H r wt none ∧ WtOk wt ∧ wt.length < 3000 ∧ ∀ H', RdgAt C H0 H' r (taken wt z).1 (taken wt z).2 → Q (.bl true) H'
theorem scTakesN : FnScope ["self", "word"] ["self", "word"] (defScope s_Reading_takes_name) := ⟨rfl, rfl, rfl, by decide +kernel, rfl, by decide +kernel, by decide +kernel⟩
theorem ok_takesN {na' : Addr} (F : DfM K C "Reading.takes_name" "takes_name" s_Reading_takes_name) (c : Cls K C) (mN : mg "NAMES" = some (.ref na')) (hN : TupK K na' (letters.map V.str)) (UP : UseM P w K mg base C "put" ["self", "thing"] 2 (spPut C)) :
    UseM P w K mg base C "takes_name" ["self", "word"] 3 (spTakes C fun wt z => isX wt = true ∧ z ∈ letters) := by
  refine F.use scTakesN (fun _ _ _ _ _ _ us hl => match us, hl with | [_, _], _ => rfl) (fun vs H Q E h => ?_) (fun cdv f A outer s H vs Q E hr h => ?_)
  · obtain ⟨H0, r, z, wt, rfl, _⟩ := h
    rfl
  · obtain ⟨H0, r, z, wt, rfl, ⟨hx, hz⟩, hR, hW, hl, q⟩ := h
    refine ⟨_, pss_cons (ps_if (pt_cmpR (r := rIn K true) op_notIn_seq (pv 1) (pe_glob (v := .ref na') (by rfl) mN rfl) rfl) (pss_one (ps_ret pe_bl)) pss_nil)
      (pss_cons (ps_expr (pe_useM c UP hr (pv 0) (pa_cons (pv 1) pa_nil))) (pss_one (ps_ret pe_bl))), ?_⟩
    have flat : (letters.map V.str).all flatV = true := flat_strs letters
    refine ⟨_, rfl, na', _, rfl, .inr (hN.seq _), rfl, flat, _, rfl, ?_⟩
    rw [inV_str, decide_eq_true hz]
    refine iteF ?_
    obtain ⟨dx, wl, ads, whv, r1, r2, r3, r4⟩ := hR.lst
    have e : taken wt z = put wt (.x z) := if_pos hx
    rw [e] at q
    refine ⟨_, rfl, r, dx, _, rfl, r1, (rdgF_look wl whv .non).2.2.2.1, _, rfl, H0, r, .str z, wt, .x z, rfl, hR, hW.putX hx z, rfl, by omega, fun H' R' => q H' R'⟩
theorem scBegin : FnScope ["self", "word"] ["self", "word"] (defScope s_Reading_begin) := ⟨rfl, rfl, rfl, by decide +kernel, rfl, by decide +kernel, by decide +kernel⟩
def spRBegin (C : Addr) : Sp := fun vs H Q _ => ∃ (H0 : Hp) (r : Addr) (z : Str) (wt : Wt), vs = [.ref r, .str z] ∧ isX wt = false ∧ z ∈ allW ∧ RdgAt C H0 H r wt none ∧ WtOk wt ∧ wt.length < 3000 ∧ ∀ H', RdgAt C H0 H' r (taken wt z).1 (taken wt z).2 → Q .non H'
theorem ok_rbegin {sa : Addr} (F : DfM K C "Reading.begin" "begin" s_Reading_begin) (c : Cls K C) (na : NoAts K C rdgNs) (hSh : ShapesAt K w sa) (hmg : mg "SHAPES" = some (.ref sa)) (len : mg "len" = none) (UP : UseM P w K mg base C "put" ["self", "thing"] 2 (spPut C)) :
    UseM P w K mg base C "begin" ["self", "word"] 3 (spRBegin C) := by
  refine F.use scBegin (fun _ _ _ _ _ _ us hl => match us, hl with | [_, _], _ => rfl) (fun vs H Q E h => ?_) (fun cdv f A outer s H vs Q E hr h => ?_)
  · obtain ⟨H0, r, z, wt, rfl, _⟩ := h
    rfl
  · obtain ⟨H0, r, z, wt, rfl, hx, hz, hR, hW, hl, q⟩ := h
    refine ⟨_, pss_one (ps_if (pt_cmpR op_eq (pe_callB call_len_str (by rfl) len PySem.boot_len (pa_cons (pe_ix ix_kdict (pe_glob (v := .ref sa) (by rfl) hmg rfl) (pv 1) (fun _ _ => rfl)) pa_nil)) pe_int (nomark _))
      (pss_one (ps_expr (pe_useM c UP hr (pv 0) (pa_cons (pe_tup (pa_cons (pv 1) pa_nil)) pa_nil))))
      (pss_one (ps_expr (pe_bm PySem.F.plainAttrs_list PySem.F.slot_list_append PySem.F.type_list_append mt_append (pe_fld (pv 0) rfl) (pa_cons (pe_lst (pa_cons (pv 1) pa_nil)) pa_nil))))), ?_⟩
    obtain ⟨h4, hf, _⟩ := shapeW_all z hz
    obtain ⟨n1, n2⟩ := allW_free z hz
    have h5 : (4 : Nat) ≤ sizeLine := by decide
    obtain ⟨dx, wl, ads, whv, r1, r2, r3, r4⟩ := hR.lst
    have e0 : taken wt z = if (shapeW z).length = 0 then put wt (.e .fault) else ((z, []) :: wt, none) := by
      unfold taken
      rw [if_neg (by rw [hx]; exact Bool.false_ne_true), if_neg n1, if_neg (by rw [n2]; exact Bool.false_ne_true)]
    refine ⟨_, rfl, sa, z, .str (shapeW z), rfl, rfl, shapesW hSh z hz, shapeW z, rfl, by omega, rfl, _, rfl, ?_⟩
    by_cases h0 : (shapeW z).length = 0
    · rw [if_pos h0] at e0
      rw [e0] at q
      refine ite2 (fun _ => ?_) (fun h => absurd (decide_eq_true (by rw [h0]; rfl)) h)
      refine ⟨_, rfl, r, dx, _, rfl, r1, (rdgF_look wl whv .non).2.2.2.1, _, rfl, by show 1 ≤ sizeLine; decide, fun b nb => ?_⟩
      have s1 := Same.new nb (.tup [.str z])
      refine ⟨H0, r, .ref b, wt, .e .fault, rfl, hR.same s1, hW.putE hx _, ⟨b, rfl, ?_⟩, by omega, fun H' R' => q H' R'⟩
      rw [hf h0]; exact upd_same
    · rw [if_neg h0] at e0
      rw [e0] at q
      refine ite2 (fun h => absurd (by have := V.int.inj (of_decide_eq_true h); omega) h0) (fun _ => ?_)
      obtain ⟨k1, _⟩ := rdgF_look wl whv .non
      refine ⟨_, rfl, r, C, dx, _, _, rfl, r1, c, na _ (by decide +kernel), k1, ?_⟩
      refine ⟨.inl ⟨rfl, _, SqL.of r2⟩, _, rfl, by show 1 ≤ sizeLine; decide, fun b nb => ?_⟩
      have s1 := Same.new nb (.lst [.str z])
      have R1 := hR.same s1
      have nw0 : ∀ {a o}, H a = some o → a ≠ b := fun h => ne_of_none h nb
      refine ⟨wl, _, .ref b, rfl, rfl, s1 _ _ r2, by rw [List.length_map, List.length_reverse, r3]; have : (3000 : Nat) < sizeLine := (by decide); omega, ?_⟩
      obtain ⟨n0, sm, dx', wl', ads', whv', a1, a2, a3, a4, a5, a6⟩ := hR
      have hdw : wl' = wl ∧ ads' = ads ∧ dx' = dx ∧ whv' = whv := by
        rw [r1] at a1
        injection a1 with a1
        injection a1 with _ e1 e2
        injection e2 with e2 e3
        injection e2 with _ e2
        injection e2 with e2
        injection e3 with e3 _
        injection e3 with _ e3
        refine ⟨e2.symm, ?_, e1.symm, e3.symm⟩
        subst e2
        rw [r2] at a3
        injection a3 with a3
        injection a3 with a3
        exact (List.reverse_inj.mp (refs_inj a3)).symm
      obtain ⟨rfl, rfl, rfl, rfl⟩ := hdw
      have a6 : whv' = .non := a6
      subst a6
      have nr : wl' ≠ r := fun e => by rw [e, r1] at r2; cases r2
      have nb0 : H0 b = none := sm.free nb
      have tk : ∀ t xs, H t = some (.tup xs) → upd (upd H b (.lst [.str z])) wl' (.lst (ads'.reverse.map V.ref ++ [.ref b])) t = some (.tup xs) := fun t xs h => by
        rw [upd_ne (fun e => by rw [e, r2] at h; cases h)]; exact s1 _ _ h
      refine q _ ⟨n0, Same.putNew (sm.trans s1) a2 _, dx', wl', b :: ads', .non, by rw [upd_ne nr.symm]; exact s1 _ _ r1, a2, by rw [upd_same, List.reverse_cons, List.map_append]; rfl, .cons nb0 (by rw [upd_ne (nw0 r2).symm]; exact upd_same) .nil (a4.up (fun a ha xs h => ?_) tk), ?_, rfl⟩
      · rw [upd_ne (fun e => (List.nodup_cons.mp a5).1 (by rw [← e]; exact ha))]; exact s1 _ _ h
      · refine List.nodup_cons.mpr ⟨fun m => ?_, List.nodup_cons.mpr ⟨fun m => ?_, (List.nodup_cons.mp a5).2⟩⟩
        · rcases List.mem_cons.mp m with m | m
          · exact nw0 r2 m
          · exact (List.nodup_cons.mp a5).1 m
        · obtain ⟨_, xs, hh⟩ := a4.lst b m
          rw [nb] at hh; cases hh
end
end Wr
namespace Wr
open PySem PySem.Spec PyProof.Rows L2 TL
section
variable {P : Program} {w : World} {K : PySem.W.Frag} {mg : Str → Option Value} {base : Heap} {C : Addr}
theorem xNe : (V.str ⟨#[120]⟩ = V.str "x") ∧ ¬ (V.str ⟨#[101]⟩ = V.str "x") := by
  have e : (Str.ofString "x") = (⟨#[120]⟩ : Str) := by decide +kernel
  rw [e]
  exact ⟨rfl, fun h => by have := V.str.inj h; injection this with this; exact absurd this (by decide)⟩
theorem allW_more : ∀ z ∈ allW, z.length ≤ 640 ∧ z ∉ leaveW := by decide +kernel
theorem letters_len : ∀ z ∈ letters, z.length ≤ 640 := by decide +kernel
theorem scTakes : FnScope ["self", "word"] ["self", "word"] (defScope s_Reading_takes) := ⟨rfl, rfl, rfl, by decide +kernel, rfl, by decide +kernel, by decide +kernel⟩
theorem ok_takes {sa na' la : Addr} (F : DfM K C "Reading.takes" "takes" s_Reading_takes) (c : Cls K C) (na : NoAts K C rdgNs) (hSh : ShapesAt K w sa) (hKD : ∃ es n, KDict K w sa es n) (hmg : mg "SHAPES" = some (.ref sa)) (mN : mg "NAMES" = some (.ref na')) (hN : TupK K na' (letters.map V.str))
    (mL : mg "AS_THEY_ARE" = some (.ref la)) (hL : TupK K la (leaveW.map V.str)) (len : mg "len" = none) (it : mg "int" = none) (UP : UseM P w K mg base C "put" ["self", "thing"] 2 (spPut C)) (U_tn : UseM P w K mg base C "takes_name" ["self", "word"] 3 (spTakes C fun wt z => isX wt = true ∧ z ∈ letters))
    (U_bg : UseM P w K mg base C "begin" ["self", "word"] 3 (spRBegin C)) (U_pl : Use P w K mg base "place_of_next" ["started"] 1 spPlaceN) (U_num : Use P w K mg base "is_number" ["word"] 1 spIsNum) : UseM P w K mg base C "takes" ["self", "word"] 4 (spTakes C Fit) := by
  refine F.use scTakes (fun _ _ _ _ _ _ us hl => match us, hl with | [_, _], _ => rfl) (fun vs H Q E h => ?_) (fun cdv f A outer s H vs Q E hr h => ?_)
  · obtain ⟨H0, r, z, wt, rfl, _⟩ := h
    rfl
  · obtain ⟨H0, r, z, wt, rfl, hF, hR, hW, hl, q⟩ := h
    obtain ⟨es, n, KD⟩ := hKD
    have hr1 : Room 1 _ := hr.mono (by decide)
    have hr2 : Room 2 _ := hr.mono (by decide)
    refine ⟨_, pss_cons (ps_if (pt_cmpR op_notN (pe_fld (pv 0) rfl) pe_non (nomark _)) (pss_one (ps_ret pe_bl)) pss_nil)
      (pss_cons (ps_if (PW.pt (pw_and (pt_cmpR op_gt (pe_callB call_len_seq (by rfl) len PySem.boot_len (pa_cons (pe_fld (pv 0) rfl) pa_nil)) pe_int (nomark _)) (pw_and1 (pt_cmpR op_eq (pe_use U_pl hr1 (pa_cons (pe_ix ix_list (pe_fld (pv 0) rfl) (pe_un un_neg pe_int) (fun _ _ => rfl)) pa_nil)) pe_str (nomark _)))))
        (pss_one (ps_ret (pe_useM c U_tn hr (pv 0) (pa_cons (pv 1) pa_nil)))) pss_nil)
      (pss_cons (ps_if (pt_cmpR (r := rIn K false) op_in_seq (pv 1) (pe_glob (v := .ref na') (by rfl) mN rfl) rfl)
        (pss_one (ps_expr (pe_useM c UP hr2 (pv 0) (pa_cons (pe_tup (pa_cons pe_str (pa_cons (pv 1) pa_nil))) pa_nil))))
        (pss_one (ps_if (pt_val (pe_use U_num hr1 (pa_cons (pv 1) pa_nil)))
          (pss_one (ps_expr (pe_useM c UP hr2 (pv 0) (pa_cons (pe_tup (pa_cons pe_str (pa_cons (pe_callTy call_int_str (by rfl) it (by decide +kernel) (pa_cons (pv 1) pa_nil)) pa_nil))) pa_nil))))
          (pss_one (ps_if (PW.pt (pw_and (pt_cmpR (op_in_kd KD) (pv 1) (pe_glob (v := .ref sa) (by rfl) hmg rfl) rfl) (pw_and1 (pt_cmpR (r := rIn K true) op_notIn_seq (pv 1) (pe_glob (v := .ref la) (by rfl) mL rfl) rfl))))
            (pss_one (ps_expr (pe_useM c U_bg hr (pv 0) (pa_cons (pv 1) pa_nil))))
            (pss_one (ps_ret pe_bl)))))))
      (pss_one (ps_ret pe_bl)))), ?_⟩
    have flat : (letters.map V.str).all flatV = true := flat_strs letters
    have flat2 : (leaveW.map V.str).all flatV = true := flat_strs leaveW
    obtain ⟨x1, x2⟩ := xNe
    obtain ⟨dx, wl, ads, whv, r1, r2, r3, r4⟩ := hR.lst
    have r4 := r4 rfl
    subst r4
    obtain ⟨k1, k2, _, k4, k5, k6, k7, _⟩ := rdgF_look wl .non .non
    refine ⟨_, rfl, r, C, dx, _, _, rfl, r1, c, na _ (by decide +kernel), k2, rfl, _, rfl, iteF ?_⟩
    refine ⟨_, rfl, r, C, dx, _, _, rfl, r1, c, na _ (by decide +kernel), k1, wl, _, rfl, .inl (SqL.of r2), ?_⟩
    refine ⟨_, _, rfl, rfl, _, rfl, ?_⟩
    have hlen : (ads.reverse.map V.ref).length = wt.length := by rw [List.length_map, List.length_reverse, r3]
    rw [hlen]
    have hxg := isX_get hW
    -- a name is wanted, or not
    have hcut : (isX wt = true ∧ z ∈ letters) ∨ isX wt = false := by
      rcases hF with h | h
      · exact .inl h
      · exact .inr h.1
    have top : ∀ p r', wt = p :: r' → ∃ (a : Addr) (ads' : List Addr) (us : List V), ads.reverse.map V.ref = ads'.map V.ref ++ [.ref a] ∧ H a = some (.lst (.str p.1 :: us)) ∧ us.length = p.2.length := fun p r' e => by
      obtain ⟨n0, sm, dx', wl', ads0, whv', a1, a2, a3, a4, a5, a6⟩ := id hR
      have ew : wl' = wl := by
        rw [r1] at a1
        injection a1 with a1
        injection a1 with _ _ e2
        injection e2 with e2 _
        injection e2 with _ e2
        injection e2 with e2
        exact e2.symm
      subst ew
      rw [r2] at a3
      injection a3 with a3
      injection a3 with a3
      have ea := List.reverse_inj.mp (refs_inj a3)
      subst ea
      subst e
      cases a4 with
      | @cons a _ vs _ ads1 _ na ha hit ht => exact ⟨a, ads1.reverse, vs, by rw [List.reverse_cons, List.map_append]; rfl, ha, hit.length⟩
    rcases hcut with ⟨hX, hzl⟩ | hX
    · obtain ⟨p, r', ep, hn⟩ := hxg.1 hX
      obtain ⟨a, ads', us, ea, ha, hul⟩ := top p r' ep
      have gt : decide ((0 : Int) < (wt.length : Int)) = true := decide_eq_true (by rw [ep, List.length_cons]; omega)
      refine ite2 (fun _ => ?_) (fun h => absurd gt h)
      refine ⟨_, rfl, r, C, dx, _, _, rfl, r1, c, na _ (by decide +kernel), k1, 1, rfl, wl, _, _, .ref a, rfl, rfl, SqL.of r2, by rw [ea]; exact atI_last _ _, ?_⟩
      refine ⟨a, p.1, us, 120, rfl, ha, hn.1, by rw [hul]; exact nxt_get hn, rfl, _, rfl, ?_⟩
      refine ite2 (fun _ => ?_) (fun h => absurd (decide_eq_true x1) h)
      exact ⟨_, rfl, r, dx, _, rfl, r1, k6, _, rfl, H0, r, z, wt, rfl, ⟨hX, hzl⟩, hR, hW, hl, fun H' R' => q H' R'⟩
    have hFz : z ∈ letters ∨ (z ∉ letters ∧ isNum z = true ∧ z.length ≤ 640 ∧ PySem.intText? z = some (numV z) ∧ -1000000 ≤ numV z ∧ numV z ≤ 1000000) ∨ z ∈ allW := by
      rcases hF with h | h
      · rw [h.1] at hX; cases hX
      · exact h.2
    have et : taken wt z = if z ∈ letters then put wt (.e (.name z)) else if isNum z = true then put wt (.e (.num (numV z))) else if (shapeW z).length = 0 then put wt (.e .fault) else ((z, []) :: wt, none) := by
      unfold taken
      rw [if_neg (by rw [hX]; exact Bool.false_ne_true)]
    have hzn : z.length ≤ 640 := by
      rcases hFz with h | h | h
      · exact letters_len z h
      · exact h.2.2.1
      · exact (allW_more z h).1
    rcases (show wt = [] ∨ ∃ p r', wt = p :: r' by cases wt with | nil => exact .inl rfl | cons p r' => exact .inr ⟨p, r', rfl⟩) with e0 | ⟨p, r', ep⟩
    refine ite2 (fun h => absurd (of_decide_eq_true h) (by rw [e0]; simp)) (fun _ => ?_)
    refine iteF ?_
    rotate_left
    obtain ⟨a, ads', us, ea, ha, hul⟩ := top p r' ep
    have hn := hxg.2 hX p r' ep
    have gt : decide ((0 : Int) < (wt.length : Int)) = true := decide_eq_true (by rw [ep, List.length_cons]; omega)
    refine ite2 (fun _ => ?_) (fun h => absurd gt h)
    refine ⟨_, rfl, r, C, dx, _, _, rfl, r1, c, na _ (by decide +kernel), k1, 1, rfl, wl, _, _, .ref a, rfl, rfl, SqL.of r2, by rw [ea]; exact atI_last _ _, ?_⟩
    refine ⟨a, p.1, us, 101, rfl, ha, hn.1, by rw [hul]; exact nxt_get hn, rfl, _, rfl, ?_⟩
    refine ite2 (fun h => absurd (of_decide_eq_true h) x2) (fun _ => ?_)
    all_goals
      refine ⟨_, rfl, na', _, rfl, .inr (hN.seq _), rfl, flat, _, rfl, ?_⟩
      rw [inV_str]
      by_cases hz : z ∈ letters
      · rw [decide_eq_true hz]
        rw [et, if_pos hz] at q
        refine iteT ⟨_, rfl, r, dx, _, rfl, r1, k4, _, rfl, by show 2 ≤ sizeLine; decide, fun b nb => ?_⟩
        have s1 := Same.new nb (.tup [.str "name", .str z])
        exact ⟨H0, r, .ref b, wt, .e (.name z), rfl, hR.same s1, hW.putE hX _, ⟨b, rfl, upd_same⟩, by omega, fun H' R' => q H' R'⟩
      · rw [decide_eq_false hz]
        refine iteF ⟨_, rfl, z, rfl, by omega, fun H1 s1 => ?_⟩
        by_cases hn2 : isNum z = true
        · rw [hn2]
          rw [et, if_neg hz, if_pos hn2] at q
          have hint : PySem.intText? z = some (numV z) := by
            rcases hFz with h | h | h
            · exact absurd h hz
            · exact h.2.2.2.1
            · rw [(allW_free z h).2] at hn2; cases hn2
          refine ⟨_, rfl, iteT ⟨_, rfl, r, dx, _, rfl, s1 _ _ r1, k4, _, rfl, z, numV z, rfl, hint, hzn, by show 2 ≤ sizeLine; decide, fun b nb => ?_⟩⟩
          have s2 := s1.trans (Same.new nb (.tup [.str "num", .int (numV z)]))
          exact ⟨H0, r, .ref b, wt, .e (.num (numV z)), rfl, hR.same s2, hW.putE hX _, ⟨b, rfl, upd_same⟩, by omega, fun H' R' => q H' R'⟩
        · have hzw : z ∈ allW := by
            rcases hFz with h | h | h
            · exact absurd h hz
            · exact absurd h.2.1 hn2
            · exact h
          rw [Bool.eq_false_iff.mpr hn2]
          obtain ⟨_, _, u, _, _, hk2, _⟩ := shapesW hSh z hzw
          refine ⟨_, rfl, iteF ⟨_, rfl, z, _, rfl, rfl, hk2, _, rfl, iteT ?_⟩⟩
          refine ⟨_, rfl, la, _, rfl, .inr (hL.seq _), rfl, flat2, _, rfl, ?_⟩
          rw [inV_str, decide_eq_false (allW_more z hzw).2]
          refine iteT ⟨_, rfl, r, dx, _, rfl, s1 _ _ r1, k7, _, rfl, H0, r, z, wt, rfl, hX, hzw, hR.same s1, hW, hl, fun H' R' => q H' R'⟩
end
end Wr
namespace Wr
open PySem PySem.Spec PyProof.Rows L2 TL
/-! ### numbers as they are written: up to seven figures -/
theorem numL_back : ∀ (k : Nat) (ds : List Nat), ds.length ≤ k → NumText.AllDigits ds → (∃ c cs, ds = c :: cs ∧ (c ≠ 48 ∨ cs = [])) → numL (NumText.digitsVal ds) = ds
  | 0, ds, h, _, ⟨c, cs, e, _⟩ => by rw [e] at h; simp at h
  | k + 1, ds, h, hd, ⟨c, cs, e, h0⟩ => by
    rcases List.eq_nil_or_concat cs with rfl | ⟨ys, y, rfl⟩
    · rw [e]
      have hc := hd c (by rw [e]; exact List.mem_cons_self)
      have : NumText.digitsVal [c] = c - 48 := by show 0 * 10 + (c - 48) = c - 48; omega
      rw [this, numL_lt (by omega)]
      congr 1
      omega
    · have hc0 : c ≠ 48 := by
        rcases h0 with h0 | h0
        · exact h0
        · simp at h0
      have e2 : ds = (c :: ys) ++ [y] := by rw [e]; simp
      have hy := hd y (by rw [e2]; simp)
      have hc := hd c (by rw [e]; exact List.mem_cons_self)
      have ih := numL_back k (c :: ys) (by rw [e2] at h; simp at h ⊢; omega) (fun x hx => hd x (by rw [e2]; exact List.mem_append_left _ hx)) ⟨c, ys, rfl, .inl hc0⟩
      have hp : 0 < NumText.digitsVal (c :: ys) := NumText.digitsVal_pos (by omega)
      rw [e2, NumText.digitsVal_snoc, numL_step (by omega)]
      have d1 : (NumText.digitsVal (c :: ys) * 10 + (y - 48)) / 10 = NumText.digitsVal (c :: ys) := by omega
      have d2 : 48 + (NumText.digitsVal (c :: ys) * 10 + (y - 48)) % 10 = y := by omega
      rw [d1, d2, ih]
theorem digitsVal_lt : ∀ (k : Nat) (ds : List Nat), ds.length ≤ k → NumText.AllDigits ds → NumText.digitsVal ds < 10 ^ k
  | 0, ds, h, _ => by
    have : ds = [] := List.length_eq_zero_iff.mp (by omega)
    subst this
    decide
  | k + 1, ds, h, hd => by
    rcases List.eq_nil_or_concat ds with rfl | ⟨ys, y, rfl⟩
    · have : NumText.digitsVal [] = 0 := rfl
      rw [this]; exact Nat.pow_pos (by decide)
    · have e2 : ys.concat y = ys ++ [y] := by simp
      rw [e2] at h hd ⊢
      have hy := hd y (by simp)
      have ih := digitsVal_lt k ys (by simp at h; omega) (fun x hx => hd x (List.mem_append_left _ hx))
      rw [NumText.digitsVal_snoc, Nat.pow_succ]
      omega
theorem fig_list : figS.cps.toList = [48, 49, 50, 51, 52, 53, 54, 55, 56, 57] := by decide +kernel
theorem fig_mem {c : Nat} : c ∈ figS.cps.toList ↔ 48 ≤ c ∧ c ≤ 57 := by
  rw [fig_list]
  simp only [List.mem_cons, List.not_mem_nil, or_false]
  omega
/-- a text of one to seven figures, perhaps a sign ahead: what int makes of it -/
theorem int_figs {z : Str} (hd : NumText.AllDigits (figsOf z).cps.toList) (h1 : 1 ≤ (figsOf z).length) (h7 : (figsOf z).length ≤ 7) :
    (z.cps.toList = (figsOf z).cps.toList ∧ PySem.intText? z = some ((NumText.digitsVal (figsOf z).cps.toList : Nat) : Int) ∧ z.length ≤ 8) ∨
    (z.cps.toList = 45 :: (figsOf z).cps.toList ∧ PySem.intText? z = some (-((NumText.digitsVal (figsOf z).cps.toList : Nat) : Int)) ∧ z.length ≤ 8) := by
  have hl : (figsOf z).length = (figsOf z).cps.toList.length := len_tl _
  have hzl : z.length = z.cps.toList.length := len_tl _
  have hne : (figsOf z).cps.toList ≠ [] := fun e => by rw [e] at hl; simp at hl; omega
  by_cases hs : ∃ cs, z.cps.toList = 45 :: cs
  · obtain ⟨cs, hs⟩ := hs
    have e : (figsOf z).cps.toList = cs := sub_neg hs
    rw [e] at hd hne hl ⊢
    have hzl2 : z.length ≤ 8 := by rw [hzl, hs, List.length_cons]; omega
    exact .inr ⟨hs, intText_neg hs hd hne (by omega), hzl2⟩
  · have e : figsOf z = z := sub_pos fun c cs h q => hs ⟨cs, by rw [← q]; exact h⟩
    rw [e] at hd hne h7 ⊢
    exact .inl ⟨rfl, intText_digits hd hne (by omega), by omega⟩
theorem numS_of_nat {z : Str} {m : Nat} (h : z.cps.toList = numL m) : z = numS (m : Int) := by
  apply Str.ext'
  apply Array.toList_inj.mp
  rw [h]; exact (numS_nat m).symm
theorem numS_of_neg {z : Str} {m : Nat} (h : z.cps.toList = 45 :: numL (m + 1)) : z = numS (Int.negSucc m) := by
  apply Str.ext'
  apply Array.toList_inj.mp
  rw [h]; exact (numS_neg m).symm
/-- what is a number by the program's own look: just what str makes of a number of at most seven figures -/
theorem isNum_is {z : Str} (h : isNum z = true) : ∃ n : Int, n.natAbs ≤ 9999999 ∧ z = numS n ∧ PySem.intText? z = some n ∧ z.length ≤ 8 := by
  unfold isNum at h
  split at h
  · cases h
  · rename_i h1
    split at h
    · rename_i h2
      have hlen : 1 ≤ (figsOf z).length ∧ (figsOf z).length ≤ 7 := by omega
      have hd : NumText.AllDigits (figsOf z).cps.toList := fun c hc => fig_mem.mp (of_decide_eq_true (List.all_eq_true.mp h2 c hc))
      have hl : (figsOf z).length = (figsOf z).cps.toList.length := len_tl _
      have hv := digitsVal_lt 7 _ (by omega) hd
      by_cases z0 : z = "0"
      · subst z0
        exact ⟨0, by decide, by decide +kernel, by decide +kernel, by decide +kernel⟩
      · rw [decide_eq_false z0, Bool.false_or, Bool.not_eq_true', decide_eq_false_iff_not] at h
        obtain ⟨c, cs, hcs⟩ : ∃ c cs, (figsOf z).cps.toList = c :: cs := by
          cases e : (figsOf z).cps.toList with
          | nil => rw [e] at hl; simp at hl; omega
          | cons c cs => exact ⟨c, cs, rfl⟩
        have hc : c ≠ 48 := fun e => h (by rw [hcs, e]; rfl)
        have hb := numL_back _ _ (Nat.le_refl _) hd ⟨c, cs, hcs, .inl hc⟩
        have hpos : 0 < NumText.digitsVal (figsOf z).cps.toList := by
          rw [hcs]
          have := hd c (by rw [hcs]; exact List.mem_cons_self)
          exact NumText.digitsVal_pos (by omega)
        rcases int_figs hd hlen.1 hlen.2 with ⟨e1, e2, e3⟩ | ⟨e1, e2, e3⟩
        · exact ⟨_, by omega, numS_of_nat (by rw [e1]; exact hb.symm), e2, e3⟩
        · refine ⟨_, by omega, ?_, e2, e3⟩
          obtain ⟨m, hm⟩ : ∃ m, NumText.digitsVal (figsOf z).cps.toList = m + 1 := ⟨NumText.digitsVal (figsOf z).cps.toList - 1, by omega⟩
          have : (-((NumText.digitsVal (figsOf z).cps.toList : Nat) : Int)) = Int.negSucc m := by rw [hm]; rfl
          rw [this]
          exact numS_of_neg (by rw [e1, ← hm, hb])
    · cases h
theorem numS_is {n : Int} (h : n.natAbs ≤ 9999999) : isNum (numS n) = true ∧ PySem.intText? (numS n) = some n ∧ (numS n).length ≤ 8 ∧ numV (numS n) = n := by
  have e := fig_num n
  have l := numL_len (n := n.natAbs) (k := 7) (by decide) (by omega)
  have lf : (figsOf (numS n)).length = (numL n.natAbs).length := by rw [len_tl]; exact congrArg List.length e
  have ne := numL_ne n.natAbs
  have l0 : (numL n.natAbs).length ≠ 0 := fun z => ne (List.length_eq_zero_iff.mp z)
  have hn : isNum (numS n) = true := by
    unfold isNum
    rw [if_neg (by rw [lf]; omega), if_pos]
    · by_cases z : n = 0
      · rw [z, decide_eq_true numS_zero]; rfl
      · obtain ⟨c, cs, hc, h48⟩ := numL_head (m := n.natAbs) (by omega)
        have e2 : (figsOf (numS n)).cps.toList = c :: cs := e.trans hc
        rw [e2]
        have : decide ((c :: cs).head? = some 48) = false := decide_eq_false (fun q => h48 (Option.some.inj q))
        rw [this, Bool.or_eq_true]; exact .inr rfl
    · rw [List.all_eq_true]
      intro c hc
      have hc : c ∈ (figsOf (numS n)).cps.toList := hc
      rw [show (figsOf (numS n)).cps.toList = numL n.natAbs from e] at hc
      exact decide_eq_true (fig_mem.mpr (numL_digits _ c hc))
  have hi : PySem.intText? (numS n) = some n := by
    cases n with
    | ofNat m => exact int_num (by have : m = (Int.ofNat m).natAbs := rfl; rw [this]; omega)
    | negSucc m =>
      have e := numS_neg m
      have hl : (numL (m + 1)).length ≤ 7 := l
      have r := intText_neg (x := numS (Int.negSucc m)) e (numL_digits _) (numL_ne _) (by rw [len_tl, show tl _ = _ from e]; simp only [List.length_cons]; omega)
      rw [numL_val] at r
      rw [r]; rfl
  obtain ⟨n', _, _, e3, e4⟩ := isNum_is hn
  exact ⟨hn, hi, e4, by unfold numV; rw [hi]; rfl⟩
/-- the law's own look -/
def figV (z : Str) : Option Int := if isNum z = true then some (numV z) else none
theorem figV_num {z : Str} (h : isNum z = true) : numS (numV z) = z ∧ (numV z).natAbs ≤ 9999999 ∧ PySem.intText? z = some (numV z) ∧ z.length ≤ 8 := by
  obtain ⟨n, h1, h2, h3, h4⟩ := isNum_is h
  have : numV z = n := by unfold numV; rw [h3]; rfl
  rw [this]
  exact ⟨h2.symm, h1, h3, h4⟩
/-- a text of figures that int takes: str gives it back just if it is a number by the program's look -/
theorem figs_back {z : Str} {n : Int} (hd : NumText.AllDigits (figsOf z).cps.toList) (h1 : 1 ≤ (figsOf z).length) (h7 : (figsOf z).length ≤ 7) (hn : PySem.intText? z = some n) : numS n = z ↔ isNum z = true := by
  refine ⟨fun e => ?_, fun h => ?_⟩
  · rw [← e]
    refine (numS_is ?_).1
    have hl : (figsOf z).length = (figsOf z).cps.toList.length := len_tl _
    have hv := digitsVal_lt 7 _ (by omega) hd
    rcases int_figs hd h1 h7 with ⟨_, e2, _⟩ | ⟨_, e2, _⟩
    · rw [hn] at e2; cases e2; omega
    · rw [hn] at e2; cases e2; omega
  · obtain ⟨m, _, h2, h3, _⟩ := isNum_is h
    rw [hn] at h3; cases h3
    exact h2.symm
theorem isNum_figs {z : Str} (h : isNum z = true) : NumText.AllDigits (figsOf z).cps.toList ∧ 1 ≤ (figsOf z).length ∧ (figsOf z).length ≤ 7 := by
  unfold isNum at h
  split at h
  · cases h
  · split at h
    · rename_i h1 h2
      exact ⟨fun c hc => fig_mem.mp (of_decide_eq_true (List.all_eq_true.mp h2 c hc)), by omega, by omega⟩
    · cases h
end Wr
namespace Wr
open PySem PySem.Spec PyProof.Rows L2 TL
/-! ### texts that are none: where the reading stops -/
/-- an expression whose words are words of the language, its numbers of at most seven figures -/
def Ex.Sh : Ex → Prop
  | .num n => n.natAbs ≤ 9999999
  | .name x => x ∈ letters
  | .fault => True
  | .one w a => w ∈ ones ∧ a.Sh
  | .two w a b => w ∈ twos ∧ a.Sh ∧ b.Sh
  | .ite a b c => a.Sh ∧ b.Sh ∧ c.Sh
  | .lt x a b => x ∈ letters ∧ a.Sh ∧ b.Sh
  | .fn x a => x ∈ letters ∧ a.Sh
  | .ct a x k b => x ∈ letters ∧ k ∈ letters ∧ a.Sh ∧ b.Sh
def Itm.Sh : Itm → Prop
  | .n _ => False
  | .x y => y ∈ letters
  | .e a => a.Sh
/-- a word that may stand next, of any number of at most seven figures -/
def Fit7 (wt : Wt) (z : Str) : Prop := if isX wt = true then z ∈ letters else z ∈ letters ∨ isNum z = true ∨ z ∈ allW
instance (wt : Wt) (z : Str) : Decidable (Fit7 wt z) := by unfold Fit7; infer_instance
/-- the whole reading: the place of the first word that can't stand there, or the expression -/
def readF : Wt → Option Ex → List Str → Nat → Sum Nat Ex
  | _, none, [], k => .inl k
  | _, some e, [], _ => .inr e
  | _, some _, _ :: _, k => .inl k
  | wt, none, z :: zs, k => if Fit7 wt z then readF (taken wt z).1 (taken wt z).2 zs (k + 1) else .inl k
/-- what is still wanted -/
def remL : Wt → List Nat
  | [] => []
  | (w, as) :: r => (shapeW w).cps.toList.drop (as.length + 1) ++ remL r
def remW : Wt → Option Ex → List Nat
  | _, some _ => []
  | [], none => [101]
  | (w, as) :: r, none => (shapeW w).cps.toList.drop as.length ++ remL r
/-- the law's reading -/
def spotF : List Nat → List Str → Nat → Option Nat
  | [], [], _ => none
  | _ :: _, [], k => some k
  | [], _ :: _, k => some k
  | c :: cs, z :: zs, k => if c = 120 then (if z ∈ letters then spotF cs zs (k + 1) else some k) else
    if z ∈ letters ∨ isNum z = true then spotF cs zs (k + 1) else if z ∈ allW then spotF ((shapeW z).cps.toList ++ cs) zs (k + 1) else some k
theorem WtOk.taken7 {wt wt' : Wt} {z : Str} (h : WtOk wt) (f : Fit7 wt z) (e : Wr.taken wt z = (wt', none)) : WtOk wt' := by
  unfold Wr.taken at e
  unfold Fit7 at f
  by_cases hx : isX wt = true
  · rw [if_pos hx] at e
    exact (h.putX hx z).out e
  · have hx' : isX wt = false := Bool.eq_false_iff.mpr hx
    rw [if_neg hx] at e f
    by_cases h1 : z ∈ letters
    · rw [if_pos h1] at e; exact (h.putE hx' _).out e
    · rw [if_neg h1] at e
      by_cases h2 : isNum z = true
      · rw [if_pos h2] at e; exact (h.putE hx' _).out e
      · rw [if_neg h2] at e
        by_cases h3 : (shapeW z).length = 0
        · rw [if_pos h3] at e; exact (h.putE hx' _).out e
        · rw [if_neg h3] at e
          cases e
          rcases f with f | f | f
          · exact absurd f h1
          · exact absurd f h2
          · exact h.begin hx' f h3
/-- the stack's next kind -/
theorem rem_head {wt : Wt} (h : WtOk wt) : ∃ c cs, remW wt none = c :: cs ∧ (c = 120 ↔ isX wt = true) ∧ (c = 120 ∨ c = 101) := by
  cases wt with
  | nil => exact ⟨101, [], rfl, by simp [isX], .inr rfl⟩
  | cons p r =>
    obtain ⟨w, as⟩ := p
    have ht := h.top _ _ rfl
    have key : ∀ c, nxt (w, as) c → ∃ cs, remW ((w, as) :: r) none = c :: cs := fun c hc => by
      have g := nxt_get hc
      obtain ⟨hl, ge⟩ := List.getElem?_eq_some_iff.mp g
      refine ⟨(shapeW w).cps.toList.drop (as.length + 1) ++ remL r, ?_⟩
      show (shapeW w).cps.toList.drop as.length ++ remL r = _
      rw [List.drop_eq_getElem_cons hl, ge]; rfl
    rcases ht with ht | ht
    · obtain ⟨cs, e⟩ := key _ ht
      refine ⟨101, cs, e, ⟨fun z => absurd z (by decide), fun z => ?_⟩, .inr rfl⟩
      have z : (shapeW w).cps.toList[as.length]? = some 120 := of_decide_eq_true z
      rw [nxt_get ht] at z; cases z
    · obtain ⟨cs, e⟩ := key _ ht
      exact ⟨120, cs, e, ⟨fun _ => decide_eq_true (nxt_get ht), fun _ => rfl⟩, .inl rfl⟩
/-- a thing put: one kind less is wanted -/
theorem rem_put : ∀ {wt : Wt} {i : Itm}, PutOk wt i → remW (put wt i).1 (put wt i).2 = (remW wt none).tail
  | [], i, h => by
    have he := h.nil rfl
    cases i with
    | e a => rfl
    | _ => cases he
  | (w, as) :: r, i, h => by
    have hn := h.top _ _ rfl
    have hg := nxt_get hn
    obtain ⟨hl, ge⟩ := List.getElem?_eq_some_iff.mp hg
    have et : (remW ((w, as) :: r) none).tail = (shapeW w).cps.toList.drop (as.length + 1) ++ remL r := by
      show ((shapeW w).cps.toList.drop as.length ++ remL r).tail = _
      rw [List.drop_eq_getElem_cons hl]; rfl
    have len : (shapeW w).length = (shapeW w).cps.toList.length := len_tl _
    rw [et]
    by_cases hf : as.length + 1 = (shapeW w).length
    · have e : put ((w, as) :: r) i = put r (.e (mkEx w (as ++ [i]))) := if_pos hf
      rw [e, List.drop_of_length_le (by omega), List.nil_append]
      have hp : PutOk r (.e (mkEx w (as ++ [i]))) := ⟨fun p r' ep => h.low _ _ rfl p (by rw [ep]; exact List.mem_cons_self), fun p r' ep q hq => h.low _ _ rfl q (by rw [ep]; exact List.mem_cons_of_mem _ hq), fun _ => rfl⟩
      rw [rem_put hp]
      cases r with
      | nil => rfl
      | cons p r =>
        obtain ⟨w2, as2⟩ := p
        have hn2 : nxt (w2, as2) 101 := h.low _ _ rfl _ List.mem_cons_self
        obtain ⟨hl2, ge2⟩ := List.getElem?_eq_some_iff.mp (nxt_get hn2)
        show ((shapeW w2).cps.toList.drop as2.length ++ remL r).tail = (shapeW w2).cps.toList.drop (as2.length + 1) ++ remL r
        rw [List.drop_eq_getElem_cons hl2]; rfl
    · have e : put ((w, as) :: r) i = ((w, as ++ [i]) :: r, none) := if_neg hf
      rw [e]
      show (shapeW w).cps.toList.drop (as ++ [i]).length ++ remL r = _
      rw [List.length_append]; rfl
/-- a word taken: what is wanted behind it -/
theorem rem_taken {wt : Wt} {z : Str} (h : WtOk wt) (f : Fit7 wt z) : remW (taken wt z).1 (taken wt z).2 =
    if isX wt = true ∨ z ∈ letters ∨ isNum z = true then (remW wt none).tail else (shapeW z).cps.toList ++ (remW wt none).tail := by
  unfold taken
  unfold Fit7 at f
  by_cases hx : isX wt = true
  · rw [if_pos hx, if_pos (.inl hx)]; exact rem_put (h.putX hx z)
  · have hx' : isX wt = false := Bool.eq_false_iff.mpr hx
    rw [if_neg hx] at f ⊢
    by_cases h1 : z ∈ letters
    · rw [if_pos h1, if_pos (.inr (.inl h1))]; exact rem_put (h.putE hx' _)
    · rw [if_neg h1]
      by_cases h2 : isNum z = true
      · rw [if_pos h2, if_pos (.inr (.inr h2))]; exact rem_put (h.putE hx' _)
      · have hno : ¬ (isX wt = true ∨ z ∈ letters ∨ isNum z = true) := fun q => q.elim hx (fun q => q.elim h1 h2)
        rw [if_neg h2, if_neg hno]
        have len : (shapeW z).length = (shapeW z).cps.toList.length := len_tl _
        by_cases h3 : (shapeW z).length = 0
        · rw [if_pos h3, rem_put (h.putE hx' _), List.length_eq_zero_iff.mp (show (shapeW z).cps.toList.length = 0 by omega)]; rfl
        · rw [if_neg h3]
          show (shapeW z).cps.toList.drop 0 ++ remL wt = _
          rw [List.drop_zero]
          congr 1
          cases wt with
          | nil => rfl
          | cons p r =>
            obtain ⟨w2, as2⟩ := p
            have hn2 := (isX_get h).2 hx' _ _ rfl
            obtain ⟨hl2, ge2⟩ := List.getElem?_eq_some_iff.mp (nxt_get hn2)
            show (shapeW w2).cps.toList.drop (as2.length + 1) ++ remL r = ((shapeW w2).cps.toList.drop as2.length ++ remL r).tail
            rw [List.drop_eq_getElem_cons hl2]; rfl
/-- both readings stop at the same word -/
theorem spot_read : ∀ (zs : List Str) (wt : Wt) (wh : Option Ex) (k : Nat), (wh = none → WtOk wt) → spotF (remW wt wh) zs k = match readF wt wh zs k with | .inl i => some i | .inr _ => none
  | [], wt, none, k, h => by
    obtain ⟨c, cs, e, _⟩ := rem_head (h rfl)
    rw [e]; rfl
  | [], wt, some e, k, h => by cases wt <;> rfl
  | z :: zs, wt, some e, k, h => by cases wt <;> rfl
  | z :: zs, wt, none, k, h => by
    have h := h rfl
    obtain ⟨c, cs, e, hx, hc⟩ := rem_head h
    rw [e]
    show (if c = 120 then (if z ∈ letters then spotF cs zs (k + 1) else some k) else if z ∈ letters ∨ isNum z = true then spotF cs zs (k + 1) else if z ∈ allW then spotF ((shapeW z).cps.toList ++ cs) zs (k + 1) else some k) =
      match (if Fit7 wt z then readF (taken wt z).1 (taken wt z).2 zs (k + 1) else .inl k) with | .inl i => some i | .inr _ => none
    have et : (remW wt none).tail = cs := by rw [e]; rfl
    by_cases f : Fit7 wt z
    · rw [if_pos f]
      have ih := spot_read zs (taken wt z).1 (taken wt z).2 (k + 1) (fun hn => h.taken7 f (by rw [← hn]))
      rw [← ih, rem_taken h f, et]
      unfold Fit7 at f
      by_cases hX : isX wt = true
      · rw [if_pos hX] at f
        rw [if_pos (hx.mpr hX), if_pos f, if_pos (.inl hX)]
      · rw [if_neg hX] at f
        rw [if_neg (fun q => hX (hx.mp q))]
        by_cases h1 : z ∈ letters ∨ isNum z = true
        · rw [if_pos h1, if_pos (.inr h1)]
        · have hno : ¬ (isX wt = true ∨ z ∈ letters ∨ isNum z = true) := fun q => q.elim hX h1
          rw [if_neg h1, if_neg hno]
          rcases f with f | f | f
          · exact absurd (.inl f) h1
          · exact absurd (.inr f) h1
          · rw [if_pos f]
    · rw [if_neg f]
      unfold Fit7 at f
      by_cases hX : isX wt = true
      · rw [if_pos hX] at f
        rw [if_pos (hx.mpr hX), if_neg f]
      · rw [if_neg hX] at f
        rw [if_neg (fun q => hX (hx.mp q)), if_neg (fun q => f (q.elim .inl fun q => .inr (.inl q))), if_neg (fun q => f (.inr (.inr q)))]
/-! ### what was read is what is written -/
def wdsP (p : Str × List Itm) : List Str := p.1 :: p.2.flatMap Itm.wds
def wdsW : Wt → List Str
  | [] => []
  | p :: r => wdsW r ++ wdsP p
theorem mk_wds {w : Str} (hw : w ∈ allW) {l : List Itm} (h : l.map itmC = (shapeW w).cps.toList) : (mkEx w l).wds = w :: l.flatMap Itm.wds := by
  obtain ⟨c1, c2, c3, c4, c5, c6, c7⟩ := cps_all
  obtain ⟨s1, s2, s3, s4, s5⟩ := shapeW_rest
  unfold allW at hw
  rcases List.mem_append.mp hw with hw | hw
  · rcases List.mem_append.mp hw with hw | hw
    · simp only [List.mem_cons, List.not_mem_nil, or_false] at hw
      rcases hw with rfl | rfl | rfl | rfl | rfl
      · rw [s5, c7] at h
        cases l with
        | nil => rfl
        | cons => cases h
      · rw [s1, c3] at h
        obtain ⟨_, l1, rfl, h1⟩ := inv_e h
        obtain ⟨_, l2, rfl, h2⟩ := inv_e h1
        obtain ⟨_, l3, rfl, h3⟩ := inv_e h2
        cases inv_nil h3
        simp [mkEx, Ex.wds, Itm.wds]
      · rw [s2, c4] at h
        obtain ⟨_, l1, rfl, h1⟩ := inv_x h
        obtain ⟨_, l2, rfl, h2⟩ := inv_e h1
        obtain ⟨_, l3, rfl, h3⟩ := inv_e h2
        cases inv_nil h3
        simp [mkEx, Ex.wds, Itm.wds]
      · rw [s3, c5] at h
        obtain ⟨_, l1, rfl, h1⟩ := inv_x h
        obtain ⟨_, l2, rfl, h2⟩ := inv_e h1
        cases inv_nil h2
        simp [mkEx, Ex.wds, Itm.wds]
      · rw [s4, c6] at h
        obtain ⟨_, l1, rfl, h1⟩ := inv_e h
        obtain ⟨_, l2, rfl, h2⟩ := inv_x h1
        obtain ⟨_, l3, rfl, h3⟩ := inv_x h2
        obtain ⟨_, l4, rfl, h4⟩ := inv_e h3
        cases inv_nil h4
        simp [mkEx, Ex.wds, Itm.wds]
    · rw [shapeW_one w hw, c1] at h
      obtain ⟨_, l1, rfl, h1⟩ := inv_e h
      cases inv_nil h1
      simp [mkEx, Ex.wds, Itm.wds]
  · rw [shapeW_two w hw, c2] at h
    obtain ⟨_, l1, rfl, h1⟩ := inv_e h
    obtain ⟨_, l2, rfl, h2⟩ := inv_e h1
    cases inv_nil h2
    simp [mkEx, Ex.wds, Itm.wds]
theorem mk_sh {w : Str} (hw : w ∈ allW) {l : List Itm} (h : l.map itmC = (shapeW w).cps.toList) (hs : ∀ i ∈ l, i.Sh) : (mkEx w l).Sh := by
  obtain ⟨c1, c2, c3, c4, c5, c6, c7⟩ := cps_all
  obtain ⟨s1, s2, s3, s4, s5⟩ := shapeW_rest
  unfold allW at hw
  rcases List.mem_append.mp hw with hw | hw
  · rcases List.mem_append.mp hw with hw | hw
    · simp only [List.mem_cons, List.not_mem_nil, or_false] at hw
      rcases hw with rfl | rfl | rfl | rfl | rfl
      · rw [s5, c7] at h
        cases l with
        | nil => exact True.intro
        | cons => cases h
      · rw [s1, c3] at h
        obtain ⟨a, l1, rfl, h1⟩ := inv_e h
        obtain ⟨b, l2, rfl, h2⟩ := inv_e h1
        obtain ⟨c, l3, rfl, h3⟩ := inv_e h2
        cases inv_nil h3
        exact ⟨hs (.e a) (by simp), hs (.e b) (by simp), hs (.e c) (by simp)⟩
      · rw [s2, c4] at h
        obtain ⟨a, l1, rfl, h1⟩ := inv_x h
        obtain ⟨b, l2, rfl, h2⟩ := inv_e h1
        obtain ⟨c, l3, rfl, h3⟩ := inv_e h2
        cases inv_nil h3
        exact ⟨hs (.x a) (by simp), hs (.e b) (by simp), hs (.e c) (by simp)⟩
      · rw [s3, c5] at h
        obtain ⟨a, l1, rfl, h1⟩ := inv_x h
        obtain ⟨b, l2, rfl, h2⟩ := inv_e h1
        cases inv_nil h2
        exact ⟨hs (.x a) (by simp), hs (.e b) (by simp)⟩
      · rw [s4, c6] at h
        obtain ⟨a, l1, rfl, h1⟩ := inv_e h
        obtain ⟨b, l2, rfl, h2⟩ := inv_x h1
        obtain ⟨c, l3, rfl, h3⟩ := inv_x h2
        obtain ⟨d, l4, rfl, h4⟩ := inv_e h3
        cases inv_nil h4
        exact ⟨hs (.x b) (by simp), hs (.x c) (by simp), hs (.e a) (by simp), hs (.e d) (by simp)⟩
    · rw [shapeW_one w hw, c1] at h
      obtain ⟨a, l1, rfl, h1⟩ := inv_e h
      cases inv_nil h1
      exact ⟨hw, hs (.e a) (by simp)⟩
  · rw [shapeW_two w hw, c2] at h
    obtain ⟨a, l1, rfl, h1⟩ := inv_e h
    obtain ⟨b, l2, rfl, h2⟩ := inv_e h1
    cases inv_nil h2
    exact ⟨hw, hs (.e a) (by simp), hs (.e b) (by simp)⟩
def WtSh (wt : Wt) : Prop := ∀ p ∈ wt, ∀ i ∈ p.2, i.Sh
theorem put_wds : ∀ {wt : Wt} {i : Itm}, PutOk wt i → WtSh wt → i.Sh → (match put wt i with | (_, some e) => e.wds = wdsW wt ++ i.wds ∧ e.Sh | (wt', none) => wdsW wt' = wdsW wt ++ i.wds ∧ WtSh wt')
  | [], i, h, hs, hi => by
    have he := h.nil rfl
    cases i with
    | e a => exact ⟨rfl, hi⟩
    | _ => cases he
  | (w, as) :: r, i, h, hs, hi => by
    have hn := h.top _ _ rfl
    have hsi : ∀ j ∈ as ++ [i], j.Sh := fun j hj => by
      rcases List.mem_append.mp hj with hj | hj
      · exact hs _ List.mem_cons_self j hj
      · rw [List.mem_singleton.mp hj]; exact hi
    have hsr : WtSh r := fun p hp => hs p (List.mem_cons_of_mem _ hp)
    by_cases hf : as.length + 1 = (shapeW w).length
    · have e : put ((w, as) :: r) i = put r (.e (mkEx w (as ++ [i]))) := if_pos hf
      rw [e]
      have hp : PutOk r (.e (mkEx w (as ++ [i]))) := ⟨fun p r' ep => h.low _ _ rfl p (by rw [ep]; exact List.mem_cons_self), fun p r' ep q hq => h.low _ _ rfl q (by rw [ep]; exact List.mem_cons_of_mem _ hq), fun _ => rfl⟩
      have hm : (as ++ [i]).map itmC = (shapeW w).cps.toList := by
        have h2 : as.map itmC ++ [itmC i] = (shapeW w).cps.toList.take (as.length + 1) := hn.2
        rw [List.map_append]
        show as.map itmC ++ [itmC i] = _
        rw [h2, take_all (by rw [hf, len_tl])]
      have ih := put_wds hp hsr (mk_sh hn.1 hm hsi)
      have ew : wdsW r ++ (Itm.e (mkEx w (as ++ [i]))).wds = wdsW ((w, as) :: r) ++ i.wds := by
        show wdsW r ++ (mkEx w (as ++ [i])).wds = (wdsW r ++ w :: as.flatMap Itm.wds) ++ i.wds
        rw [mk_wds hn.1 hm, List.flatMap_append]
        simp
      rw [ew] at ih
      exact ih
    · have e : put ((w, as) :: r) i = ((w, as ++ [i]) :: r, none) := if_neg hf
      rw [e]
      refine ⟨?_, fun p hp => ?_⟩
      · show wdsW r ++ w :: (as ++ [i]).flatMap Itm.wds = (wdsW r ++ w :: as.flatMap Itm.wds) ++ i.wds
        rw [List.flatMap_append]; simp
      · rcases List.mem_cons.mp hp with rfl | hp
        · exact hsi
        · exact hsr p hp
theorem fault_shape : ∀ z ∈ allW, (shapeW z).length = 0 → z = "fault" := fun z h e => (shapeW_all z h).2.1 e
theorem taken_wds {wt : Wt} {z : Str} (h : WtOk wt) (hs : WtSh wt) (f : Fit7 wt z) : match taken wt z with | (_, some e) => e.wds = wdsW wt ++ [z] ∧ e.Sh | (wt', none) => wdsW wt' = wdsW wt ++ [z] ∧ WtSh wt' := by
  unfold taken
  unfold Fit7 at f
  by_cases hx : isX wt = true
  · rw [if_pos hx] at f ⊢
    exact put_wds (h.putX hx z) hs f
  · have hx' : isX wt = false := Bool.eq_false_iff.mpr hx
    rw [if_neg hx] at f ⊢
    by_cases h1 : z ∈ letters
    · rw [if_pos h1]; exact put_wds (h.putE hx' _) hs (i := .e (.name z)) h1
    · rw [if_neg h1]
      by_cases h2 : isNum z = true
      · rw [if_pos h2]
        obtain ⟨e1, e2, _⟩ := figV_num h2
        have r := put_wds (h.putE hx' (.num (numV z))) hs (i := .e (.num (numV z))) e2
        have ew : (Itm.e (.num (numV z))).wds = [z] := by show [numS (numV z)] = [z]; rw [e1]
        rw [ew] at r
        exact r
      · rw [if_neg h2]
        have hz : z ∈ allW := f.elim (fun q => absurd q h1) fun q => q.elim (fun q => absurd q h2) id
        by_cases h3 : (shapeW z).length = 0
        · rw [if_pos h3]
          have r := put_wds (h.putE hx' .fault) hs (i := .e .fault) True.intro
          have ew : (Itm.e .fault).wds = [z] := by rw [fault_shape z hz h3]; rfl
          rw [ew] at r
          exact r
        · rw [if_neg h3]
          refine ⟨rfl, fun p hp => ?_⟩
          rcases List.mem_cons.mp hp with rfl | hp
          · exact fun i hi => nomatch hi
          · exact hs p hp
/-- the reading went through: the words are those of the expression -/
theorem read_wds : ∀ (zs : List Str) (wt : Wt) (wh : Option Ex) (k : Nat) (e : Ex), (wh = none → WtOk wt ∧ WtSh wt) → (∀ a, wh = some a → a.Sh) → readF wt wh zs k = .inr e → e.wds = (match wh with | some a => a.wds | none => wdsW wt ++ zs) ∧ e.Sh
  | [], wt, none, k, e, h, hs, hr => by cases hr
  | [], wt, some a, k, e, h, hs, hr => by
    have : (Sum.inr a : Sum Nat Ex) = .inr e := hr
    cases this
    exact ⟨rfl, hs _ rfl⟩
  | z :: zs, wt, some a, k, e, h, hs, hr => by cases hr
  | z :: zs, wt, none, k, e, h, hs, hr => by
    obtain ⟨h1, h2⟩ := h rfl
    have hr : (if Fit7 wt z then readF (taken wt z).1 (taken wt z).2 zs (k + 1) else .inl k) = .inr e := hr
    by_cases f : Fit7 wt z
    · rw [if_pos f] at hr
      have hw := taken_wds h1 h2 f
      have hk : ∀ r : Wt × Option Ex, taken wt z = r → (match r with | (_, some e) => e.wds = wdsW wt ++ [z] ∧ e.Sh | (wt', none) => wdsW wt' = wdsW wt ++ [z] ∧ WtSh wt') := fun r er => by rw [er] at hw; exact hw
      rcases hE : taken wt z with ⟨wt', wh'⟩
      rw [hE] at hr
      have hw := hk _ hE
      cases wh' with
      | none =>
        obtain ⟨q1, q2⟩ := hw
        have ih := read_wds zs wt' none (k + 1) e (fun _ => ⟨h1.taken7 f hE, q2⟩) (fun _ z => nomatch z) hr
        refine ⟨?_, ih.2⟩
        rw [ih.1]
        show wdsW wt' ++ zs = wdsW wt ++ z :: zs
        rw [q1]; simp
      | some a =>
        obtain ⟨q1, q2⟩ := hw
        cases zs with
        | nil =>
          have hr : (Sum.inr a : Sum Nat Ex) = .inr e := hr
          cases hr
          exact ⟨q1, q2⟩
        | cons y ys => cases hr
    · rw [if_neg f] at hr; cases hr
end Wr
namespace Wr
open PySem PySem.Spec PyProof.Rows L2 TL
section
variable {P : Program} {w : World} {K : PySem.W.Frag} {mg : Str → Option Value} {base : Heap} {C : Addr}
def leaveV : List Str := leaveW
/-- a word handed to what is being read -/
def spTakes7 (C : Addr) : Sp := fun vs H Q _ => ∃ (H0 : Hp) (r : Addr) (z : Str) (wt : Wt), vs = [.ref r, .str z] ∧ z.length ≤ 20000 ∧ ((∃ e, RdgAt C H0 H r wt (some e) ∧ Q (.bl false) H) ∨
  (RdgAt C H0 H r wt none ∧ WtOk wt ∧ wt.length < 3000 ∧ (Fit7 wt z → ∀ H', RdgAt C H0 H' r (taken wt z).1 (taken wt z).2 → Q (.bl true) H') ∧ (¬ Fit7 wt z → ∀ H', RdgAt C H0 H' r wt none → Q (.bl false) H')))
def spTakesN7 (C : Addr) : Sp := fun vs H Q _ => ∃ (H0 : Hp) (r : Addr) (z : Str) (wt : Wt), vs = [.ref r, .str z] ∧ isX wt = true ∧ RdgAt C H0 H r wt none ∧ WtOk wt ∧ wt.length < 3000 ∧ (z ∈ letters → ∀ H', RdgAt C H0 H' r (taken wt z).1 (taken wt z).2 → Q (.bl true) H') ∧ (z ∉ letters → Q (.bl false) H)
theorem ok_takesN7 {na' : Addr} (F : DfM K C "Reading.takes_name" "takes_name" s_Reading_takes_name) (c : Cls K C) (mN : mg "NAMES" = some (.ref na')) (hN : TupK K na' (letters.map V.str)) (UP : UseM P w K mg base C "put" ["self", "thing"] 2 (spPut C)) :
    UseM P w K mg base C "takes_name" ["self", "word"] 3 (spTakesN7 C) := by
  refine F.use scTakesN (fun _ _ _ _ _ _ us hl => match us, hl with | [_, _], _ => rfl) (fun vs H Q E h => ?_) (fun cdv f A outer s H vs Q E hr h => ?_)
  · obtain ⟨H0, r, z, wt, rfl, _⟩ := h
    rfl
  · obtain ⟨H0, r, z, wt, rfl, hx, hR, hW, hl, q, q2⟩ := h
    refine ⟨_, pss_cons (ps_if (pt_cmpR (r := rIn K true) op_notIn_seq (pv 1) (pe_glob (v := .ref na') (by rfl) mN rfl) rfl) (pss_one (ps_ret pe_bl)) pss_nil)
      (pss_cons (ps_expr (pe_useM c UP hr (pv 0) (pa_cons (pv 1) pa_nil))) (pss_one (ps_ret pe_bl))), ?_⟩
    have flat : (letters.map V.str).all flatV = true := flat_strs letters
    refine ⟨_, rfl, na', _, rfl, .inr (hN.seq _), rfl, flat, _, rfl, ?_⟩
    rw [inV_str]
    by_cases hz : z ∈ letters
    · rw [decide_eq_true hz]
      refine iteF ?_
      obtain ⟨dx, wl, ads, whv, r1, r2, r3, r4⟩ := hR.lst
      have q := q hz
      have e : taken wt z = put wt (.x z) := if_pos hx
      rw [e] at q
      refine ⟨_, rfl, r, dx, _, rfl, r1, (rdgF_look wl whv .non).2.2.2.1, _, rfl, H0, r, .str z, wt, .x z, rfl, hR, hW.putX hx z, rfl, by omega, fun H' R' => q H' R'⟩
    · rw [decide_eq_false hz]
      exact iteT (q2 hz)
theorem ok_takes7 {sa na' la : Addr} (F : DfM K C "Reading.takes" "takes" s_Reading_takes) (c : Cls K C) (na : NoAts K C rdgNs) (hSh : ShapesAt K w sa) (hKD : ∃ es n, KDict K w sa es n) (hmg : mg "SHAPES" = some (.ref sa)) (mN : mg "NAMES" = some (.ref na')) (hN : TupK K na' (letters.map V.str))
    (mL : mg "AS_THEY_ARE" = some (.ref la)) (hL : TupK K la (leaveW.map V.str)) (len : mg "len" = none) (it : mg "int" = none) (UP : UseM P w K mg base C "put" ["self", "thing"] 2 (spPut C)) (U_tn : UseM P w K mg base C "takes_name" ["self", "word"] 3 (spTakesN7 C)) (hKey : ∀ z, z ∉ allW → z ∉ leaveW → PySem.W.nsIn K sa z = some none)
    (U_bg : UseM P w K mg base C "begin" ["self", "word"] 3 (spRBegin C)) (U_pl : Use P w K mg base "place_of_next" ["started"] 1 spPlaceN) (U_num : Use P w K mg base "is_number" ["word"] 1 spIsNum) : UseM P w K mg base C "takes" ["self", "word"] 4 (spTakes7 C) := by
  refine F.use scTakes (fun _ _ _ _ _ _ us hl => match us, hl with | [_, _], _ => rfl) (fun vs H Q E h => ?_) (fun cdv f A outer s H vs Q E hr h => ?_)
  · obtain ⟨H0, r, z, wt, rfl, _⟩ := h
    rfl
  · obtain ⟨H0, r, z, wt, rfl, hzn0, hh⟩ := h
    obtain ⟨es, n, KD⟩ := hKD
    have hr1 : Room 1 _ := hr.mono (by decide)
    have hr2 : Room 2 _ := hr.mono (by decide)
    refine ⟨_, pss_cons (ps_if (pt_cmpR op_notN (pe_fld (pv 0) rfl) pe_non (nomark _)) (pss_one (ps_ret pe_bl)) pss_nil)
      (pss_cons (ps_if (PW.pt (pw_and (pt_cmpR op_gt (pe_callB call_len_seq (by rfl) len PySem.boot_len (pa_cons (pe_fld (pv 0) rfl) pa_nil)) pe_int (nomark _)) (pw_and1 (pt_cmpR op_eq (pe_use U_pl hr1 (pa_cons (pe_ix ix_list (pe_fld (pv 0) rfl) (pe_un un_neg pe_int) (fun _ _ => rfl)) pa_nil)) pe_str (nomark _)))))
        (pss_one (ps_ret (pe_useM c U_tn hr (pv 0) (pa_cons (pv 1) pa_nil)))) pss_nil)
      (pss_cons (ps_if (pt_cmpR (r := rIn K false) op_in_seq (pv 1) (pe_glob (v := .ref na') (by rfl) mN rfl) rfl)
        (pss_one (ps_expr (pe_useM c UP hr2 (pv 0) (pa_cons (pe_tup (pa_cons pe_str (pa_cons (pv 1) pa_nil))) pa_nil))))
        (pss_one (ps_if (pt_val (pe_use U_num hr1 (pa_cons (pv 1) pa_nil)))
          (pss_one (ps_expr (pe_useM c UP hr2 (pv 0) (pa_cons (pe_tup (pa_cons pe_str (pa_cons (pe_callTy call_int_str (by rfl) it (by decide +kernel) (pa_cons (pv 1) pa_nil)) pa_nil))) pa_nil))))
          (pss_one (ps_if (PW.pt (pw_and (pt_cmpR (op_in_kd KD) (pv 1) (pe_glob (v := .ref sa) (by rfl) hmg rfl) rfl) (pw_and1 (pt_cmpR (r := rIn K true) op_notIn_seq (pv 1) (pe_glob (v := .ref la) (by rfl) mL rfl) rfl))))
            (pss_one (ps_expr (pe_useM c U_bg hr (pv 0) (pa_cons (pv 1) pa_nil))))
            (pss_one (ps_ret pe_bl)))))))
      (pss_one (ps_ret pe_bl)))), ?_⟩
    have flat : (letters.map V.str).all flatV = true := flat_strs letters
    have flat2 : (leaveW.map V.str).all flatV = true := flat_strs leaveW
    obtain ⟨x1, x2⟩ := xNe
    rcases hh with ⟨e, hR, q⟩ | ⟨hR, hW, hl, q, q2⟩
    · obtain ⟨_, _, dx, wl, ads, whv, r1, _, _, _, _, r6⟩ := id hR
      obtain ⟨t, _, et, _⟩ := (show AtE H whv e from r6).words
      subst et
      obtain ⟨_, k2, _⟩ := rdgF_look wl (.ref t) .non
      refine ⟨_, rfl, r, C, dx, _, _, rfl, r1, c, na _ (by decide +kernel), k2, rfl, _, rfl, iteT q⟩
    obtain ⟨dx, wl, ads, whv, r1, r2, r3, r4⟩ := hR.lst
    have r4 := r4 rfl
    subst r4
    obtain ⟨k1, k2, _, k4, k5, k6, k7, _⟩ := rdgF_look wl .non .non
    refine ⟨_, rfl, r, C, dx, _, _, rfl, r1, c, na _ (by decide +kernel), k2, rfl, _, rfl, iteF ?_⟩
    refine ⟨_, rfl, r, C, dx, _, _, rfl, r1, c, na _ (by decide +kernel), k1, wl, _, rfl, .inl (SqL.of r2), ?_⟩
    refine ⟨_, _, rfl, rfl, _, rfl, ?_⟩
    have hlen : (ads.reverse.map V.ref).length = wt.length := by rw [List.length_map, List.length_reverse, r3]
    rw [hlen]
    have hxg := isX_get hW
    have top : ∀ p r', wt = p :: r' → ∃ (a : Addr) (ads' : List Addr) (us : List V), ads.reverse.map V.ref = ads'.map V.ref ++ [.ref a] ∧ H a = some (.lst (.str p.1 :: us)) ∧ us.length = p.2.length := fun p r' e => by
      obtain ⟨n0, sm, dx', wl', ads0, whv', a1, a2, a3, a4, a5, a6⟩ := id hR
      have ew : wl' = wl := by
        rw [r1] at a1
        injection a1 with a1
        injection a1 with _ _ e2
        injection e2 with e2 _
        injection e2 with _ e2
        injection e2 with e2
        exact e2.symm
      subst ew
      rw [r2] at a3
      injection a3 with a3
      injection a3 with a3
      have ea := List.reverse_inj.mp (refs_inj a3)
      subst ea
      subst e
      cases a4 with
      | @cons a _ vs _ ads1 _ na ha hit ht => exact ⟨a, ads1.reverse, vs, by rw [List.reverse_cons, List.map_append]; rfl, ha, hit.length⟩
    by_cases hX : isX wt = true
    · obtain ⟨p, r', ep, hn⟩ := hxg.1 hX
      obtain ⟨a, ads', us, ea, ha, hul⟩ := top p r' ep
      have gt : decide ((0 : Int) < (wt.length : Int)) = true := decide_eq_true (by rw [ep, List.length_cons]; omega)
      refine ite2 (fun _ => ?_) (fun h => absurd gt h)
      refine ⟨_, rfl, r, C, dx, _, _, rfl, r1, c, na _ (by decide +kernel), k1, 1, rfl, wl, _, _, .ref a, rfl, rfl, SqL.of r2, by rw [ea]; exact atI_last _ _, ?_⟩
      refine ⟨a, p.1, us, 120, rfl, ha, hn.1, by rw [hul]; exact nxt_get hn, rfl, _, rfl, ?_⟩
      refine ite2 (fun _ => ?_) (fun h => absurd (decide_eq_true x1) h)
      have f7 : Fit7 wt z ↔ z ∈ letters := by unfold Fit7; rw [if_pos hX]
      exact ⟨_, rfl, r, dx, _, rfl, r1, k6, _, rfl, H0, r, z, wt, rfl, hX, hR, hW, hl, fun hz => q (f7.mpr hz), fun hz => q2 (fun z => hz (f7.mp z)) H hR⟩
    have hX : isX wt = false := Bool.eq_false_iff.mpr hX
    have f7 : Fit7 wt z ↔ (z ∈ letters ∨ isNum z = true ∨ z ∈ allW) := by unfold Fit7; rw [if_neg (by rw [hX]; exact Bool.false_ne_true)]
    have et : taken wt z = if z ∈ letters then put wt (.e (.name z)) else if isNum z = true then put wt (.e (.num (numV z))) else if (shapeW z).length = 0 then put wt (.e .fault) else ((z, []) :: wt, none) := by
      unfold taken
      rw [if_neg (by rw [hX]; exact Bool.false_ne_true)]
    rcases (show wt = [] ∨ ∃ p r', wt = p :: r' by cases wt with | nil => exact .inl rfl | cons p r' => exact .inr ⟨p, r', rfl⟩) with e0 | ⟨p, r', ep⟩
    refine ite2 (fun h => absurd (of_decide_eq_true h) (by rw [e0]; simp)) (fun _ => ?_)
    refine iteF ?_
    rotate_left
    obtain ⟨a, ads', us, ea, ha, hul⟩ := top p r' ep
    have hn := hxg.2 hX p r' ep
    have gt : decide ((0 : Int) < (wt.length : Int)) = true := decide_eq_true (by rw [ep, List.length_cons]; omega)
    refine ite2 (fun _ => ?_) (fun h => absurd gt h)
    refine ⟨_, rfl, r, C, dx, _, _, rfl, r1, c, na _ (by decide +kernel), k1, 1, rfl, wl, _, _, .ref a, rfl, rfl, SqL.of r2, by rw [ea]; exact atI_last _ _, ?_⟩
    refine ⟨a, p.1, us, 101, rfl, ha, hn.1, by rw [hul]; exact nxt_get hn, rfl, _, rfl, ?_⟩
    refine ite2 (fun h => absurd (of_decide_eq_true h) x2) (fun _ => ?_)
    all_goals
      refine ⟨_, rfl, na', _, rfl, .inr (hN.seq _), rfl, flat, _, rfl, ?_⟩
      rw [inV_str]
      by_cases hz : z ∈ letters
      · rw [decide_eq_true hz]
        have q := q (f7.mpr (.inl hz))
        rw [et, if_pos hz] at q
        refine iteT ⟨_, rfl, r, dx, _, rfl, r1, k4, _, rfl, by show 2 ≤ sizeLine; decide, fun b nb => ?_⟩
        have s1 := Same.new nb (.tup [.str "name", .str z])
        exact ⟨H0, r, .ref b, wt, .e (.name z), rfl, hR.same s1, hW.putE hX _, ⟨b, rfl, upd_same⟩, by omega, fun H' R' => q H' R'⟩
      · rw [decide_eq_false hz]
        refine iteF ⟨_, rfl, z, rfl, by omega, fun H1 s1 => ?_⟩
        by_cases hn2 : isNum z = true
        · rw [hn2]
          have q := q (f7.mpr (.inr (.inl hn2)))
          rw [et, if_neg hz, if_pos hn2] at q
          obtain ⟨_, _, hint, hzn⟩ := figV_num hn2
          refine ⟨_, rfl, iteT ⟨_, rfl, r, dx, _, rfl, s1 _ _ r1, k4, _, rfl, z, numV z, rfl, hint, by omega, by show 2 ≤ sizeLine; decide, fun b nb => ?_⟩⟩
          have s2 := s1.trans (Same.new nb (.tup [.str "num", .int (numV z)]))
          exact ⟨H0, r, .ref b, wt, .e (.num (numV z)), rfl, hR.same s2, hW.putE hX _, ⟨b, rfl, upd_same⟩, by omega, fun H' R' => q H' R'⟩
        · rw [Bool.eq_false_iff.mpr hn2]
          by_cases hzw : z ∈ allW
          · have q := q (f7.mpr (.inr (.inr hzw)))
            obtain ⟨_, _, u, _, _, hk2, _⟩ := shapesW hSh z hzw
            refine ⟨_, rfl, iteF ⟨_, rfl, z, _, rfl, rfl, hk2, _, rfl, iteT ?_⟩⟩
            refine ⟨_, rfl, la, _, rfl, .inr (hL.seq _), rfl, flat2, _, rfl, ?_⟩
            rw [inV_str, decide_eq_false (allW_more z hzw).2]
            refine iteT ⟨_, rfl, r, dx, _, rfl, s1 _ _ r1, k7, _, rfl, H0, r, z, wt, rfl, hX, hzw, hR.same s1, hW, hl, fun H' R' => q H' R'⟩
          · have no : ¬ Fit7 wt z := fun h => (f7.mp h).elim hz fun h => h.elim hn2 hzw
            have q2 := q2 no H1 (hR.same s1)
            by_cases hlv : z ∈ leaveW
            · have hk : ∃ u, PySem.W.nsIn K sa z = some (some u) := by
                simp only [leaveW, List.mem_cons, List.not_mem_nil, or_false] at hlv
                have ha : ("a" : Str) ∈ letters := by decide +kernel
                rcases hlv with rfl | rfl
                · obtain ⟨_, _, u, _, _, hk2, _⟩ := hSh [] (.num 0) ⟨by decide, by decide⟩
                  exact ⟨u, hk2⟩
                · obtain ⟨_, _, u, _, _, hk2, _⟩ := hSh ["a"] (.name "a") (by simp [Good])
                  exact ⟨u, hk2⟩
              obtain ⟨u, hk2⟩ := hk
              refine ⟨_, rfl, iteF ⟨_, rfl, z, _, rfl, rfl, hk2, _, rfl, iteT ?_⟩⟩
              refine ⟨_, rfl, la, _, rfl, .inr (hL.seq _), rfl, flat2, _, rfl, ?_⟩
              rw [inV_str, decide_eq_true hlv]
              exact iteF q2
            · exact ⟨_, rfl, iteF ⟨_, rfl, z, _, rfl, rfl, hKey z hzw hlv, _, rfl, iteF (iteF q2)⟩⟩
end
end Wr
namespace Wr
open PySem PySem.Spec PyProof.Rows L2
/-! ### what is laid while an instance is made -/
structure Own (H : Hp) (p : Addr) (o : HO) (L : List (Addr × HO)) (H1 : Hp) : Prop where
  me : H1 p = some o
  its : ∀ x ∈ L, H1 x.1 = some x.2 ∧ H x.1 = none
  nd : (L.map (·.1)).Nodup
  keep : ∀ b o', H b = some o' → b ≠ p → H1 b = some o'
  old : H p ≠ none
section
variable {H H1 : Hp} {p b : Addr} {o o' : HO} {L L' : List (Addr × HO)}
theorem Own.start {o0 : HO} (h : H p = some o0) : Own H p o [] (upd H p o) :=
  ⟨upd_same, fun x hx => (by cases hx), List.nodup_nil, fun b o' hb ne => by rw [upd_ne ne]; exact hb, by rw [h]; exact fun z => nomatch z⟩
theorem Own.ne (w : Own H p o L H1) {x : Addr × HO} (hx : x ∈ L) : x.1 ≠ p := fun e => w.old (by rw [← e]; exact (w.its x hx).2)
theorem Own.set (w : Own H p o L H1) : Own H p o' L (upd H1 p o') :=
  ⟨upd_same, fun x hx => ⟨by rw [upd_ne (w.ne hx)]; exact (w.its x hx).1, (w.its x hx).2⟩, w.nd, fun b o2 hb ne => by rw [upd_ne ne]; exact w.keep b o2 hb ne, w.old⟩
theorem Own.free (w : Own H p o L H1) (n : H1 b = none) : H b = none ∧ b ≠ p ∧ b ∉ L.map (·.1) := by
  have np : b ≠ p := fun e => by rw [e, w.me] at n; cases n
  refine ⟨?_, np, fun h => ?_⟩
  · cases e : H b with
    | none => rfl
    | some o2 => rw [w.keep b o2 e np] at n; cases n
  · obtain ⟨x, hx, rfl⟩ := List.mem_map.mp h
    rw [(w.its x hx).1] at n; cases n
theorem Own.new (w : Own H p o L H1) (n : H1 b = none) : Own H p o ((b, o') :: L) (upd H1 b o') := by
  obtain ⟨n1, n2, n3⟩ := w.free n
  refine ⟨by rw [upd_ne n2.symm]; exact w.me, fun x hx => ?_, List.nodup_cons.mpr ⟨n3, w.nd⟩, fun d o2 hd ne => by rw [upd_ne (fun e => by rw [e, n1] at hd; cases hd)]; exact w.keep d o2 hd ne, w.old⟩
  rcases List.mem_cons.mp hx with e | hx
  · rw [e]; exact ⟨upd_same, n1⟩
  · exact ⟨by rw [upd_ne (fun e => n3 (by rw [← e]; exact List.mem_map_of_mem (f := fun x : Addr × HO => x.1) hx))]; exact (w.its x hx).1, (w.its x hx).2⟩
theorem Own.mod (w : Own H p o ((b, o') :: L) H1) (o2 : HO) : Own H p o ((b, o2) :: L) (upd H1 b o2) := by
  have nb := w.ne List.mem_cons_self
  have n0 := (w.its _ List.mem_cons_self).2
  have nl : b ∉ L.map (·.1) := (List.nodup_cons.mp w.nd).1
  refine ⟨by rw [upd_ne nb.symm]; exact w.me, fun x hx => ?_, w.nd, fun d o3 hd ne => by rw [upd_ne (fun e => by rw [e] at hd; rw [show H b = none from n0] at hd; cases hd)]; exact w.keep d o3 hd ne, w.old⟩
  rcases List.mem_cons.mp hx with e | hx
  · rw [e]; exact ⟨upd_same, n0⟩
  · exact ⟨by rw [upd_ne (fun e => nl (by rw [← e]; exact List.mem_map_of_mem (f := fun x : Addr × HO => x.1) hx))]; exact (w.its x (List.mem_cons_of_mem _ hx)).1, (w.its x (List.mem_cons_of_mem _ hx)).2⟩
theorem Own.perm (w : Own H p o L H1) (q : L.Perm L') : Own H p o L' H1 :=
  ⟨w.me, fun x hx => w.its x (q.mem_iff.mpr hx), (q.map _).nodup_iff.mp w.nd, w.keep, w.old⟩
end
/-- a new instance with what it has -/
structure Nu (H : Hp) (C t dx : Addr) (fs : List (Str × V)) (L : List (Addr × HO)) (H' : Hp) : Prop where
  fr : H t = none
  me : H' t = some (.ins C dx fs)
  its : ∀ x ∈ L, H' x.1 = some x.2 ∧ H x.1 = none
  nd : (t :: L.map (·.1)).Nodup
  same : Same H H'
theorem Own.nu {H H' : Hp} {C t dx : Addr} {o1 o2 : HO} {fs : List (Str × V)} {L : List (Addr × HO)} (nt : H t = none) (nd : H dx = none) (w : Own (upd (upd H dx o1) t o2) t (.ins C dx fs) L H') : Nu H C t dx fs L H' := by
  have old : ∀ {b o}, H b = some o → upd (upd H dx o1) t o2 b = some o := fun {b o} h => by rw [upd_ne (ne_of_none h nt), upd_ne (ne_of_none h nd)]; exact h
  refine ⟨nt, w.me, fun x hx => ⟨(w.its x hx).1, ?_⟩, List.nodup_cons.mpr ⟨fun h => ?_, w.nd⟩, fun b o h => w.keep b o (old h) (ne_of_none h nt)⟩
  · cases e : H x.1 with
    | none => rfl
    | some o => have := (w.its x hx).2; rw [old e] at this; cases this
  · obtain ⟨x, hx, e⟩ := List.mem_map.mp h
    exact w.ne hx e
end Wr
namespace Wr
open PySem PySem.Spec PyProof.Rows L2 TL
theorem Rd.fit {wt : Wt} {l : List Str} {r : Wt × Option Ex} (h : Rd wt l r) : ∀ {z : Str} {zs : List Str}, l = z :: zs → Fit wt z := by
  cases h with
  | last f h => intro z zs e; cases e; exact f
  | cons f h k => intro z zs e; cases e; exact f
theorem joinL_len {S : List Nat} : ∀ {l : List (List Nat)}, (joinL S l).length ≤ (l.map List.length).sum + l.length * S.length
  | [] => by simp [joinL]
  | [p] => by simp [joinL]
  | p :: q :: r => by
    have := joinL_len (S := S) (l := q :: r)
    show (p ++ (S ++ joinL S (q :: r))).length ≤ _
    rw [List.length_append, List.length_append, List.map_cons, List.sum_cons, List.length_cons (a := p), Nat.succ_mul]
    omega
theorem text_len {S : List Str} {e : Ex} (hS : ∀ x ∈ S, x ∈ letters) (g : Good S e) (hz : e.size ≤ 200) : e.text.length ≤ 10000 := by
  unfold Ex.text
  rw [join_eq, len_tl, tl_join]
  refine Nat.le_trans joinL_len ?_
  have h1 := sum_le (l := (e.wds.map tl).map List.length) (k := 8) fun x hx => by
    obtain ⟨y, hy, rfl⟩ := List.mem_map.mp hx
    obtain ⟨z, hz, rfl⟩ := List.mem_map.mp hy
    have := (wds_word hS g z hz).1
    rw [len_tl] at this
    exact this
  rw [List.length_map, List.length_map] at h1
  have h2 := e.wds_len
  have h3 : (tl (" " : Str)).length = 1 := by decide +kernel
  rw [h3, List.length_map]
  omega
theorem put_len : ∀ (wt : Wt) (i : Itm), (put wt i).1.length ≤ wt.length
  | [], .e a => Nat.le_refl _
  | [], .n _ => Nat.le_refl _
  | [], .x _ => Nat.le_refl _
  | (w, as) :: r, i => by
    show (if as.length + 1 = (shapeW w).length then put r (.e (mkEx w (as ++ [i]))) else ((w, as ++ [i]) :: r, none)).1.length ≤ _
    split
    · exact Nat.le_trans (put_len r _) (Nat.le_succ _)
    · exact Nat.le_refl _
theorem taken_len (wt : Wt) (z : Str) : (taken wt z).1.length ≤ wt.length + 1 := by
  unfold taken
  repeat' split
  · exact Nat.le_trans (put_len _ _) (Nat.le_succ _)
  · exact Nat.le_trans (put_len _ _) (Nat.le_succ _)
  · exact Nat.le_trans (put_len _ _) (Nat.le_succ _)
  · exact Nat.le_trans (put_len _ _) (Nat.le_succ _)
  · exact Nat.le_refl _
section
variable {P : Program} {w : World} {K : PySem.W.Frag} {mg : Str → Option Value} {base : Heap} {C : Addr}
def spRdgI (C : Addr) : Sp := fun vs H Q _ => ∃ (p dx : Addr), vs = [.ref p] ∧ H p = some (.ins C dx []) ∧ ∀ (wl : Addr) (H' : Hp), Own H p (.ins C dx (rdgF wl .non)) [(wl, .lst [])] H' → Q .non H'
theorem scRdgI : FnScope ["self"] ["self"] (defScope s_Reading_init) := ⟨rfl, rfl, rfl, by decide +kernel, rfl, by decide +kernel, by decide +kernel⟩
theorem rdgP (wl : Addr) : putF "waiting" (.ref wl) [] = ([("waiting", .ref wl)] : List (Str × V)) ∧ putF "whole" .non [("waiting", .ref wl)] = rdgF wl .non := ⟨by kernel_rfl, by kernel_rfl⟩
theorem ok_rdgI (F : DfC K mg C "Reading" "Reading.__init__" s_Reading_init) (c : Cls K C) (na : NoAts K C rdgNs) : UseC P w K mg base C "Reading" ["self"] 1 (spRdgI C) := by
  refine F.use scRdgI (fun _ _ _ _ _ _ us hl => match us, hl with | [_], _ => rfl) (fun vs H Q E h => ?_) (fun cdv f A outer s H vs Q E hr h => ?_)
  · obtain ⟨p, dx, rfl, _⟩ := h
    rfl
  · obtain ⟨p, dx, rfl, hp, q⟩ := h
    refine ⟨_, pss_cons (ps_fld (pv 0) (pe_lst pa_nil) rfl) (pss_one (ps_fld (pv 0) pe_non rfl)), ?_⟩
    refine ⟨by show 0 ≤ sizeLine; decide, fun wl n1 => ?_⟩
    have w0 : Own H p (.ins C dx []) [] H := ⟨hp, fun x hx => (by cases hx), List.nodup_nil, fun b o' hb _ => hb, by rw [hp]; exact fun z => nomatch z⟩
    have w1 := w0.new n1 (o' := .lst [])
    refine ⟨_, rfl, p, C, dx, _, rfl, w1.me, c, na _ (by decide +kernel), by show 0 < 1000; decide, ?_⟩
    rw [(rdgP wl).1]
    have w2 := w1.set (o' := .ins C dx [("waiting", .ref wl)])
    refine ⟨_, rfl, p, C, dx, _, rfl, w2.me, c, na _ (by decide +kernel), by show 1 < 1000; decide, ?_⟩
    rw [(rdgP wl).2]
    exact q wl _ w2.set
def spRead : Sp := fun vs H Q _ => ∃ (e : Ex), vs = [.str e.text] ∧ Good [] e ∧ e.deep ≤ 41 ∧ e.size ≤ 200 ∧ ∀ v H', Same H H' → AtE H' v e → Q v H'
theorem scRead : FnScope ["text", "words", "reading", "place", "word"] ["text"] (defScope s_read) := ⟨rfl, rfl, rfl, by decide +kernel, rfl, by decide +kernel, by decide +kernel⟩
theorem ok_read {TC PC : Addr} (F : Df K mg "read" s_read) (c : Cls K C) (na : NoAts K C rdgNs) (enum : mg "enumerate" = none) (UI : UseC P w K mg base C "Reading" ["self"] 1 (spRdgI C)) (UT : UseM P w K mg base C "takes" ["self", "word"] 4 (spTakes C Fit)) (U_tree : Use P w K mg base "tree_of" ["program"] 88 (spTree TC PC)) :
    Use P w K mg base "read" ["text"] 89 spRead := by
  refine F.use scRead (fun _ _ _ _ _ _ us hl => match us, hl with | [_], _ => rfl) (fun vs H Q E h => ?_) (fun cdv f A outer s H vs Q E hr h => ?_)
  · obtain ⟨e, rfl, _⟩ := h
    rfl
  · obtain ⟨e, rfl, hg, hd, hz, q⟩ := h
    have hr2 : Room 2 _ := hr.mono (by decide)
    have hr4 : Room 4 _ := hr.mono (by decide)
    refine ⟨_, pss_cons (ps_set (i := 1) scRead.nd rfl (Or.inl rfl) (pe_split (pv 0) pe_str))
      (pss_cons (ps_set (i := 2) scRead.nd rfl (Or.inl rfl) (pe_useC0 UI hr2))
      (pss_cons (ps_for PassesOwn.never rfl (pi_enum (by rfl) enum (pa_cons (pv 1) pa_nil)) (pg_tup rfl (pgs_cons (pg_name (i := 3) scRead.nd rfl (Or.inl rfl)) (pgs_cons (pg_name (i := 4) scRead.nd rfl (Or.inl rfl)) pgs_nil)))
        (pss_one (ps_if (pt_not (pt_val (pe_useM c UT hr4 (pv 2) (pa_cons (pv 4) pa_nil)))) (pss_one ps_never) pss_nil)))
      (pss_cons (ps_if (pt_cmpR op_isN (pe_fld (pv 2) rfl) pe_non (nomark _)) (pss_one ps_never) pss_nil)
      (pss_cons (ps_expr (pe_use U_tree hr (pa_cons (pe_fld (pv 2) rfl) pa_nil)))
      (pss_one (ps_ret (pe_fld (pv 2) rfl))))))), ?_⟩
    have htl := text_len (S := []) (by simp) hg hz
    have h10 : (10002 : Nat) < sizeLine := by decide
    refine ⟨_, rfl, ⟨_, rfl⟩, e.text, " ", rfl, rfl, by decide +kernel, by omega, ?_⟩
    rw [text_split (S := []) (by simp) hg]
    intro pw npw
    have s1 := Same.new npw (.lst (e.wds.map V.str))
    have hpw : upd H pw (.lst (e.wds.map V.str)) pw = some (.lst (e.wds.map V.str)) := upd_same
    generalize upd H pw (.lst (e.wds.map V.str)) = H1 at s1 hpw ⊢
    refine fun r dx nr ndr nrd => ⟨r, dx, rfl, upd_same, fun wl H2 hO => ⟨rfl, ?_⟩⟩
    have hNu := Own.nu nr ndr hO
    have hpw2 := hNu.same _ _ hpw
    have hwl := (hNu.its (wl, .lst []) (by simp))
    have R0 : RdgAt C H1 H2 r [] none := ⟨hNu.fr, hNu.same, dx, wl, [], .non, hNu.me, hwl.2, hwl.1, .nil, by simp, rfl⟩
    have hn := e.wds_len
    refine ⟨_, rfl, pw, e.wds.map V.str, rfl, SqL.of hpw2, ?_⟩
    refine for_it (walk_enum (K := K) (a := pw) (xs := e.wds.map V.str)) (fun i σ H3 => ∃ (s3 s4 : Option V) (st : Wt × Option Ex), σ = [some (.str e.text), some (.ref pw), some (.ref r), s3, s4] ∧ RdgAt C H1 H3 r st.1 st.2 ∧
      ((i = e.wds.length ∧ st = ([], some e)) ∨ (st.2 = none ∧ WtOk st.1 ∧ st.1.length ≤ i ∧ Rd st.1 (e.wds.drop i) ([], some e))))
      ⟨none, none, ([], none), rfl, R0, .inr ⟨rfl, WtOk.nil, Nat.zero_le _, reads (S := []) (by simp) hg rfl⟩⟩ (fun i σ H3 _ ⟨_, _, st, _, R, _⟩ => SqL.of (R.sm _ _ hpw)) ?_ ?_
    · rintro i v σ H3 H3' hi ⟨s3, s4, st, rfl, R, hst⟩ ⟨T, x, y, rfl, nT, rfl, ex, hy⟩
      cases ex
      rw [List.length_map] at hi
      have hz2 := List.getElem?_eq_getElem hi
      have hy : (e.wds.map V.str)[i]? = some y := hy
      rw [List.getElem?_map, hz2] at hy
      cases hy
      rcases hst with ⟨h, _⟩ | ⟨h1, h2, h3, h4⟩
      · omega
      obtain ⟨wt, wh⟩ := st
      have h1 : wh = none := h1
      subst h1
      have sT := Same.new nT (.tup [.int (i : Nat), .str e.wds[i]])
      have hdr : e.wds.drop i = e.wds[i] :: e.wds.drop (i + 1) := List.drop_eq_getElem_cons hi
      rw [hdr] at h4
      obtain ⟨dx', wl', ads, whv, r1, r2, r3, r4⟩ := R.lst
      have h3 : wt.length ≤ i := h3
      have hfit : Fit wt e.wds[i] := h4.fit rfl
      refine ⟨T, _, rfl, SqT.of upd_same, rfl, _, _, rfl, _, _, rfl, rfl, ?_⟩
      refine ⟨_, rfl, r, dx', _, rfl, sT _ _ r1, (rdgF_look wl' whv .non).2.2.2.2.1, _, rfl, H1, r, e.wds[i], wt, rfl, hfit, R.same sT, h2, by omega, fun H4 R4 => ?_⟩
      refine ⟨_, rfl, iteF ?_⟩
      refine ⟨_, _, taken wt e.wds[i], rfl, R4, ?_⟩
      have tl := taken_len wt e.wds[i]
      generalize hq : e.wds.drop (i + 1) = rest at h4
      cases h4 with
      | last f h =>
        refine .inl ⟨?_, h⟩
        have := congrArg List.length hq
        rw [List.length_drop, List.length_nil] at this
        omega
      | @cons _ wt' _ _ _ f h k =>
        rw [h]
        rw [h] at tl
        exact .inr ⟨rfl, h2.taken f h, by show wt'.length ≤ i + 1; have tl : wt'.length ≤ wt.length + 1 := tl; omega, k⟩
    · rintro σ H3 ⟨s3, s4, st, rfl, R, hst⟩
      rw [List.length_map] at hst
      rcases hst with ⟨_, rfl⟩ | ⟨h1, h2, h3, h4⟩
      rotate_left
      · rw [List.drop_of_length_le (Nat.le_refl _)] at h4
        cases h4
      obtain ⟨n0, sm, dx', wl', ads, whv, a1, a2, a3, a4, a5, a6⟩ := R
      have a6 : AtE H3 whv e := a6
      obtain ⟨k1, k2, _⟩ := rdgF_look wl' whv .non
      obtain ⟨t, xs, et, _⟩ := a6.items
      refine ⟨_, rfl, r, C, dx', _, _, rfl, a1, c, na _ (by decide +kernel), k2, rfl, _, rfl, ?_⟩
      refine ite2 (fun h => absurd (of_decide_eq_true h) (by rw [et]; exact fun z => nomatch z)) (fun _ => ?_)
      refine ⟨_, rfl, r, C, dx', _, _, rfl, a1, c, na _ (by decide +kernel), k2, ?_⟩
      refine ⟨whv, e, rfl, a6, hg, hd, hz, fun p H4 sm4 _ => ?_⟩
      refine ⟨_, rfl, r, C, dx', _, _, rfl, sm4 _ _ a1, c, na _ (by decide +kernel), k2, ?_⟩
      exact q whv H4 (s1.trans (sm.trans sm4)) (AtE.same sm4 a6)
end
end Wr
namespace Wr
open PySem PySem.Spec PyProof.Rows L2 NdefX
/-! ### raise C(n, s), C's own __init__ keeping both -/
def spBad2 (C : Addr) (f g : Str) : Sp := fun vs H Q _ => ∃ (a : Addr) (n : Int) (s : Str), vs = [.ref a, .int n, .str s] ∧ n.natAbs.log2 < 1920 ∧ s.length ≤ 1000 ∧ H a = some (exo a C none) ∧ ∀ dx, H dx = none → dx ≠ a → Q .non (upd (upd H dx (exd dx [(g, .str s), (f, .int n)])) a (exo a C (some dx)))
def nfBG (cc cda : Addr) : NF := ⟨"__init__", "BadProgram.__init__", defArgs s_BadProgram_init, defBody s_BadProgram_init, defScope s_BadProgram_init, [(("__class__" : Str), cc)], cda⟩
section
variable {CX : CXT} {P : Program} {w : World} {K : PySem.W.Frag} {mg : Str → Option Value} {base : Heap} {f C cc cda : Addr} {fd : FuncData}
theorem ok_bgI (hF : FunS K (nfBG cc cda) f cc fd) (S : SupI P K mg C f cda cc fd) (hn1 : PySem.W.findIn K (.ref C) "at" = some none) (hn2 : PySem.W.findIn K (.ref C) "why" = some none) : FnOk P w K mg base CX 1 f fd ["self", "at", "why"] (spBad2 C "at" "why") := by
  have Sc : NScope ["self", "at", "why", "__class__"] ["self", "at", "why"] ["__class__"] (nfBG cc cda).scope := nscope_by (by show nscB _ _ _ (defScope s_BadProgram_init) = true; decide +kernel)
  refine fn_sup (N := ["self", "at", "why", "__class__"]) hF S Sc (fun vs H Q E h => ?_) (fun A outer s H vs Q E hr h s1 I => ?_)
  · obtain ⟨a, n, z, rfl, _⟩ := h
    rfl
  · obtain ⟨a, n, z, rfl, hz, hl, hA, q⟩ := h
    have big : (4000 : Nat) < sizeLine := by decide
    refine sup_body (X := ncx CX P w K mg base ["self", "at", "why", "__class__"] (nfBG cc cda) f A outer s H E) S rfl rfl rfl rfl rfl (by simp [ncx, nfBG, List.lookup]) rfl (pa_cons (pe_joined (.cons pe_str (.cons (pe_fmt (pv 1)) (.cons pe_str (.cons (pe_fmt (pv 2)) .nil))))) pa_nil) (pss_cons (ps_ost (pv 0) (pv 1)) (pss_one (ps_ost (pv 0) (pv 2)))) I ?_
    have l1 := toS_len hz
    refine ⟨a, rfl, hA, ?_⟩
    have h0 : (Str.empty).length = 0 := rfl
    have h1 : ("part " : Str).length = 5 := by decide
    have h2 : (" cannot be: " : Str).length = 12 := by decide
    refine ⟨_, rfl, by decide, _, rfl, .inr ⟨n, rfl, hz, _, rfl, ?_, _, rfl, ?_, ?_⟩⟩
    · simp only [Str.length_append]
      omega
    · simp only [Str.length_append]
      omega
    refine ⟨_, rfl, .inl ⟨z, rfl, by omega, _, rfl, ?_, ?_⟩⟩
    · simp only [Str.length_append]
      omega
    refine ⟨by show 1 ≤ 1000; decide, hA, ?_⟩
    refine ⟨_, rfl, _, rfl, a, C, rfl, S.ox, hn1, .inl ⟨hA, fun dx hd ne => ?_⟩⟩
    refine ⟨_, rfl, _, rfl, a, C, rfl, S.ox, hn2, .inr ⟨dx, _, upd_same, (upd_ne ne).trans upd_same, by show 1 ≤ 900; decide, ?_⟩⟩
    have e : upd (upd (upd H dx (exd dx [("at", V.int n)])) a (exo a C (some dx))) dx (exd dx [("why", V.str z), ("at", V.int n)]) = upd (upd H dx (exd dx [("why", V.str z), ("at", V.int n)])) a (exo a C (some dx)) := by
      funext b
      by_cases h1 : b = dx
      · rw [h1, upd_same, upd_ne ne, upd_same]
      · by_cases h2 : b = a
        · rw [h2, upd_ne (fun z => ne z.symm), upd_same, upd_same]
        · rw [upd_ne h1, upd_ne h2, upd_ne h1, upd_ne h2, upd_ne h1]
    have := q dx hd ne
    rw [← e] at this
    exact this
end
structure Bad2 (P : Program) (w : World) (K : PySem.W.Frag) (mg : Str → Option Value) (base : Heap) (x f g : Str) (C : Addr) : Prop where
  ox : OexC K C
  ini : ∃ (fI : Addr) (fd : FuncData), PySem.W.findIn K (.ref C) "__init__" = some (some (.ref fI)) ∧ PySem.W.typeIn K (.ref fI) = some (.type "function") ∧ FnOk P w K mg base CX0 1 fI fd ["self", f, g] (spBad2 C f g) ∧ Binds K fd ["self", f, g] []
  hm : mg x = some (.ref C)
theorem mk2_of {C : Addr} {f g : Str} {Q : XK} {H1 : Hp} {n : Int} {z : Str} (hz : n.natAbs.log2 < 1920) (hl : z.length ≤ 1000) (q : ∀ d, H1 d = none → Q (.ref C) (some d) (upd H1 d (.xd [(g, .str z), (f, .int n)]))) : ∀ a, H1 a = none → spBad2 C f g (.ref a :: ([V.int n, V.str z] ++ [])) (upd H1 a (exo a C none))
    (fun v H2 => v = .non ∧ ∃ (d : Addr) (fs : List (Str × V)), H2 a = some (exo a C (some d)) ∧ H2 d = some (exd d fs) ∧ H1 d = none ∧ Q (.ref C) (some d) (upd (del H2 a) d (.xd fs))) (fun _ _ _ => False) := fun a ha => by
  refine ⟨a, n, z, rfl, hz, hl, upd_same, fun dx hd ne => ⟨rfl, dx, _, upd_same, (upd_ne ne).trans upd_same, ?_, ?_⟩⟩
  · rw [upd_ne ne] at hd
    exact hd
  · rw [upd_ne ne] at hd
    have e : upd (del (upd (upd (upd H1 a (exo a C none)) dx (exd dx [(g, V.str z), (f, V.int n)])) a (exo a C (some dx))) a) dx (.xd [(g, V.str z), (f, V.int n)]) = upd H1 dx (.xd [(g, V.str z), (f, V.int n)]) := by
      funext b
      by_cases hb : b = dx
      · rw [hb, upd_same, upd_same]
      · rw [upd_ne hb, upd_ne hb]
        by_cases hba : b = a
        · rw [hba, del_same, ha]
        · rw [del_ne hba, upd_ne hba, upd_ne hb, upd_ne hba]
    rw [e]
    exact q dx hd
/-- what raise C(e, e') asks -/
def tMk2 (C : Addr) (f g : Str) (ta : TA) : L2.St → Hp → XK → Prop := tMkO C (spBad2 C f g) [] ta
theorem pmk_bad2 {X : Cx} {x f g : Str} {C : Addr} {e e' : Expr} {ta : TA} {p pos : Pos} (B : Bad2 X.prog X.w X.K X.mg X.base x f g C) (hr : Room 2 X.A) (ha : PA X [e, e'] ta) (hg : Gl X x := by rfl) (hdb : (x == ("__debug__" : Str)) = false := by decide)
    (he : starEach (e :: [e']) X.env = (false, eval e X.env) :: starEach [e'] X.env := by rfl) (hpl : (backTo pos (starEach [e'] X.env)).any (·.1) = false := by rfl) : PMk X (.Call (.Name x p) [e, e'] [] pos) (tMk2 C f g ta) := by
  obtain ⟨fI, fd, iC, tI, F1, hb⟩ := B.ini
  exact pmk_oex B.ox iC tI F1 hr hb .nil pass0 hg B.hm ha hdb he hpl
end Wr
namespace Wr
open PySem PySem.Spec PyProof.Rows L2
/-! ### odd data: what a spoilt program may be -/
inductive Od where
  | str (s : Str)
  | int (n : Int)
  | emp
  | nd (w : Str) (xs : List Od)
mutual
def OdAt (H : Hp) : V → Od → Prop
  | v, .str s => v = .str s
  | v, .int n => v = .int n
  | v, .emp => ∃ t, v = .ref t ∧ H t = some (.tup [])
  | v, .nd w xs => ∃ t vs, v = .ref t ∧ H t = some (.tup (.str w :: vs)) ∧ OdL H vs xs
def OdL (H : Hp) : List V → List Od → Prop
  | vs, [] => vs = []
  | vs, x :: xs => ∃ v us, vs = v :: us ∧ OdAt H v x ∧ OdL H us xs
end
mutual
theorem OdAt.tups {H H' : Hp} (s : ∀ t xs, H t = some (.tup xs) → H' t = some (.tup xs)) : ∀ {v : V} {o : Od}, OdAt H v o → OdAt H' v o
  | _, .str _, h => h
  | _, .int _, h => h
  | _, .emp, ⟨t, e, h⟩ => ⟨t, e, s _ _ h⟩
  | _, .nd _ _, ⟨t, vs, e, h, l⟩ => ⟨t, vs, e, s _ _ h, l.tups s⟩
theorem OdL.tups {H H' : Hp} (s : ∀ t xs, H t = some (.tup xs) → H' t = some (.tup xs)) : ∀ {vs : List V} {os : List Od}, OdL H vs os → OdL H' vs os
  | _, [], h => h
  | _, _ :: _, ⟨v, us, e, a, l⟩ => ⟨v, us, e, a.tups s, l.tups s⟩
end
theorem OdL.length {H : Hp} : ∀ {vs : List V} {os : List Od}, OdL H vs os → vs.length = os.length
  | _, [], h => by rw [h]; rfl
  | _, _ :: _, ⟨v, us, e, a, l⟩ => by rw [e, List.length_cons, List.length_cons, l.length]
mutual
/-- tuples in it -/
def Od.sz : Od → Nat
  | .str _ => 0
  | .int _ => 0
  | .emp => 1
  | .nd _ xs => 1 + szO xs
def szO : List Od → Nat
  | [] => 0
  | x :: xs => x.sz + szO xs
end
mutual
def Od.dp : Od → Nat
  | .str _ => 0
  | .int _ => 0
  | .emp => 1
  | .nd _ xs => 1 + dpO xs
def dpO : List Od → Nat
  | [] => 0
  | x :: xs => max x.dp (dpO xs)
end
/-! ### what the reader finds first -/
def shapes : List (Str × List Nat) := [("num", [110]), ("name", [120]), ("add", [101, 101]), ("take", [101, 101]), ("less", [101, 101]), ("if", [101, 101, 101]), ("let", [120, 101, 101]), ("fun", [120, 101]), ("call", [101, 101]), ("say", [101]), ("box", [101]), ("look", [101]), ("put", [101, 101]), ("catch", [101, 120, 120, 101]), ("throw", [101]), ("go", [101, 101]), ("drop", [101]), ("last", [101, 101]), ("else", [101, 101]), ("fault", [])]
def shapeO (w : Str) : Option (List Nat) := shapes.lookup w
def Od.fits : Nat → Od → Bool
  | 110, .int _ => true
  | 110, _ => false
  | 120, .str _ => true
  | 120, _ => false
  | _, _ => true
def fitsL : List Nat → List Od → Bool
  | [], [] => true
  | c :: cs, x :: xs => x.fits c && fitsL cs xs
  | _, _ => false
def Od.shp : Od → Bool
  | .nd w xs => match shapeO w with
    | some cs => fitsL cs xs
    | none => false
  | _ => false
/-- the texts among the items that a shape calls names -/
def ownO : List Nat → List Od → List Str
  | 120 :: cs, .str s :: xs => s :: ownO cs xs
  | _ :: cs, _ :: xs => ownO cs xs
  | _, _ => []
def nodupB : List Str → Bool
  | [] => true
  | x :: xs => !xs.contains x && nodupB xs
/-- what is wrong with the part itself -/
def Od.why (o : Od) (at_ around : Nat) (bound : List Str) : Option Str :=
  if 200 ≤ at_ then some "many" else if 40 < around then some "deep" else match o with
  | .nd w xs => match shapeO w with
    | none => some "shape"
    | some cs => if fitsL cs xs = false then some "shape" else
      match w == "num", xs with
      | true, [.int n] => if n.natAbs ≤ 1000000 then none else some "number"
      | _, _ => if (ownO cs xs).all (fun x => letters.contains x) && nodupB (ownO cs xs) then (if w == "name" && !(ownO cs xs).all (fun x => bound.contains x) then some "open" else none) else some "name"
  | _ => some "shape"
def moreE : List Nat → Bool
  | [] => false
  | 101 :: _ => true
  | _ :: cs => moreE cs
mutual
/-- the first fault, its number; else how many parts there are by then -/
def Od.first : Od → Nat → List Str → Nat → Sum (Nat × Str) Nat
  | .str s, a, b, n => match Od.why (.str s) n a b with
    | some r => .inl (n, r)
    | none => .inr (n + 1)
  | .int i, a, b, n => match Od.why (.int i) n a b with
    | some r => .inl (n, r)
    | none => .inr (n + 1)
  | .emp, a, b, n => match Od.why .emp n a b with
    | some r => .inl (n, r)
    | none => .inr (n + 1)
  | .nd w xs, a, b, n => match Od.why (.nd w xs) n a b with
    | some r => .inl (n, r)
    | none => firstO ((shapeO w).getD []) xs (a + 1) b (ownO ((shapeO w).getD []) xs) (n + 1)
def firstO : List Nat → List Od → Nat → List Str → List Str → Nat → Sum (Nat × Str) Nat
  | cs, [], _, _, _, n => .inr n
  | [], _ :: _, _, _, _, n => .inr n
  | c :: cs, x :: xs, a, b, ns, n => if c = 101 then (match x.first a (if moreE cs then b else b ++ ns) n with
    | .inl r => .inl r
    | .inr m => firstO cs xs a b ns m) else firstO cs xs a b ns n
end
end Wr
namespace Wr
open PySem PySem.Spec PyProof.Rows L2
/-! ### no fault: a good program -/
def Gd (o : Od) (a : Nat) (b : List Str) (n m : Nat) : Prop := ∃ e : Ex, Good b e ∧ m = n + e.size ∧ e.size = o.sz ∧ a + e.deep ≤ 41 ∧ m ≤ 200 ∧ ∀ H v, OdAt H v o → AtE H v e
theorem shape_cases {w : Str} {cs : List Nat} (h : shapeO w = some cs) : (w = "num" ∧ cs = [110]) ∨ (w = "name" ∧ cs = [120]) ∨ (w = "if" ∧ cs = [101, 101, 101]) ∨ (w = "let" ∧ cs = [120, 101, 101]) ∨ (w = "fun" ∧ cs = [120, 101]) ∨ (w = "catch" ∧ cs = [101, 120, 120, 101]) ∨ (w = "fault" ∧ cs = []) ∨ (w ∈ ones ∧ cs = [101]) ∨ (w ∈ twos ∧ cs = [101, 101]) := by
  have hm : (w, cs) ∈ shapes := by
    unfold shapeO at h
    exact PySem.mem_of_lookup h
  simp only [shapes, List.mem_cons, List.not_mem_nil, or_false, Prod.mk.injEq] at hm
  rcases hm with ⟨rfl, rfl⟩ | ⟨rfl, rfl⟩ | ⟨rfl, rfl⟩ | ⟨rfl, rfl⟩ | ⟨rfl, rfl⟩ | ⟨rfl, rfl⟩ | ⟨rfl, rfl⟩ | ⟨rfl, rfl⟩ | ⟨rfl, rfl⟩ | ⟨rfl, rfl⟩ | ⟨rfl, rfl⟩ | ⟨rfl, rfl⟩ | ⟨rfl, rfl⟩ | ⟨rfl, rfl⟩ | ⟨rfl, rfl⟩ | ⟨rfl, rfl⟩ | ⟨rfl, rfl⟩ | ⟨rfl, rfl⟩ | ⟨rfl, rfl⟩ | ⟨rfl, rfl⟩
  · exact .inl ⟨rfl, rfl⟩
  · exact .inr (.inl ⟨rfl, rfl⟩)
  · exact .inr (.inr (.inr (.inr (.inr (.inr (.inr (.inr ⟨by decide +kernel, rfl⟩)))))))
  · exact .inr (.inr (.inr (.inr (.inr (.inr (.inr (.inr ⟨by decide +kernel, rfl⟩)))))))
  · exact .inr (.inr (.inr (.inr (.inr (.inr (.inr (.inr ⟨by decide +kernel, rfl⟩)))))))
  · exact .inr (.inr (.inl ⟨rfl, rfl⟩))
  · exact .inr (.inr (.inr (.inl ⟨rfl, rfl⟩)))
  · exact .inr (.inr (.inr (.inr (.inl ⟨rfl, rfl⟩))))
  · exact .inr (.inr (.inr (.inr (.inr (.inr (.inr (.inr ⟨by decide +kernel, rfl⟩)))))))
  · exact .inr (.inr (.inr (.inr (.inr (.inr (.inr (.inl ⟨by decide +kernel, rfl⟩)))))))
  · exact .inr (.inr (.inr (.inr (.inr (.inr (.inr (.inl ⟨by decide +kernel, rfl⟩)))))))
  · exact .inr (.inr (.inr (.inr (.inr (.inr (.inr (.inl ⟨by decide +kernel, rfl⟩)))))))
  · exact .inr (.inr (.inr (.inr (.inr (.inr (.inr (.inr ⟨by decide +kernel, rfl⟩)))))))
  · exact .inr (.inr (.inr (.inr (.inr (.inl ⟨rfl, rfl⟩)))))
  · exact .inr (.inr (.inr (.inr (.inr (.inr (.inr (.inl ⟨by decide +kernel, rfl⟩)))))))
  · exact .inr (.inr (.inr (.inr (.inr (.inr (.inr (.inr ⟨by decide +kernel, rfl⟩)))))))
  · exact .inr (.inr (.inr (.inr (.inr (.inr (.inr (.inl ⟨by decide +kernel, rfl⟩)))))))
  · exact .inr (.inr (.inr (.inr (.inr (.inr (.inr (.inr ⟨by decide +kernel, rfl⟩)))))))
  · exact .inr (.inr (.inr (.inr (.inr (.inr (.inr (.inr ⟨by decide +kernel, rfl⟩)))))))
  · exact .inr (.inr (.inr (.inr (.inr (.inr (.inl ⟨rfl, rfl⟩))))))
theorem fits_n {x : Od} (h : x.fits 110 = true) : ∃ i, x = .int i := by
  cases x with
  | int i => exact ⟨i, rfl⟩
  | str s => exact absurd h (by simp [Od.fits])
  | emp => exact absurd h (by simp [Od.fits])
  | nd w xs => exact absurd h (by simp [Od.fits])
theorem fits_x {x : Od} (h : x.fits 120 = true) : ∃ s, x = .str s := by
  cases x with
  | str s => exact ⟨s, rfl⟩
  | int i => exact absurd h (by simp [Od.fits])
  | emp => exact absurd h (by simp [Od.fits])
  | nd w xs => exact absurd h (by simp [Od.fits])
theorem fits_cons {c : Nat} {cs : List Nat} {xs : List Od} (h : fitsL (c :: cs) xs = true) : ∃ x ys, xs = x :: ys ∧ x.fits c = true ∧ fitsL cs ys = true := by
  cases xs with
  | nil => exact absurd h (by simp [fitsL])
  | cons x ys =>
    simp only [fitsL, Bool.and_eq_true] at h
    exact ⟨x, ys, rfl, h.1, h.2⟩
theorem fits_nil {xs : List Od} (h : fitsL [] xs = true) : xs = [] := by
  cases xs with
  | nil => rfl
  | cons x ys => exact absurd h (by simp [fitsL])
/-- nothing is wrong with the part itself -/
theorem why_none {o : Od} {n a : Nat} {b : List Str} (h : o.why n a b = none) : n < 200 ∧ a ≤ 40 ∧ ∃ w xs cs, o = .nd w xs ∧ shapeO w = some cs ∧ fitsL cs xs = true ∧ ((∃ i, w = "num" ∧ xs = [.int i] ∧ i.natAbs ≤ 1000000) ∨ (w ≠ "num" ∧ (∀ x ∈ ownO cs xs, x ∈ letters) ∧ nodupB (ownO cs xs) = true ∧ (w = "name" → ∀ x ∈ ownO cs xs, x ∈ b))) := by
  unfold Od.why at h
  split at h
  · cases h
  · rename_i h1
    split at h
    · cases h
    · rename_i h2
      refine ⟨by omega, by omega, ?_⟩
      split at h
      · rename_i w xs
        split at h
        · cases h
        · rename_i cs hs
          split at h
          · cases h
          · rename_i hf
            have hf : fitsL cs xs = true := by simpa using hf
            refine ⟨w, xs, cs, rfl, hs, hf, ?_⟩
            by_cases hnum : w = "num"
            · subst hnum
              have e : shapeO "num" = some [110] := by decide +kernel
              rw [e] at hs
              cases hs
              obtain ⟨x, ys, rfl, f1, f2⟩ := fits_cons hf
              obtain ⟨i, rfl⟩ := fits_n f1
              obtain rfl := fits_nil f2
              have h : (if i.natAbs ≤ 1000000 then none else some ("number" : Str)) = none := h
              by_cases hi : i.natAbs ≤ 1000000
              · exact .inl ⟨i, rfl, rfl, hi⟩
              · rw [if_neg hi] at h
                cases h
            · have hw : (w == ("num" : Str)) = false := by simpa using hnum
              rw [hw] at h
              have h : (if ((ownO cs xs).all (fun x => letters.contains x) && nodupB (ownO cs xs)) = true then (if (w == "name" && !(ownO cs xs).all (fun x => b.contains x)) = true then some ("open" : Str) else none) else some "name") = none := h
              by_cases ha : ((ownO cs xs).all (fun x => letters.contains x) && nodupB (ownO cs xs)) = true
              · rw [if_pos ha] at h
                rw [Bool.and_eq_true, List.all_eq_true] at ha
                refine .inr ⟨hnum, fun x hx => by simpa using ha.1 x hx, ha.2, fun hw x hx => ?_⟩
                by_cases hh : (ownO cs xs).all (fun x => b.contains x) = true
                · have := List.all_eq_true.mp hh x hx
                  simpa using this
                · have hh : (ownO cs xs).all (fun x => b.contains x) = false := by simpa using hh
                  have e : (w == ("name" : Str)) = true := by rw [hw]; decide +kernel
                  rw [hh, e] at h
                  cases h
              · rw [if_neg ha] at h
                cases h
      · cases h
theorem first_inr {w : Str} {xs : List Od} {a n m : Nat} {b : List Str} (h : (Od.nd w xs).first a b n = .inr m) : (Od.nd w xs).why n a b = none ∧ firstO ((shapeO w).getD []) xs (a + 1) b (ownO ((shapeO w).getD []) xs) (n + 1) = .inr m := by
  unfold Od.first at h
  split at h
  · cases h
  · rename_i e
    exact ⟨e, h⟩
theorem firstO_e {cs : List Nat} {x : Od} {xs : List Od} {a n m : Nat} {b ns : List Str} (h : firstO (101 :: cs) (x :: xs) a b ns n = .inr m) : ∃ j, x.first a (if moreE cs then b else b ++ ns) n = .inr j ∧ firstO cs xs a b ns j = .inr m := by
  unfold firstO at h
  rw [if_pos rfl] at h
  split at h
  · cases h
  · rename_i j e
    exact ⟨j, e, h⟩
theorem firstO_x {c : Nat} {cs : List Nat} {x : Od} {xs : List Od} {a n m : Nat} {b ns : List Str} (hc : c ≠ 101) (h : firstO (c :: cs) (x :: xs) a b ns n = .inr m) : firstO cs xs a b ns n = .inr m := by
  unfold firstO at h
  rw [if_neg hc] at h
  exact h
theorem firstO_nil {cs : List Nat} {a n m : Nat} {b ns : List Str} (h : firstO cs [] a b ns n = .inr m) : m = n := by
  unfold firstO at h
  cases h
  rfl
theorem why_le {o : Od} {n a m : Nat} {b : List Str} (h : o.first a b n = .inr m) : n < 200 ∧ a ≤ 40 ∧ ∃ w xs, o = .nd w xs := by
  cases o with
  | nd w xs =>
    obtain ⟨h1, _⟩ := first_inr h
    obtain ⟨p, q, _⟩ := why_none h1
    exact ⟨p, q, w, xs, rfl⟩
  | str s =>
    unfold Od.first at h
    split at h
    · cases h
    · rename_i e
      obtain ⟨_, _, _, _, _, z, _⟩ := why_none e
      cases z
  | int s =>
    unfold Od.first at h
    split at h
    · cases h
    · rename_i e
      obtain ⟨_, _, _, _, _, z, _⟩ := why_none e
      cases z
  | emp =>
    unfold Od.first at h
    split at h
    · cases h
    · rename_i e
      obtain ⟨_, _, _, _, _, z, _⟩ := why_none e
      cases z
theorem good_ap {b : List Str} {e : Ex} {ns : List Str} {l : List Str} (h : Good (b ++ ns) e) (hs : ∀ x ∈ ns, x ∈ l) (hb : ∀ x ∈ b, x ∈ l) : Good l e := h.mono fun x hx => (List.mem_append.mp hx).elim (hb x) (hs x)
theorem first_good : ∀ (k : Nat) (o : Od), o.sz ≤ k → ∀ {a n m : Nat} {b : List Str}, o.first a b n = .inr m → Gd o a b n m := by
  intro k
  induction k with
  | zero =>
    intro o hk a n m b h
    obtain ⟨_, _, w, xs, rfl⟩ := why_le h
    simp only [Od.sz] at hk
    omega
  | succ k ih =>
    intro o hk a n m b h
    obtain ⟨hn, ha, w, xs, rfl⟩ := why_le h
    obtain ⟨h1, h2⟩ := first_inr h
    obtain ⟨_, _, w', xs', cs, e, hs, hf, hr⟩ := why_none h1
    cases e
    rw [hs] at h2
    have h2 : firstO cs xs (a + 1) b (ownO cs xs) (n + 1) = .inr m := h2
    simp only [Od.sz] at hk
    rcases shape_cases hs with ⟨rfl, rfl⟩ | ⟨rfl, rfl⟩ | ⟨rfl, rfl⟩ | ⟨rfl, rfl⟩ | ⟨rfl, rfl⟩ | ⟨rfl, rfl⟩ | ⟨rfl, rfl⟩ | ⟨hw, rfl⟩ | ⟨hw, rfl⟩
    · obtain ⟨x, ys, rfl, f1, f2⟩ := fits_cons hf
      obtain ⟨i, rfl⟩ := fits_n f1
      obtain rfl := fits_nil f2
      have hm := firstO_nil (firstO_x (by decide) h2)
      rcases hr with ⟨j, _, e, hj⟩ | ⟨hne, _⟩
      · cases e
        refine ⟨.num i, ⟨by omega, by omega⟩, by simp only [Ex.size]; omega, rfl, by simp only [Ex.deep]; omega, by omega, fun H v => ?_⟩
        rintro ⟨t, vs, rfl, ht, v1, us, rfl, rfl, rfl⟩
        exact ⟨t, rfl, ht⟩
      · exact absurd rfl hne
    · obtain ⟨x, ys, rfl, f1, f2⟩ := fits_cons hf
      obtain ⟨i, rfl⟩ := fits_x f1
      obtain rfl := fits_nil f2
      have hm := firstO_nil (firstO_x (by decide) h2)
      rcases hr with ⟨j, e, _⟩ | ⟨_, _, _, hb⟩
      · exact absurd e (by decide +kernel)
      · refine ⟨.name i, hb rfl i (by simp [ownO]), by simp only [Ex.size]; omega, rfl, by simp only [Ex.deep]; omega, by omega, fun H v => ?_⟩
        rintro ⟨t, vs, rfl, ht, v1, us, rfl, rfl, rfl⟩
        exact ⟨t, rfl, ht⟩
    · obtain ⟨x, ys, rfl, f1, f2⟩ := fits_cons hf
      obtain ⟨y, ys, rfl, f3, f4⟩ := fits_cons f2
      obtain ⟨z, ys, rfl, f5, f6⟩ := fits_cons f4
      obtain rfl := fits_nil f6
      obtain ⟨j1, g1, h3⟩ := firstO_e h2
      obtain ⟨j2, g2, h4⟩ := firstO_e h3
      obtain ⟨j3, g3, h5⟩ := firstO_e h4
      have hm := firstO_nil h5
      simp only [szO] at hk
      obtain ⟨e1, a1, a2, a3, a4, a5, a6⟩ := ih x (by omega) g1
      obtain ⟨e2, b1, b2, b3, b4, b5, b6⟩ := ih y (by omega) g2
      obtain ⟨e3, c1, c2, c3, c4, c5, c6⟩ := ih z (by omega) g3
      refine ⟨.ite e1 e2 e3, ⟨a1, b1, good_ap c1 (by simp [ownO]) fun x h => h⟩, by simp only [Ex.size]; omega, by simp only [Ex.size, Od.sz, szO]; omega, by simp only [Ex.deep]; omega, by omega, fun H v => ?_⟩
      rintro ⟨t, vs, rfl, ht, v1, us, rfl, r1, v2, us, rfl, r2, v3, us, rfl, r3, rfl⟩
      exact ⟨t, v1, v2, v3, rfl, ht, a6 _ _ r1, b6 _ _ r2, c6 _ _ r3⟩
    · obtain ⟨x, ys, rfl, f1, f2⟩ := fits_cons hf
      obtain ⟨i, rfl⟩ := fits_x f1
      obtain ⟨y, ys, rfl, f3, f4⟩ := fits_cons f2
      obtain ⟨z, ys, rfl, f5, f6⟩ := fits_cons f4
      obtain rfl := fits_nil f6
      obtain ⟨j1, g1, h3⟩ := firstO_e (firstO_x (by decide) h2)
      obtain ⟨j2, g2, h4⟩ := firstO_e h3
      have hm := firstO_nil h4
      simp only [szO] at hk
      obtain ⟨e1, a1, a2, a3, a4, a5, a6⟩ := ih y (by omega) g1
      obtain ⟨e2, b1, b2, b3, b4, b5, b6⟩ := ih z (by omega) g2
      rcases hr with ⟨j, e, _⟩ | ⟨_, hl, _, _⟩
      · exact absurd e (by decide +kernel)
      · refine ⟨.lt i e1 e2, ⟨hl i (by simp [ownO]), a1, good_ap b1 (by simp [ownO]) fun x h => List.mem_cons_of_mem _ h⟩, by simp only [Ex.size]; omega, by simp only [Ex.size, Od.sz, szO]; omega, by simp only [Ex.deep]; omega, by omega, fun H v => ?_⟩
        rintro ⟨t, vs, rfl, ht, v0, us, rfl, rfl, v1, us, rfl, r1, v2, us, rfl, r2, rfl⟩
        exact ⟨t, v1, v2, rfl, ht, a6 _ _ r1, b6 _ _ r2⟩
    · obtain ⟨x, ys, rfl, f1, f2⟩ := fits_cons hf
      obtain ⟨i, rfl⟩ := fits_x f1
      obtain ⟨y, ys, rfl, f3, f4⟩ := fits_cons f2
      obtain rfl := fits_nil f4
      obtain ⟨j1, g1, h3⟩ := firstO_e (firstO_x (by decide) h2)
      have hm := firstO_nil h3
      simp only [szO] at hk
      obtain ⟨e1, a1, a2, a3, a4, a5, a6⟩ := ih y (by omega) g1
      rcases hr with ⟨j, e, _⟩ | ⟨_, hl, _, _⟩
      · exact absurd e (by decide +kernel)
      · refine ⟨.fn i e1, ⟨hl i (by simp [ownO]), good_ap a1 (by simp [ownO]) fun x h => List.mem_cons_of_mem _ h⟩, by simp only [Ex.size]; omega, by simp only [Ex.size, Od.sz, szO]; omega, by simp only [Ex.deep]; omega, by omega, fun H v => ?_⟩
        rintro ⟨t, vs, rfl, ht, v0, us, rfl, rfl, v1, us, rfl, r1, rfl⟩
        exact ⟨t, v1, rfl, ht, a6 _ _ r1⟩
    · obtain ⟨x, ys, rfl, f1, f2⟩ := fits_cons hf
      obtain ⟨p, ys, rfl, f3, f4⟩ := fits_cons f2
      obtain ⟨i, rfl⟩ := fits_x f3
      obtain ⟨q, ys, rfl, f5, f6⟩ := fits_cons f4
      obtain ⟨l, rfl⟩ := fits_x f5
      obtain ⟨y, ys, rfl, f7, f8⟩ := fits_cons f6
      obtain rfl := fits_nil f8
      obtain ⟨j1, g1, h3⟩ := firstO_e h2
      obtain ⟨j2, g2, h4⟩ := firstO_e (firstO_x (by decide) (firstO_x (by decide) h3))
      have hm := firstO_nil h4
      simp only [szO] at hk
      obtain ⟨e1, a1, a2, a3, a4, a5, a6⟩ := ih x (by omega) g1
      obtain ⟨e2, b1, b2, b3, b4, b5, b6⟩ := ih y (by omega) g2
      rcases hr with ⟨j, e, _⟩ | ⟨_, hl, hnd, _⟩
      · exact absurd e (by decide +kernel)
      · have ho : ownO [101, 120, 120, 101] [x, .str i, .str l, y] = [i, l] := by cases x <;> cases y <;> rfl
        rw [ho] at hl hnd b1 g2
        have hne : i ≠ l := fun z => by
          subst z
          simp [nodupB] at hnd
        refine ⟨.ct e1 i l e2, ⟨hl i (by simp), hl l (by simp), hne, a1, good_ap b1 (by simp) fun x h => List.mem_cons_of_mem _ (List.mem_cons_of_mem _ h)⟩, by simp only [Ex.size]; omega, by simp only [Ex.size, Od.sz, szO]; omega, by simp only [Ex.deep]; omega, by omega, fun H v => ?_⟩
        rintro ⟨t, vs, rfl, ht, v1, us, rfl, r1, v2, us, rfl, rfl, v3, us, rfl, rfl, v4, us, rfl, r4, rfl⟩
        exact ⟨t, v1, v4, rfl, ht, a6 _ _ r1, b6 _ _ r4⟩
    · obtain rfl := fits_nil hf
      have hm := firstO_nil h2
      refine ⟨.fault, trivial, by simp only [Ex.size]; omega, rfl, by simp only [Ex.deep]; omega, by omega, fun H v => ?_⟩
      rintro ⟨t, vs, rfl, ht, rfl⟩
      exact ⟨t, rfl, ht⟩
    · obtain ⟨x, ys, rfl, f1, f2⟩ := fits_cons hf
      obtain rfl := fits_nil f2
      obtain ⟨j1, g1, h3⟩ := firstO_e h2
      have hm := firstO_nil h3
      simp only [szO] at hk
      obtain ⟨e1, a1, a2, a3, a4, a5, a6⟩ := ih x (by omega) g1
      refine ⟨.one w e1, ⟨hw, good_ap a1 (by cases x <;> simp [ownO]) fun x h => h⟩, by simp only [Ex.size]; omega, by simp only [Ex.size, Od.sz, szO]; omega, by simp only [Ex.deep]; omega, by omega, fun H v => ?_⟩
      rintro ⟨t, vs, rfl, ht, v1, us, rfl, r1, rfl⟩
      exact ⟨t, v1, rfl, ht, a6 _ _ r1⟩
    · obtain ⟨x, ys, rfl, f1, f2⟩ := fits_cons hf
      obtain ⟨y, ys, rfl, f3, f4⟩ := fits_cons f2
      obtain rfl := fits_nil f4
      obtain ⟨j1, g1, h3⟩ := firstO_e h2
      obtain ⟨j2, g2, h4⟩ := firstO_e h3
      have hm := firstO_nil h4
      simp only [szO] at hk
      obtain ⟨e1, a1, a2, a3, a4, a5, a6⟩ := ih x (by omega) g1
      obtain ⟨e2, b1, b2, b3, b4, b5, b6⟩ := ih y (by omega) g2
      refine ⟨.two w e1 e2, ⟨hw, a1, good_ap b1 (by cases x <;> cases y <;> simp [ownO]) fun x h => h⟩, by simp only [Ex.size]; omega, by simp only [Ex.size, Od.sz, szO]; omega, by simp only [Ex.deep]; omega, by omega, fun H v => ?_⟩
      rintro ⟨t, vs, rfl, ht, v1, us, rfl, r1, v2, us, rfl, r2, rfl⟩
      exact ⟨t, v1, v2, rfl, ht, a6 _ _ r1, b6 _ _ r2⟩
end Wr
namespace Wr
open PySem PySem.Spec PyProof.Rows L2
/-! ### odd data before has_shape and standing -/
def strO (cs : List Nat) : Str := ⟨cs.toArray⟩
theorem strO_cps (cs : List Nat) : (strO cs).cps.toList = cs := by simp [strO]
/-- words that a spoilt program may have -/
def allO : List Str := shapes.map (·.1) ++ (["Add", "", "Say"] : List Str)
/-- the table of shapes, of all such words -/
def ShapesO (K : PySem.W.Frag) (w : World) (sa : Addr) : Prop := ∀ x ∈ allO, match shapeO x with
  | some cs => KDct K w sa x (.str (strO cs))
  | none => PySem.W.nsIn K sa x = some none
mutual
/-- all its words are such words -/
def Od.wds : Od → Prop
  | .nd w xs => w ∈ allO ∧ xs.length ≤ 8 ∧ wdsO xs
  | _ => True
def wdsO : List Od → Prop
  | [] => True
  | x :: xs => x.wds ∧ wdsO xs
end
def Od.isI : Od → Bool
  | .int _ => true
  | _ => false
def Od.isS : Od → Bool
  | .str _ => true
  | _ => false
def Od.isT : Od → Bool
  | .emp => true
  | .nd _ _ => true
  | _ => false
theorem OdAt.ty {K : PySem.W.Frag} {H : Hp} {v : V} {o : Od} (h : OdAt H v o) : ∃ t, TyX K H v t ∧ PySem.W.kitOne K t (.type "int") = some o.isI ∧ PySem.W.kitOne K t (.type "bool") = some false ∧ PySem.W.kitOne K t (.type "str") = some o.isS ∧
    PySem.W.kitOne K t (.type "tuple") = some o.isT := by
  cases o with
  | str s => cases h; exact ⟨_, .base (.str s), kit_ty (by kernel_rfl), kit_ty (by kernel_rfl), kit_ty (by kernel_rfl), kit_ty (by kernel_rfl)⟩
  | int n => cases h; exact ⟨_, .base (.int n), kit_ty (by kernel_rfl), kit_ty (by kernel_rfl), kit_ty (by kernel_rfl), kit_ty (by kernel_rfl)⟩
  | emp => obtain ⟨t, rfl, h⟩ := h; exact ⟨_, .base (.tup h), kit_ty (by kernel_rfl), kit_ty (by kernel_rfl), kit_ty (by kernel_rfl), kit_ty (by kernel_rfl)⟩
  | nd w xs => obtain ⟨t, vs, rfl, h, _⟩ := h; exact ⟨_, .base (.tup h), kit_ty (by kernel_rfl), kit_ty (by kernel_rfl), kit_ty (by kernel_rfl), kit_ty (by kernel_rfl)⟩
theorem OdL.val {H : Hp} : ∀ {vs : List V} {os : List Od} {i : Nat} {v : V}, OdL H vs os → vs[i]? = some v → ∃ o, os[i]? = some o ∧ OdAt H v o
  | _, [], _, _, h, e => by rw [show _ = [] from h] at e; simp at e
  | _, x :: xs, 0, _, ⟨v, us, rfl, a, l⟩, e => by cases e; exact ⟨x, rfl, a⟩
  | _, x :: xs, i + 1, _, ⟨v, us, rfl, a, l⟩, e => l.val (i := i) e
theorem shape_ks {x : Str} {cs : List Nat} (h : shapeO x = some cs) : cs.length ≤ 4 ∧ ∀ c ∈ cs, c = 110 ∨ c = 120 ∨ c = 101 := by
  rcases shape_cases h with ⟨_, rfl⟩ | ⟨_, rfl⟩ | ⟨_, rfl⟩ | ⟨_, rfl⟩ | ⟨_, rfl⟩ | ⟨_, rfl⟩ | ⟨_, rfl⟩ | ⟨_, rfl⟩ | ⟨_, rfl⟩ <;> exact ⟨by decide, by decide⟩
theorem sg_ne : ¬ (⟨#[110]⟩ : Str) = ⟨#[120]⟩ ∧ ¬ (⟨#[110]⟩ : Str) = ⟨#[101]⟩ ∧ ¬ (⟨#[120]⟩ : Str) = ⟨#[110]⟩ ∧ ¬ (⟨#[120]⟩ : Str) = ⟨#[101]⟩ ∧ ¬ (⟨#[101]⟩ : Str) = ⟨#[110]⟩ ∧ ¬ (⟨#[101]⟩ : Str) = ⟨#[120]⟩ ∧ ("n" : Str) = ⟨#[110]⟩ ∧ ("x" : Str) = ⟨#[120]⟩ ∧ ("e" : Str) = ⟨#[101]⟩ := by decide +kernel
section
variable {P : Program} {w : World} {K : PySem.W.Frag} {mg : Str → Option Value} {base : Heap}
def spFitsO : Sp := fun vs H Q _ => ∃ (c : Nat) (v : V) (o : Od), vs = [.str ⟨#[c]⟩, v] ∧ (c = 110 ∨ c = 120 ∨ c = 101) ∧ OdAt H v o ∧ Q (.bl (o.fits c)) H
theorem ok_fitsO (F : Df K mg "fits" s_fits) (isi : mg "isinstance" = none) (st : mg "str" = none) (U : Use P w K mg base "is_whole" ["held"] 1 (spWhole K)) : Use P w K mg base "fits" ["place", "held"] 2 spFitsO := by
  refine F.use scFits (fun _ _ _ _ _ _ us hl => match us, hl with | [_, _], _ => rfl) (fun vs H Q E h => ?_) (fun cdv f A outer s H vs Q E hr h => ?_)
  · obtain ⟨x, v, o, rfl, _⟩ := h
    rfl
  · obtain ⟨c, v, o, rfl, h, ho, q⟩ := h
    refine ⟨_, pss_cons (ps_if (pt_cmpR op_eq (pv 0) pe_str (nomark _)) (pss_one (ps_ret (pe_use U hr (pa_cons (pv 1) pa_nil)))) pss_nil)
      (pss_cons (ps_if (pt_cmpR op_eq (pv 0) pe_str (nomark _)) (pss_one (ps_ret (pe_callB (r := rIsi K) call_isi (by rfl) isi (by decide +kernel) (pa_cons (pv 1) (pa_cons (pe_bltn (v := .ty "str") (u := .type "str") (by rfl) st (by decide +kernel) rfl) pa_nil))))) pss_nil)
      (pss_one (ps_ret pe_bl))), ?_⟩
    obtain ⟨t, ty, ki, kb, ks, _⟩ := ho.ty (K := K)
    obtain ⟨n1, n2, n3, n4, n5, n6, e1, e2, e3⟩ := sg_ne
    rcases h with rfl | rfl | rfl
    · refine ⟨_, rfl, rfl, _, rfl, ?_⟩
      rw [decide_eq_true (congrArg V.str e1.symm)]
      refine iteT ⟨_, rfl, v, t, _, _, rfl, ty, ki, kb, ?_⟩
      cases o <;> exact q
    · refine ⟨_, rfl, rfl, _, rfl, ?_⟩
      rw [decide_eq_false (fun z => n3 (by rw [← e1]; exact V.str.inj z))]
      refine iteF ⟨_, rfl, rfl, _, rfl, ?_⟩
      rw [decide_eq_true (congrArg V.str e2.symm)]
      refine iteT ⟨_, rfl, v, .ty "str", t, .type "str", _, rfl, .ty _, ty, ks, ?_⟩
      cases o <;> exact q
    · refine ⟨_, rfl, rfl, _, rfl, ?_⟩
      rw [decide_eq_false (fun z => n5 (by rw [← e1]; exact V.str.inj z))]
      refine iteF ⟨_, rfl, rfl, _, rfl, ?_⟩
      rw [decide_eq_false (fun z => n6 (by rw [← e2]; exact V.str.inj z))]
      exact iteF q
end
end Wr
namespace Wr
open PySem PySem.Spec PyProof.Rows L2
theorem fits_len : ∀ {cs : List Nat} {xs : List Od}, fitsL cs xs = true → cs.length = xs.length
  | [], [], _ => rfl
  | _ :: _, _ :: _, h => by
    simp only [fitsL, Bool.and_eq_true] at h
    rw [List.length_cons, List.length_cons, fits_len h.2]
  | [], _ :: _, h => by simp [fitsL] at h
  | _ :: _, [], h => by simp [fitsL] at h
section
variable {P : Program} {w : World} {K : PySem.W.Frag} {mg : Str → Option Value} {base : Heap}
def spStandingO : Sp := fun vs H Q _ => ∃ (t : Addr) (x : Str) (os : List Od) (cs : List Nat) (xs : List V) (p : Str), vs = [.ref t, .str p] ∧ x ∈ allO ∧ shapeO x = some cs ∧ cs.length = os.length ∧ H t = some (.tup (.str x :: xs)) ∧ OdL H xs os ∧
  ∀ (l : Addr) (H' : Hp), Same H H' → H l = none → H' l = some (.lst (stand p cs xs)) → Q (.ref l) H'
theorem ok_standingO {sa : Addr} (hSh : ShapesO K w sa) (hmg : mg "SHAPES" = some (.ref sa)) (F : Df K mg "standing" s_standing) (zip : mg "zip" = none) : Use P w K mg base "standing" ["thing", "place"] 1 spStandingO := by
  refine F.use scStanding (fun _ _ _ _ _ _ us hl => match us, hl with | [_, _], _ => rfl) (fun vs H Q E h => ?_) (fun cdv f A outer s H vs Q E hr h => ?_)
  · obtain ⟨t, x, os, cs, xs, p, rfl, _⟩ := h
    rfl
  · obtain ⟨t, x, os, cs, xs, p, rfl, hw, hs, hl, ht, hn, q⟩ := h
    refine ⟨_, pss_one (ps_ret (pe_lc (own := [("kind", 2), ("held", 3)]) (g := gTup K 2 (gCons (gName 2) (gCons (gName 3) gNil))) (by rfl) scStanding.nd
      (pi_zipS (by rfl) zip (pa_cons (pe_ix ix_kdict (pe_glob (v := .ref sa) (by rfl) hmg rfl) (pe_ix ix_tup (pv 0) pe_int (fun _ _ => rfl)) (fun _ _ => rfl)) (pa_cons (pe_slice sl_tup (pv 0) (po_some pe_int) po_none) pa_nil)))
      (blkOk_by (own := [("kind", 2), ("held", 3)]) (N := ["thing", "place", "kind", "held"]) (sc := defScope s_standing) (by decide +kernel))
      (fun _ _ _ _ _ => pg_tup rfl (pgs_cons (pg_name (i := 2) scStanding.nd rfl (Or.inl rfl)) (pgs_cons (pg_name (i := 3) scStanding.nd rfl (Or.inl rfl)) pgs_nil)))
      (fun _ _ _ _ _ => pts_one (pt_cmpR op_eq (pv 2) (pv 1) (nomark _))) (fun _ _ _ _ _ => pv 3))), ?_⟩
    have hK : KDct K w sa x (.str (strO cs)) := by have := hSh x hw; rw [hs] at this; exact this
    refine ⟨_, rfl, t, _, _, .str x, rfl, rfl, SqT.of ht, atI_nat (j := 0) rfl, sa, x, .str (strO cs), rfl, rfl, hK, _, rfl, 1, rfl, t, _, rfl, SqT.of ht, cut1_no _ _ _, fun p2 np2 => ?_⟩
    rw [cut1]
    have sm1 := Same.new np2 (.tup xs)
    have hp2 : upd H p2 (.tup xs) p2 = some (.tup xs) := upd_same
    generalize upd H p2 (.tup xs) = H1 at sm1 hp2 ⊢
    refine ⟨(strO cs), p2, xs, rfl, SqT.of hp2, fun D nD => ?_⟩
    have hsz : (strO cs).cps.size = xs.length := by rw [← Array.length_toList, strO_cps, hl, hn.length]
    have h4 : xs.length ≤ 4 := by rw [hn.length, ← hl]; exact (shape_ks hs).1
    have hlen : (strO cs).cps.toList.length = xs.length := by rw [Array.length_toList]; exact hsz
    refine lc_zipS (K := K) (x := (strO cs)) (b := p2) (ys := xs) hsz (fun i H2 => Same H1 H2 ∧ i ≤ xs.length ∧ H2 D = some (.lst (stand p ((strO cs).cps.toList.take i) (xs.take i)))) ⟨Same.new nD _, Nat.zero_le _, upd_same⟩ (fun i H2 _ h => SqT.of (h.1 _ _ hp2)) ?_ ?_
    · rintro i c y T H2 hc hy ⟨sm, hi, hD⟩ nT
      have hi2 : i < xs.length := (List.getElem?_eq_some_iff.mp hy).1
      have hc' : (strO cs).cps.toList[i]? = some c := by rw [Array.getElem?_toList]; exact hc
      have hsn : stand p ((strO cs).cps.toList.take (i + 1)) (xs.take (i + 1)) = stand p ((strO cs).cps.toList.take i) (xs.take i) ++ (if (⟨#[c]⟩ : Str) = p then [y] else []) := by
        rw [take_snoc hc', take_snoc hy]
        exact stand_snoc _ _ _ _ _ (by rw [List.length_take, List.length_take, hlen])
      refine ⟨T, _, rfl, SqT.of upd_same, rfl, _, _, rfl, _, _, rfl, rfl, rfl, ?_⟩
      refine ⟨_, rfl, _, rfl, rfl, _, rfl, ?_⟩
      have smT := Same.new nT (.tup [.str ⟨#[c]⟩, y])
      refine ite2 (fun h => ?_) (fun h => ?_)
      · have h := V.str.inj (of_decide_eq_true h)
        refine ⟨_, rfl, _, smT _ _ hD, ?_, ?_, hi2, ?_⟩
        · refine Nat.lt_of_le_of_lt (stand_len _ _ _) ?_
          rw [List.length_take]
          have : (5 : Nat) < sizeLine := by decide
          omega
        · exact fun b o hb => by
            rw [upd_ne (fun z => by rw [z, nD] at hb; cases hb)]
            exact smT _ _ (sm _ _ hb)
        · rw [upd_same, hsn, if_pos h]
      · refine ⟨sm.trans smT, hi2, ?_⟩
        rw [hsn, if_neg (fun z => h (decide_eq_true (congrArg V.str z))), List.append_nil]
        exact smT _ _ hD
    · rintro H2 ⟨sm, _, hD⟩
      rw [List.take_of_length_le (by omega), List.take_of_length_le (Nat.le_refl _)] at hD
      exact q D H2 (sm1.trans sm) (sm1.free nD) hD
end
end Wr
namespace Wr
open PySem PySem.Spec PyProof.Rows L2
theorem fits_at : ∀ {cs : List Nat} {xs : List Od} (n : Nat), cs.length = xs.length → n ≤ cs.length → fitsL (cs.take n) (xs.take n) = ((List.range n).all fun i => match cs[i]?, xs[i]? with | some c, some x => x.fits c | _, _ => true)
  | cs, xs, 0, _, _ => by simp [fitsL]
  | cs, xs, n + 1, h1, h2 => by
    rw [List.range_succ, List.all_append, ← fits_at n h1 (by omega)]
    have c1 : cs[n]? = some (cs[n]'(by omega)) := List.getElem?_eq_getElem _
    have x1 : xs[n]? = some (xs[n]'(by omega)) := List.getElem?_eq_getElem _
    rw [take_snoc c1, take_snoc x1]
    simp only [List.all_cons, List.all_nil, c1, x1, Bool.and_true]
    have key : ∀ (as : List Nat) (bs : List Od) (c : Nat) (x : Od), as.length = bs.length → fitsL (as ++ [c]) (bs ++ [x]) = (fitsL as bs && x.fits c) := by
      intro as
      induction as with
      | nil =>
        intro bs c x hl
        cases bs with
        | nil => simp [fitsL]
        | cons _ _ => simp at hl
      | cons a as ih =>
        intro bs c x hl
        cases bs with
        | nil => simp at hl
        | cons y bs =>
          simp only [List.cons_append, fitsL]
          rw [ih bs c x (by simpa using hl), Bool.and_assoc]
    exact key _ _ _ _ (by rw [List.length_take, List.length_take, h1])
def fitsB (cs : List Nat) (xs : List Od) (n : Nat) : List Bool := (List.range n).map fun i => match cs[i]?, xs[i]? with | some c, some x => x.fits c | _, _ => true
theorem fitsB_all {cs : List Nat} {xs : List Od} (h : cs.length = xs.length) : (fitsB cs xs cs.length).all id = fitsL cs xs := by
  have e := fits_at (cs := cs) (xs := xs) cs.length h (Nat.le_refl _)
  rw [List.take_of_length_le (Nat.le_refl _), List.take_of_length_le (by omega)] at e
  rw [e, fitsB, List.all_map]
  rfl
section
variable {P : Program} {w : World} {K : PySem.W.Frag} {mg : Str → Option Value} {base : Heap}
def spShapeO : Sp := fun vs H Q _ => ∃ (v : V) (o : Od), vs = [v] ∧ OdAt H v o ∧ o.wds ∧ ∀ H', Same H H' → Q (.bl o.shp) H'
theorem ok_has_shapeO {sa : Addr} {es : Array DictEntry} {n : Nat} (hKD : KDict K w sa es n) (hSh : ShapesO K w sa) (hmg : mg "SHAPES" = some (.ref sa)) (F : Df K mg "has_shape" s_has_shape) (zip : mg "zip" = none) (isi : mg "isinstance" = none) (tup : mg "tuple" = none) (st : mg "str" = none) (len : mg "len" = none) (all' : mg "all" = none)
    (U : Use P w K mg base "fits" ["place", "held"] 2 spFitsO) : Use P w K mg base "has_shape" ["thing"] 3 spShapeO := by
  refine F.use scHas_shape (fun _ _ _ _ _ _ us hl => match us, hl with | [_], _ => rfl) (fun vs H Q E h => ?_) (fun cdv f A outer s H vs Q E hr h => ?_)
  · obtain ⟨v, o, rfl, _⟩ := h
    rfl
  · obtain ⟨v, o, rfl, ho, hw, q⟩ := h
    refine ⟨_, pss_cons (ps_if (PW.pt (pw_or (pt_not (pt_val (pe_callB (r := rIsi K) call_isi (by rfl) isi (by decide +kernel) (pa_cons (pv 0) (pa_cons (pe_bltn (v := .ty "tuple") (u := .type "tuple") (by rfl) tup (by decide +kernel) rfl) pa_nil))))) (pw_or1 (pt_cmpR op_eq (pe_callB call_len_seq (by rfl) len PySem.boot_len (pa_cons (pv 0) pa_nil)) pe_int (nomark _))))) (pss_one (ps_ret pe_bl)) pss_nil)
      (pss_cons (ps_set (i := 1) scHas_shape.nd rfl (Or.inl rfl) (pe_ix ix_tup (pv 0) pe_int (fun _ _ => rfl)))
      (pss_cons (ps_if (PW.pt (pw_or (pt_not (pt_val (pe_callB (r := rIsi K) call_isi (by rfl) isi (by decide +kernel) (pa_cons (pv 1) (pa_cons (pe_bltn (v := .ty "str") (u := .type "str") (by rfl) st (by decide +kernel) rfl) pa_nil))))) (pw_or1 (pt_cmpR (op_notIn_kd hKD) (pv 1) (pe_glob (v := .ref sa) (by rfl) hmg rfl) rfl)))) (pss_one (ps_ret pe_bl)) pss_nil)
      (pss_cons (ps_set (i := 2) scHas_shape.nd rfl (Or.inl rfl) (pe_ix ix_kdict (pe_glob (v := .ref sa) (by rfl) hmg rfl) (pv 1) (fun _ _ => rfl)))
      (pss_cons (ps_if (pt_cmpR op_ne (pe_callB call_len_seq (by rfl) len PySem.boot_len (pa_cons (pv 0) pa_nil)) (pe_op op_add (pe_callB call_len_str (by rfl) len PySem.boot_len (pa_cons (pv 2) pa_nil)) pe_int) (nomark _)) (pss_one (ps_ret pe_bl)) pss_nil)
      (pss_one (ps_ret (pe_callB (cr_all rfl) (by rfl) all' (by decide +kernel) (pa_cons
        (pe_lc (own := [("place", 3), ("held", 4)]) (g := gTup K 2 (gCons (gName 3) (gCons (gName 4) gNil))) (tt := tYes) (by rfl) scHas_shape.nd
          (pi_zipS (by rfl) zip (pa_cons (pv 2) (pa_cons (pe_slice sl_tup (pv 0) (po_some pe_int) po_none) pa_nil)))
          (blkOk_by (own := [("place", 3), ("held", 4)]) (N := ["thing", "word", "shape", "place", "held"]) (sc := defScope s_has_shape) (by decide +kernel))
          (fun _ _ _ _ _ => pg_tup rfl (pgs_cons (pg_name (i := 3) scHas_shape.nd rfl (Or.inl rfl)) (pgs_cons (pg_name (i := 4) scHas_shape.nd rfl (Or.inl rfl)) pgs_nil)))
          (fun _ _ _ _ _ => pts_nil) (fun _ _ _ _ _ => pe_use U hr (pa_cons (pv 3) (pa_cons (pv 4) pa_nil)))) pa_nil)))))))), ?_⟩
    obtain ⟨tv, ty, _, _, _, kt⟩ := ho.ty (K := K)
    refine ⟨_, rfl, v, .ty "tuple", tv, .type "tuple", o.isT, rfl, .ty _, ty, kt, o.isT, rfl, ?_⟩
    cases o with
    | str s => exact iteT (q H (Same.refl H))
    | int s => exact iteT (q H (Same.refl H))
    | emp =>
      obtain ⟨t, rfl, ht⟩ := ho
      refine iteF ⟨_, rfl, t, _, rfl, .inr (SqT.of ht), rfl, _, rfl, ?_⟩
      exact iteT (q H (Same.refl H))
    | nd x os =>
      obtain ⟨t, xs, rfl, ht, hl⟩ := ho
      have hx : x ∈ allO := hw.1
      have h8 : os.length ≤ 8 := hw.2.1
      have hln := hl.length
      refine iteF ⟨_, rfl, t, _, rfl, .inr (SqT.of ht), rfl, _, rfl, ?_⟩
      rw [show decide (V.int ((V.str x :: xs).length : Int) = V.int 0) = false from decide_eq_false (fun z => by have := V.int.inj z; rw [List.length_cons] at this; omega)]
      refine iteF ⟨_, rfl, t, _, _, .str x, rfl, rfl, SqT.of ht, atI_nat (j := 0) rfl, ?_⟩
      refine ⟨_, rfl, .str x, .ty "str", _, .type "str", true, rfl, .ty _, .base (.str _), kit_ty (by decide +kernel), true, rfl, iteF ?_⟩
      have hSx := hSh x hx
      cases hs : shapeO x with
      | none =>
        rw [hs] at hSx
        refine ⟨_, rfl, x, none, rfl, rfl, hSx, _, rfl, iteT ?_⟩
        have e : (Od.nd x os).shp = false := by simp only [Od.shp, hs]
        rw [← e]
        exact q H (Same.refl H)
      | some cs =>
        rw [hs] at hSx
        obtain ⟨c4, ck⟩ := shape_ks hs
        have e : (Od.nd x os).shp = fitsL cs os := by simp only [Od.shp, hs]
        rw [e] at q
        obtain ⟨es', n', u', _, _, hns, _⟩ := id hSx
        refine ⟨_, rfl, x, some u', rfl, rfl, hns, _, rfl, iteF ?_⟩
        refine ⟨_, rfl, sa, x, .str (strO cs), rfl, rfl, hSx, ?_⟩
        have hsl : (strO cs).length = cs.length := by
          show (strO cs).cps.size = _
          rw [← Array.length_toList, strO_cps]
        have s9 : (20 : Nat) ≤ sizeLine := by decide
        refine ⟨_, rfl, t, _, rfl, .inr (SqT.of ht), _, rfl, strO cs, rfl, by rw [hsl]; omega, _, _, rfl, rfl, rfl, _, rfl, ?_⟩
        by_cases hlen : cs.length = os.length
        · rw [show (!decide (V.int ((V.str x :: xs).length : Int) = V.int (((strO cs).length : Int) + 1))) = false from by
            rw [hsl, hlen, ← hln, List.length_cons, decide_eq_true (by push_cast; rfl)]; rfl]
          refine iteF ?_
          refine ⟨_, rfl, _, rfl, 1, rfl, t, _, rfl, SqT.of ht, cut1_no _ _ _, fun p2 np2 => ?_⟩
          rw [cut1]
          have sm1 := Same.new np2 (.tup xs)
          have hp2 : upd H p2 (.tup xs) p2 = some (.tup xs) := upd_same
          have hl1 : OdL (upd H p2 (.tup xs)) xs os := hl.tups fun _ _ h => sm1 _ _ h
          generalize upd H p2 (.tup xs) = H1 at sm1 hp2 hl1 ⊢
          refine ⟨strO cs, p2, xs, rfl, SqT.of hp2, fun D nD => ?_⟩
          refine lc_zipS (K := K) (x := strO cs) (b := p2) (ys := xs) (by show (strO cs).length = _; omega) (fun i H2 => Same H1 H2 ∧ i ≤ xs.length ∧ H2 D = some (.lst ((fitsB cs os i).map V.bl))) ⟨Same.new nD _, Nat.zero_le _, upd_same⟩ (fun i H2 _ h => SqT.of (h.1 _ _ hp2)) ?_ ?_
          · rintro i c y T H2 hc hy ⟨sm, hi, hD⟩ nT
            have hi2 : i < xs.length := (List.getElem?_eq_some_iff.mp hy).1
            have hc' : cs[i]? = some c := by
              have : (strO cs).cps.toList[i]? = some c := by rw [Array.getElem?_toList]; exact hc
              rw [strO_cps] at this
              exact this
            refine ⟨T, _, rfl, SqT.of upd_same, rfl, _, _, rfl, _, _, rfl, rfl, rfl, tYes_if ?_⟩
            have smT := Same.new nT (.tup [.str ⟨#[c]⟩, y])
            obtain ⟨o1, e1, a1⟩ := hl1.val hy
            refine ⟨_, rfl, _, rfl, c, y, o1, rfl, ck c (List.mem_of_getElem? hc'), a1.tups fun _ _ h => smT _ _ (sm _ _ h), _, smT _ _ hD, ?_, ?_, hi2, ?_⟩
            · rw [List.length_map, fitsB, List.length_map, List.length_range]
              omega
            · exact fun b o hb => by
                rw [upd_ne (fun z => by rw [z, nD] at hb; cases hb)]
                exact smT _ _ (sm _ _ hb)
            · have eB : fitsB cs os (i + 1) = fitsB cs os i ++ [o1.fits c] := by
                unfold fitsB
                rw [List.range_succ, List.map_append]
                simp only [List.map_cons, List.map_nil, hc', e1]
              rw [upd_same, eB, List.map_append]
              rfl
          · rintro H2 ⟨sm, _, hD⟩
            refine ⟨D, fitsB cs os xs.length, rfl, SqL.of hD, ?_⟩
            rw [show xs.length = cs.length from by omega, fitsB_all hlen]
            exact q H2 (sm1.trans sm)
        · rw [show (!decide (V.int ((V.str x :: xs).length : Int) = V.int (((strO cs).length : Int) + 1))) = true from by
            rw [hsl, List.length_cons, decide_eq_false (fun z => by have := V.int.inj z; push_cast at this; omega)]; rfl]
          have e2 : fitsL cs os = false := by
            cases e : fitsL cs os with
            | false => rfl
            | true => exact absurd (fits_len e) hlen
          rw [e2] at q
          exact iteT (q H (Same.refl H))
end
end Wr
namespace Wr
open PySem PySem.Spec PyProof.Rows L2
theorem stand_own0 {H : Hp} : ∀ {cs : List Nat} {os : List Od} {xs : List V}, (∀ c ∈ cs, c = 110 ∨ c = 120 ∨ c = 101) → fitsL cs os = true → OdL H xs os → stand ⟨#[120]⟩ cs xs = (ownO cs os).map V.str
  | [], [], xs, _, _, h => by rw [show xs = [] from h]; rfl
  | [], _ :: _, _, _, h, _ => by simp [fitsL] at h
  | _ :: _, [], _, _, h, _ => by simp [fitsL] at h
  | c :: cs, o :: os, xs, hc, hf, ⟨v, us, e, a, l⟩ => by
    subst e
    simp only [fitsL, Bool.and_eq_true] at hf
    have ih := stand_own0 (fun c h => hc c (List.mem_cons_of_mem _ h)) hf.2 l
    obtain ⟨n1, n2, n3, n4, n5, n6, e1, e2, e3⟩ := sg_ne
    rcases hc c List.mem_cons_self with rfl | rfl | rfl
    · simp only [stand, if_neg n1, ih]
      cases o <;> rfl
    · obtain ⟨s, rfl⟩ := fits_x hf.1
      have a : v = .str s := a
      subst a
      simp only [stand, if_true, ih]
      rfl
    · simp only [stand, if_neg n6, ih]
      cases o <;> rfl
theorem stand_own {H : Hp} {cs : List Nat} {os : List Od} {xs : List V} (hc : ∀ c ∈ cs, c = 110 ∨ c = 120 ∨ c = 101) (hf : fitsL cs os = true) (hl : OdL H xs os) : stand "x" cs xs = (ownO cs os).map V.str := by
  rw [sg_ne.2.2.2.2.2.2.2.1]
  exact stand_own0 hc hf hl
def kidsO : List Nat → List Od → List Od
  | c :: cs, x :: xs => if c = 101 then x :: kidsO cs xs else kidsO cs xs
  | _, _ => []
theorem stand_kids0 {H : Hp} : ∀ {cs : List Nat} {os : List Od} {xs : List V}, (∀ c ∈ cs, c = 110 ∨ c = 120 ∨ c = 101) → OdL H xs os → OdL H (stand ⟨#[101]⟩ cs xs) (kidsO cs os)
  | [], _, _, _, _ => rfl
  | c :: cs, [], xs, _, h => by rw [show xs = [] from h]; rfl
  | c :: cs, o :: os, xs, hc, ⟨v, us, e, a, l⟩ => by
    subst e
    have ih := stand_kids0 (fun c h => hc c (List.mem_cons_of_mem _ h)) l
    obtain ⟨n1, n2, n3, n4, n5, n6, e1, e2, e3⟩ := sg_ne
    rcases hc c List.mem_cons_self with rfl | rfl | rfl
    · simp only [stand, if_neg n2, kidsO]
      exact ih
    · simp only [stand, if_neg n4, kidsO]
      exact ih
    · simp only [stand, if_true, kidsO]
      exact ⟨v, _, rfl, a, ih⟩
theorem stand_kids {H : Hp} {cs : List Nat} {os : List Od} {xs : List V} (hc : ∀ c ∈ cs, c = 110 ∨ c = 120 ∨ c = 101) (hl : OdL H xs os) : OdL H (stand "e" cs xs) (kidsO cs os) := by
  rw [sg_ne.2.2.2.2.2.2.2.2]
  exact stand_kids0 hc hl
theorem own_count : ∀ (cs : List Nat) (os : List Od), (ownO cs os).length ≤ (cs.filter (· == 120)).length
  | [], _ => by simp [ownO]
  | c :: cs, [] => by simp [ownO]
  | c :: cs, o :: os => by
    have ih := own_count cs os
    by_cases hc : c = 120
    · subst hc
      rw [List.filter_cons_of_pos (by rfl), List.length_cons]
      cases o with
      | str s => show (s :: ownO cs os).length ≤ _; rw [List.length_cons]; omega
      | int n => show (ownO cs os).length ≤ _; omega
      | emp => show (ownO cs os).length ≤ _; omega
      | nd w xs => show (ownO cs os).length ≤ _; omega
    · rw [List.filter_cons_of_neg (by simpa using hc)]
      have e : ownO (c :: cs) (o :: os) = ownO cs os := by
        rw [ownO.eq_2]
        exact fun _ z => absurd z hc
      rw [e]
      exact ih
theorem own_len {x : Str} {cs : List Nat} {os : List Od} (h : shapeO x = some cs) : (ownO cs os).length ≤ 2 := by
  have := own_count cs os
  rcases shape_cases h with ⟨_, rfl⟩ | ⟨_, rfl⟩ | ⟨_, rfl⟩ | ⟨_, rfl⟩ | ⟨_, rfl⟩ | ⟨_, rfl⟩ | ⟨_, rfl⟩ | ⟨_, rfl⟩ | ⟨_, rfl⟩ <;> exact Nat.le_trans this (by decide)
theorem unl_two {ns : List Str} (h : ns.length ≤ 2) : unl ns ns.length ≤ ns.length ∧ (nodupB ns = true ↔ unl ns ns.length = ns.length) := by
  rcases ns with _ | ⟨x, _ | ⟨y, _ | ⟨z, r⟩⟩⟩
  · exact ⟨Nat.le_refl _, by simp [nodupB]; rfl⟩
  · exact ⟨Nat.le_refl _, by simp [nodupB]; rfl⟩
  · by_cases e : x = y
    · subst e
      have h1 : unl [x, x] 2 = 1 := by
        show (if ([x] : List Str).any (· == x) = true then _ else _) = _
        rw [if_pos (by simp)]
        rfl
      exact ⟨by show unl [x, x] 2 ≤ 2; omega, by show _ ↔ unl [x, x] 2 = 2; rw [h1]; simp [nodupB]⟩
    · have h1 : unl [x, y] 2 = 2 := by
        show (if ([x] : List Str).any (· == y) = true then _ else _) = _
        rw [if_neg (by simp [e])]
        rfl
      exact ⟨by show unl [x, y] 2 ≤ 2; omega, by show _ ↔ unl [x, y] 2 = 2; rw [h1]; simp [nodupB, e]⟩
  · simp at h
end Wr
namespace Wr
open PySem PySem.Spec PyProof.Rows L2
def Od.wv (o : Od) (a r : Nat) (bs : List Str) : V := match o.why a r bs with
  | some s => .str s
  | none => .non
theorem why_shape {o : Od} {a r : Nat} {bs : List Str} (ha : ¬ 200 ≤ a) (hr : ¬ 40 < r) (h : o.shp = false) : o.why a r bs = some ("shape" : Str) := by
  unfold Od.why
  rw [if_neg ha, if_neg hr]
  cases o with
  | nd w xs =>
    simp only [Od.shp] at h
    cases hs : shapeO w with
    | none => simp only [hs]
    | some cs =>
      rw [hs] at h
      have h : fitsL cs xs = false := h
      simp only [hs, h, if_true]
  | _ => rfl
theorem shp_nd {o : Od} (h : o.shp = true) : ∃ w xs cs, o = .nd w xs ∧ shapeO w = some cs ∧ fitsL cs xs = true := by
  cases o with
  | nd w xs =>
    simp only [Od.shp] at h
    cases hs : shapeO w with
    | none => rw [hs] at h; cases h
    | some cs => rw [hs] at h; exact ⟨w, xs, cs, rfl, hs, h⟩
  | str s => cases h
  | int s => cases h
  | emp => cases h
theorem why_num {n : Int} {a r : Nat} {bs : List Str} (ha : ¬ 200 ≤ a) (hr : ¬ 40 < r) : (Od.nd "num" [.int n]).why a r bs = if n.natAbs ≤ 1000000 then none else some ("number" : Str) := by
  unfold Od.why
  rw [if_neg ha, if_neg hr]
  have e1 : shapeO "num" = some [110] := by decide +kernel
  have e2 : (("num" : Str) == ("num" : Str)) = true := by decide +kernel
  have e3 : fitsL [110] [.int n] = true := rfl
  simp only [e1, e2, e3]
  rfl
theorem why_oth {x : Str} {os : List Od} {cs : List Nat} {a r : Nat} {bs : List Str} (ha : ¬ 200 ≤ a) (hr : ¬ 40 < r) (hs : shapeO x = some cs) (hf : fitsL cs os = true) (hx : x ≠ "num") :
    (Od.nd x os).why a r bs = if ((ownO cs os).all (fun x => letters.contains x) && nodupB (ownO cs os)) = true then (if (x == "name" && !(ownO cs os).all (fun x => bs.contains x)) = true then some ("open" : Str) else none) else some ("name" : Str) := by
  unfold Od.why
  rw [if_neg ha, if_neg hr]
  have e : (x == ("num" : Str)) = false := by simpa using hx
  simp only [hs, hf, e]
  rfl
section
variable {P : Program} {w : World} {K : PySem.W.Frag} {mg : Str → Option Value} {base : Heap}
def spWhyO : Sp := fun vs H Q _ => ∃ (v : V) (o : Od) (b : Addr) (bs : List Str) (a r : Nat), vs = [v, .int a, .int r, .ref b] ∧ OdAt H v o ∧ o.wds ∧ H b = some (.tup (bs.map V.str)) ∧ ∀ H', Same H H' → Q (o.wv a r bs) H'
theorem ok_why_notO {na : Addr} (F : Df K mg "why_not" s_why_not) (mP : GInt mg "MOST_PARTS" 200) (mA : GInt mg "MOST_AROUND" 40) (mN : GInt mg "MOST_NUMBER" 1000000) (mNm : mg "NAMES" = some (.ref na)) (hNm : TupK K na (letters.map V.str))
    (abs' : mg "abs" = none) (all' : mg "all" = none) (len : mg "len" = none) (set' : mg "set" = none) (U_shape : Use P w K mg base "has_shape" ["thing"] 3 spShapeO) (U_stand : Use P w K mg base "standing" ["thing", "place"] 1 spStandingO) : Use P w K mg base "why_not" ["thing", "at", "around", "bound"] 4 spWhyO := by
  refine F.use scWhy_not (fun _ _ _ _ _ _ us hl => match us, hl with | [_, _, _, _], _ => rfl) (fun vs H Q E h => ?_) (fun cdv f A outer s H vs Q E hr h => ?_)
  · obtain ⟨v, o, b, bs, a, r, rfl, _⟩ := h
    rfl
  · obtain ⟨v, o, b, bs, a, r, rfl, ho, hw, hb, q⟩ := h
    have hr1 : Room 1 _ := hr.mono (by decide)
    obtain ⟨tP, mP⟩ := mP
    obtain ⟨tA, mA⟩ := mA
    obtain ⟨tN, mN⟩ := mN
    refine ⟨_, pss_cons (ps_if (pt_cmpR op_ge (pv 1) (pe_glob (v := .int 200) (by rfl) mP ⟨_, rfl⟩) (nomark _)) (pss_one (ps_ret pe_str)) pss_nil)
      (pss_cons (ps_if (pt_cmpR op_gt (pv 2) (pe_glob (v := .int 40) (by rfl) mA ⟨_, rfl⟩) (nomark _)) (pss_one (ps_ret pe_str)) pss_nil)
      (pss_cons (ps_if (pt_not (pt_val (pe_use U_shape hr (pa_cons (pv 0) pa_nil)))) (pss_one (ps_ret pe_str)) pss_nil)
      (pss_cons (ps_set (i := 4) scWhy_not.nd rfl (Or.inl rfl) (pe_ix ix_tup (pv 0) pe_int (fun _ _ => rfl)))
      (pss_cons (ps_set (i := 5) scWhy_not.nd rfl (Or.inl rfl) (pe_use U_stand hr1 (pa_cons (pv 0) (pa_cons pe_str pa_nil))))
      (pss_cons (ps_if (PW.pt (pw_and (pt_cmpR op_eq (pv 4) pe_str (nomark _)) (pw_and1 (pt_cmpR op_gt (pe_callB call_abs (by rfl) abs' (by decide +kernel) (pa_cons (pe_ix ix_tup (pv 0) pe_int (fun _ _ => rfl)) pa_nil)) (pe_glob (v := .int 1000000) (by rfl) mN ⟨_, rfl⟩) (nomark _))))) (pss_one (ps_ret pe_str)) pss_nil)
      (pss_cons (ps_if (PW.pt (pw_or (pt_not (pt_val (pe_callB (cr_all rfl) (by rfl) all' (by decide +kernel) (pa_cons
          (pe_lc (own := [("name", 6)]) (g := gName 6) (tt := tYes) (by rfl) scWhy_not.nd (pi_list (pv 5)) (blkOk_by (own := [("name", 6)]) (N := ["thing", "at", "around", "bound", "word", "names", "name"]) (sc := defScope s_why_not) (by decide +kernel))
            (fun _ _ _ _ _ => pg_name (i := 6) scWhy_not.nd rfl (Or.inl rfl)) (fun _ _ _ _ _ => pts_nil) (fun _ _ _ _ _ => pe_cmpR (r := rIn K false) op_in_seq (pv 6) (pe_glob (v := .ref na) (by rfl) mNm rfl) rfl)) pa_nil))))
          (pw_or1 (pt_cmpR op_lt (pe_lenSetT (by rfl) len (by rfl) set' (pv 5)) (pe_callB call_len_seq (by rfl) len PySem.boot_len (pa_cons (pv 5) pa_nil)) (nomark _))))) (pss_one (ps_ret pe_str)) pss_nil)
      (pss_cons (ps_if (PW.pt (pw_and (pt_cmpR op_eq (pv 4) pe_str (nomark _)) (pw_and1 (pt_cmpR (r := rIn K true) op_notIn_seq (pe_ix ix_list (pv 5) pe_int (fun _ _ => rfl)) (pv 3) rfl)))) (pss_one (ps_ret pe_str)) pss_nil)
      (pss_one (ps_ret pe_non))))))))), ?_⟩
    have wv_of : ∀ {s : Str}, o.why a r bs = some s → o.wv a r bs = .str s := fun h => by unfold Od.wv; rw [h]
    have many : 200 ≤ a → o.wv a r bs = .str "many" := fun h => wv_of (by unfold Od.why; rw [if_pos h])
    refine ⟨_, rfl, _, _, rfl, rfl, _, rfl, ?_⟩
    refine ite2 (fun h => ?_) fun h => ?_
    · have h : (200 : Int) ≤ a := by simpa using h
      rw [← many (by omega)]
      exact q H (Same.refl H)
    have ha : ¬ 200 ≤ a := fun z => h (by simpa using (by omega : (200 : Int) ≤ a))
    clear h
    have dee : 40 < r → o.wv a r bs = .str "deep" := fun h => wv_of (by unfold Od.why; rw [if_neg ha, if_pos h])
    refine ⟨_, rfl, _, _, rfl, rfl, _, rfl, ?_⟩
    refine ite2 (fun h => ?_) fun h => ?_
    · have h : (40 : Int) < r := by simpa using h
      rw [← dee (by omega)]
      exact q H (Same.refl H)
    have hr4 : ¬ 40 < r := fun z => h (by simpa using (by omega : (40 : Int) < r))
    clear h
    refine ⟨_, rfl, v, o, rfl, ho, hw, fun H1 sm1 => ⟨o.shp, rfl, ?_⟩⟩
    cases hsh : o.shp with
    | false =>
      have e : o.wv a r bs = .str "shape" := wv_of (why_shape ha hr4 hsh)
      rw [e] at q
      exact iteT (q H1 sm1)
    | true =>
    refine iteF ?_
    obtain ⟨x, os, cs, rfl, hs, hf⟩ := shp_nd hsh
    obtain ⟨t, xs, rfl, ht, hl⟩ := ho
    obtain ⟨c4, ck⟩ := shape_ks hs
    have hx : x ∈ allO := hw.1
    have ht1 := sm1 _ _ ht
    have hl1 : OdL H1 xs os := hl.tups fun _ _ h => sm1 _ _ h
    refine ⟨_, rfl, t, _, _, .str x, rfl, rfl, SqT.of ht1, atI_nat (j := 0) rfl, ?_⟩
    refine ⟨_, rfl, t, x, os, cs, xs, "x", rfl, hx, hs, fits_len hf, ht1, hl1, fun nl H2 sm2 nn hn2 => ?_⟩
    rw [stand_own ck hf hl1] at hn2
    have hn2len := own_len (os := os) hs
    have ht2 := sm2 _ _ ht1
    have hb2 := sm2 _ _ (sm1 _ _ hb)
    -- a number
    refine ⟨_, rfl, rfl, _, rfl, ?_⟩
    by_cases hnum : x = "num"
    · subst hnum
      have ec : cs = [110] := by
        have e : shapeO "num" = some [110] := by decide +kernel
        rw [e] at hs
        exact (Option.some.inj hs).symm
      subst ec
      obtain ⟨y, ys, rfl, f1, f2⟩ := fits_cons hf
      obtain ⟨n, rfl⟩ := fits_n f1
      obtain rfl := fits_nil f2
      obtain ⟨v1, us, rfl, rfl, rfl⟩ := hl
      have ew : (Od.nd "num" [.int n]).wv a r bs = if n.natAbs ≤ 1000000 then .non else .str "number" := by
        unfold Od.wv
        rw [why_num ha hr4]
        by_cases hn : n.natAbs ≤ 1000000
        · rw [if_pos hn, if_pos hn]
        · rw [if_neg hn, if_neg hn]
      rw [decide_eq_true rfl]
      refine iteT ⟨_, rfl, t, _, _, .int n, rfl, rfl, SqT.of ht2, atI_nat (j := 1) rfl, n, rfl, _, _, rfl, rfl, _, rfl, ?_⟩
      by_cases hn : n.natAbs ≤ 1000000
      · rw [if_pos hn] at ew
        rw [decide_eq_false (by split <;> omega)]
        have hn2 : H2 nl = some (.lst (([] : List Str).map V.str)) := hn2
        refine iteF ⟨_, rfl, nl, rfl, ⟨_, SqL.of hn2⟩, fun D nD => ?_⟩
        refine lc_list (K := K) (a := nl) (xs := ([] : List Str).map V.str) (fun i H3 => Same H2 H3 ∧ H3 D = some (.lst [])) ⟨Same.new nD _, upd_same⟩ (fun i H3 _ h => SqL.of (h.1 _ _ hn2)) (fun i y H3 hy _ => by simp at hy) ?_
        rintro H3 ⟨sm, hD⟩
        refine ⟨D, [], rfl, SqL.of hD, ⟨true, rfl, iteF ?_⟩⟩
        have hn3 := sm _ _ hn2
        refine ⟨_, rfl, nl, [], rfl, SqL.of hn3, by decide, ?_⟩
        refine ⟨_, rfl, nl, _, rfl, .inl (SqL.of hn3), _, _, rfl, rfl, _, rfl, ?_⟩
        refine iteF ⟨_, rfl, rfl, _, rfl, ?_⟩
        rw [decide_eq_false (fun z => absurd (V.str.inj z) (by decide +kernel))]
        refine iteF ?_
        rw [ew] at q
        exact q H3 (fun c o hc => sm _ _ (sm2 _ _ (sm1 _ _ hc)))
      · rw [if_neg hn] at ew
        rw [decide_eq_true (by split <;> omega)]
        rw [ew] at q
        exact iteT (q H2 (fun c o hc => sm2 _ _ (sm1 _ _ hc)))
    rw [decide_eq_false (fun z => hnum (V.str.inj z))]
    refine iteF ?_
    have ew := why_oth (bs := bs) ha hr4 hs hf hnum
    have hone : x = "name" → ∃ s, ownO cs os = [s] := fun e => by
      subst e
      have e : shapeO "name" = some [120] := by decide +kernel
      rw [e] at hs
      cases hs
      obtain ⟨y, ys, rfl, f1, f2⟩ := fits_cons hf
      obtain ⟨s, rfl⟩ := fits_x f1
      exact ⟨s, by cases ys <;> rfl⟩
    generalize ownO cs os = ns at hn2 hn2len ew hone
    refine ⟨_, rfl, nl, rfl, ⟨_, SqL.of hn2⟩, fun D nD => ?_⟩
    refine lc_list (K := K) (a := nl) (xs := ns.map V.str) (fun i H3 => Same H2 H3 ∧ i ≤ ns.length ∧ H3 D = some (.lst (((ns.take i).map fun x => letters.contains x).map V.bl))) ⟨Same.new nD _, Nat.zero_le _, upd_same⟩ (fun i H3 _ h => SqL.of (h.1 _ _ hn2)) ?_ ?_
    · rintro i z H3 hz ⟨sm, hi, hD⟩
      obtain ⟨y, hy, rfl⟩ : ∃ y, ns[i]? = some y ∧ V.str y = z := by
        rw [List.getElem?_map] at hz
        cases hq : ns[i]? with
        | none => rw [hq] at hz; cases hz
        | some y => rw [hq] at hz; exact ⟨y, rfl, Option.some.inj hz⟩
      have hi2 : i < ns.length := (List.getElem?_eq_some_iff.mp hy).1
      refine ⟨rfl, tYes_if ?_⟩
      refine ⟨_, rfl, na, _, rfl, .inr (hNm.seq _), rfl, flat_strs _, _, hD, ?_, ?_, hi2, ?_⟩
      · rw [List.length_map, List.length_map, List.length_take]
        have : (4 : Nat) ≤ sizeLine := by decide
        omega
      · exact fun c o hc => by
          rw [upd_ne (fun z => by rw [z, nD] at hc; cases hc)]
          exact sm _ _ hc
      · rw [upd_same, take_snoc hy, List.map_append, List.map_append]
        show some (HO.lst (_ ++ [V.bl (inV (.str y) (letters.map V.str))])) = _
        rw [inV_str]
        simp only [List.map_cons, List.map_nil]
        congr
        simp
    · rintro H3 ⟨sm, _, hD⟩
      refine ⟨D, _, rfl, SqL.of hD, ?_⟩
      have hall : (List.map (fun x => letters.contains x) (ns.take (ns.map V.str).length)).all id = ns.all (fun x => letters.contains x) := by
        rw [List.length_map, List.take_of_length_le (Nat.le_refl _), List.all_map]
        rfl
      rw [hall]
      have smA : Same H H3 := fun c o hc => sm _ _ (sm2 _ _ (sm1 _ _ hc))
      have hn3 := sm _ _ hn2
      have hb3 := sm _ _ hb2
      refine ⟨_, rfl, ?_⟩
      cases hA : ns.all (fun x => letters.contains x) with
      | false =>
        rw [hA] at ew
        have e : (Od.nd x os).wv a r bs = .str "name" := by unfold Od.wv; rw [ew]; rfl
        rw [e] at q
        exact iteT (q H3 smA)
      | true =>
      rw [hA] at ew
      refine iteF ?_
      refine ⟨_, rfl, nl, ns, rfl, SqL.of hn3, by omega, ?_⟩
      refine ⟨_, rfl, nl, _, rfl, .inl (SqL.of hn3), _, _, rfl, rfl, _, rfl, ?_⟩
      obtain ⟨u1, u2⟩ := unl_two hn2len
      rw [List.length_map]
      cases hN : nodupB ns with
      | false =>
        have hlt : unl ns ns.length ≠ ns.length := fun z => by rw [u2.mpr z] at hN; cases hN
        rw [decide_eq_true (by omega)]
        rw [hN] at ew
        have e : (Od.nd x os).wv a r bs = .str "name" := by unfold Od.wv; rw [ew]; rfl
        rw [e] at q
        exact iteT (q H3 smA)
      | true =>
      rw [hN] at ew
      rw [u2.mp hN, decide_eq_false (by omega)]
      refine iteF ⟨_, rfl, rfl, _, rfl, ?_⟩
      by_cases hnm : x = "name"
      · subst hnm
        rw [decide_eq_true rfl]
        obtain ⟨n, rfl⟩ := hone rfl
        refine iteT ⟨_, rfl, nl, _, _, .str n, rfl, rfl, SqL.of hn3, atI_nat (j := 0) rfl, _, rfl, b, _, rfl, .inr (SqT.of hb3), rfl, flat_strs _, _, rfl, ?_⟩
        have e1 : (("name" : Str) == ("name" : Str)) = true := by decide +kernel
        rw [e1] at ew
        by_cases hm : n ∈ bs
        · rw [show (if true = true then !inV (.str n) (bs.map V.str) else inV (.str n) (bs.map V.str)) = false from by
            rw [if_pos rfl, inV_str, decide_eq_true hm]; rfl]
          have e2 : ([n] : List Str).all (fun x => bs.contains x) = true := by simp [hm]
          rw [e2] at ew
          have e : (Od.nd "name" os).wv a r bs = .non := by unfold Od.wv; rw [ew]; rfl
          rw [e] at q
          exact iteF (q H3 smA)
        · rw [show (if true = true then !inV (.str n) (bs.map V.str) else inV (.str n) (bs.map V.str)) = true from by
            rw [if_pos rfl, inV_str, decide_eq_false hm]; rfl]
          have e2 : ([n] : List Str).all (fun x => bs.contains x) = false := by simp [hm]
          rw [e2] at ew
          have e : (Od.nd "name" os).wv a r bs = .str "open" := by unfold Od.wv; rw [ew]; rfl
          rw [e] at q
          exact iteT (q H3 smA)
      · have e1 : (x == ("name" : Str)) = false := by simpa using hnm
        rw [e1] at ew
        have e : (Od.nd x os).wv a r bs = .non := by unfold Od.wv; rw [ew]; rfl
        rw [decide_eq_false (fun z => hnm (V.str.inj z))]
        rw [e] at q
        exact iteF (q H3 smA)
end
end Wr
namespace Wr
open PySem PySem.Spec PyProof.Rows L2
/-! ### methods that may raise; one of two promises -/
def UseMX (P : Program) (w : World) (K : PySem.W.Frag) (mg : Str → Option Value) (base : Heap) (C : Addr) (m : Str) (ps : List Str) (k : Nat) (sp : Sp) : Prop :=
  ∃ f fd, FnOk P w K mg base (L2.CX P w) k f fd ps sp ∧ Meth K C m f ∧ Binds K fd ps []
section
variable {P : Program} {w : World} {K : PySem.W.Frag} {mg : Str → Option Value} {base : Heap} {C : Addr}
theorem DfM.useX {c m : Str} {st : Stmt} {N ps : List Str} {k : Nat} {sp : Sp} (D : DfM K C c m st) (S : FnScope N ps (defScope st)) (b : BindM m c st ps) (len : ∀ vs H Q E, sp vs H Q E → vs.length = ps.length)
    (hbody : ∀ (cdv : Value) (f : Addr) (A : Around) (outer : List Env) (s : Shared) (H : Hp) (vs : List V) (Q : VK) (E : XK), Room k (A.deeper (envOfC c (defScope st) s.heap.objs.size f cdv)) → sp vs H Q E →
      ∃ t, PSs (cxOf (L2.CX P w) P w K mg base N c (defScope st) f cdv A outer s H E) (defBody st) t ∧ t { nx := fun _ H' => Q .non H', rt := Q } (start N vs) H) : UseMX P w K mg base C m ps (k + 1) sp := by
  obtain ⟨f, fd, F, M⟩ := D
  exact ⟨f, fd, F.ok S len fun cdv A outer s H vs Q E hr h => hbody cdv f A outer s H vs Q E hr h, M, F.bindsN b⟩
theorem UseMX.mono {m : Str} {ps : List Str} {k j : Nat} {sp : Sp} (U : UseMX P w K mg base C m ps k sp) (h : k ≤ j) : UseMX P w K mg base C m ps j sp := by
  obtain ⟨f, fd, F, r⟩ := U
  exact ⟨f, fd, F.mono h, r⟩
end
section
variable {X : Cx} {C : Addr} {x m : Str} {ps : List Str} {k : Nat} {sp : Sp} {o e : Expr} {es : List Expr} {ta : TE} {t : TA} {p pos apos : Pos}
theorem pe_useMX {E : XK} {W : WX} {pl : Sem Bool} (c : Cls X.K C) (U : UseMX X.prog X.w X.K X.mg X.base C m ps k sp) (hr : Room k X.A) (tk : Takes X W) (hW : ∀ cls d σ H, E cls d H → W cls d σ H) (he : PE X o ta) (ha : PA X (e :: es) t)
    (hst : starEach (e :: es) X.env = (false, eval e X.env) :: starEach es X.env := by rfl) (hpl : (backTo pos (starEach es X.env)).any (·.1) = false := by rfl)
    (ht : eval (.Call (.Attribute o m apos) (e :: es) [] pos) X.env = (do
      let ov ← eval o X.env; standAt apos.atName
      let (f, first) ← holding [ov] (getMethod ov m pl)
      callWith pos f first (backTo pos (starEach (e :: es) X.env)) (backToKw pos (keywordEach [] X.env))) := by rfl) :
    PE X (.Call (.Attribute o m apos) (e :: es) [] pos) (tMeth C m sp [] E ta t) := by
  obtain ⟨f, fd, F, M, b⟩ := U
  exact pe_meth he c M F hr b .nil (passes_call tk hW) ha hst hpl ht
/-- one of two readings, chosen where it is read -/
theorem pe_or {t1 t2 : TE} (h1 : PE X e t1) (h2 : PE X e t2) : PE X e (fun σ H Q => t1 σ H Q ∨ t2 σ H Q) :=
  ⟨fun pins s σ H Q I h => h.elim (h1.run pins s σ H Q I) (h2.run pins s σ H Q I)⟩
end
/-! ### the parts within, one behind the other -/
def firstK : List Od → Nat → List Str → List Str → Nat → Sum (Nat × Str) Nat
  | [], _, _, _, n => .inr n
  | x :: xs, a, b, ns, n => match x.first a (if xs.isEmpty then b ++ ns else b) n with
    | .inl r => .inl r
    | .inr m => firstK xs a b ns m
theorem moreE_kids : ∀ {cs : List Nat} {os : List Od}, (∀ c ∈ cs, c = 110 ∨ c = 120 ∨ c = 101) → cs.length = os.length → moreE cs = !(kidsO cs os).isEmpty
  | [], [], _, _ => rfl
  | c :: cs, o :: os, hc, h => by
    have ih := moreE_kids (fun c h => hc c (List.mem_cons_of_mem _ h)) (by simpa using h : cs.length = os.length)
    rcases hc c List.mem_cons_self with rfl | rfl | rfl
    · simp only [moreE, kidsO]; rw [ih]; rfl
    · simp only [moreE, kidsO]; rw [ih]; rfl
    · simp only [moreE, kidsO, if_true]; rfl
  | [], _ :: _, _, h => by simp at h
  | _ :: _, [], _, h => by simp at h
theorem firstO_kids : ∀ {cs : List Nat} {os : List Od} {a n : Nat} {b ns : List Str}, (∀ c ∈ cs, c = 110 ∨ c = 120 ∨ c = 101) → cs.length = os.length → firstO cs os a b ns n = firstK (kidsO cs os) a b ns n
  | [], [], _, _, _, _, _, _ => rfl
  | c :: cs, o :: os, a, n, b, ns, hc, h => by
    have hl : cs.length = os.length := by simpa using h
    have hc' : ∀ c ∈ cs, c = 110 ∨ c = 120 ∨ c = 101 := fun c h => hc c (List.mem_cons_of_mem _ h)
    unfold firstO
    by_cases e : c = 101
    · subst e
      rw [if_pos rfl]
      simp only [kidsO, if_true, firstK]
      rw [moreE_kids hc' hl]
      have e2 : (if (!(kidsO cs os).isEmpty) = true then b else b ++ ns) = if (kidsO cs os).isEmpty = true then b ++ ns else b := by
        cases (kidsO cs os).isEmpty <;> rfl
      rw [e2]
      cases o.first a (if (kidsO cs os).isEmpty = true then b ++ ns else b) n with
      | inl r => rfl
      | inr m => exact firstO_kids hc' hl
    · rw [if_neg e]
      simp only [kidsO, if_neg e]
      exact firstO_kids hc' hl
  | [], _ :: _, _, _, _, _, _, h => by simp at h
  | _ :: _, [], _, _, _, _, _, h => by simp at h
end Wr
namespace Wr
open PySem PySem.Spec PyProof.Rows L2
/-- what is raised: the program's fault i, why -/
def Rsd (BC : Addr) (D : List Addr) (i : Nat) (why : Str) (H : Hp) (E : XK) : Prop := ∀ d H', Stp D H H' → H' d = some (.xd [("why", .str why), ("at", .int (i : Nat))]) → E (.ref BC) (some d) H'
theorem Rsd.step {BC : Addr} {D : List Addr} {i : Nat} {why : Str} {H H2 : Hp} {E : XK} (h : Rsd BC D i why H E) (s : Stp D H H2) : Rsd BC D i why H2 E := fun d H' s2 hd => h d H' (s.trans s2) hd
/-- a part in which there is a fault: it is raised -/
def spPartBad (RC BC : Addr) (n : Nat) : Sp := fun vs H _ E => ∃ (r td b : Addr) (v : V) (sz a : Nat) (ts : Str → Nat) (o : Od) (bs : List Str) (i : Nat) (why : Str), vs = [.ref r, v, .int a, .ref b] ∧ RdrAt RC H r td sz ts ∧ OdAt H v o ∧ o.wds ∧ (∀ x ∈ bs, x ∈ letters) ∧
  H b = some (.tup (bs.map V.str)) ∧ bs.length ≤ 2 * a ∧ a ≤ 41 ∧ sz ≤ 200 ∧ 41 ≤ a + n ∧ o.first a bs sz = .inl (i, why) ∧ Rsd BC [r, td] i why H E
def spPartsBad (RC BC : Addr) (n : Nat) : Sp := fun vs H _ E => ∃ (r td l b nl : Addr) (sz a : Nat) (ts : Str → Nat) (os : List Od) (bs ns : List Str) (xs : List V) (i : Nat) (why : Str), vs = [.ref r, .ref l, .int a, .ref b, .ref nl] ∧ RdrAt RC H r td sz ts ∧ H l = some (.lst xs) ∧ OdL H xs os ∧ wdsO os ∧
  (∀ x ∈ bs, x ∈ letters) ∧ (∀ x ∈ ns, x ∈ letters) ∧ H b = some (.tup (bs.map V.str)) ∧ H nl = some (.lst (ns.map V.str)) ∧ bs.length + 2 ≤ 2 * a ∧ ns.length ≤ 2 ∧ a ≤ 41 ∧ sz ≤ 200 ∧ 41 ≤ a + n ∧ os.length ≤ 4 ∧ firstK os a bs ns sz = .inl (i, why) ∧ Rsd BC [r, td] i why H E
theorem wdsO_at : ∀ {os : List Od} {i : Nat} {o : Od}, wdsO os → os[i]? = some o → o.wds
  | x :: xs, 0, _, h, e => by cases e; exact h.1
  | x :: xs, i + 1, _, h, e => wdsO_at (os := xs) (i := i) h.2 e
theorem dpO_at : ∀ {os : List Od} {i : Nat} {o : Od}, os[i]? = some o → o.dp ≤ dpO os
  | x :: xs, 0, _, e => by cases e; simp only [dpO]; omega
  | x :: xs, i + 1, _, e => by
    have := dpO_at (os := xs) (i := i) e
    simp only [dpO]
    omega
section
variable {P : Program} {w : World} {K : PySem.W.Frag} {mg : Str → Option Value} {base : Heap}
theorem ok_partsBad {RC PC BC : Addr} {n k : Nat} (hk : 87 ≤ k) (F : DfM K RC "Reader.parts_of" "parts_of" s_Reader_parts_of) (c : Cls K RC) (enum : mg "enumerate" = none) (len : mg "len" = none) (U : UseM P w K mg base RC "part_of" ["self", "thing", "around", "bound"] 87 (spPartOf RC PC 41))
    (UB : UseMX P w K mg base RC "part_of" ["self", "thing", "around", "bound"] k (spPartBad RC BC n)) : UseMX P w K mg base RC "parts_of" ["self", "things", "around", "bound", "names"] (k + 1) (spPartsBad RC BC n) := by
  refine F.useX scParts_of (fun _ _ _ _ _ _ us hl => match us, hl with | [_, _, _, _, _], _ => rfl) (fun vs H Q E h => ?_) (fun cdv f A outer s H vs Q E hr h => ?_)
  · obtain ⟨r, td, l, b, nl, sz, a, ts, os, bs, ns, xs, i, why, rfl, _⟩ := h
    rfl
  · obtain ⟨r, td, l, b, nl, sz, a, ts, os, bs, ns, xs, i, why, rfl, hR, hl, hx, hw, hS, hns, hb, hnl, hbl, hnn, ha, hz, hd, ho4, hf, q⟩ := h
    have hr87 : Room 87 _ := hr.mono hk
    refine ⟨_, pss_cons (ps_set (i := 5) scParts_of.nd rfl (Or.inl rfl) (pe_lst pa_nil))
      (pss_cons (ps_for (passes_of rfl) rfl (pi_enum (by rfl) enum (pa_cons (pv 1) pa_nil)) (pg_tup rfl (pgs_cons (pg_name (i := 6) scParts_of.nd rfl (Or.inl rfl)) (pgs_cons (pg_name (i := 7) scParts_of.nd rfl (Or.inl rfl)) pgs_nil)))
        (pss_cons (ps_set (i := 8) scParts_of.nd rfl (Or.inl rfl) (pe_ifExp (pt_cmpR op_eq (pv 6) (pe_op op_sub (pe_callB call_len_seq (by rfl) len PySem.boot_len (pa_cons (pv 1) pa_nil)) pe_int) (nomark _)) (pe_tup (StX.pa_star (pv 3) (StX.pa_star (pv 4) pa_nil))) (pv 3)))
        (pss_one (ps_expr (pe_bm PySem.F.plainAttrs_list PySem.F.slot_list_append PySem.F.type_list_append mt_append (pv 5) (pa_cons
          (pe_or (pe_useM c U hr87 (pv 0) (pa_cons (pv 7) (pa_cons (pv 2) (pa_cons (pv 8) pa_nil)))) (pe_useMX c UB hr (takes_of rfl rfl rfl rfl) (fun _ _ _ _ h => h) (pv 0) (pa_cons (pv 7) (pa_cons (pv 2) (pa_cons (pv 8) pa_nil))))) pa_nil))))))
      (pss_one (ps_ret (pv 5)))), ?_⟩
    refine ⟨by show 0 ≤ sizeLine; decide, fun D nD => ?_⟩
    have hxl := hx.length
    have sD := Same.new nD (.lst [])
    have ne1 : ∀ {q o}, H q = some o → q ≠ D := fun h => ne_of_none h nD
    obtain ⟨dx0, hr0⟩ := id hR.ob
    obtain ⟨kv0, ht0, _⟩ := id hR.tb
    refine ⟨_, rfl, l, xs, rfl, SqL.of (sD _ _ hl), ?_⟩
    refine for_it (walk_enum (K := K) (a := l) (xs := xs)) (fun j σ H2 => ∃ (ys : List V) (s6 s7 s8 : Option V) (sz2 : Nat) (ts2 : Str → Nat), σ = [some (.ref r), some (.ref l), some (.int a), some (.ref b), some (.ref nl), some (.ref D), s6, s7, s8] ∧ Stp [r, td] H H2 ∧ H2 D = some (.lst ys) ∧ ys.length = j ∧
      RdrAt RC H2 r td sz2 ts2 ∧ sz2 ≤ 200 ∧ firstK (os.drop j) a bs ns sz2 = .inl (i, why)) ⟨[], none, none, none, sz, ts, rfl, Stp.same sD, upd_same, rfl, hR.step sD, hz, hf⟩
      (fun j σ H2 hj h => ?_) ?_ ?_
    · obtain ⟨ys, s6, s7, s8, sz2, ts2, rfl, s2, _⟩ := h
      exact SqL.of (s2.keep _ _ (fun z => by
        rcases List.mem_cons.mp z with z | z
        · rw [z, hr0] at hl; cases hl
        · rw [List.mem_singleton.mp z, ht0] at hl; cases hl) hl)
    · rintro j v σ H2 H2' hj ⟨ys, s6, s7, s8, sz2, ts2, rfl, s2, hD2, hyl, R2, hz2, hf2⟩ ⟨T, x, y, rfl, nT, rfl, ex, hy⟩
      cases ex
      obtain ⟨o, hoo, hao⟩ := hx.val hy
      have hjo : j < os.length := (List.getElem?_eq_some_iff.mp hoo).1
      have hwo := wdsO_at hw hoo
      have hdo := hd
      have hdrop : os.drop j = o :: os.drop (j + 1) := by
        rw [List.drop_eq_getElem_cons hjo]
        rw [List.getElem?_eq_getElem hjo] at hoo
        rw [Option.some.inj hoo]
      rw [hdrop] at hf2
      simp only [firstK] at hf2
      have hemp : (os.drop (j + 1)).isEmpty = decide (j + 1 = os.length) := by
        by_cases e : j + 1 = os.length
        · rw [decide_eq_true e, List.drop_of_length_le (by omega)]; rfl
        · rw [decide_eq_false e]
          cases e2 : os.drop (j + 1) with
          | nil => exact absurd (congrArg List.length e2) (by rw [List.length_drop]; show ¬ _ = 0; omega)
          | cons _ _ => rfl
      rw [hemp] at hf2
      have sT := Same.new nT (.tup [.int (j : Nat), y])
      have s2' : Stp [r, td] H (upd H2 T (.tup [.int (j : Nat), y])) := s2.trans (Stp.same sT)
      have noD : ∀ {q o}, H q = some o → (∀ z, o ≠ .ins RC dx0 z) → (∀ z, o ≠ .dK z) → q ∉ [r, td] := fun {q o} h n1 n2 z => by
        rcases List.mem_cons.mp z with z | z
        · rw [z, hr0] at h; cases h; exact n1 _ rfl
        · rw [List.mem_singleton.mp z, ht0] at h; cases h; exact n2 _ rfl
      have hl2 := s2'.keep _ _ (noD hl (fun _ z => nomatch z) (fun _ z => nomatch z)) hl
      have hb2 := s2'.tups _ _ hb
      have hnl2 := s2'.keep _ _ (noD hnl (fun _ z => nomatch z) (fun _ z => nomatch z)) hnl
      have R2' := R2.step sT
      have hD2' := sT _ _ hD2
      have ha2 : OdAt (upd H2 T (.tup [.int (j : Nat), y])) y o := hao.tups s2'.tups
      have hDn : D ∉ [r, td] := fun z => by
        rcases List.mem_cons.mp z with z | z
        · exact absurd z.symm (ne1 hr0)
        · exact absurd (List.mem_singleton.mp z).symm (ne1 ht0)
      have s9 : (100 : Nat) ≤ sizeLine := by decide
      refine ⟨T, _, rfl, SqT.of upd_same, rfl, _, _, rfl, _, _, rfl, rfl, ?_⟩
      have fin : ∀ (bs' : List Str) (H3 : Hp), Same (upd H2 T (.tup [.int (j : Nat), y])) H3 → bs' = (if decide (j + 1 = os.length) = true then bs ++ ns else bs) →
          (∀ x ∈ bs', x ∈ letters) ∧ bs'.length ≤ 2 * a ∧ RdrAt RC H3 r td sz2 ts2 ∧ H3 D = some (.lst ys) ∧
          ((∃ (t : Addr) (e : Ex), y = .ref t ∧ AtE H3 (.ref t) e ∧ Good bs' e ∧ a + e.deep ≤ 41 ∧ sz2 + e.size ≤ 200 ∧ ∀ v H4, Stp [r, td] H3 H4 → RdrAt RC H4 r td (sz2 + e.size) (adv ts2 e) →
              H4 D = some (.lst ys) ∧ ys.length < sizeLine ∧ Stp [r, td] H (upd H4 D (.lst (ys ++ [v]))) ∧ (ys ++ [v]).length = j + 1 ∧ RdrAt RC (upd H4 D (.lst (ys ++ [v]))) r td (sz2 + e.size) (adv ts2 e) ∧ firstK (os.drop (j + 1)) a bs ns (sz2 + e.size) = .inl (i, why)) ∨
            (OdAt H3 y o ∧ o.first a bs' sz2 = .inl (i, why) ∧ Rsd BC [r, td] i why H3 E)) := by
        intro bs' H3 sm3 hbs
        rw [← hbs] at hf2
        have s3 : Stp [r, td] H H3 := s2'.trans (Stp.same sm3)
        have hlet : ∀ x ∈ bs', x ∈ letters := by
          intro x hx
          rw [hbs] at hx
          split at hx
          · rcases List.mem_append.mp hx with h | h
            · exact hS x h
            · exact hns x h
          · exact hS x hx
        have hlen : bs'.length ≤ 2 * a := by
          rw [hbs]
          split
          · rw [List.length_append]; omega
          · omega
        refine ⟨hlet, hlen, R2'.step sm3, sm3 _ _ hD2', ?_⟩
        cases hof : o.first a bs' sz2 with
        | inl q1 =>
          rw [hof] at hf2
          have hf2 : (Sum.inl q1 : Sum (Nat × Str) Nat) = .inl (i, why) := hf2
          cases hf2
          exact .inr ⟨ha2.tups fun _ _ h => sm3 _ _ h, rfl, q.step s3⟩
        | inr m =>
          rw [hof] at hf2
          have hf2 : firstK (os.drop (j + 1)) a bs ns m = .inl (i, why) := hf2
          obtain ⟨e, g1, g2, _, g4, g5, g6⟩ := first_good _ o (Nat.le_refl _) hof
          have hae : AtE H3 y e := g6 _ _ (ha2.tups fun _ _ h => sm3 _ _ h)
          obtain ⟨t, _, et, _⟩ := hae.words
          subst et
          refine .inl ⟨t, e, rfl, hae, g1, g4, by omega, fun v H4 s4 R4 => ?_⟩
          have hD4 := s4.keep _ _ hDn (sm3 _ _ hD2')
          refine ⟨hD4, by omega, ⟨fun q o m h => ?_, fun q z h => ?_⟩, by rw [List.length_append, hyl]; rfl, ?_, by rw [← g2]; exact hf2⟩
          · rw [upd_ne (ne1 h)]
            exact s4.keep _ _ m (s3.keep _ _ m h)
          · rw [upd_ne (ne1 h)]
            exact s4.tups _ _ (s3.tups _ _ h)
          · obtain ⟨dx4, hr4⟩ := R4.ob
            obtain ⟨kv4, ht4, g4⟩ := R4.tb
            exact ⟨⟨dx4, by rw [upd_ne (ne1 hr0)]; exact hr4⟩, ⟨kv4, by rw [upd_ne (ne1 ht0)]; exact ht4, g4⟩⟩
      have lenx : xs.length = os.length := hxl
      refine ⟨_, rfl, _, rfl, l, _, rfl, .inl (SqL.of hl2), _, _, rfl, rfl, rfl, _, rfl, ?_⟩
      refine ite2 (fun hlast => ?_) (fun hlast => ?_)
      · have hlast := V.int.inj (of_decide_eq_true hlast)
        have c1 : j + 1 = os.length := by omega
        refine ⟨_, rfl, b, _, rfl, .inl (SqT.of hb2), _, rfl, nl, _, rfl, .inr (SqL.of hnl2), ?_, fun hb' nb' => ?_⟩
        · simp only [List.length_append, List.length_map, List.append_nil]
          omega
        · obtain ⟨f1, f2, f3, f4, f5⟩ := fin (bs ++ ns) (upd (upd H2 T (.tup [.int (j : Nat), y])) hb' (.tup (bs.map V.str ++ (ns.map V.str ++ [])))) (Same.new nb' _) (by rw [if_pos (decide_eq_true c1)])
          have hb3 : upd (upd H2 T (.tup [.int (j : Nat), y])) hb' (.tup (bs.map V.str ++ (ns.map V.str ++ []))) hb' = some (.tup ((bs ++ ns).map V.str)) := by rw [upd_same, List.map_append, List.append_nil]
          obtain ⟨dx2, hr3⟩ := f3.ob
          obtain ⟨_, _, _, _, _, lk, _⟩ := rdrF (.int (sz2 : Nat)) (.ref td) .non
          rcases f5 with ⟨t, e, rfl, g1, g2, g3, g4, g5⟩ | ⟨g1, g2, g3⟩
          · refine ⟨_, rfl, .inl ⟨rfl, _, SqL.of f4⟩, .inl ?_⟩
            refine ⟨_, rfl, r, dx2, _, rfl, hr3, lk, ?_⟩
            refine ⟨_, rfl, _, rfl, ?_⟩
            refine ⟨_, rfl, r, td, t, hb', sz2, a, ts2, e, bs ++ ns, bs ++ ns, rfl, f3, g1, g2, f1, hb3, fun x h => h, f2, g3, g4, by have := e.deep_pos; omega, fun v H4 s4 R4 _ => ?_⟩
            obtain ⟨k1, k2, k3, k4, k5, k6⟩ := g5 v H4 s4 R4
            exact ⟨D, ys, v, rfl, rfl, k1, k2, _, _, _, _, _, _, rfl, k3, upd_same, k4, k5, g4, k6⟩
          · refine ⟨_, rfl, .inl ⟨rfl, _, SqL.of f4⟩, .inr ?_⟩
            refine ⟨_, rfl, r, dx2, _, rfl, hr3, lk, ?_⟩
            refine ⟨_, rfl, _, rfl, ?_⟩
            exact ⟨_, rfl, r, td, hb', y, sz2, a, ts2, o, bs ++ ns, i, why, rfl, f3, g1, hwo, f1, hb3, f2, ha, hz2, hdo, g2, g3⟩
      · have c1 : j + 1 ≠ os.length := fun z => by
          refine hlast (decide_eq_true (congrArg V.int ?_))
          show ((j : Nat) : Int) = ((xs.length : Nat) : Int) - 1
          omega
        obtain ⟨f1, f2, f3, f4, f5⟩ := fin bs (upd H2 T (.tup [.int (j : Nat), y])) (Same.refl _) (by rw [decide_eq_false c1]; rfl)
        obtain ⟨dx2, hr3⟩ := f3.ob
        obtain ⟨_, _, _, _, _, lk, _⟩ := rdrF (.int (sz2 : Nat)) (.ref td) .non
        refine ⟨_, rfl, ?_⟩
        rcases f5 with ⟨t, e, rfl, g1, g2, g3, g4, g5⟩ | ⟨g1, g2, g3⟩
        · refine ⟨_, rfl, .inl ⟨rfl, _, SqL.of f4⟩, .inl ?_⟩
          refine ⟨_, rfl, r, dx2, _, rfl, hr3, lk, ?_⟩
          refine ⟨_, rfl, _, rfl, ?_⟩
          refine ⟨_, rfl, r, td, t, b, sz2, a, ts2, e, bs, bs, rfl, f3, g1, g2, f1, hb2, fun x h => h, f2, g3, g4, by have := e.deep_pos; omega, fun v H4 s4 R4 _ => ?_⟩
          obtain ⟨k1, k2, k3, k4, k5, k6⟩ := g5 v H4 s4 R4
          exact ⟨D, ys, v, rfl, rfl, k1, k2, _, _, _, _, _, _, rfl, k3, upd_same, k4, k5, g4, k6⟩
        · refine ⟨_, rfl, .inl ⟨rfl, _, SqL.of f4⟩, .inr ?_⟩
          refine ⟨_, rfl, r, dx2, _, rfl, hr3, lk, ?_⟩
          refine ⟨_, rfl, _, rfl, ?_⟩
          exact ⟨_, rfl, r, td, b, y, sz2, a, ts2, o, bs, i, why, rfl, f3, g1, hwo, f1, hb2, f2, ha, hz2, hdo, g2, g3⟩
    · rintro σ H2 ⟨ys, s6, s7, s8, sz2, ts2, rfl, s2, hD2, hyl, R2, hz2, hf2⟩
      rw [List.drop_of_length_le (by omega)] at hf2
      simp only [firstK] at hf2
      cases hf2
end
end Wr
namespace Wr
open PySem PySem.Spec PyProof.Rows L2
theorem firstK_dp : ∀ {cs : List Nat} {os : List Od}, dpO (kidsO cs os) ≤ dpO os ∧ (wdsO os → wdsO (kidsO cs os)) ∧ (kidsO cs os).length ≤ os.length
  | [], os => by cases os <;> exact ⟨Nat.zero_le _, fun _ => trivial, Nat.zero_le _⟩
  | c :: cs, [] => ⟨Nat.zero_le _, fun _ => trivial, Nat.zero_le _⟩
  | c :: cs, o :: os => by
    obtain ⟨h1, h2, h3⟩ := firstK_dp (cs := cs) (os := os)
    by_cases e : c = 101
    · simp only [kidsO, if_pos e, dpO, List.length_cons]
      exact ⟨by omega, fun h => ⟨h.1, h2 h.2⟩, by omega⟩
    · simp only [kidsO, if_neg e, dpO, List.length_cons]
      exact ⟨by omega, fun h => h2 h.2, by omega⟩
theorem log_sm {n : Int} (h : n.natAbs < 2 ^ 200) : n.natAbs.log2 < 1920 := by
  by_cases z : n.natAbs = 0
  · rw [z]; decide
  · have := (Nat.log2_lt z).mpr h
    omega
theorem why_len {o : Od} {n a : Nat} {b : List Str} {z : Str} (h : o.why n a b = some z) : z.length ≤ 1000 := by
  have l : ∀ z ∈ (["many", "deep", "shape", "number", "name", "open"] : List Str), z.length ≤ 1000 := by decide +kernel
  refine l z ?_
  unfold Od.why at h
  split at h
  · cases h; simp
  · split at h
    · cases h; simp
    · split at h
      · split at h
        · cases h; simp
        · split at h
          · cases h; simp
          · split at h
            · split at h
              · cases h
              · cases h; simp
            · split at h
              · split at h
                · cases h; simp
                · cases h
              · cases h; simp
      · cases h; simp
section
variable {P : Program} {w : World} {K : PySem.W.Frag} {mg : Str → Option Value} {base : Heap}
theorem ok_partBad {RC PC BC : Addr} {n k : Nat} {spP : Sp} (hP : ∀ m, n = m + 1 → spP = spPartsBad RC BC m) (hk4 : 4 ≤ k) (F : DfM K RC "Reader.part_of" "part_of" s_Reader_part_of) (c : Cls K RC) (na : NoAts K RC readNs) (B : Bad2 P w K mg base "BadProgram" "at" "why" BC) (U_why : Use P w K mg base "why_not" ["thing", "at", "around", "bound"] 4 spWhyO) (U_stand : Use P w K mg base "standing" ["thing", "place"] 1 spStandingO)
    (U_parts : UseMX P w K mg base RC "parts_of" ["self", "things", "around", "bound", "names"] k spP) (U_Part : UseC P w K mg base PC "Part" ["self", "word", "turn", "number", "names", "within"] 1 (spPartInit PC)) :
    UseMX P w K mg base RC "part_of" ["self", "thing", "around", "bound"] (k + 1) (spPartBad RC BC n) := by
  refine F.useX scPart_of (fun _ _ _ _ _ _ us hl => match us, hl with | [_, _, _, _], _ => rfl) (fun vs H Q E h => ?_) (fun cdv f A outer s H vs Q E hr h => ?_)
  · obtain ⟨r, td, b, v, sz, a, ts, o, bs, i, why, rfl, _⟩ := h
    rfl
  · obtain ⟨r, td, b, v, sz, a, ts, o, bs, i, why, rfl, hR, ho, hw, hS, hb, hbl, ha, hz, hd, hf, q⟩ := h
    have hu := hu_of hr
    have hr1 : Room 1 _ := hr.mono (by omega)
    have hr2 : Room 2 _ := hr.mono (by omega)
    have hr4 : Room 4 _ := hr.mono (by omega)
    refine ⟨_, pss_cons (ps_set (i := 4) scPart_of.nd rfl (Or.inl rfl) (pe_fld (pv 0) rfl))
      (pss_cons (ps_set (i := 5) scPart_of.nd rfl (Or.inl rfl) (pe_use U_why hr4 (pa_cons (pv 1) (pa_cons (pv 4) (pa_cons (pv 2) (pa_cons (pv 3) pa_nil))))))
      (pss_cons (ps_if (pt_cmpR op_notN (pv 5) pe_non (nomark _)) (pss_one (ps_raise rfl (takes_of rfl rfl rfl rfl) (pmk_bad2 B hr2 (pa_cons (pv 4) (pa_cons (pv 5) pa_nil))))) pss_nil)
      (pss_cons (ps_fld (pv 0) (pe_op op_add (pv 4) pe_int) rfl)
      (pss_cons (ps_set (i := 6) scPart_of.nd rfl (Or.inl rfl) (pe_ix ix_tup (pv 1) pe_int (fun _ _ => rfl)))
      (pss_cons (ps_set (i := 7) scPart_of.nd rfl (Or.inl rfl) (pe_dget2 hu (pe_fld (pv 0) rfl) (pv 6) pe_int ⟨rfl, rfl, rfl, rfl⟩))
      (pss_cons (ps_dput hu (pe_fld (pv 0) rfl) (pv 6) (pe_op op_add (pv 7) pe_int) rfl)
      (pss_cons (ps_set (i := 8) scPart_of.nd rfl (Or.inl rfl) (pe_ifExp (pt_cmpR op_eq (pv 6) pe_str (nomark _)) (pe_ix ix_tup (pv 1) pe_int (fun _ _ => rfl)) pe_non))
      (pss_cons (ps_set (i := 9) scPart_of.nd rfl (Or.inl rfl) (pe_use U_stand hr1 (pa_cons (pv 1) (pa_cons pe_str pa_nil))))
      (pss_cons (ps_set (i := 10) scPart_of.nd rfl (Or.inl rfl) (pe_useMX c U_parts hr (takes_of rfl rfl rfl rfl) (fun _ _ _ _ h => h) (pv 0) (pa_cons (pe_use U_stand hr1 (pa_cons (pv 1) (pa_cons pe_str pa_nil))) (pa_cons (pe_op op_add (pv 2) pe_int) (pa_cons (pv 3) (pa_cons (pv 9) pa_nil))))))
      (pss_one (ps_ret (pe_useC U_Part hr2 (pa_cons (pv 6) (pa_cons (pv 7) (pa_cons (pv 8) (pa_cons (pv 9) (pa_cons (pv 10) pa_nil))))))))))))))))), ?_⟩
    obtain ⟨dx, hro⟩ := hR.ob
    obtain ⟨kvs, htd, hkl, hts⟩ := hR.tb
    have hrt := hR.ne
    obtain ⟨_, _, lk1, lk2, pt, _, lk3⟩ := rdrF (.int sz) (.ref td) (.int (sz + 1 : Nat))
    obtain ⟨_, _, _, lk2', _, _, lk3'⟩ := rdrF (.int (sz + 1 : Nat)) (.ref td) .non
    -- at, why
    refine ⟨_, rfl, r, RC, dx, _, _, rfl, hro, c, na _ (by decide +kernel), lk1, ?_⟩
    refine ⟨_, rfl, _, rfl, _, rfl, _, rfl, v, o, b, bs, sz, a, rfl, ho, hw, hb, fun H1 sm1 => ?_⟩
    have big : ((sz : Nat) : Int).natAbs.log2 < 1920 := log_sm (by
      have : (400 : Nat) < 2 ^ 200 := by decide
      omega)
    cases hwy : o.why sz a bs with
    | some z =>
      have e1 : o.wv sz a bs = .str z := by unfold Od.wv; rw [hwy]
      have e2 : i = sz ∧ why = z := by
        cases o with
        | str s => unfold Od.first at hf; rw [hwy] at hf; cases hf; exact ⟨rfl, rfl⟩
        | int s => unfold Od.first at hf; rw [hwy] at hf; cases hf; exact ⟨rfl, rfl⟩
        | emp => unfold Od.first at hf; rw [hwy] at hf; cases hf; exact ⟨rfl, rfl⟩
        | nd x xs => unfold Od.first at hf; rw [hwy] at hf; cases hf; exact ⟨rfl, rfl⟩
      obtain ⟨rfl, rfl⟩ := e2
      rw [e1]
      have hzl := why_len hwy
      refine ⟨_, rfl, rfl, _, rfl, iteT ?_⟩
      refine ⟨_, rfl, _, rfl, by show 2 ≤ 1000; decide, mk2_of big hzl fun d hd => ?_⟩
      exact q d _ ((Stp.same sm1).trans (Stp.same (Same.new hd _))) upd_same
    | none =>
      have e1 : o.wv sz a bs = .non := by unfold Od.wv; rw [hwy]
      rw [e1]
      refine ⟨_, rfl, rfl, _, rfl, iteF ?_⟩
      obtain ⟨hz2, ha2, x, os, cs, rfl, hs, hfit, hcase⟩ := why_none hwy
      obtain ⟨c4, ck⟩ := shape_ks hs
      have hlen := fits_len hfit
      have hfo : firstK (kidsO cs os) (a + 1) bs (ownO cs os) (sz + 1) = .inl (i, why) := by
        rw [← firstO_kids ck hlen]
        unfold Od.first at hf
        rw [hwy, hs] at hf
        exact hf
      have hxn : x ≠ "num" := fun e => by
        subst e
        have e : shapeO "num" = some [110] := by decide +kernel
        rw [e] at hs
        cases hs
        obtain ⟨y, ys, rfl, f1, f2⟩ := fits_cons hfit
        obtain rfl := fits_nil f2
        have : firstK (kidsO [110] [y]) (a + 1) bs (ownO [110] [y]) (sz + 1) = .inr (sz + 1) := rfl
        rw [this] at hfo
        cases hfo
      have hown : ∀ x ∈ ownO cs os, x ∈ letters := by
        rcases hcase with ⟨j, e, _⟩ | ⟨_, h, _, _⟩
        · exact absurd e hxn
        · exact h
      obtain ⟨t, xs, rfl, ht, hl⟩ := ho
      have hro1 := sm1 _ _ hro
      have htd1 := sm1 _ _ htd
      -- size
      refine ⟨_, rfl, _, _, rfl, rfl, _, rfl, r, RC, dx, _, rfl, hro1, c, na _ (by decide +kernel), by show 2 < 1000; decide, ?_⟩
      have e1 : putF "size" (V.int ((sz : Int) + 1)) ([("size", V.int sz), ("turns", V.ref td)] : List (Str × V)) = ([("size", V.int (sz + 1 : Nat)), ("turns", V.ref td)] : List (Str × V)) := pt
      rw [e1]
      have ntr : t ≠ r := fun z => by rw [z, hro] at ht; cases ht
      have ntt : t ≠ td := fun z => by rw [z, htd] at ht; cases ht
      have ht2 : upd H1 r (.ins RC dx [("size", .int (sz + 1 : Nat)), ("turns", .ref td)]) t = some (.tup (.str x :: xs)) := by rw [upd_ne ntr]; exact sm1 _ _ ht
      have htd2 : upd H1 r (.ins RC dx [("size", .int (sz + 1 : Nat)), ("turns", .ref td)]) td = some (.dK kvs) := by rw [upd_ne hrt.symm]; exact htd1
      refine ⟨_, rfl, t, _, _, .str x, rfl, rfl, SqT.of ht2, atI_nat (j := 0) rfl, ?_⟩
      refine ⟨_, rfl, r, RC, dx, _, _, rfl, upd_same, c, na _ (by decide +kernel), lk2', td, rfl, .inl ⟨kvs, .inl htd2⟩, _, rfl, _, DGet.k (k := Sum.inr x) htd2, ?_⟩
      rw [hts]
      refine ⟨_, rfl, _, _, rfl, rfl, _, rfl, r, RC, dx, _, _, rfl, upd_same, c, na _ (by decide +kernel), lk2', _, rfl, td, _, rfl, DPut.k (k := Sum.inr x) htd2 (by have h9 : (200 : Nat) < sizeLine := (by decide); omega), ?_⟩
      -- the heap behind it
      generalize eH3 : upd (upd H1 r (.ins RC dx [("size", .int (sz + 1 : Nat)), ("turns", .ref td)])) td (.dK (putK kvs (Sum.inr x) (V.int ((ts x : Int) + 1)))) = H3
      have hro3 : H3 r = some (.ins RC dx [("size", .int (sz + 1 : Nat)), ("turns", .ref td)]) := by rw [← eH3, upd_ne hrt]; exact upd_same
      have R3 : RdrAt RC H3 r td (sz + 1) (bump ts x) := by
        refine ⟨⟨dx, hro3⟩, ⟨_, by rw [← eH3]; exact upd_same, ?_, fun z => ?_⟩⟩
        · exact Nat.le_trans (putK_more _ _ _) (by omega)
        · rw [valV_put]
          by_cases hz : z = x
          · subst hz
            rw [if_pos rfl]
            show V.int _ = V.int ((if z = z then ts z + 1 else ts z : Nat) : Int)
            rw [if_pos rfl]; rfl
          · rw [if_neg (fun q => hz (Sum.inr.inj q)), hts]
            show V.int _ = V.int ((if z = x then ts z + 1 else ts z : Nat) : Int)
            rw [if_neg hz]
      have s3 : Stp [r, td] H H3 := by
        refine ⟨fun q o m h => ?_, fun q z h => ?_⟩
        · have m1 : q ≠ r := fun z => m (by rw [z]; exact List.mem_cons_self)
          have m2 : q ≠ td := fun z => m (by rw [z]; simp)
          rw [← eH3, upd_ne m2, upd_ne m1]
          exact sm1 _ _ h
        · have m1 : q ≠ r := fun e => by rw [e, hro] at h; cases h
          have m2 : q ≠ td := fun e => by rw [e, htd] at h; cases h
          rw [← eH3, upd_ne m2, upd_ne m1]
          exact sm1 _ _ h
      have ht3 := s3.tups _ _ ht
      have hl3 : OdL H3 xs os := hl.tups s3.tups
      have hw2 : x ∈ allO := hw.1
      refine ⟨_, rfl, rfl, _, rfl, ?_⟩
      rw [decide_eq_false (fun z => hxn (V.str.inj z))]
      refine iteF ?_
      refine ⟨_, rfl, t, x, os, cs, xs, "x", rfl, hw2, hs, hlen, ht3, hl3, fun nl H4 sm4 nn4 hn4 => ?_⟩
      rw [stand_own ck hfit hl3] at hn4
      have ht4 := sm4 _ _ ht3
      have hl4 : OdL H4 xs os := hl3.tups fun _ _ h => sm4 _ _ h
      refine ⟨_, rfl, r, dx, _, rfl, sm4 _ _ hro3, lk3', _, rfl, t, x, os, cs, xs, "e", rfl, hw2, hs, hlen, ht4, hl4, fun l H5 sm5 nn5 hl5 => ?_⟩
      have sm35 : Same H3 H5 := sm4.trans sm5
      have hk5 : OdL H5 (stand "e" cs xs) (kidsO cs os) := (stand_kids ck hl4).tups fun _ _ h => sm5 _ _ h
      obtain ⟨d1, d2, d3⟩ := firstK_dp (cs := cs) (os := os)
      have ol := own_len (os := os) hs
      obtain ⟨m, rfl⟩ : ∃ m, n = m + 1 := ⟨n - 1, by omega⟩
      refine ⟨_, rfl, _, _, rfl, rfl, _, rfl, _, rfl, ?_⟩
      rw [hP m rfl]
      refine ⟨r, td, l, b, nl, sz + 1, a + 1, bump ts x, kidsO cs os, bs, ownO cs os, _, i, why, rfl, R3.step sm35, hl5, hk5, d2 hw.2.2, hS, hown, sm35 _ _ (s3.tups _ _ hb), sm5 _ _ hn4, by omega, ol, by omega, by omega, by omega, by omega, hfo, q.step (s3.trans (Stp.same sm35))⟩
end
end Wr
namespace Wr
open PySem PySem.Spec PyProof.Rows L2
section
variable {P : Program} {w : World} {K : PySem.W.Frag} {mg : Str → Option Value} {base : Heap}
theorem use_neverMX {C : Addr} {c m : Str} {st : Stmt} {ps : List Str} (D : DfM K C c m st) (b : BindM m c st ps) (k : Nat) : UseMX P w K mg base C m ps k (fun _ _ _ _ => False) := by
  obtain ⟨f, fd, F, M⟩ := D
  exact ⟨f, fd, ⟨fun vs H Q E h => h.elim, fun A outer s H args us vs Q E _ _ _ _ h => h.elim⟩, M, F.bindsN b⟩
/-- a part with a fault in it, of any depth -/
theorem partBad_all {RC PC BC : Addr} (F : DfM K RC "Reader.part_of" "part_of" s_Reader_part_of) (F' : DfM K RC "Reader.parts_of" "parts_of" s_Reader_parts_of) (c : Cls K RC) (na : NoAts K RC readNs) (enum : mg "enumerate" = none) (len : mg "len" = none) (B : Bad2 P w K mg base "BadProgram" "at" "why" BC)
    (U_why : Use P w K mg base "why_not" ["thing", "at", "around", "bound"] 4 spWhyO) (U_stand : Use P w K mg base "standing" ["thing", "place"] 1 spStandingO) (U_Part : UseC P w K mg base PC "Part" ["self", "word", "turn", "number", "names", "within"] 1 (spPartInit PC))
    (U : UseM P w K mg base RC "part_of" ["self", "thing", "around", "bound"] 87 (spPartOf RC PC 41)) : ∀ n, UseMX P w K mg base RC "part_of" ["self", "thing", "around", "bound"] (2 * n + 88) (spPartBad RC BC n)
  | 0 => ok_partBad (k := 87) (spP := fun _ _ _ _ => False) (fun m h => by omega) (by omega) F c na B U_why U_stand (use_neverMX F' (fun _ _ _ _ _ _ us hl => match us, hl with | [_, _, _, _, _], _ => rfl) 87) U_Part
  | n + 1 => ok_partBad (k := 2 * n + 89) (fun m h => by cases h; rfl) (by omega) F c na B U_why U_stand (ok_partsBad (k := 2 * n + 88) (by omega) F' c enum len U (partBad_all F F' c na enum len B U_why U_stand U_Part U n)) U_Part
/-- the tree of a program that has a fault -/
def spTreeBad (BC : Addr) (n : Nat) : Sp := fun vs H _ E => ∃ (v : V) (o : Od) (i : Nat) (why : Str), vs = [v] ∧ OdAt H v o ∧ o.wds ∧ 41 ≤ n ∧ o.first 0 [] 0 = .inl (i, why) ∧ Rsd BC [] i why H E
theorem ok_treeBad {RC PC TC BC : Addr} {n k : Nat} (hk : 2 ≤ k) (F : Df K mg "tree_of" s_tree_of) (c : Cls K RC) (na : NoAts K RC readNs) (U_part : UseMX P w K mg base RC "part_of" ["self", "thing", "around", "bound"] k (spPartBad RC BC n)) (U_Reader : UseC P w K mg base RC "Reader" ["self"] 1 (spReadInit RC))
    (U_Tree : UseC P w K mg base TC "Tree" ["self", "top", "size", "turns"] 1 (spTreeInit TC)) : UseX P w K mg base "tree_of" ["program"] (k + 1) (spTreeBad BC n) := by
  refine F.useX scTree_of (fun _ _ _ _ _ _ us hl => match us, hl with | [_], _ => rfl) (fun vs H Q E h => ?_) (fun cdv f A outer s H vs Q E hr h => ?_)
  · obtain ⟨v, o, i, why, rfl, _⟩ := h
    rfl
  · obtain ⟨v, o, i, why, rfl, ho, hw, hd, hf, q⟩ := h
    have hr2 : Room 2 _ := hr.mono hk
    refine ⟨_, pss_cons (ps_set (i := 1) scTree_of.nd rfl (Or.inl rfl) (pe_useC0 U_Reader hr2))
      (pss_cons (ps_set (i := 2) scTree_of.nd rfl (Or.inl rfl) (pe_useMX c U_part hr (takes_of rfl rfl rfl rfl) (fun _ _ _ _ h => h) (pv 1) (pa_cons (pv 0) (pa_cons pe_int (pa_cons (pe_tup pa_nil) pa_nil)))))
      (pss_one (ps_ret (pe_useC U_Tree hr2 (pa_cons (pv 2) (pa_cons (pe_fld (pv 1) rfl) (pa_cons (pe_fld (pv 1) rfl) pa_nil))))))), ?_⟩
    refine fun x dx nx ndx nxd => ⟨x, dx, rfl, upd_same, fun td H1 ntd R1 k1 => ⟨rfl, ?_⟩⟩
    have a0 : ∀ {q o}, H q = some o → H1 q = some o := fun {q o} h => k1 q o (by rw [upd_ne (ne_of_none h nx), upd_ne (ne_of_none h ndx)]; exact h) (ne_of_none h nx)
    have sm1 : Same H H1 := fun _ _ h => a0 h
    obtain ⟨dx1, hx1⟩ := R1.ob
    obtain ⟨_, _, lk1, lk2, _, lk3, _⟩ := rdrF (.int 0) (.ref td) .non
    have td0 : H td = none := by
      cases e : H td with
      | none => rfl
      | some o =>
        rw [upd_ne (ne_of_none e nx), upd_ne (ne_of_none e ndx), e] at ntd
        cases ntd
    refine ⟨_, rfl, x, dx1, _, rfl, hx1, lk3, _, rfl, by show 0 ≤ sizeLine; decide, fun b nb => ?_⟩
    have smb := Same.new nb (.tup [])
    refine ⟨x, td, b, v, 0, 0, fun _ => 0, o, [], i, why, rfl, R1.step smb, ho.tups fun _ _ h => smb _ _ (sm1 _ _ h), hw, (by simp), upd_same, (by simp), by omega, by omega, by omega, hf, fun d H3 s3 h3 => ?_⟩
    refine q d H3 ⟨fun q o _ h => ?_, fun q z h => ?_⟩ h3
    · exact s3.keep q o (fun m => by
        rcases List.mem_cons.mp m with m | m
        · rw [m, nx] at h; cases h
        · rw [List.mem_singleton.mp m, td0] at h; cases h) (smb _ _ (sm1 _ _ h))
    · exact s3.tups q z (smb _ _ (sm1 _ _ h))
end
end Wr
namespace Wr
open PySem PySem.Spec PyProof.Rows L2 TL
/-! ### expressions as odd data -/
def Ex.od : Ex → Od
  | .num n => .nd "num" [.int n]
  | .name x => .nd "name" [.str x]
  | .fault => .nd "fault" []
  | .one w a => .nd w [a.od]
  | .two w a b => .nd w [a.od, b.od]
  | .ite a b c => .nd "if" [a.od, b.od, c.od]
  | .lt x a b => .nd "let" [.str x, a.od, b.od]
  | .fn x a => .nd "fun" [.str x, a.od]
  | .ct a x k b => .nd "catch" [a.od, .str x, .str k, b.od]
theorem Ex.odAt {H : Hp} : ∀ {v : V} {e : Ex}, AtE H v e → OdAt H v e.od
  | v, .num n, ⟨t, e, h⟩ => ⟨t, _, e, h, _, _, rfl, rfl, rfl⟩
  | v, .name x, ⟨t, e, h⟩ => ⟨t, _, e, h, _, _, rfl, rfl, rfl⟩
  | v, .fault, ⟨t, e, h⟩ => ⟨t, _, e, h, rfl⟩
  | v, .one w a, ⟨t, x, e, h, ha⟩ => ⟨t, _, e, h, _, _, rfl, Ex.odAt ha, rfl⟩
  | v, .two w a b, ⟨t, x, y, e, h, ha, hb⟩ => ⟨t, _, e, h, _, _, rfl, Ex.odAt ha, _, _, rfl, Ex.odAt hb, rfl⟩
  | v, .ite a b c, ⟨t, x, y, z, e, h, ha, hb, hc⟩ => ⟨t, _, e, h, _, _, rfl, Ex.odAt ha, _, _, rfl, Ex.odAt hb, _, _, rfl, Ex.odAt hc, rfl⟩
  | v, .lt n a b, ⟨t, x, y, e, h, ha, hb⟩ => ⟨t, _, e, h, _, _, rfl, rfl, _, _, rfl, Ex.odAt ha, _, _, rfl, Ex.odAt hb, rfl⟩
  | v, .fn n a, ⟨t, x, e, h, ha⟩ => ⟨t, _, e, h, _, _, rfl, rfl, _, _, rfl, Ex.odAt ha, rfl⟩
  | v, .ct a n k b, ⟨t, x, y, e, h, ha, hb⟩ => ⟨t, _, e, h, _, _, rfl, Ex.odAt ha, _, _, rfl, rfl, _, _, rfl, rfl, _, _, rfl, Ex.odAt hb, rfl⟩
theorem ones_allO : ∀ w ∈ ones, w ∈ allO := by decide +kernel
theorem twos_allO : ∀ w ∈ twos, w ∈ allO := by decide +kernel
theorem words_allO : ("num" : Str) ∈ allO ∧ ("name" : Str) ∈ allO ∧ ("fault" : Str) ∈ allO ∧ ("if" : Str) ∈ allO ∧ ("let" : Str) ∈ allO ∧ ("fun" : Str) ∈ allO ∧ ("catch" : Str) ∈ allO := by decide +kernel
theorem Ex.Sh.wds : ∀ {e : Ex}, e.Sh → e.od.wds
  | .num n, h => ⟨words_allO.1, by simp, trivial, trivial⟩
  | .name x, h => ⟨words_allO.2.1, by simp, trivial, trivial⟩
  | .fault, h => ⟨words_allO.2.2.1, by simp, trivial⟩
  | .one w a, h => ⟨ones_allO w h.1, by simp, h.2.wds, trivial⟩
  | .two w a b, h => ⟨twos_allO w h.1, by simp, h.2.1.wds, h.2.2.wds, trivial⟩
  | .ite a b c, h => ⟨words_allO.2.2.2.1, by simp, h.1.wds, h.2.1.wds, h.2.2.wds, trivial⟩
  | .lt x a b, h => ⟨words_allO.2.2.2.2.1, by simp, trivial, h.2.1.wds, h.2.2.wds, trivial⟩
  | .fn x a, h => ⟨words_allO.2.2.2.2.2.1, by simp, trivial, h.2.wds, trivial⟩
  | .ct a x k b, h => ⟨words_allO.2.2.2.2.2.2, by simp, h.2.2.1.wds, trivial, trivial, h.2.2.2.wds, trivial⟩
theorem Ex.od_inj : ∀ {e e' : Ex}, e.od = e'.od → e.Sh → e'.Sh → e = e' := by
  have d1 : ∀ w ∈ ones, w ≠ "num" ∧ w ≠ "name" ∧ w ≠ "fault" ∧ w ≠ "if" ∧ w ≠ "let" ∧ w ≠ "fun" ∧ w ≠ "catch" := by decide +kernel
  intro e
  induction e with
  | num n =>
    intro e' h s s'
    cases e' with
    | one w a =>
      simp only [Ex.od, Od.nd.injEq, List.cons.injEq] at h
      cases a <;> simp [Ex.od] at h
    | num m => simp only [Ex.od, Od.nd.injEq, List.cons.injEq, and_true, true_and, Od.int.injEq] at h; rw [h]
    | _ => simp [Ex.od] at h
  | name n =>
    intro e' h s s'
    cases e' with
    | one w a =>
      simp only [Ex.od, Od.nd.injEq, List.cons.injEq] at h
      cases a <;> simp [Ex.od] at h
    | name m => simp only [Ex.od, Od.nd.injEq, List.cons.injEq, and_true, true_and, Od.str.injEq] at h; rw [h]
    | _ => simp [Ex.od] at h
  | fault => intro e' h s s'; cases e' <;> simp_all [Ex.od]
  | one w a i =>
    intro e' h s s'
    cases e' with
    | one w' a' =>
      simp only [Ex.od, Od.nd.injEq, List.cons.injEq, and_true] at h
      rw [h.1, i h.2 s.2 s'.2]
    | name x => simp only [Ex.od, Od.nd.injEq] at h; exact absurd h.1 (d1 w s.1).2.1
    | num x => simp only [Ex.od, Od.nd.injEq] at h; exact absurd h.1 (d1 w s.1).1
    | _ => simp [Ex.od] at h
  | two w a b i j =>
    intro e' h s s'
    cases e' with
    | two w' a' b' =>
      simp only [Ex.od, Od.nd.injEq, List.cons.injEq, and_true] at h
      rw [h.1, i h.2.1 s.2.1 s'.2.1, j h.2.2 s.2.2 s'.2.2]
    | fn x a' =>
      simp only [Ex.od, Od.nd.injEq, List.cons.injEq] at h
      cases a <;> simp [Ex.od] at h
    | _ => simp [Ex.od] at h
  | ite a b c i j k =>
    intro e' h s s'
    cases e' with
    | ite a' b' c' =>
      simp only [Ex.od, Od.nd.injEq, List.cons.injEq, and_true] at h
      rw [i h.2.1 s.1 s'.1, j h.2.2.1 s.2.1 s'.2.1, k h.2.2.2 s.2.2 s'.2.2]
    | lt x a' b' =>
      simp only [Ex.od, Od.nd.injEq, List.cons.injEq] at h
      cases a <;> simp [Ex.od] at h
    | _ => simp [Ex.od] at h
  | lt x a b i j =>
    intro e' h s s'
    cases e' with
    | lt x' a' b' =>
      simp only [Ex.od, Od.nd.injEq, List.cons.injEq, and_true, Od.str.injEq] at h
      rw [h.2.1, i h.2.2.1 s.2.1 s'.2.1, j h.2.2.2 s.2.2 s'.2.2]
    | ite a' b' c' =>
      simp only [Ex.od, Od.nd.injEq, List.cons.injEq] at h
      cases a' <;> simp [Ex.od] at h
    | _ => simp [Ex.od] at h
  | fn x a i =>
    intro e' h s s'
    cases e' with
    | fn x' a' =>
      simp only [Ex.od, Od.nd.injEq, List.cons.injEq, and_true, Od.str.injEq] at h
      rw [h.2.1, i h.2.2 s.2 s'.2]
    | two w' a' b' =>
      simp only [Ex.od, Od.nd.injEq, List.cons.injEq] at h
      cases a' <;> simp [Ex.od] at h
    | _ => simp [Ex.od] at h
  | ct a x k b i j =>
    intro e' h s s'
    cases e' with
    | ct a' x' k' b' =>
      simp only [Ex.od, Od.nd.injEq, List.cons.injEq, and_true, Od.str.injEq] at h
      rw [h.2.2.1, h.2.2.2.1, i h.2.1 s.2.2.1 s'.2.2.1, j h.2.2.2.2 s.2.2.2 s'.2.2.2]
    | _ => simp [Ex.od] at h
/-! what a value stands for as odd data is one thing only -/
mutual
theorem OdAt.fun_ {H : Hp} : ∀ {v : V} {o o' : Od}, OdAt H v o → OdAt H v o' → o = o'
  | v, .str s, .str s', h, h' => by
    have e : (V.str s) = V.str s' := (show v = V.str s from h) ▸ (show v = V.str s' from h')
    cases e; rfl
  | v, .int s, .int s', h, h' => by
    have e : (V.int s) = V.int s' := (show v = V.int s from h) ▸ (show v = V.int s' from h')
    cases e; rfl
  | v, .emp, .emp, h, h' => rfl
  | v, .nd w xs, .nd w' xs', ⟨t, vs, e, h, l⟩, ⟨t', vs', e', h', l'⟩ => by
    rw [e] at e'
    cases e'
    rw [h] at h'
    cases h'
    rw [OdL.fun_ l l']
  | v, .str s, .int s', h, h' => by have h : v = V.str s := h; have h' : v = V.int s' := h'; rw [h] at h'; cases h'
  | v, .str s, .emp, h, ⟨t, e, _⟩ => by have h : v = V.str s := h; rw [h] at e; cases e
  | v, .str s, .nd _ _, h, ⟨t, vs, e, _⟩ => by have h : v = V.str s := h; rw [h] at e; cases e
  | v, .int s, .str s', h, h' => by have h : v = V.int s := h; have h' : v = V.str s' := h'; rw [h] at h'; cases h'
  | v, .int s, .emp, h, ⟨t, e, _⟩ => by have h : v = V.int s := h; rw [h] at e; cases e
  | v, .int s, .nd _ _, h, ⟨t, vs, e, _⟩ => by have h : v = V.int s := h; rw [h] at e; cases e
  | v, .emp, .str s, ⟨t, e, _⟩, h => by have h : v = V.str s := h; rw [h] at e; cases e
  | v, .emp, .int s, ⟨t, e, _⟩, h => by have h : v = V.int s := h; rw [h] at e; cases e
  | v, .emp, .nd _ _, ⟨t, e, h⟩, ⟨t', vs, e', h', _⟩ => by rw [e] at e'; cases e'; rw [h] at h'; cases h'
  | v, .nd _ _, .str s, ⟨t, vs, e, _⟩, h => by have h : v = V.str s := h; rw [h] at e; cases e
  | v, .nd _ _, .int s, ⟨t, vs, e, _⟩, h => by have h : v = V.int s := h; rw [h] at e; cases e
  | v, .nd _ _, .emp, ⟨t', vs, e', h', _⟩, ⟨t, e, h⟩ => by rw [e] at e'; cases e'; rw [h] at h'; cases h'
theorem OdL.fun_ {H : Hp} : ∀ {vs : List V} {os os' : List Od}, OdL H vs os → OdL H vs os' → os = os'
  | vs, [], [], _, _ => rfl
  | vs, [], _ :: _, h, ⟨v, us, e, _⟩ => by have h : vs = [] := h; rw [h] at e; cases e
  | vs, _ :: _, [], ⟨v, us, e, _⟩, h => by have h : vs = [] := h; rw [h] at e; cases e
  | vs, x :: xs, y :: ys, ⟨v, us, e, a, l⟩, ⟨v', us', e', a', l'⟩ => by
    rw [e] at e'
    cases e'
    rw [OdAt.fun_ a a', OdL.fun_ l l']
end
theorem Good.sh : ∀ {e : Ex} {S : List Str}, (∀ x ∈ S, x ∈ letters) → Good S e → e.Sh := by
  have ext : ∀ {S : List Str} {x : Str}, (∀ x ∈ S, x ∈ letters) → x ∈ letters → ∀ y ∈ x :: S, y ∈ letters := fun h hx y hy => by
    rcases List.mem_cons.mp hy with rfl | hy
    · exact hx
    · exact h y hy
  intro e
  induction e with
  | num n => intro S h g; have g : -1000000 ≤ n ∧ n ≤ 1000000 := g; show n.natAbs ≤ 9999999; omega
  | name x => intro S h g; exact h x g
  | fault => intro S h g; exact True.intro
  | one w a i => intro S h g; exact ⟨g.1, i h g.2⟩
  | two w a b i j => intro S h g; exact ⟨g.1, i h g.2.1, j h g.2.2⟩
  | ite a b c i j k => intro S h g; exact ⟨i h g.1, j h g.2.1, k h g.2.2⟩
  | lt x a b i j => intro S h g; exact ⟨g.1, i h g.2.1, j (ext h g.1) g.2.2⟩
  | fn x a i => intro S h g; exact ⟨g.1, i (ext h g.1) g.2⟩
  | ct a x k b i j => intro S h g; exact ⟨g.1, g.2.1, i h g.2.2.2.1, j (ext (ext h g.2.1) g.1) g.2.2.2.2⟩
/-- an expression that has no fault is a good program -/
theorem sh_good {e : Ex} (hs : e.Sh) {H : Hp} {v : V} (hv : AtE H v e) {m : Nat} (hf : e.od.first 0 [] 0 = .inr m) : Good [] e ∧ e.deep ≤ 41 ∧ e.size ≤ 200 := by
  obtain ⟨e', g1, g2, g3, g4, g5, g6⟩ := first_good _ e.od (Nat.le_refl _) hf
  have h' := g6 H v (Ex.odAt hv)
  have eo := OdAt.fun_ (Ex.odAt hv) (Ex.odAt h')
  have ee := Ex.od_inj eo hs (Good.sh (by simp) g1)
  rw [ee]
  exact ⟨g1, by omega, by omega⟩
/-! ### how deep an expression is, by the length of its text -/
def wlen (ws : List Str) : Nat := (ws.map (·.length)).sum + ws.length
theorem wlen_app (a b : List Str) : wlen (a ++ b) = wlen a + wlen b := by
  unfold wlen
  rw [List.map_append, List.sum_append, List.length_append]; omega
theorem wlen_cons (a : Str) (b : List Str) : wlen (a :: b) = a.length + 1 + wlen b := by
  unfold wlen
  rw [List.map_cons, List.sum_cons, List.length_cons]; omega
theorem word_lens : (∀ w ∈ ones, 3 ≤ w.length) ∧ (∀ w ∈ twos, 2 ≤ w.length) ∧ (∀ w ∈ letters, 1 ≤ w.length) ∧ 2 ≤ ("if" : Str).length ∧ 3 ≤ ("let" : Str).length ∧ 3 ≤ ("fun" : Str).length ∧ 3 ≤ ("catch" : Str).length ∧ 3 ≤ ("fault" : Str).length := by decide +kernel
theorem numS_pos (n : Int) : 1 ≤ (numS n).length := by
  rw [len_tl]
  cases n with
  | ofNat m =>
    rw [show tl (numS (Int.ofNat m)) = numL m from numS_nat m]
    have := numL_ne m
    cases e : numL m with
    | nil => exact absurd e this
    | cons => simp
  | negSucc m => rw [show tl (numS (Int.negSucc m)) = 45 :: numL (m + 1) from numS_neg m]; simp
theorem deep_wlen : ∀ {e : Ex}, e.Sh → 4 * e.deep ≤ wlen e.wds + 2 := by
  obtain ⟨l1, l2, l3, l4, l5, l6, l7, l8⟩ := word_lens
  intro e
  induction e with
  | num n => intro h; have := numS_pos n; simp only [Ex.deep, Ex.wds, wlen_cons]; omega
  | name x => intro h; have := l3 x h; simp only [Ex.deep, Ex.wds, wlen_cons]; omega
  | fault => intro h; simp only [Ex.deep, Ex.wds, wlen_cons]; omega
  | one w a i => intro h; have := l1 w h.1; have := i h.2; simp only [Ex.deep, Ex.wds, wlen_cons]; omega
  | two w a b i j =>
    intro h; have := l2 w h.1; have := i h.2.1; have := j h.2.2
    have := a.deep_pos; have := b.deep_pos
    simp only [Ex.deep, Ex.wds, wlen_cons, wlen_app]; omega
  | ite a b c i j k =>
    intro h; have := i h.1; have := j h.2.1; have := k h.2.2
    have := a.deep_pos; have := b.deep_pos; have := c.deep_pos
    simp only [Ex.deep, Ex.wds, wlen_cons, wlen_app]; omega
  | lt x a b i j =>
    intro h; have := l3 x h.1; have := i h.2.1; have := j h.2.2
    have := a.deep_pos; have := b.deep_pos
    simp only [Ex.deep, Ex.wds, wlen_cons, wlen_app]; omega
  | fn x a i => intro h; have := l3 x h.1; have := i h.2; simp only [Ex.deep, Ex.wds, wlen_cons]; omega
  | ct a x k b i j =>
    intro h; have := l3 x h.1; have := l3 k h.2.1; have := i h.2.2.1; have := j h.2.2.2
    have := a.deep_pos; have := b.deep_pos
    simp only [Ex.deep, Ex.wds, wlen_cons, wlen_app]; omega
end Wr
namespace Wr
open PySem PySem.Spec PySem.Calls PyProof.Rows L2 NdefX
/-! ### BadText -/
def nfBT (cc cda : Addr) : NF := ⟨"__init__", "BadText.__init__", defArgs s_BadText_init, defBody s_BadText_init, defScope s_BadText_init, [(("__class__" : Str), cc)], cda⟩
section
variable {CX : CXT} {P : Program} {w : World} {K : PySem.W.Frag} {mg : Str → Option Value} {base : Heap} {f C cc cda : Addr} {fd : FuncData}
theorem ok_btI (hF : FunS K (nfBT cc cda) f cc fd) (S : SupI P K mg C f cda cc fd) (hno : PySem.W.findIn K (.ref C) "place" = some none) : FnOk P w K mg base CX 1 f fd ["self", "place"] (spBad1 C "place") := by
  have Sc : NScope ["self", "place", "__class__"] ["self", "place"] ["__class__"] (nfBT cc cda).scope := nscope_by (by show nscB _ _ _ (defScope s_BadText_init) = true; decide +kernel)
  refine fn_sup (N := ["self", "place", "__class__"]) hF S Sc (fun vs H Q E h => ?_) (fun A outer s H vs Q E hr h s1 I => ?_)
  · obtain ⟨a, n, rfl, _⟩ := h
    rfl
  · obtain ⟨a, n, rfl, hz, hA, q⟩ := h
    have big : (4000 : Nat) < sizeLine := by decide
    refine sup_body (X := ncx CX P w K mg base ["self", "place", "__class__"] (nfBT cc cda) f A outer s H E) S rfl rfl rfl rfl rfl (by simp [ncx, nfBT, List.lookup]) rfl (pa_cons (pe_joined (.cons pe_str (.cons (pe_fmt (pv 1)) (.cons pe_str .nil)))) pa_nil) (pss_one (ps_ost (pv 0) (pv 1))) I ?_
    have l1 := toS_len hz
    refine ⟨a, rfl, hA, ?_⟩
    refine ⟨_, rfl, by decide, _, rfl, .inr ⟨n, rfl, hz, _, rfl, ?_, _, rfl, ?_, ?_⟩⟩
    · simp only [Str.length_append]
      have h0 : (Str.empty).length = 0 := rfl
      have h1 : ("word " : Str).length = 5 := by decide
      omega
    · simp only [Str.length_append]
      have h0 : (Str.empty).length = 0 := rfl
      have h1 : ("word " : Str).length = 5 := by decide
      have h2 : (" cannot be" : Str).length = 10 := by decide
      omega
    refine ⟨by show 1 ≤ 1000; decide, hA, ?_⟩
    exact ⟨_, rfl, _, rfl, a, C, rfl, S.ox, hno, .inl ⟨hA, q⟩⟩
end
end Wr
namespace Wr
open PySem PySem.Spec PyProof.Rows L2 TL
/-! ### read, of any text -/
section
variable {P : Program} {w : World} {K : PySem.W.Frag} {mg : Str → Option Value} {base : Heap} {C : Addr}
theorem wlen_split' (x : Str) : ∀ z ∈ Txt.split x " ", z.length ≤ x.length := fun z h => PyProof.Rows.part_short h
def spRead7 (BT BC : Addr) : Sp := fun vs H Q E => ∃ x : Str, vs = [.str x] ∧ x.length ≤ 20000 ∧ (Txt.split x " ").length ≤ 2900 ∧ (∀ i, readF [] none (Txt.split x " ") 0 = .inl i → ∀ d H', Same H H' → H' d = some (.xd [("place", .int (i : Nat))]) → E (.ref BT) (some d) H') ∧
  (∀ e, readF [] none (Txt.split x " ") 0 = .inr e → (∀ i why, e.od.first 0 [] 0 = .inl (i, why) → Rsd BC [] i why H E) ∧ (∀ m, e.od.first 0 [] 0 = .inr m → ∀ v H', Same H H' → AtE H' v e → Q v H'))
theorem ok_read7 {TC PC BT BC : Addr} {n k : Nat} (hk : 88 ≤ k) (h41 : 41 ≤ n) (F : Df K mg "read" s_read) (c : Cls K C) (na : NoAts K C rdgNs) (enum : mg "enumerate" = none) (len : mg "len" = none) (B : Bad1 P w K mg base "BadText" "place" BT) (UI : UseC P w K mg base C "Reading" ["self"] 1 (spRdgI C))
    (UT : UseM P w K mg base C "takes" ["self", "word"] 4 (spTakes7 C)) (U_tree : Use P w K mg base "tree_of" ["program"] 88 (spTree TC PC)) (U_treeB : UseX P w K mg base "tree_of" ["program"] k (spTreeBad BC n)) :
    UseX P w K mg base "read" ["text"] (k + 1) (spRead7 BT BC) := by
  refine F.useX scRead (fun _ _ _ _ _ _ us hl => match us, hl with | [_], _ => rfl) (fun vs H Q E h => ?_) (fun cdv f A outer s H vs Q E hr h => ?_)
  · obtain ⟨x, rfl, _⟩ := h
    rfl
  · obtain ⟨x, rfl, hx, hwn, qb, qg⟩ := h
    have hr2 : Room 2 _ := hr.mono (by omega)
    have hr4 : Room 4 _ := hr.mono (by omega)
    have hr88 : Room 88 _ := hr.mono hk
    refine ⟨_, pss_cons (ps_set (i := 1) scRead.nd rfl (Or.inl rfl) (pe_split (pv 0) pe_str))
      (pss_cons (ps_set (i := 2) scRead.nd rfl (Or.inl rfl) (pe_useC0 UI hr2))
      (pss_cons (ps_for (passes_of rfl) rfl (pi_enum (by rfl) enum (pa_cons (pv 1) pa_nil)) (pg_tup rfl (pgs_cons (pg_name (i := 3) scRead.nd rfl (Or.inl rfl)) (pgs_cons (pg_name (i := 4) scRead.nd rfl (Or.inl rfl)) pgs_nil)))
        (pss_one (ps_if (pt_not (pt_val (pe_useM c UT hr4 (pv 2) (pa_cons (pv 4) pa_nil)))) (pss_one (ps_raise rfl (takes_of rfl rfl rfl rfl) (pmk_bad1 B hr2 (pa_cons (pv 3) pa_nil)))) pss_nil)))
      (pss_cons (ps_if (pt_cmpR op_isN (pe_fld (pv 2) rfl) pe_non (nomark _)) (pss_one (ps_raise rfl (takes_of rfl rfl rfl rfl) (pmk_bad1 B hr2 (pa_cons (pe_callB call_len_seq (by rfl) len PySem.boot_len (pa_cons (pv 1) pa_nil)) pa_nil)))) pss_nil)
      (pss_cons (ps_expr (pe_or (pe_use U_tree hr88 (pa_cons (pe_fld (pv 2) rfl) pa_nil)) (pe_useX U_treeB hr (takes_of rfl rfl rfl rfl) (fun _ _ _ _ h => h) (pa_cons (pe_fld (pv 2) rfl) pa_nil))))
      (pss_one (ps_ret (pe_fld (pv 2) rfl))))))), ?_⟩
    have h10 : (30000 : Nat) < sizeLine := by decide
    refine ⟨_, rfl, ⟨_, rfl⟩, x, " ", rfl, rfl, by decide +kernel, by omega, ?_⟩
    have hws := wlen_split' x
    generalize Txt.split x " " = ws at hws hwn qb qg ⊢
    intro pw npw
    have s1 := Same.new npw (.lst (ws.map V.str))
    have hpw : upd H pw (.lst (ws.map V.str)) pw = some (.lst (ws.map V.str)) := upd_same
    generalize upd H pw (.lst (ws.map V.str)) = H1 at s1 hpw ⊢
    refine fun r dx nr ndr nrd => ⟨r, dx, rfl, upd_same, fun wl H2 hO => ⟨rfl, ?_⟩⟩
    have hNu := Own.nu nr ndr hO
    have hpw2 := hNu.same _ _ hpw
    have hwl := (hNu.its (wl, .lst []) (by simp))
    have R0 : RdgAt C H1 H2 r [] none := ⟨hNu.fr, hNu.same, dx, wl, [], .non, hNu.me, hwl.2, hwl.1, .nil, by simp, rfl⟩
    have logn : ∀ i : Nat, i ≤ 2900 → ((i : Nat) : Int).natAbs.log2 < 1920 := fun i hi => log_sm (by
      have : (2901 : Nat) < 2 ^ 200 := by decide
      omega)
    refine ⟨_, rfl, pw, ws.map V.str, rfl, SqL.of hpw2, ?_⟩
    refine for_it (walk_enum (K := K) (a := pw) (xs := ws.map V.str)) (fun i σ H3 => ∃ (s3 s4 : Option V) (wt : Wt) (wh : Option Ex), σ = [some (.str x), some (.ref pw), some (.ref r), s3, s4] ∧ RdgAt C H1 H3 r wt wh ∧
      (wh = none → WtOk wt ∧ WtSh wt) ∧ wt.length ≤ i ∧ (∀ a, wh = some a → a.Sh) ∧ readF wt wh (ws.drop i) i = readF [] none ws 0)
      ⟨none, none, [], none, rfl, R0, fun _ => ⟨WtOk.nil, (fun p hp => nomatch hp)⟩, Nat.zero_le _, (fun a z => nomatch z), rfl⟩ (fun i σ H3 _ ⟨_, _, _, _, _, R, _⟩ => SqL.of (R.sm _ _ hpw)) ?_ ?_
    · rintro i v σ H3 H3' hi ⟨s3, s4, wt, wh, rfl, R, hok, hwl2, hsh, hrd⟩ ⟨T, x0, y, rfl, nT, rfl, ex, hy⟩
      cases ex
      rw [List.length_map] at hi
      have hz2 := List.getElem?_eq_getElem hi
      have hy : (ws.map V.str)[i]? = some y := hy
      rw [List.getElem?_map, hz2] at hy
      cases hy
      have sT := Same.new nT (.tup [.int (i : Nat), .str ws[i]])
      have hdr : ws.drop i = ws[i] :: ws.drop (i + 1) := List.drop_eq_getElem_cons hi
      rw [hdr] at hrd
      have hzl : (ws[i]).length ≤ 20000 := Nat.le_trans (hws _ (List.getElem_mem hi)) hx
      generalize ws[i] = z at hrd hzl hz2 sT ⊢
      obtain ⟨dx', wl', ads, whv, r1, r2, r3, r4⟩ := R.lst
      refine ⟨T, _, rfl, SqT.of upd_same, rfl, _, _, rfl, _, _, rfl, rfl, ?_⟩
      have stop : readF wt wh (z :: ws.drop (i + 1)) i = .inl i → ∀ H4, Same H1 H4 → ∀ d H5, Same H4 H5 → H5 d = some (.xd [("place", .int (i : Nat))]) → E (.ref BT) (some d) H5 := fun e H4 s4 d H5 s5 h5 => by
        rw [hrd] at e
        exact qb i e d H5 (s1.trans (s4.trans s5)) h5
      have RT := R.same sT
      refine ⟨_, rfl, r, dx', _, rfl, sT _ _ r1, (rdgF_look wl' whv .non).2.2.2.2.1, _, rfl, H1, r, z, wt, rfl, hzl, ?_⟩
      cases wh with
      | some e =>
        refine .inl ⟨e, RT, ?_⟩
        refine ⟨_, rfl, iteT ?_⟩
        refine ⟨_, rfl, by show 1 ≤ 1000; decide, mk1_of (logn i (by omega)) fun d hd => ?_⟩
        exact stop rfl _ RT.sm d _ (Same.new hd _) upd_same
      | none =>
        obtain ⟨hok1, hok2⟩ := hok rfl
        have er : readF wt none (z :: ws.drop (i + 1)) i = if Fit7 wt z then readF (taken wt z).1 (taken wt z).2 (ws.drop (i + 1)) (i + 1) else .inl i := rfl
        refine .inr ⟨RT, hok1, by omega, fun f7 H4 R4 => ?_, fun f7 H4 R4 => ?_⟩
        · refine ⟨_, rfl, iteF ?_⟩
          rw [er, if_pos f7] at hrd
          have tl := taken_len wt z
          have tw := taken_wds hok1 hok2 f7
          refine ⟨_, _, (taken wt z).1, (taken wt z).2, rfl, R4, fun hn => ⟨hok1.taken7 f7 (by rw [← hn]), ?_⟩, by omega, fun a ha => ?_, hrd⟩
          · rcases hE : taken wt z with ⟨wt', wh'⟩
            rw [hE] at tw hn
            have hn : wh' = none := hn
            subst hn
            exact tw.2
          · rcases hE : taken wt z with ⟨wt', wh'⟩
            rw [hE] at tw ha
            have ha : wh' = some a := ha
            subst ha
            exact tw.2
        · refine ⟨_, rfl, iteT ?_⟩
          rw [er, if_neg f7] at hrd
          refine ⟨_, rfl, by show 1 ≤ 1000; decide, mk1_of (logn i (by omega)) fun d hd => ?_⟩
          exact qb i hrd.symm d _ (s1.trans (R4.sm.trans (Same.new hd _))) upd_same
    · rintro σ H3 ⟨s3, s4, wt, wh, rfl, R, hok, hwl2, hsh, hrd⟩
      rw [List.length_map] at hrd
      rw [List.drop_of_length_le (Nat.le_refl _)] at hrd
      obtain ⟨n0, sm, dx', wl', ads, whv, a1, a2, a3, a4, a5, a6⟩ := id R
      obtain ⟨k1, k2, _⟩ := rdgF_look wl' whv .non
      cases wh with
      | none =>
        have a6 : whv = .non := a6
        subst a6
        refine ⟨_, rfl, r, C, dx', _, _, rfl, a1, c, na _ (by decide +kernel), k2, rfl, _, rfl, iteT ?_⟩
        refine ⟨_, rfl, pw, _, rfl, .inl (SqL.of (sm _ _ hpw)), by show 1 ≤ 1000; decide, ?_⟩
        rw [List.length_map]
        refine mk1_of (logn _ hwn) fun d hd => ?_
        exact qb _ hrd.symm d _ (s1.trans (sm.trans (Same.new hd _))) upd_same
      | some e =>
        have a6 : AtE H3 whv e := a6
        obtain ⟨t, xs, et, _⟩ := a6.items
        refine ⟨_, rfl, r, C, dx', _, _, rfl, a1, c, na _ (by decide +kernel), k2, rfl, _, rfl, ?_⟩
        refine ite2 (fun h => absurd (of_decide_eq_true h) (by rw [et]; exact fun z => nomatch z)) (fun _ => ?_)
        have hr : readF [] none ws 0 = .inr e := hrd.symm
        obtain ⟨q1, q2⟩ := qg e hr
        have hS := hsh e rfl
        cases hf : e.od.first 0 [] 0 with
        | inl p =>
          obtain ⟨i, why⟩ := p
          refine .inr ⟨_, rfl, r, C, dx', _, _, rfl, a1, c, na _ (by decide +kernel), k2, ?_⟩
          exact ⟨whv, e.od, i, why, rfl, Ex.odAt a6, hS.wds, h41, hf, (q1 i why hf).step (Stp.same (s1.trans sm))⟩
        | inr m =>
          obtain ⟨hg, hd, hz⟩ := sh_good hS a6 hf
          refine .inl ⟨_, rfl, r, C, dx', _, _, rfl, a1, c, na _ (by decide +kernel), k2, ?_⟩
          refine ⟨whv, e, rfl, a6, hg, hd, hz, fun p H4 sm4 _ => ?_⟩
          refine ⟨_, rfl, r, C, dx', _, _, rfl, sm4 _ _ a1, c, na _ (by decide +kernel), k2, ?_⟩
          exact q2 m hf whv H4 (s1.trans (sm.trans sm4)) (AtE.same sm4 a6)
end
end Wr
namespace Wr
open PySem PySem.Spec PyProof.Rows L2 TL
section
variable {P : Program} {w : World} {K : PySem.W.Frag} {mg : Str → Option Value} {base : Heap}
/-- written, of any expression of the words -/
def spWritten7 (BC : Addr) : Sp := fun vs H Q E => ∃ (v : V) (e : Ex), vs = [v] ∧ AtE H v e ∧ e.Sh ∧ (∀ i why, e.od.first 0 [] 0 = .inl (i, why) → Rsd BC [] i why H E) ∧ (∀ m, e.od.first 0 [] 0 = .inr m → ∀ H', Same H H' → Q (.str e.text) H')
theorem ok_written7 {TC PC BC : Addr} {n k : Nat} (hk : 88 ≤ k) (h41 : 41 ≤ n) (F : Df K mg "written" s_written) (U_tree : Use P w K mg base "tree_of" ["program"] 88 (spTree TC PC)) (U_treeB : UseX P w K mg base "tree_of" ["program"] k (spTreeBad BC n)) (U_words : Use P w K mg base "words_of" ["expression"] 42 (spWords 41)) :
    UseX P w K mg base "written" ["program"] (k + 1) (spWritten7 BC) := by
  refine F.useX scWritten (fun _ _ _ _ _ _ us hl => match us, hl with | [_], _ => rfl) (fun vs H Q E h => ?_) (fun cdv f A outer s H vs Q E hr h => ?_)
  · obtain ⟨v, e, rfl, _⟩ := h
    rfl
  · obtain ⟨v, e, rfl, hv, hS, qb, qg⟩ := h
    have hr42 : Room 42 _ := hr.mono (by omega)
    have hr88 : Room 88 _ := hr.mono hk
    refine ⟨_, pss_cons (ps_expr (pe_or (pe_use U_tree hr88 (pa_cons (pv 0) pa_nil)) (pe_useX U_treeB hr (takes_of rfl rfl rfl rfl) (fun _ _ _ _ h => h) (pa_cons (pv 0) pa_nil)))) (pss_one (ps_ret (pe_join pe_str (pe_use U_words hr42 (pa_cons (pv 0) pa_nil))))), ?_⟩
    cases hf : e.od.first 0 [] 0 with
    | inl p =>
      obtain ⟨i, why⟩ := p
      refine .inr ⟨_, rfl, v, e.od, i, why, rfl, Ex.odAt hv, hS.wds, h41, hf, qb i why hf⟩
    | inr m =>
      obtain ⟨hg, hd, hz⟩ := sh_good hS hv hf
      refine .inl ⟨_, rfl, v, e, rfl, hv, hg, hd, hz, fun p H1 sm1 _ => ?_⟩
      refine ⟨⟨_, rfl⟩, _, rfl, v, e, [], rfl, hv.same sm1, hg, hd, hz, fun l H2 sm2 nl hl => ?_⟩
      refine ⟨" ", l, e.wds, rfl, rfl, .inl (SqL.of hl), ?_, qg m hf H2 (sm1.trans sm2)⟩
      have h1 := sum_le (l := e.wds.map (·.length)) (k := 8) fun x hx => by
        obtain ⟨z, hz, rfl⟩ := List.mem_map.mp hx
        exact (wds_word (by simp) hg z hz).1
      rw [List.length_map] at h1
      have h2 := e.wds_len
      have h3 : ((" " : Str)).length = 1 := by decide +kernel
      rw [h3]
      omega
end
end Wr
namespace Wr
open PySem PySem.Spec PyProof.Rows L2
section
variable {X : Cx}
/-- list(a text): its signs -/
theorem call_listS (hc : X.calm = true) : CallR X (.type "list") (fun xs H Q => ∃ z, xs = [.str z] ∧ z.cps.size ≤ sizeLine ∧ ∀ l, H l = none → Q (.ref l) (upd H l (.lst (z.cps.toList.map fun c => .str ⟨#[c]⟩)))) := by
  intro pins s σ H xs us Q I r h
  obtain ⟨z, rfl, hz, q⟩ := h
  obtain ⟨u, rfl, ru⟩ := vals1 r
  obtain ⟨t, rfl⟩ := ru
  refine call_list_str (I.ok.hd hc) z t (fun h' tk acc c' hk e' hi => ?_) hz
  have hl : (z.cps.toList.map fun c => V.str ⟨#[c]⟩).length = z.cps.size := by rw [List.length_map, Array.length_toList]
  refine ⟨.ref s.heap.objs.size, upd H s.heap.objs.size (.lst (z.cps.toList.map fun c => .str ⟨#[c]⟩)), I.laid hk (Nat.le_refl _) (show ObjOk X.prog X.w _ _ _ (.lst (z.cps.toList.map fun c => .str ⟨#[c]⟩)) from ⟨by rw [hl]; exact hz, acc.toList, c', vals_of_at (by rw [hl, Array.length_toList, hi.1]) fun j x u h1 h2 => ?_, by rw [Array.toArray_toList]; exact e'⟩), rfl, q _ (I.hok.fresh (Nat.le_refl _))⟩
  rw [Array.getElem?_toList] at h2
  obtain ⟨c, v, hc', rfl⟩ := hi.2 j u h2
  rw [List.getElem?_map, Array.getElem?_toList, hc'] at h1
  cases h1
  exact ⟨v, rfl⟩
end
section
variable {P : Program} {w : World} {K : PySem.W.Frag} {mg : Str → Option Value} {base : Heap}
/-! ### _law_wants -/
def wantS (x : Str) : Str := ⟨((shapeW x).cps.toList.map fun c => if c = 120 then 110 else c).toArray⟩
def wantT (x : Str) : V := if x ∈ allW then .str (wantS x) else .non
abbrev wd1 : List (Key × V) := [(.inr "fault", .str ""), (.inr "add", .str "ee"), (.inr "take", .str "ee"), (.inr "less", .str "ee"), (.inr "if", .str "eee"), (.inr "let", .str "nee")]
abbrev wd2 : List (Key × V) := [(.inr "fun", .str "ne"), (.inr "call", .str "ee")]
abbrev wd3 : List (Key × V) := [(.inr "say", .str "e"), (.inr "box", .str "e"), (.inr "look", .str "e"), (.inr "put", .str "ee"), (.inr "catch", .str "enne"), (.inr "throw", .str "e"), (.inr "go", .str "ee")]
abbrev wd4 : List (Key × V) := [(.inr "drop", .str "e"), (.inr "last", .str "ee"), (.inr "else", .str "ee")]
theorem wants_val0 : ∀ x ∈ allW, (valV (mergeK (mergeK (mergeK (mergeK [] wd1) (mergeK [] wd2)) (mergeK [] wd3)) (mergeK [] wd4)) (.inr x)).getD .non = wantT x := by decide +kernel
theorem wants_keys : ((mergeK (mergeK (mergeK (mergeK [] wd1) (mergeK [] wd2)) (mergeK [] wd3)) (mergeK [] wd4)).all fun kv => allW.any fun w => decide (kv.1 = (.inr w : Key))) = true := by decide +kernel
theorem wants_val (x : Str) : (valV (mergeK (mergeK (mergeK (mergeK [] wd1) (mergeK [] wd2)) (mergeK [] wd3)) (mergeK [] wd4)) (.inr x)).getD .non = wantT x := by
  by_cases hx : x ∈ allW
  · exact wants_val0 x hx
  · have e : wantT x = .non := if_neg hx
    rw [e]
    cases q : valV (mergeK (mergeK (mergeK (mergeK [] wd1) (mergeK [] wd2)) (mergeK [] wd3)) (mergeK [] wd4)) (.inr x) with
    | none => rfl
    | some u =>
      have a : ((mergeK (mergeK (mergeK (mergeK [] wd1) (mergeK [] wd2)) (mergeK [] wd3)) (mergeK [] wd4)).any fun kv => decide (kv.1 = (.inr x : Key))) = true := by rw [valV_any, q]; rfl
      obtain ⟨kv, hk, e⟩ := List.any_eq_true.mp a
      obtain ⟨y, hy, ey⟩ := List.any_eq_true.mp (List.all_eq_true.mp wants_keys kv hk)
      have ey := of_decide_eq_true ey
      rw [of_decide_eq_true e] at ey
      cases ey
      exact absurd hy hx
theorem wants_few : (mergeK [] wd1).length ≤ 10 ∧ (mergeK [] wd2).length ≤ 10 ∧ (mergeK [] wd3).length ≤ 10 ∧ (mergeK [] wd4).length ≤ 10 ∧ (mergeK (mergeK [] wd1) (mergeK [] wd2)).length ≤ 20 ∧ (mergeK (mergeK (mergeK [] wd1) (mergeK [] wd2)) (mergeK [] wd3)).length ≤ 30 := by decide +kernel
def spWants : Sp := fun vs H Q _ => ∃ x : Str, vs = [.str x] ∧ ∀ H', Same H H' → Q (wantT x) H'
theorem scWants : FnScope ["_law_word", "_law_shapes"] ["_law_word"] (defScope s_L_wants) := ⟨rfl, rfl, rfl, by decide +kernel, rfl, by decide +kernel, by decide +kernel⟩
theorem ok_wants (F : Df K mg "_law_wants" s_L_wants) : Use P w K mg base "_law_wants" ["_law_word"] 1 spWants := by
  refine F.use scWants (fun _ _ _ _ _ _ us hl => match us, hl with | [_], _ => rfl) (fun vs H Q E h => ?_) (fun cdv f A outer s H vs Q E hr h => ?_)
  · obtain ⟨x, rfl, _⟩ := h
    rfl
  · obtain ⟨x, rfl, q⟩ := h
    refine ⟨_, (pss_cons (ps_set (i := 1) scWants.nd rfl (Or.inl rfl) (pe_disp (pps_cons pe_str pe_str (pps_cons pe_str pe_str (pps_cons pe_str pe_str (pps_cons pe_str pe_str (pps_cons pe_str pe_str (pps_cons pe_str pe_str pps_nil)))))) rfl rfl (by simp) (by decide)))
      (pss_cons (ps_expr (pe_bm PySem.F.plainAttrs_dict PySem.F.slot_dict_update PySem.F.type_dict_update mt_update (pv 1) (pa_cons (pe_disp (pps_cons pe_str pe_str (pps_cons pe_str pe_str pps_nil)) rfl rfl (by simp) (by decide)) pa_nil)))
      (pss_cons (ps_expr (pe_bm PySem.F.plainAttrs_dict PySem.F.slot_dict_update PySem.F.type_dict_update mt_update (pv 1) (pa_cons (pe_disp (pps_cons pe_str pe_str (pps_cons pe_str pe_str (pps_cons pe_str pe_str (pps_cons pe_str pe_str (pps_cons pe_str pe_str (pps_cons pe_str pe_str (pps_cons pe_str pe_str pps_nil))))))) rfl rfl (by simp) (by decide)) pa_nil)))
      (pss_cons (ps_expr (pe_bm PySem.F.plainAttrs_dict PySem.F.slot_dict_update PySem.F.type_dict_update mt_update (pv 1) (pa_cons (pe_disp (pps_cons pe_str pe_str (pps_cons pe_str pe_str (pps_cons pe_str pe_str pps_nil))) rfl rfl (by simp) (by decide)) pa_nil)))
      (pss_one (ps_ret (pe_dget2 (hu_of hr) (pv 1) (pv 0) pe_non ⟨rfl, rfl, rfl, rfl⟩))))))), ?_⟩
    refine fun d nd => ?_
    dsimp only [tPairs]
    refine ⟨upd_same, wd1, rfl, by decide, ?_⟩
    rw [upd_upd]
    have s1 := Same.new nd (.dK (mergeK [] wd1))
    have h1 : upd H d (.dK (mergeK [] wd1)) d = some (.dK (mergeK [] wd1)) := upd_same
    have big : (100 : Nat) ≤ sizeLine := by decide
    obtain ⟨f1, f2, f3, f4, f5, f6⟩ := wants_few
    -- one more dict laid over it
    have more : ∀ (H1 : Hp) (a b kvs : List (Key × V)) (R : VK), Same H (fun x => if x = d then none else H1 x) → H1 d = some (.dK a) → a.length ≤ 30 → (mergeK [] b).length ≤ 10 → (∀ H2, Same H (fun x => if x = d then none else H2 x) → H2 d = some (.dK (mergeK a (mergeK [] b))) → R .non H2) → ∀ p, H1 p = none → rUpdate (.ref d) [.ref p] (upd H1 p (.dK (mergeK [] b))) R := by
      intro H1 a b kvs R sm hd ha hb k p np
      have ne : d ≠ p := ne_of_none hd np
      refine ⟨d, p, a, _, rfl, rfl, ne, by rw [upd_ne ne]; exact hd, upd_same, by omega, k _ (fun c o hc => ?_) upd_same⟩
      have hcd : c ≠ d := fun z => by rw [z, nd] at hc; cases hc
      have z := sm c o hc
      simp only [if_neg hcd] at z ⊢
      rw [upd_ne hcd, upd_ne (ne_of_none z np)]
      exact z
    have s1' : Same H (fun x => if x = d then none else upd H d (.dK (mergeK [] wd1)) x) := fun c o hc => by
      have hcd : c ≠ d := fun z => by rw [z, nd] at hc; cases hc
      simp only [if_neg hcd]
      rw [upd_ne hcd]
      exact hc
    generalize upd H d (.dK (mergeK [] wd1)) = H1 at s1' h1 ⊢
    refine ⟨_, rfl, .inr (.inr (.inl ⟨rfl, .inl ⟨_, h1⟩⟩)), fun p np => ?_⟩
    dsimp only [tPairs]
    refine ⟨upd_same, wd2, rfl, by decide, ?_⟩
    rw [upd_upd]
    dsimp only [tNil]
    refine more H1 _ wd2 [] _ s1' h1 (by omega) f2 (fun H2 s2 h2 => ?_) p np
    refine ⟨_, rfl, .inr (.inr (.inl ⟨rfl, .inl ⟨_, h2⟩⟩)), fun p np => ?_⟩
    dsimp only [tPairs]
    refine ⟨upd_same, wd3, rfl, by decide, ?_⟩
    rw [upd_upd]
    dsimp only [tNil]
    refine more H2 _ wd3 [] _ s2 h2 (by omega) f3 (fun H3 s3 h3 => ?_) p np
    refine ⟨_, rfl, .inr (.inr (.inl ⟨rfl, .inl ⟨_, h3⟩⟩)), fun p np => ?_⟩
    dsimp only [tPairs]
    refine ⟨upd_same, wd4, rfl, by decide, ?_⟩
    rw [upd_upd]
    dsimp only [tNil]
    refine more H3 _ wd4 [] _ s3 h3 (by omega) f4 (fun H4 s4 h4 => ?_) p np
    refine ⟨_, rfl, d, rfl, .inl ⟨_, .inl h4⟩, _, rfl, _, .inl ⟨_, .inr x, .inl h4, rfl, rfl⟩, ?_⟩
    rw [wants_val x]
    refine q H4 fun c o hc => ?_
    have hcd : c ≠ d := fun z => by rw [z, nd] at hc; cases hc
    have z := s4 c o hc
    simpa only [if_neg hcd] using z
end
end Wr
namespace Wr
open PySem PySem.Spec PyProof.Rows L2 TL
/-! ### the law's own look at a word -/
section
variable {X : Cx}
theorem op_neL0 (hu : X.A.units < cLine) : OpR X (compareOp .NotEq) (fun x y H Q => ∃ a b xs, x = .ref a ∧ y = .ref b ∧ SqL X.K H a xs ∧ SqL X.K H b [] ∧ Q (.bl (!xs.isEmpty)) H) := by
  intro pins s σ H x y v u Q I rx ry h
  obtain ⟨a, b, xs, rfl, rfl, ha, hb, q⟩ := h
  cases rx
  cases ry
  obtain ⟨its, r1, p1, _⟩ := I.list ha
  obtain ⟨jts, r2, p2, _⟩ := I.list hb
  cases r2
  cases xs with
  | nil =>
    cases r1
    exact SeqAt.RcNeAt.lists (e := fun _ => true) p1.isList p2.isList rfl hu (fun j h1 h2 => absurd h2 (by simp)) X.prog X.w X.xe _ ⟨.bl _, H, I, rfl, q⟩
  | cons x xs =>
    cases r1
    exact SeqAt.RcNeAt.lists_lengths p1.isList p2.isList (by simp) hu X.prog X.w X.xe _ ⟨.bl _, H, I, rfl, q⟩
end


theorem cut0 (z : Str) : cutS z (some 0) none = z := by
  apply Str.ext'
  apply Array.toList_inj.mp
  show ((z.cps.toList.drop (HT.sIx z.length 0 (some ((0 : Nat) : Int)))).take (HT.sIx z.length z.length none - HT.sIx z.length 0 (some ((0 : Nat) : Int)))) = _
  rw [HT.sIx_nat, HT.sIx_none, Nat.zero_min, List.drop_zero, Nat.sub_zero]
  exact List.take_of_length_le (by rw [len_tl]; exact Nat.le_refl _)
theorem cut_drop (z : Str) (k : Nat) : (cutS z (some (k : Int)) none).cps.toList = z.cps.toList.drop k := by
  show ((z.cps.toList.drop (HT.sIx z.length 0 (some (k : Int)))).take (HT.sIx z.length z.length none - HT.sIx z.length 0 (some (k : Int)))) = _
  rw [HT.sIx_nat, HT.sIx_none]
  have hl : z.length = z.cps.toList.length := len_tl z
  by_cases h : k ≤ z.length
  · rw [Nat.min_eq_left h]
    exact List.take_of_length_le (by rw [List.length_drop]; omega)
  · rw [Nat.min_eq_right (by omega), List.drop_of_length_le (by omega), List.drop_of_length_le (by omega), List.take_nil]
theorem cut_take (z : Str) (k : Nat) : (cutS z none (some (k : Int))).cps.toList = z.cps.toList.take k := by
  show ((z.cps.toList.drop (HT.sIx z.length 0 none)).take (HT.sIx z.length z.length (some (k : Int)) - HT.sIx z.length 0 none)) = _
  rw [HT.sIx_nat, HT.sIx_none, List.drop_zero, Nat.sub_zero]
  have hl : z.length = z.cps.toList.length := len_tl z
  by_cases h : k ≤ z.length
  · rw [Nat.min_eq_left h]
  · rw [Nat.min_eq_right (by omega), List.take_of_length_le (by omega), List.take_of_length_le (by omega)]
theorem cut_len (z : Str) (lo hi : Option Int) : (cutS z lo hi).length ≤ z.length := by
  rw [len_tl, len_tl z]
  show ((z.cps.toList.drop _).take _).length ≤ z.cps.toList.length
  rw [List.length_take, List.length_drop]; omega
/-- the sign ahead, and the figures -/
theorem minus_cut (z : Str) : decide (V.str (cutS z none (some 1)) = V.str "-") = decide (z.cps.toList.take 1 = [45]) := by
  refine decide_eq_decide.mpr ⟨fun h => ?_, fun h => ?_⟩
  · have e := congrArg (fun s : Str => s.cps.toList) (V.str.inj h)
    have e2 : (Str.ofString "-").cps.toList = [45] := by rw [minus]
    have e3 : (cutS z none (some ((1 : Nat) : Int))).cps.toList = [45] := e.trans e2
    rw [cut_take] at e3
    exact e3
  · congr 1
    apply Str.ext'
    apply Array.toList_inj.mp
    have e2 : (Str.ofString "-").cps.toList = [45] := by rw [minus]
    rw [e2]
    show (cutS z none (some ((1 : Nat) : Int))).cps.toList = [45]
    rw [cut_take]; exact h
theorem figs_cut (z : Str) : cutS z (some (if decide (z.cps.toList.take 1 = [45]) = true then 1 else 0)) none = figsOf z := by
  by_cases h : z.cps.toList.take 1 = [45]
  · rw [if_pos (decide_eq_true h)]
    obtain ⟨cs, hs⟩ : ∃ cs, z.cps.toList = 45 :: cs := by
      cases e : z.cps.toList with
      | nil => rw [e] at h; cases h
      | cons c cs => rw [e] at h; simp at h; exact ⟨cs, by rw [h]⟩
    apply Str.ext'
    apply Array.toList_inj.mp
    have := cut_drop z 1
    rw [show ((1 : Nat) : Int) = 1 from rfl] at this
    rw [this, show (figsOf z).cps.toList = cs from sub_neg hs, hs]; rfl
  · rw [if_neg (fun q => h (of_decide_eq_true q)), cut0]
    exact (sub_pos fun c cs e q => h (by rw [show z.cps.toList = c :: cs from e, q]; rfl)).symm
section
variable {P : Program} {w : World} {K : PySem.W.Frag} {mg : Str → Option Value} {base : Heap}
def optI : Option Int → V
  | some n => .int n
  | none => .non
def spFigs : Sp := fun vs H Q _ => ∃ z : Str, vs = [.str z] ∧ z.length ≤ 20000 ∧ ∀ H', Same H H' → Q (optI (figV z)) H'
theorem scFigs : FnScope ["_law_word", "_law_size_here", "_law_sign"] ["_law_word"] (defScope s_L_figures) := ⟨rfl, rfl, rfl, by decide +kernel, rfl, by decide +kernel, by decide +kernel⟩
theorem ok_figs (F : Df K mg "_law_figures" s_L_figures) (int : mg "int" = none) (st : mg "str" = none) (len : mg "len" = none) : Use P w K mg base "_law_figures" ["_law_word"] 1 spFigs := by
  refine F.use scFigs (fun _ _ _ _ _ _ us hl => match us, hl with | [_], _ => rfl) (fun vs H Q E h => ?_) (fun cdv f A outer s H vs Q E hr h => ?_)
  · obtain ⟨z, rfl, _⟩ := h
    rfl
  · obtain ⟨z, rfl, hz, q⟩ := h
    refine ⟨_, pss_cons (ps_set (i := 1) scFigs.nd rfl (Or.inl rfl) (pe_slice sl_str (pv 0) (po_some (pe_callTy call_int1 (by rfl) int (by decide +kernel) (pa_cons (pe_cmpR op_eq (pe_slice sl_str (pv 0) po_none (po_some pe_int)) pe_str (nomark _)) pa_nil))) po_none))
      (pss_cons (ps_if (PW.pt (pw_or (pt_not (pt_chain op_le op_le pe_int (pe_callB call_len_str (by rfl) len PySem.boot_len (pa_cons (pv 1) pa_nil)) pe_int))
        (pw_or1 (pt_cmpR (op_neL0 hr.units0) (pe_lc (own := [("_law_sign", 2)]) (g := gName 2) (by rfl) scFigs.nd (pi_str (pv 1)) (blkOk_by (own := [("_law_sign", 2)]) (N := ["_law_word", "_law_size_here", "_law_sign"]) (sc := defScope s_L_figures) (by decide +kernel))
          (fun _ _ _ _ _ => pg_name (i := 2) scFigs.nd rfl (Or.inl rfl)) (fun _ _ _ _ _ => pts_one (pt_cmpR op_notIn_sign (pv 2) pe_str rfl)) (fun _ _ _ _ _ => pv 2)) (pe_lst pa_nil) (nomark _)))))
        (pss_one (ps_ret pe_non)) pss_nil)
      (pss_one (ps_ret (pe_ifExp (pt_cmpR op_eq (pe_callTy call_str_int (by rfl) st (by decide +kernel) (pa_cons (pe_callTy call_int_str (by rfl) int (by decide +kernel) (pa_cons (pv 0) pa_nil)) pa_nil)) (pv 0) (nomark _)) (pe_callTy call_int_str (by rfl) int (by decide +kernel) (pa_cons (pv 0) pa_nil)) pe_non)))), ?_⟩
    have hk : (20000 : Nat) < sizeLine := by decide
    refine ⟨_, rfl, ?_⟩
    dsimp only [tNoPart]
    refine ⟨_, rfl, ?_⟩
    dsimp only [tNoPart]
    refine ⟨1, rfl, z, rfl, by omega, ?_⟩
    refine ⟨rfl, .inr ⟨_, rfl, ?_⟩⟩
    rw [minus_cut]
    refine ⟨_, rfl, z, rfl, by omega, ?_⟩
    rw [figs_cut]
    have hfl : (figsOf z).length ≤ 20000 := by rw [← figs_cut]; exact Nat.le_trans (cut_len _ _ _) hz
    refine ⟨_, rfl, figsOf z, rfl, by omega, ?_⟩
    have bad : ¬ (NumText.AllDigits (figsOf z).cps.toList ∧ 1 ≤ (figsOf z).length ∧ (figsOf z).length ≤ 7) → ∀ H', Same H H' → Q .non H' := fun h H' s' => by
      have e : figV z = none := if_neg fun q => h (isNum_figs q)
      have := q H' s'
      rw [e] at this
      exact this
    refine ⟨_, _, rfl, rfl, _, rfl, ?_⟩
    by_cases h1 : 1 ≤ (figsOf z).length
    rotate_left
    · refine ite2 (fun h => absurd (of_decide_eq_true h) (by omega)) (fun _ => ?_)
      exact ⟨_, rfl, iteT (iteT (bad (fun h => h1 h.2.1) H (Same.refl _)))⟩
    refine ite2 (fun _ => ?_) (fun h => absurd (decide_eq_true (by omega)) h)
    refine ⟨_, _, rfl, rfl, _, rfl, ?_⟩
    by_cases h7 : (figsOf z).length ≤ 7
    rotate_left
    · rw [decide_eq_false (show ¬ ((figsOf z).length : Int) ≤ 7 by omega)]
      exact iteT (iteT (bad (fun h => h7 h.2.2) H (Same.refl _)))
    rw [decide_eq_true (show ((figsOf z).length : Int) ≤ 7 by omega)]
    refine iteF ?_
    refine ⟨_, rfl, _, rfl, fun D nD => ?_⟩
    have hsz : (figsOf z).cps.size = (figsOf z).cps.toList.length := by rw [Array.length_toList]
    refine lc_it (walk_str (z := figsOf z)) (fun i H2 => Same H H2 ∧ ∃ acc : List V, H2 D = some (.lst acc) ∧ acc.length ≤ i ∧ (acc = [] ↔ ∀ c ∈ (figsOf z).cps.toList.take i, c ∈ figS.cps.toList)) ⟨Same.new nD _, [], upd_same, Nat.zero_le _, by simp⟩ (fun _ _ _ _ => True.intro) ?_ ?_
    · rintro i v H2 H2' hi ⟨sm, acc, hD, hal, hac⟩ ⟨rfl, c, hc, rfl⟩
      have hc' : (figsOf z).cps.toList[i]? = some c := by rw [Array.getElem?_toList]; exact hc
      refine ⟨rfl, _, rfl, c, figS, rfl, rfl, _, rfl, ?_⟩
      have hz2 : (figsOf z).length = (figsOf z).cps.toList.length := len_tl _
      by_cases hm : c ∈ figS.cps.toList
      · rw [decide_eq_true hm]
        refine iteF ⟨sm, acc, hD, by omega, ?_⟩
        rw [take_snoc hc', hac]
        refine ⟨fun h x hx => ?_, fun h x hx => h x (List.mem_append_left _ hx)⟩
        rcases List.mem_append.mp hx with hx | hx
        · exact h x hx
        · rw [List.mem_singleton.mp hx]; exact hm
      · rw [decide_eq_false hm]
        refine iteT ⟨_, rfl, acc, hD, by omega, Same.putNew sm nD _, acc ++ [.str ⟨#[c]⟩], upd_same, by rw [List.length_append]; show acc.length + 1 ≤ i + 1; omega, ?_⟩
        rw [take_snoc hc']
        exact ⟨fun h => by simp at h, fun h => absurd (h c (by simp)) hm⟩
    · rintro H2 ⟨sm, acc, hD, hal, hac⟩
      rw [hsz, List.take_of_length_le (Nat.le_refl _)] at hac
      refine ⟨Nat.zero_le _, fun p np => ?_⟩
      refine ⟨_, _, acc, rfl, rfl, SqL.of (Same.new np _ _ _ hD), SqL.of upd_same, _, rfl, ?_⟩
      have sm2 := sm.trans (Same.new np (.lst []))
      by_cases ha : acc = []
      · subst ha
        have hd : NumText.AllDigits (figsOf z).cps.toList := fun c hc => fig_mem.mp (hac.mp rfl c hc)
        refine iteF ?_
        obtain ⟨n, hn, hzl⟩ : ∃ n, PySem.intText? z = some n ∧ z.length ≤ 8 := by
          rcases int_figs hd h1 h7 with ⟨_, e2, e3⟩ | ⟨_, e2, e3⟩
          · exact ⟨_, e2, e3⟩
          · exact ⟨_, e2, e3⟩
        have hlog : n.natAbs.log2 < 1920 := by
          have hl : (figsOf z).length = (figsOf z).cps.toList.length := len_tl _
          have hv := digitsVal_lt 7 _ (by omega) hd
          have : n.natAbs ≤ 9999999 := by
            rcases int_figs hd h1 h7 with ⟨_, e2, _⟩ | ⟨_, e2, _⟩
            · rw [hn] at e2; cases e2; omega
            · rw [hn] at e2; cases e2; omega
          exact log_sm (Nat.lt_of_le_of_lt this (by decide))
        have hb := figs_back hd h1 h7 hn
        refine ⟨_, rfl, z, n, rfl, hn, by omega, _, rfl, hlog, ?_⟩
        refine ⟨_, rfl, rfl, _, rfl, ?_⟩
        by_cases hN : isNum z = true
        · refine ite2 (fun _ => ?_) (fun h => absurd (decide_eq_true (congrArg V.str (hb.mpr hN))) h)
          refine ⟨_, rfl, z, n, rfl, hn, by omega, ?_⟩
          have e : figV z = some n := by
            unfold figV
            rw [if_pos hN]; unfold numV; rw [hn]; rfl
          have := q _ sm2
          rw [e] at this
          exact this
        · refine ite2 (fun h => absurd (hb.mp (V.str.inj (of_decide_eq_true h))) hN) (fun _ => ?_)
          have e : figV z = none := if_neg hN
          have := q _ sm2
          rw [e] at this
          exact this
      · have e : acc.isEmpty = false := by cases acc with | nil => exact absurd rfl ha | cons => rfl
        rw [e]
        exact iteT (bad (fun h => ha (hac.mpr fun c hc => fig_mem.mpr (h.1 c hc))) _ sm2)
end
end Wr
namespace Wr
open PySem PySem.Spec PyProof.Rows L2 TL
theorem list_abc : (("abcdefgh" : Str).cps.toList.map fun c => V.str ⟨#[c]⟩) = letters.map V.str := by decide +kernel
def nOf (cs : List Nat) : List Nat := cs.map fun c => if c = 120 then 110 else c
theorem wantS_cps (x : Str) : (wantS x).cps.toList = nOf (shapeW x).cps.toList := rfl
theorem nOf_nil {cs : List Nat} : nOf cs = [] ↔ cs = [] := List.map_eq_nil_iff
def optN : Option Nat → V
  | some n => .int (n : Nat)
  | none => .non
theorem str_nil (W : Str) : decide (V.str W = V.str "") = decide (W.cps.toList = []) := by
  refine decide_eq_decide.mpr ⟨fun h => ?_, fun h => ?_⟩
  · have e := congrArg (fun s : Str => s.cps.toList) (V.str.inj h)
    exact e.trans (by decide +kernel)
  · congr 1
    apply Str.ext'
    apply Array.toList_inj.mp
    rw [h]; decide +kernel
theorem sign_ne : ("n" : Str) = ⟨#[110]⟩ ∧ ("e" : Str) = ⟨#[101]⟩ := by decide +kernel
section
variable {P : Program} {w : World} {K : PySem.W.Frag} {mg : Str → Option Value} {base : Heap}
def spSpot : Sp := fun vs H Q _ => ∃ (l : Addr) (ws : List Str), vs = [.ref l] ∧ H l = some (.lst (ws.map V.str)) ∧ (∀ z ∈ ws, z.length ≤ 20000) ∧ ws.length ≤ 20000 ∧ ∀ H', Same H H' → Q (optN (spotF [101] ws 0)) H'
abbrev spotN : List Str := ["_law_words", "_law_wanted", "_law_at", "_law_word", "_law_kind", "_law_is_name"]
theorem scSpot : FnScope spotN ["_law_words"] (defScope s_L_spot) := ⟨rfl, rfl, rfl, by decide +kernel, rfl, by decide +kernel, by decide +kernel⟩
theorem ok_spot (F : Df K mg "_law_spot" s_L_spot) (rng : mg "range" = none) (len : mg "len" = none) (lst : mg "list" = none) (U_figs : Use P w K mg base "_law_figures" ["_law_word"] 1 spFigs) (U_wants : Use P w K mg base "_law_wants" ["_law_word"] 1 spWants) :
    Use P w K mg base "_law_spot" ["_law_words"] 2 spSpot := by
  refine F.use scSpot (fun _ _ _ _ _ _ us hl => match us, hl with | [_], _ => rfl) (fun vs H Q E h => ?_) (fun cdv f A outer s H vs Q E hr h => ?_)
  · obtain ⟨l, ws, rfl, _⟩ := h
    rfl
  · obtain ⟨l, ws, rfl, hl, hz, hn, q⟩ := h
    have hr1 : Room 1 _ := hr
    have hk : (100000 : Nat) < sizeLine := by decide
    refine ⟨_, pss_cons (ps_set (i := 1) scSpot.nd rfl (Or.inl rfl) pe_str)
      (pss_cons (ps_for PassesOwn.never rfl (pi_range1 (by rfl) rng (pa_cons (pe_callB call_len_seq (by rfl) len PySem.boot_len (pa_cons (pv 0) pa_nil)) pa_nil)) (pg_name (i := 2) scSpot.nd rfl (Or.inl rfl))
        (pss_cons (ps_if (pt_cmpR op_eq (pv 1) pe_str (nomark _)) (pss_one (ps_ret (pv 2))) pss_nil)
        (pss_cons (ps_par3 (i := 3) (j := 4) (l := 1) rfl scSpot.nd rfl rfl rfl (by decide) (by decide) (by decide) rfl rfl rfl (pa_cons (pe_ix ix_list (pv 0) (pv 2) (fun _ _ => rfl)) (pa_cons (pe_ix ix_str (pv 1) pe_int (fun _ _ => rfl)) (pa_cons (pe_slice sl_str (pv 1) (po_some pe_int) po_none) pa_nil))) rfl)
        (pss_cons (ps_set (i := 5) scSpot.nd rfl (Or.inl rfl) (pe_cmpR (r := rIn K false) op_in_seq (pv 3) (pe_callTy (call_listS rfl) (by rfl) lst (by decide +kernel) (pa_cons pe_str pa_nil)) rfl))
        (pss_cons (ps_if (PW.pt (pw_and (pt_cmpR op_eq (pv 4) pe_str (nomark _)) (pw_and1 (pt_not (pt_val (pv 5)))))) (pss_one (ps_ret (pv 2))) pss_nil)
        (pss_one (ps_if (PW.pt (pw_and (pt_cmpR op_eq (pv 4) pe_str (nomark _)) (pw_and (pt_not (pt_val (pv 5))) (pw_and1 (pt_cmpR op_isN (pe_use U_figs hr1 (pa_cons (pv 3) pa_nil)) pe_non (nomark _))))))
          (pss_cons (ps_if (pt_cmpR op_isN (pe_use U_wants hr1 (pa_cons (pv 3) pa_nil)) pe_non (nomark _)) (pss_one (ps_ret (pv 2))) pss_nil)
          (pss_one (ps_set (i := 1) scSpot.nd rfl (Or.inl rfl) (pe_op op_add_str (pe_use U_wants hr1 (pa_cons (pv 3) pa_nil)) (pv 1))))) pss_nil)))))))
      (pss_one (ps_ret (pe_ifExp (pt_cmpR op_eq (pv 1) pe_str (nomark _)) pe_non (pe_callB call_len_seq (by rfl) len PySem.boot_len (pa_cons (pv 0) pa_nil)))))), ?_⟩
    have hn' : (ws.map V.str).length = ws.length := List.length_map _
    refine ⟨_, rfl, l, _, rfl, .inl (SqL.of hl), _, rfl, by omega, by omega, ?_⟩
    rw [hn', Int.toNat_natCast]
    refine for_range (fun i σ H2 => Same H H2 ∧ ∃ (W : Str) (cs : List Nat) (b2 b3 b4 b5 : Option V), σ = [some (.ref l), some (.str W), b2, b3, b4, b5] ∧ W.cps.toList = nOf cs ∧ (∀ c ∈ cs, c = 101 ∨ c = 120) ∧ cs.length ≤ 1 + 4 * i ∧ spotF cs (ws.drop i) i = spotF [101] ws 0)
      ⟨Same.refl _, "e", [101], none, none, none, none, rfl, by decide +kernel, by simp, by simp, rfl⟩ ?_ ?_
    · rintro i σ H2 hi ⟨sm, W, cs, b2, b3, b4, b5, rfl, hW, hcs, hcl, hsp⟩
      rw [show (0 : Int) + ((i : Nat) : Int) = ((i : Nat) : Int) from Int.zero_add _]
      have hwl : W.length = cs.length := by rw [len_tl, show tl W = _ from hW]; exact List.length_map _
      obtain ⟨z, hzi⟩ : ∃ z, ws[i]? = some z := ⟨_, List.getElem?_eq_getElem hi⟩
      have hdrop : ws.drop i = z :: ws.drop (i + 1) := by
        rw [List.drop_eq_getElem_cons hi]
        rw [List.getElem?_eq_getElem hi] at hzi
        rw [Option.some.inj hzi]
      rw [hdrop] at hsp
      have hzl := hz z (List.mem_of_getElem? hzi)
      refine ⟨_, rfl, rfl, _, rfl, ?_⟩
      rw [str_nil, hW]
      cases cs with
      | nil =>
        refine ite2 (fun _ => ?_) (fun h => absurd (decide_eq_true rfl) h)
        have e : spotF [] (z :: ws.drop (i + 1)) i = some i := rfl
        rw [e] at hsp
        have := q H2 sm
        rw [← hsp] at this
        exact ⟨_, rfl, this⟩
      | cons c cs =>
        have hc := hcs c List.mem_cons_self
        refine ite2 (fun h => absurd (of_decide_eq_true h) (by simp [nOf])) (fun _ => ?_)
        have hl2 := sm _ _ hl
        have e0 : (nOf (c :: cs))[0]? = some (if c = 120 then 110 else c) := rfl
        refine ⟨_, rfl, _, rfl, l, _, _, .str z, rfl, rfl, SqL.of hl2, atI_nat (by rw [List.getElem?_map, hzi]; rfl), ?_⟩
        refine ⟨_, rfl, W, 0, _, rfl, rfl, by rw [hwl]; simp only [List.length_cons] at hcl ⊢; omega, by rw [hW]; exact atI_nat (j := 0) e0, ?_⟩
        refine ⟨_, rfl, 1, rfl, W, rfl, by rw [hwl]; simp only [List.length_cons] at hcl ⊢; omega, _, _, _, rfl, ?_⟩
        have hW1 : (cutS W (some 1) none).cps.toList = nOf cs := by
          have := cut_drop W 1
          rw [show ((1 : Nat) : Int) = 1 from rfl] at this
          rw [this, hW]; rfl
        generalize cutS W (some 1) none = W1 at hW1 ⊢
        have hw1 : W1.length = cs.length := by rw [len_tl, show tl W1 = _ from hW1]; exact List.length_map _
        refine ⟨_, rfl, "abcdefgh", rfl, by decide +kernel, fun L nL => ?_⟩
        rw [list_abc]
        have sL : Same H (upd H2 L (.lst (letters.map V.str))) := sm.trans (Same.new nL _)
        have hL : upd H2 L (.lst (letters.map V.str)) L = some (.lst (letters.map V.str)) := upd_same
        generalize upd H2 L (.lst (letters.map V.str)) = H3 at sL hL ⊢
        refine ⟨L, _, rfl, .inl (SqL.of hL), rfl, flat_strs letters, ?_⟩
        show (fun y H1 => _) (V.bl (inV (V.str z) (letters.map V.str))) H3
        rw [inV_str]
        obtain ⟨g1, g2⟩ := sign_ne
        have stop : spotF (c :: cs) (z :: ws.drop (i + 1)) i = some i → ∀ H', Same H H' → Q (.int (i : Nat)) H' := fun e H' s' => by
          rw [e] at hsp
          have := q H' s'
          rw [← hsp] at this
          exact this
        have hcl' : cs.length + 1 ≤ 1 + 4 * i := hcl
        rcases hc with rfl | rfl
        · -- an expression is wanted
          have en : ¬ (V.str (⟨#[if (101 : Nat) = 120 then 110 else 101]⟩ : Str) = V.str "n") := by rw [g1]; decide
          have ee : V.str (⟨#[if (101 : Nat) = 120 then 110 else 101]⟩ : Str) = V.str "e" := by rw [g2]; rfl
          refine ⟨_, rfl, rfl, _, rfl, ?_⟩
          rw [decide_eq_false en]
          refine iteF (iteF ?_)
          refine ⟨_, rfl, rfl, _, rfl, ?_⟩
          rw [decide_eq_true ee]
          refine iteT ⟨_, rfl, _, rfl, ?_⟩
          by_cases hzl2 : z ∈ letters
          · rw [decide_eq_true hzl2]
            refine iteF (iteF ⟨sL, W1, cs, _, _, _, _, rfl, hW1, fun c hc => hcs c (List.mem_cons_of_mem _ hc), by omega, ?_⟩)
            rw [← hsp]
            show _ = if (101 : Nat) = 120 then _ else if z ∈ letters ∨ isNum z = true then spotF cs (ws.drop (i + 1)) (i + 1) else _
            rw [if_neg (by decide), if_pos (.inl hzl2)]
          · rw [decide_eq_false hzl2]
            refine iteT ⟨_, rfl, z, rfl, hzl, fun H4 s4 => ?_⟩
            have sL4 := sL.trans s4
            by_cases hnum : isNum z = true
            · have e : figV z = some (numV z) := if_pos hnum
              rw [e]
              refine ⟨rfl, _, rfl, iteF ⟨sL4, W1, cs, _, _, _, _, rfl, hW1, fun c hc => hcs c (List.mem_cons_of_mem _ hc), by omega, ?_⟩⟩
              rw [← hsp]
              show _ = if (101 : Nat) = 120 then _ else if z ∈ letters ∨ isNum z = true then spotF cs (ws.drop (i + 1)) (i + 1) else _
              rw [if_neg (by decide), if_pos (.inr hnum)]
            · have e : figV z = none := if_neg hnum
              rw [e]
              refine ⟨rfl, _, rfl, iteT ?_⟩
              refine ⟨_, rfl, z, rfl, fun H5 s5 => ?_⟩
              have sL5 := sL4.trans s5
              have hno : ¬ (z ∈ letters ∨ isNum z = true) := fun q => q.elim hzl2 hnum
              by_cases hw : z ∈ allW
              · have ew : wantT z = .str (wantS z) := if_pos hw
                rw [ew]
                refine ⟨rfl, _, rfl, iteF ?_⟩
                refine ⟨_, rfl, z, rfl, fun H6 s6 => ?_⟩
                rw [ew]
                have h4 := (shapeW_all z hw).1
                have lw : (wantS z).length = (shapeW z).length := by rw [len_tl, show tl (wantS z) = _ from wantS_cps z, len_tl]; exact List.length_map _
                have ls : (shapeW z).length = (shapeW z).cps.toList.length := len_tl _
                refine ⟨_, rfl, wantS z, W1, rfl, rfl, by rw [lw, hw1]; omega, ?_⟩
                refine ⟨sL5.trans s6, wantS z ++ W1, (shapeW z).cps.toList ++ cs, _, _, _, _, rfl, ?_, fun c hc => ?_, by rw [List.length_append]; omega, ?_⟩
                · have : (wantS z ++ W1).cps.toList = (wantS z).cps.toList ++ W1.cps.toList := by
                    show (Str.append _ _).cps.toList = _
                    simp [Str.append]
                  rw [this, wantS_cps, hW1]
                  exact (List.map_append ..).symm
                · rcases List.mem_append.mp hc with hc | hc
                  · exact shape_c z hw c hc
                  · exact hcs c (List.mem_cons_of_mem _ hc)
                · rw [← hsp]
                  show _ = if (101 : Nat) = 120 then _ else if z ∈ letters ∨ isNum z = true then _ else if z ∈ allW then spotF ((shapeW z).cps.toList ++ cs) (ws.drop (i + 1)) (i + 1) else _
                  rw [if_neg (by decide), if_neg hno, if_pos hw]
              · have ew : wantT z = .non := if_neg hw
                rw [ew]
                refine ⟨rfl, _, rfl, iteT ⟨_, rfl, stop ?_ _ sL5⟩⟩
                show (if (101 : Nat) = 120 then _ else if z ∈ letters ∨ isNum z = true then _ else if z ∈ allW then _ else some i) = _
                rw [if_neg (by decide), if_neg hno, if_neg hw]
        · -- a name is wanted
          have en : V.str (⟨#[if (120 : Nat) = 120 then 110 else 120]⟩ : Str) = V.str "n" := by rw [g1]; rfl
          have ee : ¬ (V.str (⟨#[if (120 : Nat) = 120 then 110 else 120]⟩ : Str) = V.str "e") := by rw [g2]; decide
          refine ⟨_, rfl, rfl, _, rfl, ?_⟩
          rw [decide_eq_true en]
          refine iteT ⟨_, rfl, _, rfl, ?_⟩
          by_cases hzl2 : z ∈ letters
          · rw [decide_eq_true hzl2]
            refine iteF ?_
            refine ⟨_, rfl, rfl, _, rfl, ?_⟩
            rw [decide_eq_false ee]
            refine iteF (iteF ⟨sL, W1, cs, _, _, _, _, rfl, hW1, fun c hc => hcs c (List.mem_cons_of_mem _ hc), by omega, ?_⟩)
            rw [← hsp]
            show _ = if (120 : Nat) = 120 then (if z ∈ letters then spotF cs (ws.drop (i + 1)) (i + 1) else _) else _
            rw [if_pos rfl, if_pos hzl2]
          · rw [decide_eq_false hzl2]
            refine iteT ⟨_, rfl, stop ?_ _ sL⟩
            show (if (120 : Nat) = 120 then (if z ∈ letters then _ else some i) else _) = _
            rw [if_pos rfl, if_neg hzl2]
    · rintro σ H2 ⟨sm, W, cs, b2, b3, b4, b5, rfl, hW, hcs, hcl, hsp⟩
      rw [List.drop_of_length_le (Nat.le_refl _)] at hsp
      refine ⟨_, rfl, rfl, _, rfl, ?_⟩
      rw [str_nil, hW]
      have := q H2 sm
      rw [← hsp] at this
      cases cs with
      | nil => exact iteT this
      | cons c cs =>
        refine ite2 (fun h => absurd (of_decide_eq_true h) (by simp [nOf])) (fun _ => ?_)
        refine ⟨_, rfl, l, _, rfl, .inl (SqL.of (sm _ _ hl)), ?_⟩
        rw [hn']
        exact this
end
end Wr
namespace Wr
open PySem PySem.Spec PyProof.Rows L2
/-! ### defs that call themselves deep: room by the frames alone -/
structure RoomD (n : Nat) (A : Around) : Prop where
  hd : A.handled = none
  dp : A.depth + n + 20 < recursionLimit
  un : A.units + 3 * n + 300 < cLine
theorem RoomD.deeper {n : Nat} {A : Around} (r : RoomD (n + 1) A) (env : Env) : RoomD n (A.deeper env) :=
  ⟨r.hd, by have := r.dp; show A.depth + 1 + n + 20 < _; omega, by have := r.un; show A.units + 3 + 3 * n + 300 < _; omega⟩
theorem RoomD.room {n : Nat} {A : Around} (r : RoomD n A) : Room 4 A := ⟨r.hd, by have := r.dp; omega, by have := r.un; omega⟩
theorem RoomD.mono {m n : Nat} {A : Around} (r : RoomD n A) (h : m ≤ n) : RoomD m A := ⟨r.hd, by have := r.dp; omega, by have := r.un; omega⟩
theorem RoomD.of {k n : Nat} {A : Around} (r : Room k A) (h : n + 15 ≤ 3 * k) (h2 : 3 * n + 100 ≤ 16 * k) : RoomD n A := ⟨r.hd, by have := r.dp; omega, by have := r.un; omega⟩
structure FnD (P : Program) (w : World) (K : PySem.W.Frag) (mg : Str → Option Value) (base : Heap) (CX : CXT) (n : Nat) (f : Addr) (fd : FuncData) (ps : List Str) (sp : Sp) : Prop where
  len : ∀ vs H Q E, sp vs H Q E → vs.length = ps.length
  run : ∀ (A : Around) (outer : List Env) (s : Shared) (H : Hp) (args : Args) (us : List Value) (vs : List V) (Q : VK) (E : XK), RoomD n A → Env0 P w K mg base A outer s H → BindsTo s fd args (ps.zip us) → Vals vs us → sp vs H Q E →
    codeAny (model P w) A (.call (.ref f) args) (CR CX outer P w H s Q E) s
theorem fnD_of {CX : CXT} {P : Program} {w : World} {K : PySem.W.Frag} {mg : Str → Option Value} {base : Heap} {n : Nat} {f : Addr} {name qual : Str} {params : Arguments} {body : List Stmt} {scope : Scope} {dV kV doc pm cdv ct oc : Value} {an od : Option Addr}
    {osl : Array (Option Value)} {N ps : List Str} {sp : Sp} (lk : K.lookup f = some ⟨oc, od, .func (PySem.W.fnOf name qual params body scope dV kV doc pm an cdv ct), osl⟩) (hcd : PySem.W.codeIn K cdv qual = true) (S : FnScope N ps scope)
    (len : ∀ vs H Q E, sp vs H Q E → vs.length = ps.length)
    (hbody : ∀ (A : Around) (outer : List Env) (s : Shared) (H : Hp) (vs : List V) (Q : VK) (E : XK), RoomD n (A.deeper (envOfC qual scope s.heap.objs.size f cdv)) → sp vs H Q E →
      ∃ t, PSs (cxOf CX P w K mg base N qual scope f cdv A outer s H E) body t ∧ t { nx := fun _ H' => Q .non H', rt := Q } (start N vs) H) :
    FnD P w K mg base CX (n + 1) f (PySem.W.fnOf name qual params body scope dV kV doc pm an cdv ct) ps sp := by
  refine ⟨len, fun A outer s H args us vs Q E hr e0 hb r hsp => ?_⟩
  have hl := len _ _ _ _ hsp
  have KX : K.In s.heap := e0.mod.kin.keeps fun b o e => (e0.bs b o e).1
  have lim : s.heap.NoLimit := e0.mod.nolimit.keeps fun b o e => (e0.bs b o e).1
  have hkind : ∀ y ∈ ps.zip us, scope.names.lookup y.1 = some .local ∨ (scope.names.lookup y.1 = some .cell ∧ ((cellsFrom (s.heap.objs.size + 1) scope.names []).lookup y.1).isSome = true) := fun ⟨n, v⟩ hy => by
    rcases S.par n (List.of_mem_zip hy).1 with q | q
    · exact .inl q
    · exact .inr ⟨q, PySem.W.cellsFrom_some _ _ _ (.inl q)⟩
  refine codeAny_call_function hr.room.depth (KX _ _ lk) rfl S.co S.gen rfl (PySem.W.codeRec_of KX hcd) (hb _ _ _ _ ?_)
  refine wpAny_newFunctionEnv_cells S.kind hkind fun env he s1 x => ?_
  subst he
  refine ⟨lim.keeps x.toInCall.keep, codeAny_func ?_⟩
  obtain ⟨t, ht, hq⟩ := hbody A outer s H vs Q E (hr.deeper _) hsp
  have I : Inv (cxOf CX P w K mg base N qual scope f cdv A outer s H E) [] (start N vs) H s1 := inv_start S hr.hd e0 hl r x
  refine wpAny_mono (ht.run [] s1 (start N vs) H _ I hq) (fun fl s' hs => ?_) fun e s' hs => hs
  have fin : ∀ {σ' : L2.St} {H' : Hp} {v : V} {u : Value}, Inv (cxOf CX P w K mg base N qual scope f cdv A outer s H E) [] σ' H' s' → RelV v u → Q v H' → CE outer P w H s Q u s' :=
    fun {σ' H' v u} J rv q => ⟨v, H', J.os, J.bare, J.base, J.hok, rv, q⟩
  cases fl with
  | ret u =>
    obtain ⟨v, σ', H', J, rv, q⟩ := hs
    exact fin J rv q
  | next =>
    obtain ⟨σ', H', J, q⟩ := hs
    exact fin (v := V.non) (u := Value.none) J rfl q
  | brk =>
    obtain ⟨_, _, _, q⟩ := hs
    exact False.elim q
  | cont =>
    obtain ⟨_, _, _, q⟩ := hs
    exact False.elim q
def UseD (P : Program) (w : World) (K : PySem.W.Frag) (mg : Str → Option Value) (base : Heap) (x : Str) (ps : List Str) (n : Nat) (sp : Sp) : Prop :=
  ∃ f fd, FnD P w K mg base CX0 n f fd ps sp ∧ mg x = some (.ref f) ∧ PySem.W.keepIn K (.ref f) = true ∧ Binds K fd ps []
section
variable {P : Program} {w : World} {K : PySem.W.Frag} {mg : Str → Option Value} {base : Heap}
theorem Df.useD {x : Str} {st : Stmt} {N ps : List Str} {n : Nat} {sp : Sp} (D : Df K mg x st) (S : FnScope N ps (defScope st)) (b : BindF x st ps) (len : ∀ vs H Q E, sp vs H Q E → vs.length = ps.length)
    (hbody : ∀ (cdv : Value) (f : Addr) (A : Around) (outer : List Env) (s : Shared) (H : Hp) (vs : List V) (Q : VK) (E : XK), RoomD n (A.deeper (envOfC x (defScope st) s.heap.objs.size f cdv)) → sp vs H Q E →
      ∃ t, PSs (cxOf CX0 P w K mg base N x (defScope st) f cdv A outer s H E).nox (defBody st) t ∧ t { nx := fun _ H' => Q .non H', rt := Q } (start N vs) H) : UseD P w K mg base x ps (n + 1) sp := by
  obtain ⟨f, fd, F, m⟩ := D
  obtain ⟨oc, od, dV, kV, doc, pm, an, cdv, ct, osl, rfl, lk, hcd, _, _⟩ := id F.ex
  refine ⟨f, _, fnD_of lk hcd S len fun A outer s H vs Q E hr h => ?_, m, F.kp, F.bindsN b⟩
  obtain ⟨t, h1, h2⟩ := hbody cdv f A outer s H vs Q E hr h
  exact ⟨t, h1.nox, h2⟩
end
section
variable {X : Cx} {n : Nat} {f : Addr} {fd : FuncData} {ps : List Str} {sp : Sp} {x : Str} {e : Expr} {es : List Expr} {t : TA} {p pos : Pos}
theorem run_fnD {CX : CXT} {E : XK} {pins : List (Addr × Obj)} {σ : L2.St} {H : Hp} {s : Shared} {Q : VK} {us : List Value} {vs : List V} (F : FnD X.prog X.w X.K X.mg X.base CX n f fd ps sp) (hr : RoomD n X.A) (hb : Binds X.K fd ps []) (hx : Passes CX X E)
    (I : Inv X pins σ H s) (r : Vals vs us) (h : sp vs H Q E) : wpAny (model X.prog X.w) X.A (call (.ref f) us) (EP X pins σ Q) X.xe s := by
  have r2 : Vals (vs ++ []) (us ++ []) := r.append .nil
  rw [List.append_nil, List.append_nil] at r2
  have hl : (us ++ []).length = ps.length := by rw [List.append_nil, ← r2.length]; exact F.len _ _ _ _ h
  have hb' := hb s us I.kIn hl
  rw [List.append_nil] at hb'
  refine wpAny_call (codeAny_mono (F.run X.A X.stack s H ⟨us, []⟩ us vs Q E hr I.env0 hb' r2 h) fun r s' hq => ?_)
  cases r with
  | error e => exact hx pins σ H s e s' I hq
  | ok fl =>
    cases fl with
    | ret u => exact I.after hq
    | next => exact False.elim hq
    | brk => exact False.elim hq
    | cont => exact False.elim hq
theorem pe_useD (U : UseD X.prog X.w X.K X.mg X.base x ps n sp) (hr : RoomD n X.A) (ha : PA X (e :: es) t) (hg : Gl X x := by rfl)
    (hdb : (x == ("__debug__" : Str)) = false := by decide) (he : starEach (e :: es) X.env = (false, eval e X.env) :: starEach es X.env := by rfl) (hpl : ((backTo pos (starEach es X.env)).any fun x => x.fst) = false := by rfl) :
    PE X (.Call (.Name x p) (e :: es) [] pos) (fun σ H Q => t σ H fun vs H1 => sp vs H1 Q E0) := by
  obtain ⟨f, fd, F, m, kp, b⟩ := U
  refine ⟨fun pins s σ H Q I h => ?_⟩
  refine wpAny_Call_Name_kw (ld_glob I hg m ?_ hdb)
  refine PySem.W.callWith_K (h₀ := X.base) I.ok.mod.kin kp (thn (ha.run pos pins s σ H _ I h) fun us s1 ⟨vs, H1, I1, r, q⟩ => ⟨I1.kIn, ?_⟩) he hpl
  exact run_fnD F hr b pass0 I1 r q
end
/-- how far a def may go with a deep room: none of depth 0 -/
theorem useD_no {P : Program} {w : World} {K : PySem.W.Frag} {mg : Str → Option Value} {base : Heap} {x : Str} {st : Stmt} {ps : List Str} {sp : Sp} (D : Df K mg x st) (b : BindF x st ps) (n : Nat) (no : ∀ vs H Q E, ¬ sp vs H Q E) : UseD P w K mg base x ps n sp := by
  obtain ⟨f, fd, F, m⟩ := D
  exact ⟨f, fd, ⟨fun vs H Q E h => absurd h (no _ _ _ _), fun A outer s H args us vs Q E _ _ _ _ h => absurd h (no _ _ _ _)⟩, m, F.kp, F.bindsN b⟩
end Wr
namespace Wr
open PySem PySem.Spec PyProof.Rows L2 TL
theorem sh_word {e : Ex} (h : e.Sh) : (∃ n, e = .num n ∧ n.natAbs ≤ 9999999) ∨ (∃ x, e = .name x ∧ x ∈ letters) ∨ (e.word ∈ allW ∧ e.wds = e.word :: e.items.flatMap Itm.wds ∧ e.items.map itmC = (shapeW e.word).cps.toList ∧
    (∀ a, Itm.e a ∈ e.items → a.Sh ∧ a.deep < e.deep) ∧ (∀ x, Itm.x x ∈ e.items → x ∈ letters) ∧ e.items.length ≤ 4) := by
  obtain ⟨c1, c2, c3, c4, c5, c6, c7⟩ := cps_all
  obtain ⟨s1, s2, s3, s4, s5⟩ := shapeW_rest
  obtain ⟨a1, a2, a3, a4, a5, a6, a7⟩ := allW_mem
  cases e with
  | num n => exact .inl ⟨n, rfl, h⟩
  | name x => exact .inr (.inl ⟨x, rfl, h⟩)
  | fault => exact .inr (.inr ⟨a7, rfl, by show _ = (shapeW "fault").cps.toList; rw [s5, c7]; rfl, by simp [Ex.items], by simp [Ex.items], by simp [Ex.items]⟩)
  | one w a =>
    refine .inr (.inr ⟨a1 w h.1, by simp [Ex.wds, Ex.items, Ex.word, Itm.wds], by show _ = (shapeW w).cps.toList; rw [shapeW_one w h.1, c1]; rfl, fun b hb => ?_, by simp [Ex.items], by simp [Ex.items]⟩)
    simp only [Ex.items, List.mem_cons, List.not_mem_nil, or_false, Itm.e.injEq] at hb
    subst hb
    exact ⟨h.2, by simp only [Ex.deep]; omega⟩
  | two w a b =>
    refine .inr (.inr ⟨a2 w h.1, by simp [Ex.wds, Ex.items, Ex.word, Itm.wds], by show _ = (shapeW w).cps.toList; rw [shapeW_two w h.1, c2]; rfl, fun x hx => ?_, by simp [Ex.items], by simp [Ex.items]⟩)
    simp only [Ex.items, List.mem_cons, List.not_mem_nil, or_false, Itm.e.injEq] at hx
    rcases hx with rfl | rfl
    · exact ⟨h.2.1, by simp only [Ex.deep]; omega⟩
    · exact ⟨h.2.2, by simp only [Ex.deep]; omega⟩
  | ite a b c =>
    refine .inr (.inr ⟨a3, by simp [Ex.wds, Ex.items, Ex.word, Itm.wds], by show _ = (shapeW "if").cps.toList; rw [s1, c3]; rfl, fun x hx => ?_, by simp [Ex.items], by simp [Ex.items]⟩)
    simp only [Ex.items, List.mem_cons, List.not_mem_nil, or_false, Itm.e.injEq] at hx
    rcases hx with rfl | rfl | rfl
    · exact ⟨h.1, by simp only [Ex.deep]; omega⟩
    · exact ⟨h.2.1, by simp only [Ex.deep]; omega⟩
    · exact ⟨h.2.2, by simp only [Ex.deep]; omega⟩
  | lt x a b =>
    refine .inr (.inr ⟨a4, by simp [Ex.wds, Ex.items, Ex.word, Itm.wds], by show _ = (shapeW "let").cps.toList; rw [s2, c4]; rfl, fun y hy => ?_, fun y hy => ?_, by simp [Ex.items]⟩)
    · simp only [Ex.items, List.mem_cons, List.not_mem_nil, or_false, Itm.e.injEq, reduceCtorEq, false_or] at hy
      rcases hy with rfl | rfl
      · exact ⟨h.2.1, by simp only [Ex.deep]; omega⟩
      · exact ⟨h.2.2, by simp only [Ex.deep]; omega⟩
    · simp only [Ex.items, List.mem_cons, List.not_mem_nil, or_false, Itm.x.injEq, reduceCtorEq] at hy
      rw [hy]; exact h.1
  | fn x a =>
    refine .inr (.inr ⟨a5, by simp [Ex.wds, Ex.items, Ex.word, Itm.wds], by show _ = (shapeW "fun").cps.toList; rw [s3, c5]; rfl, fun y hy => ?_, fun y hy => ?_, by simp [Ex.items]⟩)
    · simp only [Ex.items, List.mem_cons, List.not_mem_nil, or_false, Itm.e.injEq, reduceCtorEq, false_or] at hy
      subst hy
      exact ⟨h.2, by simp only [Ex.deep]; omega⟩
    · simp only [Ex.items, List.mem_cons, List.not_mem_nil, or_false, Itm.x.injEq, reduceCtorEq] at hy
      rw [hy]; exact h.1
  | ct a x k b =>
    refine .inr (.inr ⟨a6, by simp [Ex.wds, Ex.items, Ex.word, Itm.wds], by show _ = (shapeW "catch").cps.toList; rw [s4, c6]; rfl, fun y hy => ?_, fun y hy => ?_, by simp [Ex.items]⟩)
    · simp only [Ex.items, List.mem_cons, List.not_mem_nil, or_false, Itm.e.injEq, reduceCtorEq, false_or] at hy
      rcases hy with rfl | rfl
      · exact ⟨h.2.2.1, by simp only [Ex.deep]; omega⟩
      · exact ⟨h.2.2.2, by simp only [Ex.deep]; omega⟩
    · simp only [Ex.items, List.mem_cons, List.not_mem_nil, or_false, Itm.x.injEq, reduceCtorEq, false_or] at hy
      rcases hy with rfl | rfl
      · exact h.1
      · exact h.2.1
section
variable {P : Program} {w : World} {K : PySem.W.Frag} {mg : Str → Option Value} {base : Heap}
def spBuilt (n : Nat) : Sp := fun vs H Q _ => ∃ (l : Addr) (ws rest : List Str) (k : Nat) (e : Ex), vs = [.ref l, .int (k : Nat)] ∧ H l = some (.lst (ws.map V.str)) ∧ e.Sh ∧ e.deep ≤ n ∧ ws.drop k = e.wds ++ rest ∧ (∀ z ∈ ws, z.length ≤ 20000) ∧
  ∀ v p H', Same H H' → AtE H' v e → H' p = some (.tup [v, .int (k + e.wds.length : Nat)]) → Q (.ref p) H'
abbrev builtN : List Str := ["_law_words", "_law_at", "_law_word", "_law_found", "_law_kind", "_law_part"]
theorem scBuilt : FnScope builtN ["_law_words", "_law_at"] (defScope s_L_built) := ⟨rfl, rfl, rfl, by decide +kernel, rfl, by decide +kernel, by decide +kernel⟩
theorem ok_built (n : Nat) (F : Df K mg "_law_built" s_L_built) (lst : mg "list" = none) (tup : mg "tuple" = none) (U_figs : Use P w K mg base "_law_figures" ["_law_word"] 1 spFigs) (U_wants : Use P w K mg base "_law_wants" ["_law_word"] 1 spWants)
    (U : UseD P w K mg base "_law_built" ["_law_words", "_law_at"] n (spBuilt n)) : UseD P w K mg base "_law_built" ["_law_words", "_law_at"] (n + 1) (spBuilt (n + 1)) := by
  refine F.useD scBuilt (fun _ _ _ _ _ _ us hl => match us, hl with | [_, _], _ => rfl) (fun vs H Q E h => ?_) (fun cdv f A outer s H vs Q E hrD h => ?_)
  · obtain ⟨l, ws, rest, k, e, rfl, _⟩ := h
    rfl
  · obtain ⟨l, ws, rest, k, e, rfl, hl, hs, hd, hw, hz, q⟩ := h
    have hr1 : Room 1 _ := hrD.room.mono (by decide)
    have hk : (100000 : Nat) < sizeLine := by decide
    refine ⟨_, pss_cons (ps_set (i := 2) scBuilt.nd rfl (Or.inl rfl) (pe_ix ix_list (pv 0) (pv 1) (fun _ _ => rfl)))
      (pss_cons (ps_if (pt_cmpR (r := rIn K false) op_in_seq (pv 2) (pe_callTy (call_listS rfl) (by rfl) lst (by decide +kernel) (pa_cons pe_str pa_nil)) rfl)
        (pss_one (ps_ret (pe_tup (pa_cons (pe_tup (pa_cons pe_str (pa_cons (pv 2) pa_nil))) (pa_cons (pe_op op_add (pv 1) pe_int) pa_nil))))) pss_nil)
      (pss_cons (ps_if (pt_cmpR op_notN (pe_use U_figs hr1 (pa_cons (pv 2) pa_nil)) pe_non (nomark _))
        (pss_one (ps_ret (pe_tup (pa_cons (pe_tup (pa_cons pe_str (pa_cons (pe_use U_figs hr1 (pa_cons (pv 2) pa_nil)) pa_nil))) (pa_cons (pe_op op_add (pv 1) pe_int) pa_nil))))) pss_nil)
      (pss_cons (ps_set (i := 3) scBuilt.nd rfl (Or.inl rfl) (pe_lst (pa_cons (pv 2) pa_nil)))
      (pss_cons (ps_set (i := 1) scBuilt.nd rfl (Or.inl rfl) (pe_op op_add (pv 1) pe_int))
      (pss_cons (ps_for PassesOwn.never rfl (pi_str (pe_use U_wants hr1 (pa_cons (pv 2) pa_nil))) (pg_name (i := 4) scBuilt.nd rfl (Or.inl rfl))
        (pss_one (ps_if (pt_cmpR op_eq (pv 4) pe_str (nomark _))
          (pss_cons (ps_expr (pe_bm PySem.F.plainAttrs_list PySem.F.slot_list_append PySem.F.type_list_append mt_append (pv 3) (pa_cons (pe_ix ix_list (pv 0) (pv 1) (fun _ _ => rfl)) pa_nil)))
          (pss_one (ps_set (i := 1) scBuilt.nd rfl (Or.inl rfl) (pe_op op_add (pv 1) pe_int))))
          (pss_cons (ps_asg (pe_useD U hrD (pa_cons (pv 0) (pa_cons (pv 1) pa_nil))) (pg_tup rfl (pgs_cons (pg_name (i := 5) scBuilt.nd rfl (Or.inl rfl)) (pgs_cons (pg_name (i := 1) scBuilt.nd rfl (Or.inl rfl)) pgs_nil))))
          (pss_one (ps_expr (pe_bm PySem.F.plainAttrs_list PySem.F.slot_list_append PySem.F.type_list_append mt_append (pv 3) (pa_cons (pv 5) pa_nil))))))))
      (pss_one (ps_ret (pe_tup (pa_cons (pe_tupleOf (by rfl) tup (pv 3)) (pa_cons (pv 1) pa_nil)))))))))), ?_⟩
    obtain ⟨z, zs, hzw⟩ : ∃ z zs, e.wds = z :: zs := by
      have := e.wds_pos
      cases q : e.wds with
      | nil => rw [q] at this; simp at this
      | cons z zs => exact ⟨z, zs, rfl⟩
    have hget : ws[k]? = some z := by
      have := congrArg List.head? hw
      rw [List.head?_drop, hzw] at this
      exact this
    have hkl : k < ws.length := (List.getElem?_eq_some_iff.mp hget).1
    have hzl := hz z (List.mem_of_getElem? hget)
    refine ⟨_, rfl, _, rfl, l, _, _, .str z, rfl, rfl, SqL.of hl, atI_nat (by rw [List.getElem?_map, hget]; rfl), ?_⟩
    refine ⟨_, rfl, "abcdefgh", rfl, by decide +kernel, fun L nL => ?_⟩
    rw [list_abc]
    have sL : Same H (upd H L (.lst (letters.map V.str))) := Same.new nL _
    have hL : upd H L (.lst (letters.map V.str)) L = some (.lst (letters.map V.str)) := upd_same
    generalize upd H L (.lst (letters.map V.str)) = H3 at sL hL ⊢
    refine ⟨L, _, rfl, .inl (SqL.of hL), rfl, flat_strs letters, _, rfl, ?_⟩
    rw [inV_str]
    have two : 2 ≤ sizeLine := by decide
    rcases sh_word hs with ⟨m, rfl, hm⟩ | ⟨x, rfl, hx⟩ | ⟨hwd, hwds, hit, hkid, hnm, h4⟩
    · -- a number
      have hzm : z = numS m := by have : [numS m] = z :: zs := hzw; cases this; rfl
      obtain ⟨n1, n2, n3, n4⟩ := numS_is hm
      have hnl : z ∉ letters := fun q => by rw [hzm] at q; have := letters_num _ q; rw [n1] at this; cases this
      rw [decide_eq_false hnl]
      have fv : figV z = some m := by
        unfold figV
        rw [hzm, if_pos n1, n4]
      refine iteF ⟨_, rfl, z, rfl, hzl, fun H4 s4 => ?_⟩
      rw [fv]
      refine ⟨rfl, _, rfl, iteT ?_⟩
      refine ⟨_, rfl, z, rfl, hzl, fun H5 s5 => ?_⟩
      rw [fv]
      refine ⟨two, fun p np => ⟨_, rfl, _, _, rfl, rfl, two, fun p2 np2 => ?_⟩⟩
      have s6 := ((sL.trans s4).trans s5).trans ((Same.new np (.tup [.str "num", .int m])).trans (Same.new np2 (.tup [.ref p, .int ((k : Int) + 1)])))
      exact q (.ref p) p2 _ s6 ⟨p, rfl, Same.new np2 _ _ _ upd_same⟩ (by rw [upd_same]; rfl)
    · have hzx : z = x := by have : [x] = z :: zs := hzw; cases this; rfl
      rw [decide_eq_true (by rw [hzx]; exact hx)]
      refine iteT ⟨_, rfl, two, fun p np => ⟨_, rfl, _, _, rfl, rfl, two, fun p2 np2 => ?_⟩⟩
      have s6 := sL.trans ((Same.new np (.tup [.str "name", .str z])).trans (Same.new np2 (.tup [.ref p, .int ((k : Int) + 1)])))
      exact q (.ref p) p2 _ s6 ⟨p, rfl, by rw [← hzx]; exact Same.new np2 _ _ _ upd_same⟩ (by rw [upd_same]; rfl)
    · have hze : z = e.word := by rw [hwds] at hzw; cases hzw; rfl
      have hzw2 : z ∈ allW := by rw [hze]; exact hwd
      obtain ⟨z1, z2⟩ := allW_free z hzw2
      rw [decide_eq_false z1]
      have fv : figV z = none := if_neg (by rw [z2]; exact Bool.false_ne_true)
      refine iteF ⟨_, rfl, z, rfl, hzl, fun H4 s4 => ?_⟩
      rw [fv]
      refine ⟨rfl, _, rfl, iteF ?_⟩
      refine ⟨_, rfl, by show 1 ≤ sizeLine; decide, fun D nD => ?_⟩
      have s5 := (sL.trans s4).trans (Same.new nD (.lst [.str z]))
      have hD0 : H D = none := (sL.trans s4).free nD
      have hD5 : upd H4 D (.lst [.str z]) D = some (.lst [.str z]) := upd_same
      generalize upd H4 D (.lst [.str z]) = H5 at s5 hD5 ⊢
      refine ⟨_, rfl, _, _, rfl, rfl, ?_⟩
      refine ⟨_, rfl, z, rfl, fun H6 s6 => ?_⟩
      have ew : wantT z = .str (wantS z) := if_pos hzw2
      rw [ew]
      refine ⟨_, rfl, ?_⟩
      have hcz : (wantS z).cps.size = e.items.length := by
        rw [← Array.length_toList, wantS_cps, hze, ← hit]
        show (nOf _).length = _
        unfold nOf
        rw [List.length_map, List.length_map]
      have hDH : ∀ b o, H b = some o → b ≠ D := fun b o h => ne_of_none h hD0
      refine for_it (walk_str (z := wantS z)) (fun i σ H2 => ∃ (us : List V) (b4 b5 : Option V), σ = [some (.ref l), some (.int (k + 1 + ((e.items.take i).flatMap Itm.wds).length : Nat)), some (.str z), some (.ref D), b4, b5] ∧ Same H H2 ∧ H2 D = some (.lst (.str z :: us)) ∧ ItL H2 us (e.items.take i))
        ⟨[], _, _, rfl, s5.trans s6, s6 _ _ hD5, .nil⟩ (fun _ _ _ _ _ => True.intro) ?_ ?_
      · rintro i v σ H2 H2' hi ⟨us, b4, b5, rfl, sm, hD, hus⟩ ⟨rfl, c, hc, rfl⟩
        rw [hcz] at hi
        obtain ⟨it, hit2⟩ : ∃ it, e.items[i]? = some it := ⟨_, List.getElem?_eq_getElem hi⟩
        have hmem := List.mem_of_getElem? hit2
        have hcc : c = if itmC it = 120 then 110 else itmC it := by
          have h1 : (wantS z).cps.toList[i]? = some c := by rw [Array.getElem?_toList]; exact hc
          rw [wantS_cps, hze, ← hit] at h1
          unfold nOf at h1
          rw [List.getElem?_map, List.getElem?_map, hit2] at h1
          exact (Option.some.inj h1).symm
        have htk : e.items.take (i + 1) = e.items.take i ++ [it] := take_snoc hit2
        have hul : us.length = i := by rw [hus.length, List.length_take]; omega
        have hl2 := sm _ _ hl
        have hdrop : ws.drop (k + 1 + ((e.items.take i).flatMap Itm.wds).length) = it.wds ++ ((e.items.drop (i + 1)).flatMap Itm.wds ++ rest) := by
          rw [hwds] at hw
          have e1 : e.items = e.items.take i ++ (it :: e.items.drop (i + 1)) := by
            conv => lhs; rw [← List.take_append_drop i e.items]
            congr 1
            rw [List.drop_eq_getElem_cons hi]
            rw [List.getElem?_eq_getElem hi] at hit2
            rw [Option.some.inj hit2]
          have e2 : ws.drop (k + 1) = e.items.flatMap Itm.wds ++ rest := by
            have := congrArg List.tail hw
            rw [List.tail_drop] at this
            exact this
          have e3 : e.items.flatMap Itm.wds = (e.items.take i).flatMap Itm.wds ++ (it.wds ++ (e.items.drop (i + 1)).flatMap Itm.wds) := by
            have := congrArg (List.flatMap Itm.wds) e1
            rw [List.flatMap_append, List.flatMap_cons] at this
            exact this
          rw [← List.drop_drop, e2, e3, List.append_assoc, List.drop_left', List.append_assoc]
          rfl
        generalize hkk : k + 1 + ((e.items.take i).flatMap Itm.wds).length = kk at hdrop ⊢
        have hlen : k + 1 + ((e.items.take (i + 1)).flatMap Itm.wds).length = kk + it.wds.length := by
          rw [htk, List.flatMap_append, List.length_append, ← hkk]
          simp only [List.flatMap_cons, List.flatMap_nil, List.append_nil]; omega
        have tk : ∀ (H7 : Hp) (xs : List V), H7 D = some (.lst (.str z :: us)) → ∀ t ys, H7 t = some (.tup ys) → upd H7 D (.lst xs) t = some (.tup ys) := fun H7 xs h7 t ys ht => by
          rw [upd_ne (fun q => by rw [q, h7] at ht; cases ht)]; exact ht
        obtain ⟨g1, g2⟩ := sign_ne
        refine ⟨_, rfl, rfl, _, rfl, ?_⟩
        cases it with
        | n m =>
          have : itmC (.n m) ∈ e.items.map itmC := List.mem_map_of_mem hmem
          rw [hit] at this
          have q1 := shape_c _ hwd _ this
          exact absurd q1 (by show ¬ ((110 : Nat) = 101 ∨ (110 : Nat) = 120); decide)
        | x y =>
          have hc110 : c = 110 := by rw [hcc]; rfl
          subst hc110
          have en : V.str (⟨#[110]⟩ : Str) = V.str "n" := by rw [g1]
          rw [decide_eq_true en]
          refine iteT ⟨_, rfl, .inl ⟨rfl, _, SqL.of hD⟩, ?_⟩
          have hy : ws[kk]? = some y := by
            have := congrArg List.head? hdrop
            rw [List.head?_drop] at this
            exact this
          refine ⟨_, rfl, _, rfl, l, _, _, .str y, rfl, rfl, SqL.of hl2, atI_nat (by rw [List.getElem?_map, hy]; rfl), ?_⟩
          refine ⟨D, _, _, rfl, rfl, hD, by rw [List.length_cons, hul]; omega, ?_⟩
          refine ⟨_, rfl, _, _, rfl, rfl, ?_⟩
          refine ⟨us ++ [.str y], some (.str ⟨#[110]⟩), b5, ?_, Same.putNew sm hD0 _, upd_same, ?_⟩
          · rw [hlen]; rfl
          · rw [htk]
            exact (hus.tups (tk _ _ hD)).snoc rfl
        | e a =>
          have hc101 : c = 101 := by rw [hcc]; rfl
          subst hc101
          have en : ¬ V.str (⟨#[101]⟩ : Str) = V.str "n" := by rw [g1]; decide
          rw [decide_eq_false en]
          obtain ⟨ha1, ha2⟩ := hkid a hmem
          refine iteF ⟨_, rfl, _, rfl, l, ws, _, kk, a, rfl, hl2, ha1, by omega, hdrop, hz, fun v p H7 s7 hv hp => ?_⟩
          refine ⟨p, _, rfl, SqT.of hp, rfl, ?_⟩
          have hD7 := s7 _ _ hD
          refine ⟨_, _, rfl, _, _, rfl, rfl, ?_⟩
          refine ⟨_, rfl, .inl ⟨rfl, _, SqL.of hD7⟩, ?_⟩
          refine ⟨_, rfl, D, _, _, rfl, rfl, hD7, by rw [List.length_cons, hul]; omega, ?_⟩
          refine ⟨us ++ [v], some (.str ⟨#[101]⟩), some v, ?_, Same.putNew (sm.trans s7) hD0 _, upd_same, ?_⟩
          · rw [hlen]; rfl
          · rw [htk]
            exact (ItL.tups (tk _ _ hD7) (ItL.tups (fun t ys h => s7 _ _ h) hus)).snoc (Itm.At.tups (i := .e a) (tk _ _ hD7) hv)
      · rintro σ H2 ⟨us, b4, b5, rfl, sm, hD, hus⟩
        rw [hcz, List.take_of_length_le (Nat.le_refl _)] at hus ⊢
        refine ⟨_, rfl, .inl ⟨D, _, rfl, SqL.of hD, fun b nb => ?_⟩⟩
        have s8 := sm.trans (Same.new nb (.tup (.str z :: us)))
        refine ⟨_, rfl, two, fun p np => ?_⟩
        refine q (.ref b) p _ (s8.trans (Same.new np _)) ?_ ?_
        · refine AtE.of_items (xs := us) (Same.new np _ _ _ (by rw [← hze]; exact upd_same)) ?_
          exact hus.tups fun t ys h => Same.new np _ _ _ (Same.new nb _ _ _ h)
        · rw [upd_same, hwds, List.length_cons, show k + ((e.items.flatMap Itm.wds).length + 1) = k + 1 + (e.items.flatMap Itm.wds).length by omega]
end
theorem built_all {P : Program} {w : World} {K : PySem.W.Frag} {mg : Str → Option Value} {base : Heap} (F : Df K mg "_law_built" s_L_built) (lst : mg "list" = none) (tup : mg "tuple" = none) (U_figs : Use P w K mg base "_law_figures" ["_law_word"] 1 spFigs)
    (U_wants : Use P w K mg base "_law_wants" ["_law_word"] 1 spWants) : ∀ n, UseD P w K mg base "_law_built" ["_law_words", "_law_at"] n (spBuilt n)
  | 0 => useD_no F (fun _ _ _ _ _ _ us hl => match us, hl with | [_, _], _ => rfl) 0 fun vs H Q E ⟨_, _, _, _, e, _, _, _, hd, _⟩ => by have := e.deep_pos; omega
  | n + 1 => ok_built n F lst tup U_figs U_wants (built_all F lst tup U_figs U_wants n)
end Wr
namespace Wr
open PySem PySem.Spec PyProof.Rows L2 TL
/-! ### a text, so many times -/
theorem mulOk {z : Str} {k : Int} (hz : z.length ≤ 20) (h0 : 0 ≤ k) (h1 : k ≤ 1000) : MulOk z k := by
  refine ⟨?_, fun h2 _ => ?_, fun h2 _ => ?_⟩
  · rw [Bool.or_eq_false_iff]
    exact ⟨decide_eq_false (by omega), decide_eq_false (by omega)⟩
  · intro h3
    have h4 : (20 : Int) ≤ (2 ^ 63 - 1) / k := (Int.le_ediv_iff_mul_le (by omega)).mpr (by omega)
    omega
  · unfold Builtin.Str.tooLong
    have : z.length * k.toNat ≤ 20 * 1000 := Nat.mul_le_mul hz (by omega)
    have : (20000 : Nat) < sizeLine := by decide
    exact decide_eq_false (by omega)
theorem fold_size : ∀ (n : Nat) (a acc : Array Nat), ((List.replicate n a).foldl (· ++ ·) acc).size = acc.size + n * a.size
  | 0, a, acc => by simp
  | n + 1, a, acc => by
    rw [List.replicate_succ, List.foldl_cons, fold_size n a, Array.size_append, Nat.succ_mul]; omega
theorem mul_len {z : Str} {k : Int} (h0 : 0 ≤ k) : (Txt.mul z k).length ≤ z.length * k.toNat := by
  unfold Txt.mul
  split
  · have : (Str.empty).length = 0 := by decide +kernel
    omega
  · split
    · rename_i h1 h2
      have : 1 ≤ k.toNat := by omega
      exact Nat.le_mul_of_pos_right _ this
    · show ((List.replicate k.toNat z.cps).foldl (· ++ ·) #[]).size ≤ z.cps.size * k.toNat
      rw [fold_size, Nat.mul_comm]
      simp
section
variable {X : Cx}
theorem op_mul_str : OpR X (binaryOp .Mult) (fun x y H Q => ∃ z k, x = .str z ∧ y = .int k ∧ MulOk z k ∧ Q (.str (Txt.mul z k)) H) := by
  intro pins s σ H x y v u Q I rx ry h
  obtain ⟨i, j, rfl, rfl, hz, q⟩ := h
  obtain ⟨t, rfl⟩ := rx
  obtain ⟨t', rfl⟩ := ry
  exact SB.mul hz (fun t' tk => ⟨.str _, H, I.tok _, ⟨_, rfl⟩, q⟩)
end
/-! ### rows of words -/
theorem wlen_sub {a b : List Str} (h : a.Sublist b) : wlen a ≤ wlen b := by
  induction h with
  | slnil => exact Nat.le_refl _
  | cons x _ ih => rw [wlen_cons]; omega
  | cons_cons x _ ih => rw [wlen_cons, wlen_cons]; omega
theorem wlen_split (x : Str) : wlen (Txt.split x " ") ≤ x.length + 1 := split_weight x " " (by decide +kernel)
theorem join_len (ys : List Str) : (Txt.join " " ys).length ≤ wlen ys := by
  rw [join_eq, len_tl, tl_join]
  refine Nat.le_trans joinL_len ?_
  have h3 : (tl (" " : Str)).length = 1 := by decide +kernel
  rw [h3, List.length_map, List.map_map]
  unfold wlen
  have : (List.length ∘ tl) = (fun s : Str => s.length) := funext fun s => (len_tl s).symm
  rw [this]; omega
def cutL (ws : List Str) (lo hi : Option Int) : List Str := (ws.drop (HT.sIx ws.length 0 lo)).take (HT.sIx ws.length ws.length hi - HT.sIx ws.length 0 lo)
theorem cutV_strs (ws : List Str) (lo hi : Option Int) : cutV (ws.map V.str) lo hi = (cutL ws lo hi).map V.str := by
  unfold cutV cutL
  rw [List.length_map, ← List.map_drop, ← List.map_take]
theorem cutL_sub (ws : List Str) (lo hi : Option Int) : (cutL ws lo hi).Sublist ws := (List.take_sublist _ _).trans (List.drop_sublist _ _)
theorem cutL_wlen (ws : List Str) (lo hi : Option Int) : wlen (cutL ws lo hi) ≤ wlen ws := wlen_sub (cutL_sub ws lo hi)
def odd1 : List Str := ["", "0", "00", "-0", "7", "-7", "1000001", "9999999", "10000000", "a", "h", "i", "num", "name", "say"]
def odd2 : List Str := ["add", "catch", "last", "Add", "let", "go", "+1", "1.5", "fun", "--1", "x", "fault"]
def odd3 : List Str := ["-10000000", "-9999999", "-1000001", "-07"]
def odds : List Str := odd1 ++ odd2 ++ odd3
def everyS : Str := " !#$&'()*+,-./0123456789:;<=>?@ABCDEFGHIJKLMNOPQRSTUVWXYZ[]^_`abcdefghijklmnopqrstuvwxyz{|}~"
theorem odds_len : odds.length = 31 ∧ ∀ z ∈ odds, z.length ≤ 9 := by decide +kernel
section
variable {P : Program} {w : World} {K : PySem.W.Frag} {mg : Str → Option Value} {base : Heap}
def spChanged (K : PySem.W.Frag) : Sp := fun vs H Q _ => ∃ (D : List Addr) (d a : Addr) (ns : List Int) (x : Str), vs = [.ref d, .str x] ∧ Dice K H D d a ns ∧ x.length ≤ 100000 ∧ ∀ y H', y.length ≤ 3 * x.length + 30 → Stp [d] H H' → Dice K H' D d a ns → Q (.str y) H'
abbrev chgN : List Str := ["_law_d", "_law_text", "_law_words", "_law_at", "_law_odd", "_law_kind", "_law_place", "_law_every", "_law_sign"]
theorem scChanged : FnScope chgN ["_law_d", "_law_text"] (defScope s_L_changed) := ⟨rfl, rfl, rfl, by decide +kernel, rfl, by decide +kernel, by decide +kernel⟩
theorem ok_changed (F : Df K mg "_law_changed" s_L_changed) (len : mg "len" = none) (U : Use P w K mg base "_law_next" ["_law_dice_here", "_law_many"] 1 (spNext K)) : Use P w K mg base "_law_changed" ["_law_d", "_law_text"] 2 (spChanged K) := by
  refine F.use scChanged (fun _ _ _ _ _ _ us hl => match us, hl with | [_, _], _ => rfl) (fun vs H Q E h => ?_) (fun cdv f A outer s H vs Q E hr h => ?_)
  · obtain ⟨D, d, a, ns, x, rfl, _⟩ := h
    rfl
  · obtain ⟨D, d, a, ns, x, rfl, hD, hx, q⟩ := h
    have hr1 : Room 1 _ := hr
    have hk : (1000000 : Nat) < sizeLine := by decide
    refine ⟨_, pss_cons (ps_set (i := 2) scChanged.nd rfl (Or.inl rfl) (pe_split (pv 1) pe_str))
      (pss_cons (ps_set (i := 3) scChanged.nd rfl (Or.inl rfl) (pe_use U hr1 (pa_cons (pv 0) (pa_cons (pe_op op_add (pe_callB call_len_seq (by rfl) len PySem.boot_len (pa_cons (pv 2) pa_nil)) pe_int) pa_nil))))
      (pss_cons (ps_set (i := 4) scChanged.nd rfl (Or.inl rfl) (pe_lst (pa_cons pe_str (pa_cons pe_str (pa_cons pe_str (pa_cons pe_str (pa_cons pe_str (pa_cons pe_str (pa_cons pe_str (pa_cons pe_str (pa_cons pe_str (pa_cons pe_str (pa_cons pe_str (pa_cons pe_str (pa_cons pe_str (pa_cons pe_str (pa_cons pe_str pa_nil)))))))))))))))))
      (pss_cons (ps_set (i := 4) scChanged.nd rfl (Or.inl rfl) (pe_op op_cat (pv 4) (pe_lst (pa_cons pe_str (pa_cons pe_str (pa_cons pe_str (pa_cons pe_str (pa_cons pe_str (pa_cons pe_str (pa_cons pe_str (pa_cons pe_str (pa_cons pe_str (pa_cons pe_str (pa_cons pe_str (pa_cons pe_str pa_nil)))))))))))))))
      (pss_cons (ps_set (i := 4) scChanged.nd rfl (Or.inl rfl) (pe_op op_cat (pv 4) (pe_lst (pa_cons pe_str (pa_cons pe_str (pa_cons pe_str (pa_cons pe_str pa_nil)))))))
      (pss_cons (ps_set (i := 5) scChanged.nd rfl (Or.inl rfl) (pe_use U hr1 (pa_cons (pv 0) (pa_cons pe_int pa_nil))))
      (pss_cons (ps_if (pt_cmpR op_eq (pv 5) pe_int (nomark _)) (pss_one (ps_ret (pe_join pe_str (pe_op op_cat (pe_slice sl_list (pv 2) po_none (po_some (pv 3))) (pe_slice sl_list (pv 2) (po_some (pe_op op_add (pv 3) pe_int)) po_none))))) pss_nil)
      (pss_cons (ps_if (pt_cmpR op_eq (pv 5) pe_int (nomark _)) (pss_one (ps_ret (pe_join pe_str (pe_op op_cat (pe_op op_cat (pe_slice sl_list (pv 2) po_none (po_some (pv 3))) (pe_slice sl_list (pv 2) (po_some (pv 3)) (po_some (pe_op op_add (pv 3) pe_int)))) (pe_slice sl_list (pv 2) (po_some (pv 3)) po_none))))) pss_nil)
      (pss_cons (ps_if (pt_cmpR op_lt (pv 5) pe_int (nomark _)) (pss_one (ps_ret (pe_join pe_str (pe_op op_cat (pe_op op_cat (pe_slice sl_list (pv 2) po_none (po_some (pv 3))) (pe_lst (pa_cons (pe_ix ix_list (pv 4) (pe_use U hr1 (pa_cons (pv 0) (pa_cons (pe_callB call_len_seq (by rfl) len PySem.boot_len (pa_cons (pv 4) pa_nil)) pa_nil))) (fun _ _ => rfl)) pa_nil))) (pe_slice sl_list (pv 2) (po_some (pe_op op_sub (pe_op op_add (pv 3) (pv 5)) pe_int)) po_none))))) pss_nil)
      (pss_cons (ps_set (i := 6) scChanged.nd rfl (Or.inl rfl) (pe_use U hr1 (pa_cons (pv 0) (pa_cons (pe_op op_add (pe_callB call_len_str (by rfl) len PySem.boot_len (pa_cons (pv 1) pa_nil)) pe_int) pa_nil))))
      (pss_cons (ps_set (i := 7) scChanged.nd rfl (Or.inl rfl) pe_str)
      (pss_cons (ps_set (i := 8) scChanged.nd rfl (Or.inl rfl) (pe_ix ix_list (pe_lst (pa_cons (pe_ix ix_str pe_str (pe_use U hr1 (pa_cons (pv 0) (pa_cons pe_int pa_nil))) (fun _ _ => rfl)) (pa_cons (pe_ix ix_str (pv 7) (pe_use U hr1 (pa_cons (pv 0) (pa_cons pe_int pa_nil))) (fun _ _ => rfl)) pa_nil))) (pe_use U hr1 (pa_cons (pv 0) (pa_cons pe_int pa_nil))) (fun _ _ => rfl)))
      (pss_one (ps_ret (pe_op op_add_str (pe_op op_add_str (pe_slice sl_str (pv 1) po_none (po_some (pv 6))) (pe_op op_mul_str (pv 8) (pe_use U hr1 (pa_cons (pv 0) (pa_cons pe_int pa_nil))))) (pe_slice sl_str (pv 1) (po_some (pe_op op_add (pv 6) (pe_use U hr1 (pa_cons (pv 0) (pa_cons pe_int pa_nil))))) po_none))))))))))))))), ?_⟩
    obtain ⟨xd, hxd⟩ := hD.is_
    have ndn : ∀ {H' : Hp} {p : Addr}, Stp [d] H H' → Dice K H' D d a ns → H' p = none → p ≠ d := fun s' D' n e => by
      obtain ⟨ys, hy⟩ := D'.is_
      rw [e, hy] at n; cases n
    have kp : ∀ {H1 H2 : Hp} {p : Addr} {xs : List V}, Stp [d] H1 H2 → p ≠ d → H1 p = some (.lst xs) → H2 p = some (.lst xs) := fun s' n h => s'.keep _ _ (by simpa using n) h
    have up : ∀ {H1 : Hp} {p : Addr} {o : HO}, Dice K H1 D d a ns → H1 p = none → Dice K (upd H1 p o) D d a ns := fun D' n => D'.up n
    refine ⟨_, rfl, ⟨_, rfl⟩, x, " ", rfl, rfl, by decide +kernel, by omega, fun wl nwl => ?_⟩
    have hws := wlen_split x
    have hwp := PyProof.Rows.split_pos x " "
    generalize Txt.split x " " = ws at hws hwp ⊢
    have hwl : ws.length ≤ wlen ws := by unfold wlen; omega
    have S1 : Stp [d] H (upd H wl (.lst (ws.map V.str))) := .new nwl _
    have D1 : Dice K (upd H wl (.lst (ws.map V.str))) D d a ns := up hD nwl
    have W1 : upd H wl (.lst (ws.map V.str)) wl = some (.lst (ws.map V.str)) := upd_same
    have nw := ndn (Stp.refl _ _) hD nwl
    generalize upd H wl (.lst (ws.map V.str)) = H1 at S1 D1 W1 ⊢
    refine ⟨_, rfl, _, rfl, wl, _, rfl, .inl (SqL.of W1), _, _, rfl, rfl, D, d, a, ns, _, rfl, D1, by omega, by rw [List.length_map]; omega, fun at0 H2 x0 x1 st2 D2 => ?_⟩
    rw [List.length_map] at x1
    obtain ⟨j, rfl⟩ : ∃ j : Nat, at0 = (j : Int) := ⟨at0.toNat, by omega⟩
    have S2 := S1.trans st2
    have W2 := kp st2 nw W1
    -- the odd words
    refine ⟨by show 15 ≤ sizeLine; decide, fun o1 n1 => ?_⟩
    have S3 := S2.trans (Stp.new (D := [d]) n1 (.lst (odd1.map V.str)))
    have D3 : Dice K (upd H2 o1 (.lst (odd1.map V.str))) D d a ns := up D2 n1
    have W3 : upd H2 o1 (.lst (odd1.map V.str)) wl = some (.lst (ws.map V.str)) := by rw [upd_ne (ne_of_none W2 n1)]; exact W2
    have O3 : upd H2 o1 (.lst (odd1.map V.str)) o1 = some (.lst (odd1.map V.str)) := upd_same
    refine ⟨_, rfl, by show 12 ≤ sizeLine; decide, fun o2 n2 => ?_⟩
    have e3 : upd H2 o1 (.lst [V.str "", V.str "0", V.str "00", V.str "-0", V.str "7", V.str "-7", V.str "1000001", V.str "9999999", V.str "10000000", V.str "a", V.str "h", V.str "i", V.str "num", V.str "name", V.str "say"]) = upd H2 o1 (.lst (odd1.map V.str)) := rfl
    rw [e3] at n2 ⊢
    generalize upd H2 o1 (.lst (odd1.map V.str)) = H3 at S3 D3 W3 O3 n2 ⊢
    have S4 := S3.trans (Stp.new (D := [d]) n2 (.lst (odd2.map V.str)))
    have D4 : Dice K (upd H3 o2 (.lst (odd2.map V.str))) D d a ns := up D3 n2
    have W4 : upd H3 o2 (.lst (odd2.map V.str)) wl = some (.lst (ws.map V.str)) := by rw [upd_ne (ne_of_none W3 n2)]; exact W3
    have O4 : upd H3 o2 (.lst (odd2.map V.str)) o1 = some (.lst (odd1.map V.str)) := by rw [upd_ne (ne_of_none O3 n2)]; exact O3
    have P4 : upd H3 o2 (.lst (odd2.map V.str)) o2 = some (.lst (odd2.map V.str)) := upd_same
    have e4 : upd H3 o2 (.lst [V.str "add", V.str "catch", V.str "last", V.str "Add", V.str "let", V.str "go", V.str "+1", V.str "1.5", V.str "fun", V.str "--1", V.str "x", V.str "fault"]) = upd H3 o2 (.lst (odd2.map V.str)) := rfl
    rw [e4]
    generalize upd H3 o2 (.lst (odd2.map V.str)) = H4 at S4 D4 W4 O4 P4 ⊢
    refine ⟨o1, o2, _, _, rfl, rfl, O4, P4, by show 27 ≤ sizeLine; decide, fun o3 n3 => ?_⟩
    have e5 : odd1.map V.str ++ odd2.map V.str = (odd1 ++ odd2).map V.str := (List.map_append ..).symm
    rw [e5]
    have S5 := S4.trans (Stp.new (D := [d]) n3 (.lst ((odd1 ++ odd2).map V.str)))
    have D5 : Dice K (upd H4 o3 (.lst ((odd1 ++ odd2).map V.str))) D d a ns := up D4 n3
    have W5 : upd H4 o3 (.lst ((odd1 ++ odd2).map V.str)) wl = some (.lst (ws.map V.str)) := by rw [upd_ne (ne_of_none W4 n3)]; exact W4
    have O5 : upd H4 o3 (.lst ((odd1 ++ odd2).map V.str)) o3 = some (.lst ((odd1 ++ odd2).map V.str)) := upd_same
    generalize upd H4 o3 (.lst ((odd1 ++ odd2).map V.str)) = H5 at S5 D5 W5 O5 ⊢
    refine ⟨_, rfl, by show 4 ≤ sizeLine; decide, fun o4 n4 => ?_⟩
    have e6 : upd H5 o4 (.lst [V.str "-10000000", V.str "-9999999", V.str "-1000001", V.str "-07"]) = upd H5 o4 (.lst (odd3.map V.str)) := rfl
    rw [e6]
    have S6 := S5.trans (Stp.new (D := [d]) n4 (.lst (odd3.map V.str)))
    have D6 : Dice K (upd H5 o4 (.lst (odd3.map V.str))) D d a ns := up D5 n4
    have W6 : upd H5 o4 (.lst (odd3.map V.str)) wl = some (.lst (ws.map V.str)) := by rw [upd_ne (ne_of_none W5 n4)]; exact W5
    have O6 : upd H5 o4 (.lst (odd3.map V.str)) o3 = some (.lst ((odd1 ++ odd2).map V.str)) := by rw [upd_ne (ne_of_none O5 n4)]; exact O5
    have P6 : upd H5 o4 (.lst (odd3.map V.str)) o4 = some (.lst (odd3.map V.str)) := upd_same
    generalize upd H5 o4 (.lst (odd3.map V.str)) = H6 at S6 D6 W6 O6 P6 ⊢
    refine ⟨o3, o4, _, _, rfl, rfl, O6, P6, by show 31 ≤ sizeLine; decide, fun ol nol => ?_⟩
    have e7 : (odd1 ++ odd2).map V.str ++ odd3.map V.str = odds.map V.str := (List.map_append ..).symm
    rw [e7]
    have S7 := S6.trans (Stp.new (D := [d]) nol (.lst (odds.map V.str)))
    have D7 : Dice K (upd H6 ol (.lst (odds.map V.str))) D d a ns := up D6 nol
    have W7 : upd H6 ol (.lst (odds.map V.str)) wl = some (.lst (ws.map V.str)) := by rw [upd_ne (ne_of_none W6 nol)]; exact W6
    have O7 : upd H6 ol (.lst (odds.map V.str)) ol = some (.lst (odds.map V.str)) := upd_same
    have no := ndn S6 D6 nol
    generalize upd H6 ol (.lst (odds.map V.str)) = H7 at S7 D7 W7 O7 ⊢
    refine ⟨_, rfl, D, d, a, ns, 5, rfl, D7, by decide, by decide, fun kd H8 k0 k1 st8 D8 => ?_⟩
    have S8 := S7.trans st8
    have W8 := kp st8 nw W7
    have O8 := kp st8 no O7
    clear S1 S2 S3 S4 S5 S6 S7 D1 D2 D3 D4 D5 D6 D7 W1 W2 W3 W4 W5 W6 W7 O3 O4 O5 O6 O7 P4 P6 n1 n2 n3 n4 nol e3 e4 e5 e6 e7 st2 st8
    obtain ⟨ol1, ol2⟩ := odds_len
    -- the words joined anew
    have jn : ∀ (H9 : Hp) (p : Addr) (ys : List Str), Stp [d] H H9 → Dice K H9 D d a ns → H9 p = some (.lst (ys.map V.str)) → wlen ys ≤ 3 * x.length + 30 →
        ∃ (a0 : Str) (p0 : Addr) (ys0 : List Str), V.str " " = .str a0 ∧ [V.ref p] = [.ref p0] ∧ (SqL K H9 p0 (ys0.map V.str) ∨ SqT K H9 p0 (ys0.map V.str)) ∧ (ys0.map (·.length)).sum + ys0.length * a0.length ≤ 16777216 ∧ Q (.str (Txt.join a0 ys0)) H9 := fun H9 p ys s9 d9 h9 hy => by
      refine ⟨" ", p, ys, rfl, rfl, .inl (SqL.of h9), ?_, q _ _ (Nat.le_trans (join_len ys) hy) s9 d9⟩
      have : (" " : Str).length = 1 := by decide +kernel
      rw [this]
      unfold wlen at hy
      omega
    have nwL : ∀ (H9 : Hp) (zs : List V) (p : Addr), Stp [d] H H9 → Dice K H9 D d a ns → H9 p = none → Stp [d] H (upd H9 p (.lst zs)) ∧ Dice K (upd H9 p (.lst zs)) D d a ns ∧ upd H9 p (.lst zs) p = some (.lst zs) ∧ ∀ q ys, H9 q = some (.lst ys) → upd H9 p (.lst zs) q = some (.lst ys) :=
      fun H9 zs p s9 d9 n => ⟨s9.trans (.new n _), up d9 n, upd_same, fun q ys h => by rw [upd_ne (ne_of_none h n)]; exact h⟩
    have cl : ∀ lo hi, (cutL ws lo hi).length ≤ x.length + 1 := fun lo hi => Nat.le_trans ((cutL_sub ws lo hi).length_le) (by omega)
    have cw : ∀ lo hi, wlen (cutL ws lo hi) ≤ x.length + 1 := fun lo hi => Nat.le_trans (cutL_wlen ws lo hi) hws
    have len2 : ∀ (ys zs : List Str), ys.length ≤ 3 * x.length + 20 → zs.length ≤ 3 * x.length + 20 → (ys.map V.str).length + (zs.map V.str).length ≤ sizeLine := fun ys zs h1 h2 => by rw [List.length_map, List.length_map]; omega
    have apS : ∀ (ys zs : List Str), ys.map V.str ++ zs.map V.str = (ys ++ zs).map V.str := fun ys zs => (List.map_append ..).symm
    refine ⟨_, rfl, rfl, _, rfl, ite2 (fun hc => ?_) (fun hc => ?_)⟩
    · -- a word left out
      refine ⟨⟨_, rfl⟩, _, rfl, ?_⟩
      dsimp only [tNoPart]
      refine ⟨_, rfl, _, rfl, wl, _, rfl, SqL.of W8, fun p1 m1 => ?_⟩
      rw [cutV_strs]
      obtain ⟨S9, D9, Q9, K9⟩ := nwL _ ((cutL ws none (some (j : Int))).map V.str) p1 S8 D8 m1
      have W9 := K9 _ _ W8
      generalize upd H8 p1 (.lst ((cutL ws none (some (j : Int))).map V.str)) = H9 at S9 D9 Q9 W9 ⊢
      refine ⟨_, rfl, ?_⟩
      dsimp only [tNoPart]
      refine ⟨_, rfl, _, _, rfl, rfl, _, rfl, wl, _, rfl, SqL.of W9, fun p2 m2 => ?_⟩
      rw [cutV_strs]
      obtain ⟨S10, D10, Q10, K10⟩ := nwL _ ((cutL ws (some ((j : Int) + 1)) none).map V.str) p2 S9 D9 m2
      refine ⟨p1, p2, _, _, rfl, rfl, K10 _ _ Q9, Q10, len2 _ _ (by have := cl none (some (j : Int)); omega) (by have := cl (some ((j : Int) + 1)) none; omega), fun p3 m3 => ?_⟩
      rw [apS]
      obtain ⟨S11, D11, Q11, _⟩ := nwL _ ((cutL ws none (some (j : Int)) ++ cutL ws (some ((j : Int) + 1)) none).map V.str) p3 S10 D10 m3
      refine jn _ _ _ S11 D11 Q11 ?_
      rw [wlen_app]
      have := cw none (some (j : Int))
      have := cw (some ((j : Int) + 1)) none
      omega
    refine ⟨_, rfl, rfl, _, rfl, ite2 (fun hc1 => ?_) (fun hc1 => ?_)⟩
    · -- a word told twice
      refine ⟨⟨_, rfl⟩, _, rfl, ?_⟩
      dsimp only [tNoPart]
      refine ⟨_, rfl, _, rfl, wl, _, rfl, SqL.of W8, fun p1 m1 => ?_⟩
      rw [cutV_strs]
      obtain ⟨S9, D9, Q9, K9⟩ := nwL _ ((cutL ws none (some (j : Int))).map V.str) p1 S8 D8 m1
      have W9 := K9 _ _ W8
      generalize upd H8 p1 (.lst ((cutL ws none (some (j : Int))).map V.str)) = H9 at S9 D9 Q9 W9 ⊢
      refine ⟨_, rfl, _, rfl, _, rfl, _, rfl, _, _, rfl, rfl, _, rfl, wl, _, rfl, SqL.of W9, fun p2 m2 => ?_⟩
      rw [cutV_strs]
      obtain ⟨S10, D10, Q10, K10⟩ := nwL _ ((cutL ws (some (j : Int)) (some ((j : Int) + 1))).map V.str) p2 S9 D9 m2
      have W10 := K10 _ _ W9
      refine ⟨p1, p2, _, _, rfl, rfl, K10 _ _ Q9, Q10, len2 _ _ (by have := cl none (some (j : Int)); omega) (by have := cl (some (j : Int)) (some ((j : Int) + 1)); omega), fun p3 m3 => ?_⟩
      rw [apS]
      obtain ⟨S11, D11, Q11, K11⟩ := nwL _ ((cutL ws none (some (j : Int)) ++ cutL ws (some (j : Int)) (some ((j : Int) + 1))).map V.str) p3 S10 D10 m3
      have W11 := K11 _ _ W10
      refine ⟨_, rfl, _, rfl, _, rfl, ?_⟩
      dsimp only [tNoPart]
      refine ⟨wl, _, rfl, SqL.of W11, fun p4 m4 => ?_⟩
      rw [cutV_strs]
      obtain ⟨S12, D12, Q12, K12⟩ := nwL _ ((cutL ws (some (j : Int)) none).map V.str) p4 S11 D11 m4
      refine ⟨p3, p4, _, _, rfl, rfl, K12 _ _ Q11, Q12, len2 _ _ (by rw [List.length_append]; have := cl none (some (j : Int)); have := cl (some (j : Int)) (some ((j : Int) + 1)); omega) (by have := cl (some (j : Int)) none; omega), fun p5 m5 => ?_⟩
      rw [apS]
      obtain ⟨S13, D13, Q13, _⟩ := nwL _ ((cutL ws none (some (j : Int)) ++ cutL ws (some (j : Int)) (some ((j : Int) + 1)) ++ cutL ws (some (j : Int)) none).map V.str) p5 S12 D12 m5
      refine jn _ _ _ S13 D13 Q13 ?_
      rw [wlen_app, wlen_app]
      have := cw none (some (j : Int))
      have := cw (some (j : Int)) (some ((j : Int) + 1))
      have := cw (some (j : Int)) none
      omega
    refine ⟨_, rfl, _, _, rfl, rfl, _, rfl, ite2 (fun hc2 => ?_) (fun hc2 => ?_)⟩
    · -- an odd word put in
      refine ⟨⟨_, rfl⟩, _, rfl, ?_⟩
      dsimp only [tNoPart]
      refine ⟨_, rfl, _, rfl, wl, _, rfl, SqL.of W8, fun p1 m1 => ?_⟩
      rw [cutV_strs]
      have np1 := ndn S8 D8 m1
      obtain ⟨S9, D9, Q9, K9⟩ := nwL _ ((cutL ws none (some (j : Int))).map V.str) p1 S8 D8 m1
      have W9 := K9 _ _ W8
      have O9 := K9 _ _ O8
      generalize upd H8 p1 (.lst ((cutL ws none (some (j : Int))).map V.str)) = H9 at S9 D9 Q9 W9 O9 ⊢
      refine ⟨_, rfl, _, rfl, _, rfl, ol, _, rfl, .inl (SqL.of O9), D, d, a, ns, _, rfl, D9, by rw [List.length_map, ol1]; decide, by rw [List.length_map, ol1]; decide, fun y H10 y0 y1 st10 D10 => ?_⟩
      rw [List.length_map, ol1] at y1
      obtain ⟨m, rfl⟩ : ∃ m : Nat, y = (m : Int) := ⟨y.toNat, by omega⟩
      have S10 := S9.trans st10
      have W10 := kp st10 nw W9
      have O10 := kp st10 no O9
      have Q10 := kp st10 np1 Q9
      have hm : m < odds.length := by omega
      refine ⟨ol, _, _, .str odds[m], rfl, rfl, SqL.of O10, atI_nat (by rw [List.getElem?_map, List.getElem?_eq_getElem hm]; rfl), ?_⟩
      refine ⟨by show 1 ≤ sizeLine; decide, fun p2 m2 => ?_⟩
      obtain ⟨S11, D11, Q11, K11⟩ := nwL _ ([odds[m]].map V.str) p2 S10 D10 m2
      have W11 := K11 _ _ W10
      refine ⟨p1, p2, _, _, rfl, rfl, K11 _ _ Q10, Q11, len2 _ _ (by have := cl none (some (j : Int)); omega) (by show 1 ≤ _; omega), fun p3 m3 => ?_⟩
      rw [apS]
      obtain ⟨S12, D12, Q12, K12⟩ := nwL _ ((cutL ws none (some (j : Int)) ++ [odds[m]]).map V.str) p3 S11 D11 m3
      have W12 := K12 _ _ W11
      refine ⟨_, rfl, ?_⟩
      dsimp only [tNoPart]
      refine ⟨_, rfl, _, rfl, _, _, rfl, rfl, _, _, rfl, rfl, _, rfl, wl, _, rfl, SqL.of W12, fun p4 m4 => ?_⟩
      rw [cutV_strs]
      obtain ⟨S13, D13, Q13, K13⟩ := nwL _ ((cutL ws (some ((j : Int) + kd - 2)) none).map V.str) p4 S12 D12 m4
      refine ⟨p3, p4, _, _, rfl, rfl, K13 _ _ Q12, Q13, len2 _ _ (by rw [List.length_append]; have := cl none (some (j : Int)); show _ + 1 ≤ _; omega) (by have := cl (some ((j : Int) + kd - 2)) none; omega), fun p5 m5 => ?_⟩
      rw [apS]
      obtain ⟨S14, D14, Q14, _⟩ := nwL _ ((cutL ws none (some (j : Int)) ++ [odds[m]] ++ cutL ws (some ((j : Int) + kd - 2)) none).map V.str) p5 S13 D13 m5
      refine jn _ _ _ S14 D14 Q14 ?_
      have h9 := ol2 odds[m] (List.getElem_mem hm)
      rw [wlen_app, wlen_app, wlen_cons]
      have := cw none (some (j : Int))
      have := cw (some ((j : Int) + kd - 2)) none
      have : wlen [] = 0 := rfl
      omega
    -- a sign put in, left out, exchanged
    refine ⟨_, rfl, _, rfl, x, rfl, by omega, _, _, rfl, rfl, D, d, a, ns, _, rfl, D8, by omega, by omega, fun pl H9 l0 l1 st9 D9 => ?_⟩
    have S9 := S8.trans st9
    obtain ⟨j2, rfl⟩ : ∃ j : Nat, pl = (j : Int) := ⟨pl.toNat, by omega⟩
    have a8 : ("019- aby" : Str).cps.toList.length = 8 := by decide +kernel
    have a8' : ("019- aby" : Str).length ≤ sizeLine := by decide +kernel
    refine ⟨_, rfl, D, d, a, ns, 8, rfl, D9, by decide, by decide, fun i1 H10 i10 i11 st10 D10 => ?_⟩
    have S10 := S9.trans st10
    obtain ⟨n1, rfl⟩ : ∃ j : Nat, i1 = (j : Int) := ⟨i1.toNat, by omega⟩
    have hn1 : n1 < ("019- aby" : Str).cps.toList.length := by rw [a8]; omega
    refine ⟨_, _, _, rfl, rfl, a8', atI_nat (List.getElem?_eq_getElem hn1), ?_⟩
    have b8 : 92 ≤ everyS.cps.toList.length := by decide +kernel
    have b8' : everyS.length ≤ sizeLine := by decide +kernel
    refine ⟨_, rfl, _, rfl, D, d, a, ns, 92, rfl, D10, by decide, by decide, fun i2 H11 i20 i21 st11 D11 => ?_⟩
    have S11 := S10.trans st11
    obtain ⟨n2, rfl⟩ : ∃ j : Nat, i2 = (j : Int) := ⟨i2.toNat, by omega⟩
    have hn2 : n2 < everyS.cps.toList.length := by omega
    refine ⟨everyS, _, _, rfl, rfl, b8', atI_nat (List.getElem?_eq_getElem hn2), ?_⟩
    refine ⟨by show 2 ≤ sizeLine; decide, fun p1 m1 => ?_⟩
    obtain ⟨S12, D12, Q12, K12⟩ := nwL _ [.str ⟨#[("019- aby" : Str).cps.toList[n1]]⟩, .str ⟨#[everyS.cps.toList[n2]]⟩] p1 S11 D11 m1
    have np1 := ndn S11 D11 m1
    refine ⟨_, rfl, D, d, a, ns, 2, rfl, D12, by decide, by decide, fun i3 H13 i30 i31 st13 D13 => ?_⟩
    have S13 := S12.trans st13
    have Q13 := kp st13 np1 Q12
    obtain ⟨sg, hsg, hsl⟩ : ∃ sg : Str, ([.str ⟨#[("019- aby" : Str).cps.toList[n1]]⟩, .str ⟨#[everyS.cps.toList[n2]]⟩] : List V)[i3.toNat]? = some (.str sg) ∧ sg.length = 1 := by
      have : i3.toNat = 0 ∨ i3.toNat = 1 := by omega
      rcases this with e | e
      · rw [e]; exact ⟨_, rfl, rfl⟩
      · rw [e]; exact ⟨_, rfl, rfl⟩
    obtain ⟨n3, rfl⟩ : ∃ j : Nat, i3 = (j : Int) := ⟨i3.toNat, by omega⟩
    rw [Int.toNat_natCast] at hsg
    refine ⟨p1, _, _, .str sg, rfl, rfl, SqL.of Q13, atI_nat hsg, ?_⟩
    refine ⟨_, rfl, ?_⟩
    dsimp only [tNoPart]
    refine ⟨_, rfl, _, rfl, x, rfl, by omega, ?_⟩
    refine ⟨_, rfl, _, rfl, D, d, a, ns, 2, rfl, D13, by decide, by decide, fun i4 H14 i40 i41 st14 D14 => ?_⟩
    have S14 := S13.trans st14
    have hm4 := mul_len (z := sg) (k := i4) i40
    have hm5 : sg.length * i4.toNat ≤ 1 := by rw [hsl]; omega
    have c1 := cut_len x none (some (j2 : Int))
    refine ⟨sg, i4, rfl, rfl, mulOk (by omega) i40 (by omega), ?_⟩
    refine ⟨_, _, rfl, rfl, by omega, ?_⟩
    refine ⟨_, rfl, _, rfl, _, rfl, D, d, a, ns, 2, rfl, D14, by decide, by decide, fun i5 H15 i50 i51 st15 D15 => ?_⟩
    have S15 := S14.trans st15
    refine ⟨_, _, rfl, rfl, _, rfl, ?_⟩
    dsimp only [tNoPart]
    refine ⟨x, rfl, by omega, ?_⟩
    have c2 := cut_len x (some ((j2 : Int) + i5)) none
    have la : ∀ (u v : Str), (u ++ v).length = u.length + v.length := fun u v => Str.length_append ..
    refine ⟨_, _, rfl, rfl, by rw [la]; omega, ?_⟩
    exact q _ _ (by rw [la, la]; omega) S15 D15
end
end Wr
/-! ### lambda a=n: .., handed to a def that calls it without arguments -/
namespace PySem.W
open PySem PySem.Calls PyProof.Rows
abbrev klaD_fn (name qual : Str) (params : Arguments) (body : Expr) (scope : Scope) (cl : List (Str × Addr)) (dV pm cdv ct : Value) : FuncData :=
  { name, qualname := qual, params, body := .expr body, scope, globals := mainGlobals, closure := cl, defaults := dV, kwdefaults := .none, doc := .none, pyModule := pm, annotations := none, code := cdv, closureTuple := ct, builtins := builtinsNs }
abbrev klaD_obj (name qual : Str) (params : Arguments) (body : Expr) (scope : Scope) (clos : List (Str × Addr)) (dV pm : Value) (c' : Addr) (ctv : Value) : Obj :=
  { cls := .type "function", data := .func (klaD_fn name qual params body scope clos dV pm (.ref c') ctv) }
section
variable {M : Model} {A : Around} {E : Value → Shared → Prop} {s : Shared} {name qual : Str} {params : Arguments} {body : Expr} {scope : Scope} {env : Env} {c P : Addr} {ps : Array Value} {pos : Pos} {firstLine : Nat} {mg : Str → Option Value}
  {clos : List (Str × Addr)} {dV : Value} {Q : Value → Shared → Prop}
theorem klaD_makeTail (hcl : closureFor scope env = pure clos) (hge0 : env.globals = mainGlobals) (hg : s.heap.Ns mainGlobals mg) (hcode : env.code = .ref c) (C : CodeHd s.heap c P) (hP : s.heap.get? P = some (tabObj ps)) (ht : TriplesOk ps.toList)
    (hnf : codeAmong pos ps.toList = none) (hgP : mainGlobals ≠ P) (hb : s.heap.BuiltinsAt mg P)
    (h : ∀ c' ctv h' tk, Heap.ExtBut P s.heap h' → s.heap.objs.size ≤ c' → c' < h'.objs.size → h'.CodeRec (.ref c') qual → h'.get? P = some (tabObj (ps ++ #[rawInt pos.line, rawInt pos.col, .ref c'])) →
      Q (.ref h'.objs.size) { s with heap := h'.push (klaD_obj name qual params body scope clos dV ((mg "__name__").getD .none) c' ctv), toks := tk }) :
    wpAny M A (makeTail name qual params (.expr body) scope env dV .none none pos firstLine) Q E s := by
  obtain ⟨bm, ob, hbm, hne0, _, hneP, hbo, hcls, hdict, hdata⟩ := hb
  unfold makeTail
  rw [hcl, hge0]
  refine wpAny_bind (wpAny_pure ?_)
  cases clos with
  | nil =>
    simp only [List.isEmpty_nil, if_true]
    refine wpAny_bind (wpAny_pure ?_)
    refine wpAny_bind (wpAny_functionCodeX hcode (C.code hP ht) (C.tab hP) hnf fun c' h' tk hx hge hlt _ hrec htb _ => ?_)
    have hg' := hg.extBut hx hgP
    refine wpAny_bind (wpAny_builtinsFor hg' hbm hne0 (hx _ _ hneP hbo) hcls hdict hdata ?_)
    refine wpAny_bind (wpAny_nsGet hg' ?_)
    exact wpAny_bind (wpAny_pure (wpAny_newObj_type (h c' .none h' tk hx hge hlt hrec htb.2) (by size_fits)))
  | cons q r =>
    simp only [List.isEmpty_cons, Bool.false_eq_true, if_false]
    refine wpAny_bind (wpAny_newTextTuple ?_)
    refine wpAny_bind (wpAny_functionCodeX hcode ((C.keeps fun b o e => Heap.get?_push_of_some _ e).code (Heap.get?_push_of_some _ hP) ht) ((C.keeps fun b o e => Heap.get?_push_of_some _ e).tab (Heap.get?_push_of_some _ hP)) hnf fun c' h' tk hx hge hlt _ hrec htb _ => ?_)
    have hg' := (hg.push _).extBut hx hgP
    have hx' : Heap.ExtBut P s.heap h' := fun b o hb' e => hx b o hb' (Heap.get?_push_of_some _ e)
    have hge' : s.heap.objs.size ≤ c' := Nat.le_trans (by rw [Heap.size_push]; omega) hge
    refine wpAny_bind (wpAny_builtinsFor hg' hbm hne0 (hx' _ _ hneP hbo) hcls hdict hdata ?_)
    refine wpAny_bind (wpAny_nsGet hg' ?_)
    exact wpAny_bind (wpAny_pure (wpAny_newObj_type (h c' _ h' tk hx' hge' hlt hrec htb.2) (by size_fits)))
theorem klaD_makeTailHit {cv : Value} (hcl : closureFor scope env = pure clos) (hge0 : env.globals = mainGlobals) (hg : s.heap.Ns mainGlobals mg) (hcode : env.code = .ref c) (C : CodeHd s.heap c P) (hP : s.heap.get? P = some (tabObj ps)) (ht : TriplesOk ps.toList)
    (hf : codeAmong pos ps.toList = some cv) (hb : s.heap.BuiltinsAt mg P)
    (h : ∀ (ctv : Value) (h' : Heap) (tk : Tok), (∀ b o, s.heap.get? b = some o → h'.get? b = some o) → s.heap.objs.size ≤ h'.objs.size →
      Q (.ref h'.objs.size) { s with heap := h'.push { cls := .type "function", data := .func (klaD_fn name qual params body scope clos dV ((mg "__name__").getD .none) cv ctv) }, toks := tk }) :
    wpAny M A (makeTail name qual params (.expr body) scope env dV .none none pos firstLine) Q E s := by
  obtain ⟨bm, ob, hbm, hne0, _, hneP, hbo, hcls, hdict, hdata⟩ := hb
  unfold makeTail
  rw [hcl, hge0]
  refine wpAny_bind (wpAny_pure ?_)
  cases clos with
  | nil =>
    simp only [List.isEmpty_nil, if_true]
    refine wpAny_bind (wpAny_pure ?_)
    refine wpAny_bind (wpAny_functionCode_hit hcode (C.code hP ht) hf ?_)
    refine wpAny_bind (wpAny_builtinsFor hg hbm hne0 hbo hcls hdict hdata ?_)
    refine wpAny_bind (wpAny_nsGet hg ?_)
    exact wpAny_bind (wpAny_pure (wpAny_newObj_type (h .none s.heap s.toks (fun _ _ e => e) (Nat.le_refl _)) (by size_fits)))
  | cons q r =>
    simp only [List.isEmpty_cons, Bool.false_eq_true, if_false]
    refine wpAny_bind (wpAny_newTextTuple ?_)
    refine wpAny_bind (wpAny_functionCode_hit hcode ((C.keeps fun b o e => Heap.get?_push_of_some _ e).code (Heap.get?_push_of_some _ hP) ht) hf ?_)
    refine wpAny_bind (wpAny_builtinsFor (hg.push _) hbm hne0 (Heap.get?_push_of_some _ hbo) hcls hdict hdata ?_)
    refine wpAny_bind (wpAny_nsGet (hg.push _) ?_)
    have hsz : ∀ oT : Obj, s.heap.objs.size ≤ (s.heap.push oT).objs.size := fun oT => by rw [Heap.size_push]; omega
    exact wpAny_bind (wpAny_pure (wpAny_newObj_type (h _ _ s.toks (fun b o e => Heap.get?_push_of_some _ e) (hsz _)) (by size_fits)))
theorem klaD_eval {m : Sem Value} (hdef : defaultsOf params env = ([m], [])) (h : wpAny M A m (fun v s1 => wpAny M A (makeTail "<lambda>" (env.qual ++ "<lambda>") params (.expr body) scope env (.ref s1.heap.objs.size) .none none pos pos.line) Q E
      { s1 with heap := s1.heap.push { cls := .type "tuple", data := .seq [v].toArray } }) E s) :
    wpAny M A (eval (.Lambda params body scope pos) env) Q E s := by
  rw [arm_eval_Lambda, hdef]
  show wpAny M A (do let dv ← evalAll [m]; let kdv ← holding dv (evalAllOpt []); makeFunction "<lambda>" (env.qual ++ "<lambda>") params (.expr body) scope env dv kdv [] pos pos.line) Q E s
  refine wpAny_bind (wpAny_evalAll_cons (wpAny_mono h (fun v s1 h1 => wpAny_evalAll_nil ?_) fun _ _ z => z))
  refine wpAny_bind (wpAny_holding (wpAny_pure ?_))
  rw [makeFunction_eq]
  simp only [List.zip_nil_right, List.filterMap_nil, List.isEmpty_nil, List.isEmpty_cons, Bool.false_eq_true, if_false, if_true, pure_bind]
  exact wpAny_bind (wpAny_newTextTuple h1)
end
end PySem.W
namespace Wr
open PySem PySem.Spec PyProof.Rows L2 LamX
section
variable {X : Cx} {pins : List (Addr × Obj)} {σ : L2.St} {H HZ : Hp} {s s1 : Shared}
abbrev tup1 (v : Value) : Obj := { cls := .type "tuple", data := .seq [v].toArray }
theorem lam_makeD {T : List (Addr × Str)} {c P : Addr} {params : Arguments} {body : Expr} {scope : Scope} {pos p1 : Pos} {n : Int} {j : Nat} {E : Value → Shared → Prop} {Q : Value → Shared → Prop} (I : Inv X pins σ H s) (TB : TabB X.base X.mg c P) (hcode : X.env.code = .ref c)
    (hm : (P, X.env.qual ++ "<lambda>") ∈ T) (hu : ∀ p ∈ T, p.1 = P → p.2 = X.env.qual ++ "<lambda>") (hT : Tabs T H) (hdef : defaultsOf params X.env = ([eval (.Constant (.int n) j p1) X.env], [])) (hfree : ∀ y ∈ scope.names, y.2 = .free → ∃ c, X.env.cells.lookup y.1 = some c)
    (h : ∀ (f c' t : Addr) (v pm ctv : Value) (H1 : Hp) (s' : Shared), RelV (.int n) v → Inv X pins σ H1 s' → ExtN H H1 → Tabs T H1 →
      s'.heap.get? f = some (PySem.W.klaD_obj "<lambda>" (X.env.qual ++ "<lambda>") params body scope (cloFrom X.env.cells scope.names []) (.ref t) pm c' ctv) → H1 f = none → f ∉ frs X.stack → H1 c' = some (CodeO c' (X.env.qual ++ "<lambda>")) →
      s'.heap.get? t = some (tup1 v) → H1 t = none → t ∉ frs X.stack → Q (.ref f) s') :
    wpAny (model X.prog X.w) X.A (eval (.Lambda params body scope pos) X.env) Q E s := by
  refine PySem.W.klaD_eval hdef (wpAny_Constant_int ?_)
  have I0 : Inv X pins σ H { s with toks := s.toks + 1 } := I.tok _
  have hv : RelV (.int n) (Value.int n s.toks) := ⟨s.toks, rfl⟩
  generalize Value.int n s.toks = v0 at hv ⊢
  generalize hs0 : ({ s with toks := s.toks + 1 } : Shared) = s0 at I0 ⊢
  have eH : s.heap = s0.heap := by rw [← hs0]
  clear hs0
  have J : Inv X pins σ H { s0 with heap := s0.heap.push (tup1 v0) } := I0.kept (t' := s0.toks) fun b o e => Heap.get?_push_of_some _ e
  have ht0 : (s0.heap.push (tup1 v0)).get? s0.heap.objs.size = some (tup1 v0) := Heap.get?_push_size _ rfl
  have nT : H s0.heap.objs.size = none := I0.hok.fresh (Nat.le_refl _)
  have nofr0 : ∀ f, s0.heap.objs.size ≤ f → f ∉ frs X.stack := fun f hf z => by
    rcases List.mem_cons.mp (I0.stkSub _ z) with e | e
    · have h1 := I0.lt
      rw [← e] at h1
      exact Nat.lt_irrefl _ (Nat.lt_of_lt_of_le h1 hf)
    · exact I0.nofs hf e
  have nfT := nofr0 s0.heap.objs.size (Nat.le_refl _)
  generalize s0.heap.objs.size = t at ht0 nT nfT ⊢
  generalize hs2 : ({ s0 with heap := s0.heap.push (tup1 v0) } : Shared) = s2 at J ⊢
  have ht2 : s2.heap.get? t = some (tup1 v0) := by rw [← hs2]; exact ht0
  clear hs2 I0 nofr0 ht0 eH
  obtain ⟨ps, hP, ht, ha⟩ := hT _ hm
  have bP : s2.heap.BuiltinsAt X.mg P := TB.bm.keeps J.bk
  have hP' : s2.heap.get? P = some { cls := .none, data := .fields ps } := J.hok P _ hP
  have nofr : ∀ f, s2.heap.objs.size ≤ f → f ∉ frs X.stack := fun f hf z => by
    rcases List.mem_cons.mp (J.stkSub _ z) with e | e
    · have h1 := J.lt
      rw [← e] at h1
      exact Nat.lt_irrefl _ (Nat.lt_of_lt_of_le h1 hf)
    · exact J.nofs hf e
  have tP : t ≠ P := fun z => by rw [z, hP] at nT; cases nT
  cases hc : codeAmong pos ps.toList with
  | none =>
    refine PySem.W.klaD_makeTail (mg := X.mg) (c := c) (P := P) (ps := ps) (closure_ok hfree) J.ok.glob (J.mod.glob.keeps J.bk) hcode (TB.code.keeps J.bk) hP' ht hc TB.gP bP fun c' ctv h' tk hx hge hlt hrec htb => ?_
    obtain ⟨c2, oc, vs, tt, e2, hoc, hd, hv2⟩ := hrec
    cases e2
    have hsz : s2.heap.objs.size ≤ h'.objs.size := Nat.le_trans hge (Nat.le_of_lt hlt)
    have nC : H c' = none := J.hok.fresh hge
    have I1 := inv_table (t' := tk) (more := #[rawInt pos.line, rawInt pos.col, .ref c']) (h' := h'.push (PySem.W.klaD_obj "<lambda>" (X.env.qual ++ "<lambda>") params body scope (cloFrom X.env.cells scope.names []) (.ref t) ((X.mg "__name__").getD .none) c' ctv)) J hP
      (fun b o hb e => Heap.get?_push_of_some _ (hx b o hb e)) (Heap.get?_push_of_some _ htb) hge ⟨oc, vs, tt, Heap.get?_push_of_some _ hoc, hd, hv2⟩
    have hE : ExtN H (upd (upd H P (.tbl (ps ++ #[rawInt pos.line, rawInt pos.col, .ref c']))) c' (CodeO c' (X.env.qual ++ "<lambda>"))) := fun b o e n => by
      rw [upd_ne (ne_of_none e nC), upd_ne (fun z => n ps (Option.some.inj (e.symm.trans (by rw [z]; exact hP))))]
      exact e
    have eL : (ps ++ #[rawInt pos.line, rawInt pos.col, .ref c']).toList = ps.toList ++ [rawInt pos.line, rawInt pos.col, .ref c'] := by simp
    have tc' : t ≠ c' := Nat.ne_of_lt (Nat.lt_of_lt_of_le (Heap.lt_size ht2) hge)
    refine h h'.objs.size c' t v0 ((X.mg "__name__").getD .none) ctv _ _ hv I1 hE (fun p hp => ?_) (Heap.get?_push_size _ rfl) ?_ (nofr _ hsz) upd_same (Heap.get?_push_of_some _ (hx _ _ tP ht2)) (by rw [upd_ne tc', upd_ne tP]; exact nT) nfT
    · by_cases hb : p.1 = P
      · rw [hu p hp hb, hb]
        refine ⟨_, by rw [upd_ne (ne_of_none hP nC), upd_same], by rw [eL]; exact PySem.TriplesOk_snoc _ _ _ _ ht, fun p' cv hcv => ?_⟩
        rw [eL] at hcv
        rcases among_app _ ht hcv with z | z
        · obtain ⟨c0, e1, e2⟩ := ha p' cv z
          exact ⟨c0, e1, hE _ _ e2 codeO_ne⟩
        · exact ⟨c', z, upd_same⟩
      · obtain ⟨ps', a1, a2, a3⟩ := hT p hp
        refine ⟨ps', by rw [upd_ne (ne_of_none a1 nC), upd_ne hb]; exact a1, a2, fun p' cv hcv => ?_⟩
        obtain ⟨c0, e1, e2⟩ := a3 p' cv hcv
        exact ⟨c0, e1, hE _ _ e2 codeO_ne⟩
    · have n1 : h'.objs.size ≠ c' := Nat.ne_of_gt hlt
      have n2 : h'.objs.size ≠ P := Nat.ne_of_gt (Nat.lt_of_lt_of_le (Heap.lt_size hP') hsz)
      rw [upd_ne n1, upd_ne n2]
      exact J.hok.fresh hsz
  | some cv =>
    obtain ⟨c', e, hco⟩ := ha pos cv hc
    subst e
    refine PySem.W.klaD_makeTailHit (mg := X.mg) (c := c) (P := P) (ps := ps) (closure_ok hfree) J.ok.glob (J.mod.glob.keeps J.bk) hcode (TB.code.keeps J.bk) hP' ht hc bP fun ctv h' tk hx hsz => ?_
    have I1 : Inv X pins σ H { s2 with heap := h'.push (PySem.W.klaD_obj "<lambda>" (X.env.qual ++ "<lambda>") params body scope (cloFrom X.env.cells scope.names []) (.ref t) ((X.mg "__name__").getD .none) c' ctv), toks := tk } := J.kept fun b o e => Heap.get?_push_of_some _ (hx b o e)
    exact h h'.objs.size c' t v0 ((X.mg "__name__").getD .none) ctv H _ hv I1 (ExtN.refl H) hT (Heap.get?_push_size _ rfl) (J.hok.fresh hsz) (nofr _ hsz) hco (Heap.get?_push_of_some _ (hx _ _ ht2)) nT nfT
/-- one parameter, no other name of its own: captured ones and globals; the caller has no name that is the parameter's -/
structure LamD (N : List Str) (a : Str) (sc scope : Scope) : Prop where
  kind : scope.kind = .function
  co : scope.isCoroutine = false
  gen : scope.isGenerator = false
  own : ∀ y ∈ scope.names, (y.2 = .local → y.1 = a) ∧ y.2 ≠ .cell
  la : scope.names.lookup a = some .local
  nN : a ∉ N
  free : ∀ y ∈ scope.names, y.2 = .free → sc.names.lookup y.1 = some .cell ∨ sc.names.lookup y.1 = some .free
def lamDB (N : List Str) (a : Str) (sc scope : Scope) : Bool :=
  decide (scope.kind = .function) && !scope.isCoroutine && !scope.isGenerator && decide (scope.names.lookup a = some .local) && !decide (a ∈ N) && scope.names.all fun y => (!decide (y.2 = .local) || decide (y.1 = a)) && !decide (y.2 = .cell) && (!decide (y.2 = .free) || decide (sc.names.lookup y.1 = some .cell) || decide (sc.names.lookup y.1 = some .free))
theorem lamD_by {N : List Str} {a : Str} {sc scope : Scope} (h : lamDB N a sc scope = true) : LamD N a sc scope := by
  unfold lamDB at h
  simp only [Bool.and_eq_true, Bool.or_eq_true, Bool.not_eq_true', decide_eq_true_eq, decide_eq_false_iff_not, List.all_eq_true] at h
  obtain ⟨⟨⟨⟨⟨h1, h2⟩, h3⟩, h5⟩, h6⟩, h4⟩ := h
  refine ⟨h1, h2, h3, fun y hy => ⟨fun z => (h4 y hy).1.1.elim (fun q => absurd z q) id, (h4 y hy).1.2⟩, h5, h6, fun y hy e => ?_⟩
  rcases (h4 y hy).2 with (z | z) | z
  · exact absurd e z
  · exact .inl z
  · exact .inr z
theorem LamD.has {X : Cx} {N : List Str} {a : Str} {scope : Scope} (L : LamD N a X.env.scope scope) (ok : X.Ok) : ∀ y ∈ scope.names, y.2 = .free → ∃ c, X.env.cells.lookup y.1 = some c := fun y hy e => by
  rcases L.free y hy e with k | k
  · exact ok.has _ (.inl k)
  · exact ok.has _ (.inr k)
theorem lam_startD {a : Str} {A : Around} {outer : List Env} {E : XK} {scope : Scope} {f c' : Addr} {h₁ : Heap} {tk : Nat} {m : Str → Option Value} (I : Inv X pins σ H s) (L : LamD X.N a X.env.scope scope) (e0 : Env0 X.prog X.w X.K X.mg X.base A outer s1 HZ) (hd : A.handled = none)
    (un : Un (frs X.stack) [] H HZ s.heap s1.heap) (hns : h₁.Ns s1.heap.objs.size m) (kp : ∀ b o, s1.heap.get? b = some o → h₁.get? b = some o) :
    Inv (lamCx X A outer s1 HZ E scope f c') [] σ HZ { s1 with heap := h₁, toks := tk } := by
  have hfree := L.has I.ok
  have cm : ∀ {y c}, (cloFrom X.env.cells scope.names []).lookup y = some c → X.env.cells.lookup y = some c := fun {y c} e => by
    rcases cloFrom_mem (PySem.mem_of_lookup e) with hm | ⟨h1, h2⟩
    · cases hm
    · obtain ⟨c1, hc⟩ := hfree _ h1 rfl
      have hc : X.env.cells.lookup y = some c1 := hc
      have e2 : c = c1 := by
        rw [h2, hc] <;> rfl
      rw [e2]
      exact hc
  have look : ∀ {y}, scope.names.lookup y = some .free → ∃ c, (cloFrom X.env.cells scope.names []).lookup y = some c := fun {y} hl => by
    have hy : (y, NameKind.free) ∈ scope.names := PySem.mem_of_lookup hl
    exact mem_lookup (cloFrom_has (cells := X.env.cells) (acc := []) hy)
  have cellK : ∀ {c : Addr} {v : Option Value}, H c = none → s.heap.IsCell c v → h₁.IsCell c v := fun {c v} n ⟨o, ho, hd⟩ => by
    obtain ⟨sl, q⟩ := un.any ho n (by simp)
    exact ⟨_, kp _ _ q, hd⟩
  have noA : ∀ b : Addr, b ∉ (lamCx X A outer s1 HZ E scope f c').ex := fun b z => absurd (show b ∈ ([] : List Addr) from z) (by simp)
  refine ⟨⟨e0.mod, L.kind, rfl, rfl, Nat.le_refl _, fun y z c e1 e2 => I.ok.inj y z c (cm e1) (cm e2), fun y hy => ?_, fun y c z _ => ?_, fun _ => hd, Around.frames_deeper e0.frames, .inr ⟨rfl, rfl⟩, fun b z => absurd z (noA b), e0.bs, e0.bsz, fun b _ _ => noA b,
      fun b z => absurd z (noA b), e0.funs, e0.frf⟩,
    rfl, e0.bare, Un.kept kp, ⟨_, hns, fun i y v e1 e2 e3 => ?_⟩, fun y c e => ?_, e0.hok.fresh (Nat.le_refl _), fun y c e => ?_, fun q hq => absurd (show q ∈ ([] : List (Addr × Obj)) ++ [] from hq) (by simp), e0.hok.kept kp, I.len⟩
  · have hy : scope.names.lookup y = some .cell ∨ scope.names.lookup y = some .free := hy
    rcases hy with hy | hy
    · exact absurd rfl (L.own _ (PySem.mem_of_lookup hy)).2
    · exact look hy
  · have z : false = true := z
    cases z
  · have e3 : Vis scope y := e3
    rcases e3 with k | k | k
    · have ya := (L.own _ (PySem.mem_of_lookup k)).1 rfl
      have ya : y = a := ya
      exact absurd (by rw [← ya]; exact List.mem_of_getElem? (show X.N[i]? = some y from e1)) L.nN
    · exact absurd rfl (L.own _ (PySem.mem_of_lookup k)).2
    · obtain ⟨m, hn, hl⟩ := I.loc
      have hvis : Vis X.env.scope y := (L.free _ (PySem.mem_of_lookup k) rfl).elim (fun k => .inr (.inl k)) (fun k => .inr (.inr k))
      obtain ⟨w', r, q⟩ := hl i y v e1 e2 hvis
      obtain ⟨c2, h2⟩ := look k
      refine ⟨w', r, .inr ⟨.inr k, c2, h2, ?_⟩⟩
      have c1 := cm h2
      rcases q with ⟨k', _⟩ | ⟨_, c3, e', z⟩
      · have k' : X.env.scope.names.lookup y = some .local := k'
        rcases L.free _ (PySem.mem_of_lookup k) rfl with k2 | k2 <;> rw [show X.env.scope.names.lookup y = _ from k2] at k' <;> cases k'
      · rw [c1] at e'
        cases e'
        exact cellK (I.freeC y _ c1) z
  · obtain ⟨w', z⟩ := I.cell y c (cm e)
    exact ⟨w', cellK (I.freeC y c (cm e)) z⟩
  · obtain ⟨v, o, ho, hd⟩ := I.cell y c (cm e)
    exact un.free c o ho (I.freeC y c (cm e)) (by simp)
theorem pe_actD {CXg : CXT} {Eg : XK} {Ng : List Str} {qg : Str} {sg : Scope} {g f c' t : Addr} {cdg v pm ctv : Value} {params : Arguments} {body : Expr} {scope : Scope} {k i : Nat} {a b : Str} {pn : List (Addr × Obj)} {xe : Value → Shared → Prop} {W : WX} {E : XK} {tb : TE} {p1 p2 : Pos}
    (I : Inv X pins σ H s) (L : LamD X.N b X.env.scope scope) (hf : s.heap.get? f = some (PySem.W.klaD_obj "<lambda>" (X.env.qual ++ "<lambda>") params body scope (cloFrom X.env.cells scope.names []) (.ref t) pm c' ctv)) (hfn : H f = none) (hfr : f ∉ frs X.stack)
    (htt : s.heap.get? t = some (tup1 v)) (htn : H t = none) (htr : t ∉ frs X.stack)
    (hbind : ∃ kk, bindArgs (PySem.W.klaD_fn "<lambda>" (X.env.qual ++ "<lambda>") params body scope (cloFrom X.env.cells scope.names []) (.ref t) pm (.ref c') ctv) ⟨[], []⟩ = seqItems? (.ref t) >>= kk ∧ kk (some #[v]) = pure [(b, v)])
    (tk : Takes ((cxOf CXg X.prog X.w X.K X.mg X.base Ng qg sg g cdg X.A X.stack s H Eg).tr pn xe) W) (hW : ∀ cls d σ' H', E cls d H' → W cls d σ' H') (hr : Room (k + 1) (X.A.deeper (envOfC qg sg s.heap.objs.size g cdg)))
    (hbody : ∀ (A : Around) (outer : List Env) (s : Shared) (H : Hp), Room k (A.deeper (lamEnv X scope s.heap.objs.size f c')) → PE (lamCx X A outer s H E scope f c') body tb)
    (hN : Ng[i]? = some a) (hv : Vis sg a) (hd : (a == ("__debug__" : Str)) = false := by decide) (hcd : (a == ("__classdict__" : Str)) = false := by decide) :
    PE ((cxOf CXg X.prog X.w X.K X.mg X.base Ng qg sg g cdg X.A X.stack s H Eg).tr pn xe) (.Call (.Name a p1) [] [] p2)
      (fun σZ HZ Q => σZ[i]? = some (some (.ref f)) ∧ HZ c' = some (CodeO c' (X.env.qual ++ "<lambda>")) ∧ tb σ HZ Q) := by
  refine ⟨fun pinsZ sZ σZ HZ Q IZ h => ?_⟩
  obtain ⟨hs, hc, ht⟩ := h
  refine wpAny_Call_Name_kw (thn ((pe_var (pos := p1) (i := i) hN hv hd hcd).run pinsZ sZ σZ HZ (fun v H1 => v = .ref f ∧ H1 = HZ) IZ ⟨.ref f, hs, rfl, rfl⟩) fun u s1 ⟨v, H1, I1, r1, q1⟩ => ?_)
  obtain ⟨ev, eH⟩ := q1
  subst ev
  rw [eH] at I1
  obtain rfl : u = Value.ref f := r1
  have of1 : s1.heap.get? f = some (PySem.W.klaD_obj "<lambda>" (X.env.qual ++ "<lambda>") params body scope (cloFrom X.env.cells scope.names []) (.ref t) pm c' ctv) := I1.base.keep f _ hf hfn hfr (fun z => nomatch (show f ∈ ([] : List Addr) from z))
  have ot1 := I1.base.keep t _ htt htn htr (fun z => nomatch (show t ∈ ([] : List Addr) from z))
  refine PySem.W.callWith_F0 ⟨_, _, _, _, of1⟩ ?_
  have un : Un (frs X.stack) [] H HZ s.heap s1.heap := I1.base
  obtain ⟨⟨oc, vs, tt, hoc, hdc, hvc⟩, _, _⟩ := I1.hok c' _ hc
  obtain ⟨kk, hb1, hb2⟩ := hbind
  have rc : codeAny (model X.prog X.w) (X.A.deeper (envOfC qg sg s.heap.objs.size g cdg)) (.call (.ref f) ⟨[], []⟩) (CR (L2.CX X.prog X.w) (envOfC qg sg s.heap.objs.size g cdg :: X.stack) X.prog X.w HZ s1 Q E) s1 := by
    refine PySem.W.kla_callFunE hr.depth of1 rfl L.co L.gen rfl ⟨c', oc, vs, tt, rfl, hoc, hdc, hvc⟩ ?_
    rw [hb1]
    refine wpAny_bind (wpAny_seqItems ot1 rfl ?_)
    show wpAny _ _ (kk (some #[_])) _ _ _
    rw [hb2]
    refine wpAny_pure (wpAny_newFunctionEnv (fun y hy => (L.own y hy).2) (fun y hy => ?_) (fun h₁ hns hsb => ⟨I1.nolimit.fresh _ hsb, ?_⟩) L.kind)
    · rw [List.mem_singleton] at hy
      rw [hy]
      exact L.la
    show codeAny _ _ (.expr body (lamEnv X scope s1.heap.objs.size f c')) _ _
    have kp : ∀ b o, s1.heap.get? b = some o → h₁.get? b = some o := fun b o e => hsb.extBut b o (Nat.ne_of_lt (Heap.lt_size e)) (Heap.get?_push_of_some _ e)
    have J : Inv (lamCx X (X.A.deeper (envOfC qg sg s.heap.objs.size g cdg)) (envOfC qg sg s.heap.objs.size g cdg :: X.stack) s1 HZ E scope f c') [] σ HZ { s1 with heap := h₁, toks := s1.toks + 1 } :=
      lam_startD I L I1.env0 hr.hd un hns kp
    refine PySem.W.kla_codeExpr (wpAny_mono ((hbody _ _ s1 HZ (hr.deeper _)).run [] _ _ HZ Q J ht) (fun v s' hq => ?_) fun e s' hq => hq)
    obtain ⟨w', H', J', rv, q⟩ := hq
    exact ⟨w', H', J'.os, J'.bare, J'.base, J'.hok, rv, q⟩
  have hx : Passes (L2.CX X.prog X.w) ((cxOf CXg X.prog X.w X.K X.mg X.base Ng qg sg g cdg X.A X.stack s H Eg).tr pn xe) E := passes_call tk hW
  refine wpAny_call (codeAny_mono rc fun r s' hq => ?_)
  cases r with
  | error e => exact hx pinsZ σZ HZ s1 e s' I1 hq
  | ok fl =>
    cases fl with
    | ret u => exact I1.after hq
    | next => exact False.elim hq
    | brk => exact False.elim hq
    | cont => exact False.elim hq
/-- x(lambda b=n: body) -/
theorem pe_lamcallD {T : List (Addr × Str)} {TT : (XK → Hp → VK → Prop) → Hp → VK → Prop} {x a b : Str} {g c P : Addr} {k : Nat} {pg : Arguments} {bg : List Stmt} {sg : Scope} {dV kV doc pm cdv ct oc : Value} {an od : Option Addr} {osl : Array (Option Value)} {Ng : List Str}
    {params : Arguments} {body : Expr} {scope : Scope} {t : XK → TE} {n : Int} {j : Nat} {p lpos pos p1 : Pos} (hg : Gl X x) (hm : X.mg x = some (.ref g)) (hk : PySem.W.keepIn X.K (.ref g) = true)
    (lk : X.K.lookup g = some ⟨oc, od, .func (PySem.W.fnOf x x pg bg sg dV kV doc pm an cdv ct), osl⟩) (hcg : PySem.W.codeIn X.K cdv x = true) (hb : L2.Binds X.K (PySem.W.fnOf x x pg bg sg dV kV doc pm an cdv ct) [a] []) (Sg : FnScope Ng [a] sg) (hNg : Ng[0]? = some a) (hva : Vis sg a)
    (hG : GivesTo X Ng x sg g cdv bg a (X.env.qual ++ "<lambda>") TT)
    (TB : TabB X.base X.mg c P) (hcode : X.env.code = .ref c) (hmT : (P, X.env.qual ++ "<lambda>") ∈ T) (hu : ∀ p ∈ T, p.1 = P → p.2 = X.env.qual ++ "<lambda>") (hr : Room (k + 2) X.A) (L : LamD X.N b X.env.scope scope) (hdef : defaultsOf params X.env = ([eval (.Constant (.int n) j p1) X.env], []))
    (hbind : ∀ (q : Str) (cl : List (Str × Addr)) (t : Addr) (v pm cv ctv : Value), ∃ kk, bindArgs (PySem.W.klaD_fn "<lambda>" q params body scope cl (.ref t) pm cv ctv) ⟨[], []⟩ = seqItems? (.ref t) >>= kk ∧ kk (some #[v]) = pure [(b, v)])
    (hbody : ∀ (A : Around) (outer : List Env) (s : Shared) (H : Hp) (E : XK) (f c' : Addr), Room k (A.deeper (lamEnv X scope s.heap.objs.size f c')) → PE (lamCx X A outer s H E scope f c') body (t E))
    (hdb : (x == ("__debug__" : Str)) = false := by decide) (hd : (a == ("__debug__" : Str)) = false := by decide) (hcd : (a == ("__classdict__" : Str)) = false := by decide) :
    PE X (.Call (.Name x p) [.Lambda params body scope lpos] [] pos) (tLam T TT t) := by
  refine ⟨fun pins s σ H Q I h => ?_⟩
  obtain ⟨hT, h⟩ := h
  refine wpAny_Call_Name_kw (ld_glob I hg hm ?_ hdb)
  refine PySem.W.callWith_K (h₀ := X.base) I.ok.mod.kin hk ?_ (by rfl) (by rfl)
  show wpAny _ _ (spliced ((false, eval (.Lambda params body scope lpos) X.env) :: backTo pos (starEach [] X.env))) _ _ s
  refine Calls.spliced_cons (lam_makeD I TB hcode hmT hu hT hdef (L.has I.ok) fun f c' t0 v0 pm' ctv H1 s' hv0 I1 eN T1 hf hfn hfr hco htt htn htr => ?_)
  refine Calls.spliced_nil ⟨I1.kIn, ?_⟩
  have rc : codeAny (model X.prog X.w) X.A (.call (.ref g) ⟨[.ref f], []⟩) (CR C8.CX0 X.stack X.prog X.w H1 s' Q C8.E0) s' := by
    refine run_ofS (N := Ng) (ps := [a]) (us := [.ref f]) (vs := [.ref f]) lk hcg Sg hr I1.env0 (hb s' [.ref f] I1.kIn rfl) (.cons rfl .nil) rfl fun hr' => ?_
    obtain ⟨t', ht', hq'⟩ := hG f c' s' H1 Q (fun E H' Q' => t E σ H' Q') (fun W pn xe E p1 p2 tk hW => pe_actD (i := 0) I1 L hf hfn hfr htt htn htr (hbind _ _ _ _ _ _ _) tk hW hr' (fun A outer s H hr2 => hbody A outer s H E f c' hr2) hNg hva hd hcd) hco (h H1 eN T1)
    exact ⟨t', ht'.nox, hq'⟩
  refine wpAny_call (codeAny_mono rc fun r s2 hq => ?_)
  cases r with
  | error e => exact (show False from hq).elim
  | ok fl =>
    cases fl with
    | ret u => exact I1.after hq
    | next => exact False.elim hq
    | brk => exact False.elim hq
    | cont => exact False.elim hq
end
end Wr
namespace Wr
open PySem PySem.Spec PyProof.Rows L2
/-- data of so many floors at most, no row of more than a thousand -/
inductive Sm : Nat → PyData → Prop where
  | non {n : Nat} : Sm (n + 1) .none
  | bl {n : Nat} (b : Bool) : Sm (n + 1) (.bool b)
  | int {n : Nat} (i : Int) : Sm (n + 1) (.int i)
  | str {n : Nat} (x : Str) : Sm (n + 1) (.str x)
  | lst {n : Nat} {ds : List PyData} : ds.length ≤ 1000 → (∀ d ∈ ds, Sm n d) → Sm (n + 1) (.list ds)
  | tup {n : Nat} {ds : List PyData} : ds.length ≤ 1000 → (∀ d ∈ ds, Sm n d) → Sm (n + 1) (.tuple ds)
theorem dpAll_len {K : PySem.W.Frag} {H : Hp} : ∀ {vs : List V} {ds : List PyData}, DpAll K H vs ds → vs.length = ds.length
  | _, _, .nil => rfl
  | _, _, .cons _ t => by simp [dpAll_len t]
theorem dpAll_at {K : PySem.W.Frag} {H : Hp} : ∀ {vs : List V} {ds : List PyData} {i : Nat}, DpAll K H vs ds → i < ds.length → ∃ v d, vs[i]? = some v ∧ ds[i]? = some d ∧ Dp K H v d
  | _, _, _, .nil, h => by simp at h
  | _, _, 0, .cons (v := v) (d := d) a t, h => ⟨v, d, rfl, rfl, a⟩
  | _, _, i + 1, .cons a t, h => dpAll_at (i := i) t (by simpa using h)
def tnm : PyData → String
  | .none => "NoneType"
  | .bool _ => "bool"
  | .int _ => "int"
  | .str _ => "str"
  | .list _ => "list"
  | _ => "tuple"
theorem SqT.ty {K : PySem.W.Frag} {H : Hp} {a : Addr} {xs : List V} (h : SqT K H a xs) : TyX K H (.ref a) (.type "tuple") := by
  rcases h with (h | ⟨o, h⟩) | ⟨o, _, _, h, c, _⟩
  · exact .base (.tup h)
  · exact .fTuple h
  · exact .kTuple h c
theorem SqL.ty {K : PySem.W.Frag} {H : Hp} {a : Addr} {xs : List V} (h : SqL K H a xs) : TyX K H (.ref a) (.type "list") := by
  rcases h with (h | ⟨o, h⟩) | ⟨o, _, _, h, c, _⟩
  · exact .base (.lst h)
  · exact .base (.frz h)
  · exact .kList h c
theorem dp_ty {K : PySem.W.Frag} {H : Hp} {v : V} {d : PyData} (h : Dp K H v d) : TyX K H v (.type (tnm d)) := by
  cases h with
  | non => exact .base .non
  | bl b => exact .base (.bl b)
  | int i => exact .base (.int i)
  | str x => exact .base (.str x)
  | lst h _ => exact SqL.ty h
  | tup h _ => exact SqT.ty h
def rIxQ (K : PySem.W.Frag) : R2 := fun x y H Q => rIxL K x y H Q ∨ rIxT K x y H Q
theorem ix_seq {X : Cx} : IxR X (rIxQ X.K) := fun value slice pins s σ H x y v u Q I rx ry h hs =>
  h.elim (fun h => ix_list value slice pins s σ H x y v u Q I rx ry h hs) (fun h => ix_tup value slice pins s σ H x y v u Q I rx ry h hs)
section
variable {P : Program} {w : World} {K : PySem.W.Frag} {mg : Str → Option Value} {base : Heap}
/-- two forms of the same data -/
def spLike (K : PySem.W.Frag) (n : Nat) : Sp := fun vs H Q _ => ∃ (v u : V) (d : PyData), vs = [v, u] ∧ Dp K H v d ∧ Dp K H u d ∧ Sm n d ∧ Q (.bl true) H
theorem scLike : FnScope ["_law_found", "_law_due", "_law_k"] ["_law_found", "_law_due"] (defScope s_L_like) := ⟨rfl, rfl, rfl, by decide +kernel, rfl, by decide +kernel, by decide +kernel⟩
theorem ok_like (n : Nat) (F : Df K mg "_law_like" s_L_like) (isi : mg "isinstance" = none) (tup : mg "tuple" = none) (lis : mg "list" = none) (bo : mg "bool" = none) (st : mg "str" = none) (it : mg "int" = none) (len : mg "len" = none) (rng : mg "range" = none)
    (U : Use P w K mg base "_law_like" ["_law_found", "_law_due"] n (spLike K n)) : Use P w K mg base "_law_like" ["_law_found", "_law_due"] (n + 1) (spLike K (n + 1)) := by
  refine F.use scLike (fun _ _ _ _ _ _ us hl => match us, hl with | [_, _], _ => rfl) (fun vs H Q E h => ?_) (fun cdv f A outer s H vs Q E hr h => ?_)
  · obtain ⟨v, u, d, rfl, _⟩ := h
    rfl
  · obtain ⟨v, u, d, rfl, hv, hu, hs, q⟩ := h
    refine ⟨_, pss_cons (ps_if (pt_val (pe_callB (r := rIsi K) call_isi (by rfl) isi (by decide +kernel) (pa_cons (pv 1) (pa_cons (pe_bltn (v := .ty "bool") (u := .type "bool") (by rfl) bo (by decide +kernel) rfl) pa_nil)))) (pss_one (ps_ret (pe_and (pe_callB (r := rIsi K) call_isi (by rfl) isi (by decide +kernel) (pa_cons (pv 0) (pa_cons (pe_bltn (v := .ty "bool") (u := .type "bool") (by rfl) bo (by decide +kernel) rfl) pa_nil))) (pe_one (pe_cmpR op_eq (pv 0) (pv 1) (nomark _)))))) pss_nil)
      (pss_cons (ps_if (pt_val (pe_callB (r := rIsi K) call_isi (by rfl) isi (by decide +kernel) (pa_cons (pv 1) (pa_cons (pe_bltn (v := .ty "str") (u := .type "str") (by rfl) st (by decide +kernel) rfl) pa_nil)))) (pss_one (ps_ret (pe_and (pe_callB (r := rIsi K) call_isi (by rfl) isi (by decide +kernel) (pa_cons (pv 0) (pa_cons (pe_bltn (v := .ty "str") (u := .type "str") (by rfl) st (by decide +kernel) rfl) pa_nil))) (pe_one (pe_cmpR op_eq (pv 0) (pv 1) (nomark _)))))) pss_nil)
      (pss_cons (ps_if (pt_val (pe_callB (r := rIsi K) call_isi (by rfl) isi (by decide +kernel) (pa_cons (pv 1) (pa_cons (pe_bltn (v := .ty "int") (u := .type "int") (by rfl) it (by decide +kernel) rfl) pa_nil)))) (pss_one (ps_ret (pe_and (pe_callB (r := rIsi K) call_isi (by rfl) isi (by decide +kernel) (pa_cons (pv 0) (pa_cons (pe_bltn (v := .ty "int") (u := .type "int") (by rfl) it (by decide +kernel) rfl) pa_nil))) (pe_and (pe_not (pe_callB (r := rIsi K) call_isi (by rfl) isi (by decide +kernel) (pa_cons (pv 0) (pa_cons (pe_bltn (v := .ty "bool") (u := .type "bool") (by rfl) bo (by decide +kernel) rfl) pa_nil)))) (pe_one (pe_cmpR op_eq (pv 0) (pv 1) (nomark _))))))) pss_nil)
      (pss_cons (ps_if (pt_cmpR op_isN (pv 1) pe_non (nomark _)) (pss_one (ps_ret (pe_cmpR op_isN (pv 0) pe_non (nomark _)))) pss_nil)
      (pss_cons (ps_if (PW.pt (pw_or (pt_cmpR op_ne (pe_callB (r := rIsi K) call_isi (by rfl) isi (by decide +kernel) (pa_cons (pv 1) (pa_cons (pe_bltn (v := .ty "tuple") (u := .type "tuple") (by rfl) tup (by decide +kernel) rfl) pa_nil))) (pe_callB (r := rIsi K) call_isi (by rfl) isi (by decide +kernel) (pa_cons (pv 0) (pa_cons (pe_bltn (v := .ty "tuple") (u := .type "tuple") (by rfl) tup (by decide +kernel) rfl) pa_nil))) (nomark _)) (pw_or1 (pt_cmpR op_ne (pe_callB (r := rIsi K) call_isi (by rfl) isi (by decide +kernel) (pa_cons (pv 1) (pa_cons (pe_bltn (v := .ty "list") (u := .type "list") (by rfl) lis (by decide +kernel) rfl) pa_nil))) (pe_callB (r := rIsi K) call_isi (by rfl) isi (by decide +kernel) (pa_cons (pv 0) (pa_cons (pe_bltn (v := .ty "list") (u := .type "list") (by rfl) lis (by decide +kernel) rfl) pa_nil))) (nomark _))))) (pss_one (ps_ret pe_bl)) pss_nil)
      (pss_cons (ps_if (pt_cmpR op_ne (pe_callB call_len_seq (by rfl) len PySem.boot_len (pa_cons (pv 0) pa_nil)) (pe_callB call_len_seq (by rfl) len PySem.boot_len (pa_cons (pv 1) pa_nil)) (nomark _)) (pss_one (ps_ret pe_bl)) pss_nil)
      (pss_cons (ps_for PassesOwn.never rfl (pi_range1 (by rfl) rng (pa_cons (pe_callB call_len_seq (by rfl) len PySem.boot_len (pa_cons (pv 1) pa_nil)) pa_nil)) (pg_name (i := 2) scLike.nd rfl (Or.inl rfl))
        (pss_one (ps_if (pt_not (pt_val (pe_use U hr (pa_cons (pe_ix (r := rIxQ K) ix_seq (pv 0) (pv 2) (fun _ _ => rfl)) (pa_cons (pe_ix (r := rIxQ K) ix_seq (pv 1) (pv 2) (fun _ _ => rfl)) pa_nil))))) (pss_one (ps_ret pe_bl)) pss_nil)))
      (pss_one (ps_ret pe_bl)))))))), ?_⟩
    cases hs with
    | bl b =>
      have tv : TyX K H v (.type "bool") := dp_ty hv
      have tu : TyX K H u (.type "bool") := dp_ty hu
      refine ⟨_, rfl, u, .ty "bool", _, .type "bool", true, rfl, .ty _, tu, kit_ty (by decide +kernel), true, rfl, ?_⟩
      refine iteT ?_
      refine ⟨_, rfl, v, .ty "bool", _, .type "bool", true, rfl, .ty _, tv, kit_ty (by decide +kernel), true, rfl, ?_⟩
      refine iteT ?_
      cases hv
      cases hu
      refine ⟨_, rfl, _, rfl, rfl, ?_⟩
      rw [decide_eq_true rfl]
      exact q
    | str x =>
      have tv : TyX K H v (.type "str") := dp_ty hv
      have tu : TyX K H u (.type "str") := dp_ty hu
      refine ⟨_, rfl, u, .ty "bool", _, .type "bool", false, rfl, .ty _, tu, kit_ty (by decide +kernel), false, rfl, iteF ?_⟩
      refine ⟨_, rfl, u, .ty "str", _, .type "str", true, rfl, .ty _, tu, kit_ty (by decide +kernel), true, rfl, iteT ?_⟩
      refine ⟨_, rfl, v, .ty "str", _, .type "str", true, rfl, .ty _, tv, kit_ty (by decide +kernel), true, rfl, iteT ?_⟩
      cases hv
      cases hu
      refine ⟨_, rfl, _, rfl, rfl, ?_⟩
      rw [decide_eq_true rfl]
      exact q
    | int i =>
      have tv : TyX K H v (.type "int") := dp_ty hv
      have tu : TyX K H u (.type "int") := dp_ty hu
      refine ⟨_, rfl, u, .ty "bool", _, .type "bool", false, rfl, .ty _, tu, kit_ty (by decide +kernel), false, rfl, iteF ?_⟩
      refine ⟨_, rfl, u, .ty "str", _, .type "str", false, rfl, .ty _, tu, kit_ty (by decide +kernel), false, rfl, iteF ?_⟩
      refine ⟨_, rfl, u, .ty "int", _, .type "int", true, rfl, .ty _, tu, kit_ty (by decide +kernel), true, rfl, iteT ?_⟩
      refine ⟨_, rfl, v, .ty "int", _, .type "int", true, rfl, .ty _, tv, kit_ty (by decide +kernel), true, rfl, iteT ?_⟩
      refine ⟨_, rfl, v, .ty "bool", _, .type "bool", false, rfl, .ty _, tv, kit_ty (by decide +kernel), false, rfl, true, rfl, iteT ?_⟩
      cases hv
      cases hu
      refine ⟨_, rfl, _, rfl, rfl, ?_⟩
      rw [decide_eq_true rfl]
      exact q
    | non =>
      have tv : TyX K H v (.type "NoneType") := dp_ty hv
      have tu : TyX K H u (.type "NoneType") := dp_ty hu
      refine ⟨_, rfl, u, .ty "bool", _, .type "bool", false, rfl, .ty _, tu, kit_ty (by decide +kernel), false, rfl, iteF ?_⟩
      refine ⟨_, rfl, u, .ty "str", _, .type "str", false, rfl, .ty _, tu, kit_ty (by decide +kernel), false, rfl, iteF ?_⟩
      refine ⟨_, rfl, u, .ty "int", _, .type "int", false, rfl, .ty _, tu, kit_ty (by decide +kernel), false, rfl, iteF ?_⟩
      cases hv
      cases hu
      refine ⟨_, rfl, rfl, _, rfl, iteT ?_⟩
      exact ⟨_, rfl, rfl, q⟩
    | lst hl hm =>
      have tv : TyX K H v (.type "list") := dp_ty hv
      have tu : TyX K H u (.type "list") := dp_ty hu
      refine ⟨_, rfl, u, .ty "bool", _, .type "bool", false, rfl, .ty _, tu, kit_ty (by decide +kernel), false, rfl, iteF ?_⟩
      refine ⟨_, rfl, u, .ty "str", _, .type "str", false, rfl, .ty _, tu, kit_ty (by decide +kernel), false, rfl, iteF ?_⟩
      refine ⟨_, rfl, u, .ty "int", _, .type "int", false, rfl, .ty _, tu, kit_ty (by decide +kernel), false, rfl, iteF ?_⟩
      cases hv with
      | lst qv av =>
      cases hu with
      | lst qu au =>
      refine ⟨_, rfl, rfl, _, rfl, iteF ?_⟩
      refine ⟨_, rfl, _, .ty "tuple", _, .type "tuple", false, rfl, .ty _, tu, kit_ty (by decide +kernel), _, rfl, _, .ty "tuple", _, .type "tuple", false, rfl, .ty _, tv, kit_ty (by decide +kernel), rfl, _, rfl, iteF ?_⟩
      refine ⟨_, rfl, _, .ty "list", _, .type "list", true, rfl, .ty _, tu, kit_ty (by decide +kernel), _, rfl, _, .ty "list", _, .type "list", true, rfl, .ty _, tv, kit_ty (by decide +kernel), rfl, _, rfl, iteF ?_⟩
      refine ⟨_, rfl, _, _, rfl, .inl qv, _, rfl, _, _, rfl, .inl qu, rfl, _, rfl, ?_⟩
      rw [dpAll_len av, dpAll_len au, decide_eq_true rfl]
      refine iteF ?_
      refine ⟨_, rfl, _, _, rfl, .inl qu, _, rfl, ?_, ?_, ?_⟩
      · omega
      · rw [dpAll_len au]; omega
      rw [dpAll_len au]
      refine for_range (fun i σ H2 => H2 = H ∧ ∃ v3, σ = [some _, some _, v3]) ⟨rfl, none, rfl⟩ ?_ ?_
      · rintro i σ H2 hi ⟨rfl, v3, rfl⟩
        rw [Int.toNat_natCast] at hi
        obtain ⟨x, d1, x1, x2, x3⟩ := dpAll_at av hi
        obtain ⟨y, d2, y1, y2, y3⟩ := dpAll_at au hi
        rw [x2] at y2
        cases y2
        rw [Int.zero_add]
        refine ⟨_, rfl, _, rfl, .inl ⟨_, _, _, x, rfl, rfl, qv, atI_nat x1, _, rfl, _, rfl, .inl ⟨_, _, _, y, rfl, rfl, qu, atI_nat y1, x, y, d1, rfl, x3, y3, hm d1 (List.mem_of_getElem? x2), true, rfl, iteF ?_⟩⟩⟩
        exact ⟨rfl, _, rfl⟩
      · rintro σ H2 ⟨rfl, v3, rfl⟩
        exact q
    | tup hl hm =>
      have tv : TyX K H v (.type "tuple") := dp_ty hv
      have tu : TyX K H u (.type "tuple") := dp_ty hu
      refine ⟨_, rfl, u, .ty "bool", _, .type "bool", false, rfl, .ty _, tu, kit_ty (by decide +kernel), false, rfl, iteF ?_⟩
      refine ⟨_, rfl, u, .ty "str", _, .type "str", false, rfl, .ty _, tu, kit_ty (by decide +kernel), false, rfl, iteF ?_⟩
      refine ⟨_, rfl, u, .ty "int", _, .type "int", false, rfl, .ty _, tu, kit_ty (by decide +kernel), false, rfl, iteF ?_⟩
      cases hv with
      | tup qv av =>
      cases hu with
      | tup qu au =>
      refine ⟨_, rfl, rfl, _, rfl, iteF ?_⟩
      refine ⟨_, rfl, _, .ty "tuple", _, .type "tuple", true, rfl, .ty _, tu, kit_ty (by decide +kernel), _, rfl, _, .ty "tuple", _, .type "tuple", true, rfl, .ty _, tv, kit_ty (by decide +kernel), rfl, _, rfl, iteF ?_⟩
      refine ⟨_, rfl, _, .ty "list", _, .type "list", false, rfl, .ty _, tu, kit_ty (by decide +kernel), _, rfl, _, .ty "list", _, .type "list", false, rfl, .ty _, tv, kit_ty (by decide +kernel), rfl, _, rfl, iteF ?_⟩
      refine ⟨_, rfl, _, _, rfl, .inr qv, _, rfl, _, _, rfl, .inr qu, rfl, _, rfl, ?_⟩
      rw [dpAll_len av, dpAll_len au, decide_eq_true rfl]
      refine iteF ?_
      refine ⟨_, rfl, _, _, rfl, .inr qu, _, rfl, ?_, ?_, ?_⟩
      · omega
      · rw [dpAll_len au]; omega
      rw [dpAll_len au]
      refine for_range (fun i σ H2 => H2 = H ∧ ∃ v3, σ = [some _, some _, v3]) ⟨rfl, none, rfl⟩ ?_ ?_
      · rintro i σ H2 hi ⟨rfl, v3, rfl⟩
        rw [Int.toNat_natCast] at hi
        obtain ⟨x, d1, x1, x2, x3⟩ := dpAll_at av hi
        obtain ⟨y, d2, y1, y2, y3⟩ := dpAll_at au hi
        rw [x2] at y2
        cases y2
        rw [Int.zero_add]
        refine ⟨_, rfl, _, rfl, .inr ⟨_, _, _, x, rfl, rfl, qv, atI_nat x1, _, rfl, _, rfl, .inr ⟨_, _, _, y, rfl, rfl, qu, atI_nat y1, x, y, d1, rfl, x3, y3, hm d1 (List.mem_of_getElem? x2), true, rfl, iteF ?_⟩⟩⟩
        exact ⟨rfl, _, rfl⟩
      · rintro σ H2 ⟨rfl, v3, rfl⟩
        exact q
theorem like_all (F : Df K mg "_law_like" s_L_like) (isi : mg "isinstance" = none) (tup : mg "tuple" = none) (lis : mg "list" = none) (bo : mg "bool" = none) (st : mg "str" = none) (it : mg "int" = none) (len : mg "len" = none) (rng : mg "range" = none) :
    ∀ n : Nat, Use P w K mg base "_law_like" ["_law_found", "_law_due"] n (spLike K n)
  | 0 => use_no F (fun _ _ _ _ _ _ us hl => match us, hl with | [_, _], _ => rfl) 0 fun vs H Q E ⟨v, u, d, _, _, _, hs, _⟩ => by cases hs
  | n + 1 => ok_like n F isi tup lis bo st it len rng (like_all F isi tup lis bo st it len rng n)
end
end Wr
namespace Wr
open PySem PySem.Spec PyProof.Rows L2 LamX
/-! ### what changes in the law: the dice, tables of code -/
def Ld (d : Addr) (H H' : Hp) : Prop := ∀ b o, b ≠ d → H b = some o → (∀ ps, o ≠ .tbl ps) → H' b = some o
section
variable {K : PySem.W.Frag} {H H' H2 : Hp} {d a : Addr} {ns : List Int} {T : List (Addr × Str)}
theorem Ld.refl : Ld d H H := fun _ _ _ h _ => h
theorem Ld.trans (x : Ld d H H') (y : Ld d H' H2) : Ld d H H2 := fun b o n h t => y b o n (x b o n h t) t
theorem Ld.same (s : Same H H') : Ld d H H' := fun b o _ h _ => s b o h
theorem Ld.stp (s : Stp [d] H H') : Ld d H H' := fun b o n h _ => s.keep b o (by simpa using n) h
theorem Ld.ext (e : ExtN H H') : Ld d H H' := fun b o _ h t => e b o h t
theorem Ld.new {p : Addr} (n : H p = none) (o : HO) : Ld d H (upd H p o) := .same (Same.new n o)
theorem Ld.tups (x : Ld d H H') (hd : ∃ xs, H d = some (.lst xs)) : ∀ t xs, H t = some (.tup xs) → H' t = some (.tup xs) := fun t xs h => x t _ (fun z => by
  obtain ⟨ys, hd⟩ := hd
  rw [z, hd] at h
  cases h) h (fun ps z => by cases z)
theorem Ld.lst (x : Ld d H H') {l : Addr} {xs : List V} (n : l ≠ d) (h : H l = some (.lst xs)) : H' l = some (.lst xs) := x l _ n h (fun ps z => by cases z)
theorem Dice.ext {D : List Addr} (h : Dice K H D d a ns) (e : ExtN H H') : Dice K H' D d a ns := by
  obtain ⟨⟨i, m, c, h1, h2⟩, sq, mm, l⟩ := h
  refine ⟨⟨i, m, c, e _ _ h1 (fun ps z => by cases z), h2⟩, ?_, mm, l⟩
  rcases sq with ⟨sq, nd⟩ | sq
  · refine .inl ⟨?_, nd⟩
    rcases sq with sq | ⟨o, sq⟩
    · exact .inl (e _ _ sq (fun ps z => by cases z))
    · exact .inr ⟨o, e _ _ sq (fun ps z => by cases z)⟩
  · exact .inr sq
theorem Tabs.same (t : Tabs T H) (s : Same H H') : Tabs T H' := t.ext fun b o h => s b o h
theorem Tabs.stp (t : Tabs T H) (s : Stp [d] H H') (hd : ∃ xs, H d = some (.lst xs)) : Tabs T H' := fun p hp => by
  obtain ⟨ps, h1, h2, h3⟩ := t p hp
  obtain ⟨ys, hd⟩ := hd
  have nd : ∀ {b : Addr} {o : HO}, H b = some o → (∀ xs, o ≠ .lst xs) → H' b = some o := fun {b o} h n => s.keep b o (fun z => by
    rw [List.mem_singleton] at z
    rw [z, hd] at h
    exact n ys (Option.some.inj h).symm) h
  refine ⟨ps, nd h1 (fun xs z => by cases z), h2, fun pos cv hc => ?_⟩
  obtain ⟨c, e, hco⟩ := h3 pos cv hc
  exact ⟨c, e, nd hco (fun xs z => by unfold CodeO at z; cases z)⟩
end
/-! ### the law's body -/
abbrev lawN : List Str := ["_law_script", "_law_d", "_law_turn", "_law_good", "_law_change", "_law_long_here", "_law_words", "_law_place", "_law_due", "_law_again_here", "_law_program_here", "_law_text"]
theorem scLaw19 : FnScope lawN ["_law_script"] (defScope s_law) := ⟨rfl, rfl, rfl, by decide +kernel, rfl, by decide +kernel, by decide +kernel⟩
abbrev LXc (P : Program) (w : World) (K : PySem.W.Frag) (mg : Str → Option Value) (base : Heap) (f : Addr) (c0 : Addr) (A : Around) (outer : List Env) (s : Shared) (H0 : Hp) (E : XK) : Cx := (cxOf CX0 P w K mg base lawN "law" (defScope s_law) f (.ref c0) A outer s H0 E).nox
abbrev lamQ : Str := "law" ++ ".<locals>." ++ "<lambda>"
structure LamK (K : PySem.W.Frag) (mg : Str → Option Value) (base : Heap) (c0 Pt : Addr) (bc : BadCs) : Prop where
  tab : TabB base mg c0 Pt
  told : Df K mg "_law_told" s_L_told
  bad : BadKs K mg bc
  isi : mg "isinstance" = none
  mve : mg "ValueError" = none
section
variable {P : Program} {w : World} {K : PySem.W.Frag} {mg : Str → Option Value} {base : Heap} {f c0 Pt : Addr} {A : Around} {outer : List Env} {s : Shared} {H0 : Hp} {E0' : XK} {bc : BadCs}
theorem pe_told {params : Arguments} {body : Expr} {scope : Scope} {lpos p pos : Pos} {k : Nat} {t : XK → TE} (LK : LamK K mg base c0 Pt bc) (hr : Room (k + 2) (LXc P w K mg base f c0 A outer s H0 E0').A) (L : LamS (defScope s_law) scope) (hdef : defaultsOf params (LXc P w K mg base f c0 A outer s H0 E0').env = ([], []))
    (hbind : ∀ (q : Str) (cl : List (Str × Addr)) (pm cv ctv : Value), bindArgs (PySem.W.kla_fn "<lambda>" q params body scope cl pm cv ctv) ⟨[], []⟩ = pure [])
    (hbody : ∀ (A1 : Around) (outer1 : List Env) (s1 : Shared) (H : Hp) (E : XK) (f1 c' : Addr), Room k (A1.deeper (lamEnv (LXc P w K mg base f c0 A outer s H0 E0') scope s1.heap.objs.size f1 c')) → PE (lamCx (LXc P w K mg base f c0 A outer s H0 E0') A1 outer1 s1 H E scope f1 c') body (t E))
    (hg : Gl (LXc P w K mg base f c0 A outer s H0 E0') "_law_told" := by rfl) :
    PE (LXc P w K mg base f c0 A outer s H0 E0') (.Call (.Name "_law_told" p) [.Lambda params body scope lpos] [] pos) (tLam [(Pt, lamQ)] (TTold2 bc) t) := by
  obtain ⟨g, fd, F, hm⟩ := LK.told
  obtain ⟨oc, od, dV, kV, doc, pm, an, cdv, ct, osl, rfl, lk, hcd, _, _⟩ := id F.ex
  have hq : (LXc P w K mg base f c0 A outer s H0 E0').env.qual ++ "<lambda>" = lamQ := rfl
  exact pe_lamcall (X := LXc P w K mg base f c0 A outer s H0 E0') (T := [(Pt, lamQ)]) (Ng := tellN) hg hm F.kp lk hcd (F.bindsN (fun _ _ _ _ _ _ us hl => match us, hl with | [_], _ => rfl)) scTold rfl (.inl rfl) (told_gives2 LK.bad LK.isi LK.mve) LK.tab rfl (by rw [hq]; exact List.mem_singleton.mpr rfl) (fun p hp _ => by rw [List.mem_singleton.mp hp, hq]) hr L hdef hbind hbody
theorem pe_toldD {params : Arguments} {body : Expr} {scope : Scope} {lpos p pos p1 : Pos} {k j : Nat} {n : Int} {b : Str} {t : XK → TE} (LK : LamK K mg base c0 Pt bc) (hr : Room (k + 2) (LXc P w K mg base f c0 A outer s H0 E0').A) (L : LamD lawN b (defScope s_law) scope) (hdef : defaultsOf params (LXc P w K mg base f c0 A outer s H0 E0').env = ([eval (.Constant (.int n) j p1) (LXc P w K mg base f c0 A outer s H0 E0').env], []))
    (hbind : ∀ (q : Str) (cl : List (Str × Addr)) (t : Addr) (v pm cv ctv : Value), ∃ kk, bindArgs (PySem.W.klaD_fn "<lambda>" q params body scope cl (.ref t) pm cv ctv) ⟨[], []⟩ = seqItems? (.ref t) >>= kk ∧ kk (some #[v]) = pure [(b, v)])
    (hbody : ∀ (A1 : Around) (outer1 : List Env) (s1 : Shared) (H : Hp) (E : XK) (f1 c' : Addr), Room k (A1.deeper (lamEnv (LXc P w K mg base f c0 A outer s H0 E0') scope s1.heap.objs.size f1 c')) → PE (lamCx (LXc P w K mg base f c0 A outer s H0 E0') A1 outer1 s1 H E scope f1 c') body (t E))
    (hg : Gl (LXc P w K mg base f c0 A outer s H0 E0') "_law_told" := by rfl) :
    PE (LXc P w K mg base f c0 A outer s H0 E0') (.Call (.Name "_law_told" p) [.Lambda params body scope lpos] [] pos) (tLam [(Pt, lamQ)] (TTold2 bc) t) := by
  obtain ⟨g, fd, F, hm⟩ := LK.told
  obtain ⟨oc, od, dV, kV, doc, pm, an, cdv, ct, osl, rfl, lk, hcd, _, _⟩ := id F.ex
  have hq : (LXc P w K mg base f c0 A outer s H0 E0').env.qual ++ "<lambda>" = lamQ := rfl
  exact pe_lamcallD (X := LXc P w K mg base f c0 A outer s H0 E0') (T := [(Pt, lamQ)]) (Ng := tellN) hg hm F.kp lk hcd (F.bindsN (fun _ _ _ _ _ _ us hl => match us, hl with | [_], _ => rfl)) scTold rfl (.inl rfl) (told_gives2 LK.bad LK.isi LK.mve) LK.tab rfl (by rw [hq]; exact List.mem_singleton.mpr rfl) (fun p hp _ => by rw [List.mem_singleton.mp hp, hq]) hr L hdef hbind hbody
end
end Wr
namespace Wr
open PySem PySem.Spec PyProof.Rows L2
/-! ### deep data -/
mutual
theorem dp_same {K : PySem.W.Frag} {H H' : Hp} (s : Same H H') : ∀ {v : V} {d : PyData}, Dp K H v d → Dp K H' v d
  | _, _, .non => .non
  | _, _, .bl b => .bl b
  | _, _, .int i => .int i
  | _, _, .str x => .str x
  | _, _, .lst q a => .lst (s.seq q) (dpAll_same s a)
  | _, _, .tup q a => .tup (Same.tupq s q) (dpAll_same s a)
theorem dpAll_same {K : PySem.W.Frag} {H H' : Hp} (s : Same H H') : ∀ {vs : List V} {ds : List PyData}, DpAll K H vs ds → DpAll K H' vs ds
  | _, _, .nil => .nil
  | _, _, .cons a t => .cons (dp_same s a) (dpAll_same s t)
end
def rEqD2 (K : PySem.W.Frag) : R2 := fun x y H Q => ∃ d e, Dp K H x d ∧ Dp K H y e ∧ d.canLay0 = true ∧ e.canLay0 = true ∧ d.depth ≤ 190 ∧ Q (.bl (PyData.eqv d e)) H
theorem op_eqD2 {X : Cx} (hu : X.A.units + 200 < cLine) : OpR X (compareOp .Eq) (rEqD2 X.K) := by
  intro pins s σ H x y v u Q I rx ry h
  obtain ⟨d, e, hd, he, sd, se, hdp, q⟩ := h
  obtain ⟨as, r1⟩ := Dp.reads I d x v hd rx
  obtain ⟨bs, r2⟩ := Dp.reads I e y u he ry
  exact SeqAt.compareEq_reads r1 r2 sd se (by have := Nat.min_le_left d.depth e.depth; omega) ⟨.bl _, H, I, rfl, q⟩
theorem room200 {k : Nat} {A : Around} (r : Room k A) : A.units + 200 < cLine := by have := r.un; omega
/-- == and != of data without dicts -/
def rEqP (K : PySem.W.Frag) : R2 := fun x y H Q => ∃ d e, Dp K H x d ∧ Dp K H y e ∧ d.plain = true ∧ e.plain = true ∧ d.depth ≤ 190 ∧ Q (.bl (PyData.eqv d e)) H
theorem op_eqP {X : Cx} (hu : X.A.units + 200 < cLine) : OpR X (compareOp .Eq) (rEqP X.K) := by
  intro pins s σ H x y v u Q I rx ry h
  obtain ⟨d, e, hd, he, sd, se, hdp, q⟩ := h
  obtain ⟨as, r1⟩ := Dp.reads I d x v hd rx
  obtain ⟨bs, r2⟩ := Dp.reads I e y u he ry
  exact SeqAt.eq_plain r1 r2 sd se (by have := Nat.min_le_left d.depth e.depth; omega) ⟨.bl _, H, I, rfl, q⟩
def rNeP (K : PySem.W.Frag) : R2 := fun x y H Q => ∃ d e, Dp K H x d ∧ Dp K H y e ∧ d.plain = true ∧ e.plain = true ∧ d.depth ≤ 190 ∧ Q (.bl (!PyData.eqv d e)) H
theorem op_neP {X : Cx} (hu : X.A.units + 200 < cLine) : OpR X (compareOp .NotEq) (rNeP X.K) := by
  intro pins s σ H x y v u Q I rx ry h
  obtain ⟨d, e, hd, he, sd, se, hdp, q⟩ := h
  obtain ⟨as, r1⟩ := Dp.reads I d x v hd rx
  obtain ⟨bs, r2⟩ := Dp.reads I e y u he ry
  exact SeqAt.ne_plain r1 r2 sd se (by have := Nat.min_le_left d.depth e.depth; omega) ⟨.bl _, H, I, rfl, q⟩
end Wr
namespace Wr
open PySem PySem.Spec PyProof.Rows L2 LamX
abbrev T9 (Pt : Addr) : List (Addr × Str) := [(Pt, lamQ)]
def GoodT (g : Str) : Prop := ∃ e : Ex, g = e.text ∧ Good [] e ∧ e.deep ≤ 41 ∧ e.size ≤ 200
/-- what is due of a text -/
def Due (x : Str) (u : V) (H : Hp) : Prop := (∃ i p, readF [] none (Txt.split x " ") 0 = .inl i ∧ u = .ref p ∧ H p = some (.tup [.str "text", .int (i : Nat)])) ∨
  (∃ e i why p, readF [] none (Txt.split x " ") 0 = .inr e ∧ e.od.first 0 [] 0 = .inl (i, why) ∧ u = .ref p ∧ H p = some (.tup [.str "program", .int (i : Nat), .str why])) ∨
  (∃ e m, readF [] none (Txt.split x " ") 0 = .inr e ∧ e.od.first 0 [] 0 = .inr m ∧ e.deep ≤ 41 ∧ AtE H u e)
theorem Due.tups {x : Str} {u : V} {H H' : Hp} (h : Due x u H) (s : ∀ t xs, H t = some (.tup xs) → H' t = some (.tup xs)) : Due x u H' := by
  rcases h with ⟨i, p, h1, h2, h3⟩ | ⟨e, i, why, p, h1, h2, h3, h4⟩ | ⟨e, m, h1, h2, h3, h4⟩
  · exact .inl ⟨i, p, h1, h2, s _ _ h3⟩
  · exact .inr (.inl ⟨e, i, why, p, h1, h2, h3, s _ _ h4⟩)
  · exact .inr (.inr ⟨e, m, h1, h2, h3, h4.tups s⟩)
theorem ExtN.tups {H H' : Hp} (e : ExtN H H') : ∀ t xs, H t = some (.tup xs) → H' t = some (.tup xs) := fun t xs h => e t _ h (fun ps z => by cases z)
theorem Same.tups {H H' : Hp} (s : Same H H') : ∀ t xs, H t = some (.tup xs) → H' t = some (.tup xs) := fun t xs h => s t _ h
theorem two_dp {K : PySem.W.Frag} {H : Hp} {p : Addr} {x : Str} {n : Int} (h : H p = some (.tup [.str x, .int n])) : Dp K H (.ref p) (.tuple [.str x, .int n]) := .tup (SqT.of h) (.cons (.str _) (.cons (.int _) .nil))
theorem two_sm {x : Str} {n : Int} : Sm 100 (.tuple [.str x, .int n]) := .tup (by simp) fun d hd => by
  simp only [List.mem_cons, List.not_mem_nil, or_false] at hd
  rcases hd with rfl | rfl
  · exact .str _
  · exact .int _
theorem three_dp {K : PySem.W.Frag} {H : Hp} {p : Addr} {x y : Str} {n : Int} (h : H p = some (.tup [.str x, .int n, .str y])) : Dp K H (.ref p) (.tuple [.str x, .int n, .str y]) := .tup (SqT.of h) (.cons (.str _) (.cons (.int _) (.cons (.str _) .nil)))
theorem three_sm {x y : Str} {n : Int} : Sm 100 (.tuple [.str x, .int n, .str y]) := .tup (by simp) fun d hd => by
  simp only [List.mem_cons, List.not_mem_nil, or_false] at hd
  rcases hd with rfl | rfl | rfl
  · exact .str _
  · exact .int _
  · exact .str _
theorem lk_at {why : Str} {i : Int} : ([("why", .str why), ("at", .int i)] : List (Str × V)).lookup ("at" : Str) = some (.int i) ∧ ([("why", .str why), ("at", .int i)] : List (Str × V)).lookup ("why" : Str) = some (.str why) := ⟨by kernel_rfl, by kernel_rfl⟩
theorem lk_place {i : Int} : ([("place", .int i)] : List (Str × V)).lookup ("place" : Str) = some (.int i) := by kernel_rfl
theorem dat_sm : ∀ {e : Ex} {n : Nat}, e.deep ≤ n → Sm (n + 1) e.dat := by
  intro e
  induction e with
  | num k =>
    intro n h
    have h : 1 ≤ n := h
    obtain ⟨m, rfl⟩ : ∃ m, n = m + 1 := ⟨n - 1, by omega⟩
    exact .tup (by show 2 ≤ 1000; decide) fun d hd => by
      rcases List.mem_cons.mp hd with rfl | hd
      · exact .str _
      · rw [List.mem_singleton.mp hd]; exact .int _
  | name k =>
    intro n h
    have h : 1 ≤ n := h
    obtain ⟨m, rfl⟩ : ∃ m, n = m + 1 := ⟨n - 1, by omega⟩
    exact .tup (by show 2 ≤ 1000; decide) fun d hd => by
      rcases List.mem_cons.mp hd with rfl | hd
      · exact .str _
      · rw [List.mem_singleton.mp hd]; exact .str _
  | fault =>
    intro n h
    have h : 1 ≤ n := h
    obtain ⟨m, rfl⟩ : ∃ m, n = m + 1 := ⟨n - 1, by omega⟩
    exact .tup (by show 1 ≤ 1000; decide) fun d hd => by
      rw [List.mem_singleton.mp hd]; exact .str _
  | one w a ia =>
    intro n h
    have h : 1 + a.deep ≤ n := h
    obtain ⟨m, rfl⟩ : ∃ m, n = m + 1 := ⟨n - 1, by omega⟩
    exact .tup (by show 2 ≤ 1000; decide) fun d hd => by
      rcases List.mem_cons.mp hd with rfl | hd
      · exact .str _
      · rw [List.mem_singleton.mp hd]; exact ia (by omega)
  | two w a b ia ib =>
    intro n h
    simp only [Ex.deep] at h
    obtain ⟨m, rfl⟩ : ∃ m, n = m + 1 := ⟨n - 1, by omega⟩
    exact .tup (by show 3 ≤ 1000; decide) fun d hd => by
      rcases List.mem_cons.mp hd with rfl | hd
      · exact .str _
      rcases List.mem_cons.mp hd with rfl | hd
      · exact ia (by omega)
      · rw [List.mem_singleton.mp hd]; exact ib (by omega)
  | ite a b c ia ib ic =>
    intro n h
    simp only [Ex.deep] at h
    obtain ⟨m, rfl⟩ : ∃ m, n = m + 1 := ⟨n - 1, by omega⟩
    exact .tup (by show 4 ≤ 1000; decide) fun d hd => by
      rcases List.mem_cons.mp hd with rfl | hd
      · exact .str _
      rcases List.mem_cons.mp hd with rfl | hd
      · exact ia (by omega)
      rcases List.mem_cons.mp hd with rfl | hd
      · exact ib (by omega)
      · rw [List.mem_singleton.mp hd]; exact ic (by omega)
  | lt x a b ia ib =>
    intro n h
    simp only [Ex.deep] at h
    obtain ⟨m, rfl⟩ : ∃ m, n = m + 1 := ⟨n - 1, by omega⟩
    exact .tup (by show 4 ≤ 1000; decide) fun d hd => by
      rcases List.mem_cons.mp hd with rfl | hd
      · exact .str _
      rcases List.mem_cons.mp hd with rfl | hd
      · exact .str _
      rcases List.mem_cons.mp hd with rfl | hd
      · exact ia (by omega)
      · rw [List.mem_singleton.mp hd]; exact ib (by omega)
  | fn x a ia =>
    intro n h
    simp only [Ex.deep] at h
    obtain ⟨m, rfl⟩ : ∃ m, n = m + 1 := ⟨n - 1, by omega⟩
    exact .tup (by show 3 ≤ 1000; decide) fun d hd => by
      rcases List.mem_cons.mp hd with rfl | hd
      · exact .str _
      rcases List.mem_cons.mp hd with rfl | hd
      · exact .str _
      · rw [List.mem_singleton.mp hd]; exact ia (by omega)
  | ct a x k b ia ib =>
    intro n h
    simp only [Ex.deep] at h
    obtain ⟨m, rfl⟩ : ∃ m, n = m + 1 := ⟨n - 1, by omega⟩
    exact .tup (by show 5 ≤ 1000; decide) fun d hd => by
      rcases List.mem_cons.mp hd with rfl | hd
      · exact .str _
      rcases List.mem_cons.mp hd with rfl | hd
      · exact ia (by omega)
      rcases List.mem_cons.mp hd with rfl | hd
      · exact .str _
      rcases List.mem_cons.mp hd with rfl | hd
      · exact .str _
      · rw [List.mem_singleton.mp hd]; exact ib (by omega)

structure LawK9 (P : Program) (w : World) (K : PySem.W.Frag) (mg : Str → Option Value) (base : Heap) (c0 Pt : Addr) (bc : BadCs) : Prop where
  lam : LamK K mg base c0 Pt bc
  rng : mg "range" = none
  len : mg "len" = none
  next : Use P w K mg base "_law_next" ["_law_dice_here", "_law_many"] 1 (spNext K)
  any : Use P w K mg base "_law_any" ["_law_d"] 227 (spProgram K)
  changed : Use P w K mg base "_law_changed" ["_law_d", "_law_text"] 2 (spChanged K)
  spot : Use P w K mg base "_law_spot" ["_law_words"] 2 spSpot
  built : UseD P w K mg base "_law_built" ["_law_words", "_law_at"] 377 (spBuilt 377)
  written : Use P w K mg base "written" ["program"] 89 spWritten
  read : Use P w K mg base "read" ["text"] 89 spRead
  writtenX : UseX P w K mg base "written" ["program"] 172 (spWritten7 bc.pg)
  readX : UseX P w K mg base "read" ["text"] 172 (spRead7 bc.tx bc.pg)
  like : Use P w K mg base "_law_like" ["_law_found", "_law_due"] 100 (spLike K 100)
def LawInv9 (K : PySem.W.Frag) (Pt : Addr) : Addr → Addr → List Int → L2.St → Hp → Prop := fun d a ns σ H => ∃ b2 b3 b4 b5 b6 b7 b8 b9 b10 b11 : Option V, σ = [some (.ref a), some (.ref d), b2, b3, b4, b5, b6, b7, b8, b9, b10, b11] ∧ Dice K H [d] d a ns ∧ Tabs (T9 Pt) H
def FactE9 (K : PySem.W.Frag) (Pt : Addr) : Addr → Addr → List Int → L2.St → Hp → Prop := fun d a ns σ H => ∃ (g : Str) (b2 b4 b5 b6 b7 b8 b9 b10 b11 : Option V), σ = [some (.ref a), some (.ref d), b2, some (.str g), b4, b5, b6, b7, b8, b9, b10, b11] ∧ GoodT g ∧ Dice K H [d] d a ns ∧ Tabs (T9 Pt) H
def FactD9 (K : PySem.W.Frag) (Pt : Addr) : Addr → Addr → List Int → L2.St → Hp → Prop := fun d a ns σ H => ∃ (g x : Str) (b2 b4 b5 b6 b7 b8 b9 b10 : Option V), σ = [some (.ref a), some (.ref d), b2, some (.str g), b4, b5, b6, b7, b8, b9, b10, some (.str x)] ∧ GoodT g ∧ x.length ≤ 400000 ∧ Dice K H [d] d a ns ∧ Tabs (T9 Pt) H
def FactA9 (K : PySem.W.Frag) (Pt : Addr) : Addr → Addr → List Int → L2.St → Hp → Prop := fun d a ns σ H => ∃ (g x : Str) (u : V) (b2 b4 b5 b6 b7 b9 b10 : Option V), σ = [some (.ref a), some (.ref d), b2, some (.str g), b4, b5, b6, b7, some u, b9, b10, some (.str x)] ∧ GoodT g ∧ x.length ≤ 1500 ∧ Due x u H ∧ Dice K H [d] d a ns ∧ Tabs (T9 Pt) H
def tEnd9 (F G : Addr → Addr → List Int → L2.St → Hp → Prop) : TS := fun D σ H => ∃ (d a : Addr) (ns : List Int), F d a ns σ H ∧ ∀ σ' H', G d a ns σ' H' → D.nx σ' H'
def loopB : List Stmt := match defBody s_law with
  | [_, .For _ _ b _ _, _] => b
  | _ => []
def suite4 : List Stmt := match loopB.drop 4 with
  | .If _ b _ _ :: _ => b
  | _ => []
section
variable {P : Program} {w : World} {K : PySem.W.Frag} {mg : Str → Option Value} {base : Heap} {f c0 Pt : Addr} {A : Around} {outer : List Env} {s : Shared} {H0 : Hp} {E0' : XK} {bc : BadCs}
theorem split_few {x : Str} (h : x.length ≤ 1500) : (Txt.split x " ").length ≤ 2900 := by
  have := wlen_split x
  unfold wlen at this
  omega
theorem segL (W : LawK9 P w K mg base c0 Pt bc) (hr : Room 228 (LXc P w K mg base f c0 A outer s H0 E0').A) : PSs (LXc P w K mg base f c0 A outer s H0 E0') (suite4.drop 4) (tEnd9 (FactA9 K Pt) (FactE9 K Pt)) := by
  have hr174 : Room (172 + 2) (LXc P w K mg base f c0 A outer s H0 E0').A := hr.mono (by omega)
  have hr100 : Room 100 (LXc P w K mg base f c0 A outer s H0 E0').A := hr.mono (by omega)
  refine ⟨fun pins s1 σ1 H1 D1 I1 h1 => pss_by I1 ?_⟩
  obtain ⟨d, a, ns, ⟨g, x, u, b2, b4, b5, b6, b7, b9, b10, rfl, hg, hx, hdue, hD, hT⟩, fin⟩ := h1
  refine ⟨_, pss_one (ps_for PassesOwn.never rfl (pi_range1 (by rfl) W.rng (pa_cons pe_int pa_nil)) (pg_name (i := 9) scLaw19.nd rfl (Or.inl rfl))
    (pss_one (ps_if (pt_not (pt_val (pe_use W.like hr100 (pa_cons (pe_toldD (n := 0) (b := "_law_a") W.lam hr174 (lamD_by (by decide +kernel)) rfl (fun _ _ _ _ _ _ _ => ⟨_, rfl, rfl⟩) (fun A1 outer1 s1 H E f1 c' hr' => pe_useX (E := E) W.readX hr' (takes_of rfl rfl rfl rfl) (fun _ _ _ _ h => h) (pa_cons (pv 11) pa_nil)))
      (pa_cons (pv 8) pa_nil))))) (pss_one (ps_ret pe_bl)) pss_nil))), ?_⟩
  refine ⟨2, rfl, by decide, by decide, ?_⟩
  refine for_range (fun i σ H2 => ∃ b9, σ = [some (.ref a), some (.ref d), b2, some (.str g), b4, b5, b6, b7, some u, b9, b10, some (.str x)] ∧ Due x u H2 ∧ Dice K H2 [d] d a ns ∧ Tabs (T9 Pt) H2) ⟨b9, rfl, hdue, hD, hT⟩ ?_ ?_
  · rintro i σ H2 hi ⟨b9, rfl, hdue2, hD2, hT2⟩
    refine ⟨hT2, fun H3 eN tb => ?_⟩
    have due3 := hdue2.tups (ExtN.tups eN)
    have D3 := hD2.ext eN
    have stp : ∀ {H4 : Hp}, Same H3 H4 → Dice K H4 [d] d a ns ∧ Tabs (T9 Pt) H4 ∧ Due x u H4 := fun s4 => ⟨D3.step (D' := []) (Stp.same s4) (by simp) (by simp), Tabs.same tb s4, due3.tups (Same.tups s4)⟩
    refine ⟨_, rfl, x, rfl, by omega, split_few hx, fun i2 hi2 d5 H5 s5 h5 => ?_, fun e he => ⟨fun i2 why hw d5 H5 s5 h5 => ?_, fun m hm v5 H5 s5 a5 => ?_⟩⟩
    · refine ⟨.tx (i2 : Nat), ⟨rfl, d5, _, rfl, h5, lk_place⟩, fun p H6 s6 hp => ?_⟩
      have hp : H6 p = some (.tup [.str "text", .int (i2 : Nat)]) := hp
      obtain ⟨D6, T6, due6⟩ := stp (s5.trans s6)
      refine ⟨_, rfl, .ref p, u, .tuple [.str "text", .int (i2 : Nat)], rfl, two_dp hp, ?_, two_sm, true, rfl, iteF ⟨_, rfl, due6, D6, T6⟩⟩
      rcases due6 with ⟨i, q, h1, rfl, h3⟩ | ⟨e, i, why, q, h1, _⟩ | ⟨e, m, h1, _⟩
      · rw [hi2] at h1; cases h1; exact two_dp h3
      · rw [hi2] at h1; cases h1
      · rw [hi2] at h1; cases h1
    · have s5' : Same H3 H5 := Stp.nil s5
      refine ⟨.pg (i2 : Nat) why, ⟨rfl, d5, _, rfl, h5, lk_at.1, lk_at.2⟩, fun p H6 s6 hp => ?_⟩
      have hp : H6 p = some (.tup [.str "program", .int (i2 : Nat), .str why]) := hp
      obtain ⟨D6, T6, due6⟩ := stp (s5'.trans s6)
      refine ⟨_, rfl, .ref p, u, .tuple [.str "program", .int (i2 : Nat), .str why], rfl, three_dp hp, ?_, three_sm, true, rfl, iteF ⟨_, rfl, due6, D6, T6⟩⟩
      rcases due6 with ⟨i, q, h1, _⟩ | ⟨e', i, why', q, h1, h2, rfl, h4⟩ | ⟨e', m, h1, h2, _⟩
      · rw [he] at h1; cases h1
      · rw [he] at h1; cases h1; rw [hw] at h2; cases h2; exact three_dp h4
      · rw [he] at h1; cases h1; rw [hw] at h2; cases h2
    · obtain ⟨D6, T6, due6⟩ := stp s5
      refine ⟨_, rfl, v5, u, e.dat, rfl, a5.dp, ?_, ?_, true, rfl, iteF ⟨_, rfl, due6, D6, T6⟩⟩
      · rcases due6 with ⟨i, q, h1, _⟩ | ⟨e', i, why', q, h1, h2, _⟩ | ⟨e', m', h1, h2, h3, h4⟩
        · rw [he] at h1; cases h1
        · rw [he] at h1; cases h1; rw [hm] at h2; cases h2
        · rw [he] at h1; cases h1; exact h4.dp
      · rcases due6 with ⟨i, q, h1, _⟩ | ⟨e', i, why', q, h1, h2, _⟩ | ⟨e', m', h1, h2, h3, h4⟩
        · rw [he] at h1; cases h1
        · rw [he] at h1; cases h1; rw [hm] at h2; cases h2
        · rw [he] at h1; cases h1; exact dat_sm (by omega)
  · rintro σ H2 ⟨b9, rfl, hdue2, hD2, hT2⟩
    exact fin _ _ ⟨g, _, _, _, _, _, _, _, _, _, rfl, hg, hD2, hT2⟩
end
end Wr
namespace Wr
open PySem PySem.Spec PyProof.Rows L2 LamX
theorem split_nil : Txt.split "" " " = ([""] : List Str) ∧ readF [] none ([""] : List Str) 0 = .inl 0 := by
  have h : ¬ Fit7 [] "" := by decide +kernel
  refine ⟨by decide +kernel, ?_⟩
  show (if Fit7 [] "" then _ else _) = _
  rw [if_neg h]
theorem spot_due {x : Str} {ws : List Str} (h : (x ≠ "" ∧ ws = Txt.split x " ") ∨ (x = "" ∧ ws = [])) : (∃ i, readF [] none (Txt.split x " ") 0 = .inl i ∧ spotF [101] ws 0 = some i) ∨ (∃ e, readF [] none (Txt.split x " ") 0 = .inr e ∧ spotF [101] ws 0 = none ∧ ws = Txt.split x " ") := by
  rcases h with ⟨_, h⟩ | ⟨h, hw⟩
  · have e := spot_read (Txt.split x " ") [] none 0 (fun _ => WtOk.nil)
    have e0 : remW [] none = [101] := rfl
    rw [e0] at e
    rw [h]
    cases hr : readF [] none (Txt.split x " ") 0 with
    | inl i => rw [hr] at e; exact .inl ⟨i, rfl, e⟩
    | inr a => rw [hr] at e; exact .inr ⟨a, rfl, e, rfl⟩
  · obtain ⟨h1, h2⟩ := split_nil
    rw [h, hw, h1]
    exact .inl ⟨0, h2, rfl⟩
theorem read_of {x : Str} {e : Ex} (h : readF [] none (Txt.split x " ") 0 = .inr e) : e.wds = Txt.split x " " ∧ e.Sh ∧ e.text = x ∧ 4 * e.deep ≤ x.length + 3 := by
  obtain ⟨h1, h2⟩ := read_wds (Txt.split x " ") [] none 0 e (fun _ => ⟨WtOk.nil, (fun p hp => nomatch hp)⟩) (fun a z => nomatch z) h
  have h1 : e.wds = Txt.split x " " := h1
  refine ⟨h1, h2, ?_, ?_⟩
  · unfold Ex.text
    rw [h1, TL.join_eq]
    exact StrLaws.join_split x " "
  · have := deep_wlen h2
    have h3 := wlen_split x
    rw [h1] at this
    omega
def lenB : Nat → Nat
  | 0 => 10000
  | i + 1 => 3 * lenB i + 30
section
variable {P : Program} {w : World} {K : PySem.W.Frag} {mg : Str → Option Value} {base : Heap} {f c0 Pt : Addr} {A : Around} {outer : List Env} {s : Shared} {H0 : Hp} {E0' : XK} {bc : BadCs}
theorem segE (W : LawK9 P w K mg base c0 Pt bc) (hr : Room 228 (LXc P w K mg base f c0 A outer s H0 E0').A) : PSs (LXc P w K mg base f c0 A outer s H0 E0') (loopB.drop 5) (tEnd9 (FactE9 K Pt) (LawInv9 K Pt)) := by
  have hr89 : Room 89 (LXc P w K mg base f c0 A outer s H0 E0').A := hr.mono (by omega)
  have hr100 : Room 100 (LXc P w K mg base f c0 A outer s H0 E0').A := hr.mono (by omega)
  refine ⟨fun pins s1 σ1 H1 D1 I1 h1 => pss_by I1 ?_⟩
  obtain ⟨d, a, ns, ⟨g, b2, b4, b5, b6, b7, b8, b9, b10, b11, rfl, ⟨e, rfl, hg, hd, hz⟩, hD, hT⟩, fin⟩ := h1
  refine ⟨_, pss_one (ps_if (pt_not (pt_val (pe_use W.like hr100 (pa_cons (pe_use W.written hr89 (pa_cons (pe_use W.read hr89 (pa_cons (pv 3) pa_nil)) pa_nil)) (pa_cons (pv 3) pa_nil))))) (pss_one (ps_ret pe_bl)) pss_nil), ?_⟩
  refine ⟨_, rfl, e, rfl, hg, hd, hz, fun v H2 s2 av => ⟨v, e, rfl, av, hg, hd, hz, fun H3 s3 => ?_⟩⟩
  refine ⟨_, rfl, .str e.text, .str e.text, .str e.text, rfl, .str _, .str _, .str _, true, rfl, iteF ?_⟩
  exact fin _ _ ⟨_, _, _, _, _, _, _, _, _, _, rfl, hD.step (D' := []) (Stp.same (s2.trans s3)) (by simp) (by simp), Tabs.same hT (s2.trans s3)⟩
def FactW9 (K : PySem.W.Frag) (Pt : Addr) : Addr → Addr → List Int → L2.St → Hp → Prop := fun d a ns σ H => ∃ (g x : Str) (ws : List Str) (wl : Addr) (b2 b4 b5 b7 b8 b9 b10 : Option V), σ = [some (.ref a), some (.ref d), b2, some (.str g), b4, b5, some (.ref wl), b7, b8, b9, b10, some (.str x)] ∧ GoodT g ∧ x.length ≤ 1500 ∧
  ((x ≠ "" ∧ ws = Txt.split x " ") ∨ (x = "" ∧ ws = [])) ∧ H wl = some (.lst (ws.map V.str)) ∧ Dice K H [d] d a ns ∧ Tabs (T9 Pt) H
theorem segW (W : LawK9 P w K mg base c0 Pt bc) (hr : Room 228 (LXc P w K mg base f c0 A outer s H0 E0').A) : PSs (LXc P w K mg base f c0 A outer s H0 E0') (suite4.drop 1) (tEnd9 (FactW9 K Pt) (FactE9 K Pt)) := by
  have hr2 : Room 2 (LXc P w K mg base f c0 A outer s H0 E0').A := hr.mono (by omega)
  have hr174 : Room (172 + 2) (LXc P w K mg base f c0 A outer s H0 E0').A := hr.mono (by omega)
  have hrD : RoomD 377 (LXc P w K mg base f c0 A outer s H0 E0').A := RoomD.of hr (by omega) (by omega)
  refine ⟨fun pins s1 σ1 H1 D1 I1 h1 => pss_by I1 ?_⟩
  obtain ⟨d, a, ns, ⟨g, x, ws, wl, b2, b4, b5, b7, b8, b9, b10, rfl, hg, hx, hws, hwl, hD, hT⟩, fin⟩ := h1
  refine ⟨_, pss_cons (ps_set (i := 7) scLaw19.nd rfl (Or.inl rfl) (pe_use W.spot hr2 (pa_cons (pv 6) pa_nil)))
    (pss_cons (ps_set (i := 8) scLaw19.nd rfl (Or.inl rfl) (pe_tup (pa_cons pe_str (pa_cons (pv 7) pa_nil))))
    (pss_cons (ps_if (pt_cmpR op_isN (pv 7) pe_non (nomark _))
      (pss_cons (ps_set (i := 10) scLaw19.nd rfl (Or.inr rfl) (pe_ix ix_tup (pe_useD W.built hrD (pa_cons (pv 6) (pa_cons pe_int pa_nil))) pe_int (fun _ _ => rfl)))
      (pss_cons (ps_set (i := 8) scLaw19.nd rfl (Or.inl rfl) (pe_told W.lam hr174 (lamS_by (by decide +kernel)) rfl (fun _ _ _ _ _ => rfl) (fun A1 outer1 s1 H E f1 c' hr' => pe_useX (E := E) W.writtenX hr' (takes_of rfl rfl rfl rfl) (fun _ _ _ _ h => h) (pa_cons (pv 10) pa_nil))))
      (pss_one (ps_set (i := 8) scLaw19.nd rfl (Or.inl rfl) (pe_ifExp (pt_cmpR (op_eqP (room200 hr)) (pv 8) (pv 11) (nomark _)) (pv 10) (pv 8)))))) pss_nil)
    (segL W hr))), ?_⟩
  have big : (500000 : Nat) < sizeLine := by decide
  have hwlen : ∀ z ∈ ws, z.length ≤ 20000 := fun z hz => by
    rcases hws with ⟨_, e⟩ | ⟨_, e⟩
    · rw [e] at hz; have := wlen_split' x z hz; omega
    · rw [e] at hz; cases hz
  have hwn : ws.length ≤ 20000 := by
    rcases hws with ⟨_, e⟩ | ⟨_, e⟩
    · rw [e]; have := split_few hx; omega
    · rw [e]; exact Nat.zero_le _
  have two : 2 ≤ sizeLine := by decide
  refine ⟨_, rfl, wl, ws, rfl, hwl, hwlen, hwn, fun H2 s2 => ?_⟩
  rcases spot_due hws with ⟨i, hr1, hs1⟩ | ⟨e, hr1, hs1, hw1⟩
  · rw [hs1]
    refine ⟨_, rfl, two, fun p np => ?_⟩
    refine ⟨_, rfl, rfl, _, rfl, iteF ?_⟩
    have s3 := s2.trans (Same.new np (.tup [.str "text", .int (i : Nat)]))
    exact ⟨d, a, ns, ⟨g, x, .ref p, _, _, _, _, _, _, _, rfl, hg, hx, .inl ⟨i, p, hr1, rfl, upd_same⟩, hD.step (D' := []) (Stp.same s3) (by simp) (by simp), Tabs.same hT s3⟩, fun σ' H' h => fin σ' H' h⟩
  · rw [hs1]
    obtain ⟨hwds, hS, htx, hdp⟩ := read_of hr1
    refine ⟨_, rfl, two, fun p np => ?_⟩
    refine ⟨_, rfl, rfl, _, rfl, iteT ?_⟩
    have s3 := s2.trans (Same.new np (.tup [.str "text", .non]))
    refine ⟨_, rfl, wl, ws, [], 0, e, rfl, s3 _ _ hwl, hS, by omega, by rw [List.drop_zero, List.append_nil, hwds]; exact hw1, hwlen, fun v p2 H4 s4 av hp2 => ?_⟩
    have s5 := s3.trans s4
    refine ⟨p2, _, _, v, rfl, rfl, SqT.of hp2, atI_nat (j := 0) rfl, ?_⟩
    refine ⟨Tabs.same hT s5, fun H5 eN tb => ?_⟩
    have D5 := (hD.step (D' := []) (Stp.same s5) (by simp) (by simp)).ext eN
    have av5 := av.tups (ExtN.tups eN)
    refine ⟨_, rfl, v, e, rfl, av5, hS, fun i why hw d5 H6 s6 h6 => ?_, fun m hm H6 s6 => ?_⟩
    · have s6' : Same H5 H6 := Stp.nil s6
      refine ⟨.pg (i : Nat) why, ⟨rfl, d5, _, rfl, h6, lk_at.1, lk_at.2⟩, fun p3 H7 s7 hp3 => ?_⟩
      have hp3 : H7 p3 = some (.tup [.str "program", .int (i : Nat), .str why]) := hp3
      have s8 := s6'.trans s7
      refine ⟨_, rfl, _, rfl, _, _, three_dp hp3, .str x, by simp [PyData.plain, PyData.plainAll], by simp [PyData.plain], by simp [PyData.depth, PyData.depthAll], _, rfl, ?_⟩
      have ee : PyData.eqv (.tuple [.str "program", .int (i : Nat), .str why]) (.str x) = false := by simp [PyData.eqv]
      rw [ee]
      refine iteF ⟨_, rfl, ?_⟩
      exact ⟨d, a, ns, ⟨g, x, .ref p3, _, _, _, _, _, _, _, rfl, hg, hx, .inr (.inl ⟨e, i, why, p3, hr1, hw, rfl, hp3⟩), D5.step (D' := []) (Stp.same s8) (by simp) (by simp), Tabs.same tb s8⟩, fun σ' H' h => fin σ' H' h⟩
    · obtain ⟨hg2, hd2, hz2⟩ := sh_good hS av5 hm
      rw [htx]
      refine ⟨_, rfl, _, rfl, _, _, .str x, .str x, by simp [PyData.plain], by simp [PyData.plain], by simp [PyData.depth], _, rfl, ?_⟩
      have ee : PyData.eqv (.str x) (.str x) = true := by simp [PyData.eqv]
      rw [ee]
      refine iteT ⟨_, rfl, ?_⟩
      exact ⟨d, a, ns, ⟨g, x, v, _, _, _, _, _, _, _, rfl, hg, hx, .inr (.inr ⟨e, m, hr1, hm, hd2, av5.tups (Same.tups s6)⟩), D5.step (D' := []) (Stp.same s6) (by simp) (by simp), Tabs.same tb s6⟩, fun σ' H' h => fin σ' H' h⟩
theorem segD (W : LawK9 P w K mg base c0 Pt bc) (hr : Room 228 (LXc P w K mg base f c0 A outer s H0 E0').A) : PSs (LXc P w K mg base f c0 A outer s H0 E0') (loopB.drop 4) (tEnd9 (FactD9 K Pt) (LawInv9 K Pt)) := by
  refine ⟨fun pins s1 σ1 H1 D1 I1 h1 => pss_by I1 ?_⟩
  obtain ⟨d, a, ns, ⟨g, x, b2, b4, b5, b6, b7, b8, b9, b10, rfl, hg, hx, hD, hT⟩, fin⟩ := h1
  refine ⟨_, pss_cons (ps_if (pt_cmpR op_le (pe_callB call_len_str (by rfl) W.len PySem.boot_len (pa_cons (pv 11) pa_nil)) pe_int (nomark _))
    (pss_cons (ps_set (i := 6) scLaw19.nd rfl (Or.inl rfl) (pe_ifExp (pt_cmpR op_ne (pv 11) pe_str (nomark _)) (pe_split (pv 11) pe_str) (pe_lst pa_nil)))
    (segW W hr)) pss_nil) (segE W hr), ?_⟩
  have big : (500000 : Nat) < sizeLine := by decide
  refine ⟨_, rfl, x, rfl, by omega, _, _, rfl, rfl, _, rfl, ?_⟩
  by_cases hx2 : x.length ≤ 1500
  rotate_left
  · refine ite2 (fun h => absurd (of_decide_eq_true h) (by omega)) (fun _ => ?_)
    exact ⟨d, a, ns, ⟨g, _, _, _, _, _, _, _, _, _, rfl, hg, hD, hT⟩, fun σ' H' h => fin σ' H' h⟩
  refine ite2 (fun _ => ?_) (fun h => absurd (decide_eq_true (by omega)) h)
  refine ⟨_, rfl, rfl, _, rfl, ?_⟩
  by_cases h0 : x = ""
  · rw [decide_eq_true (congrArg V.str h0)]
    refine iteF ⟨Nat.zero_le _, fun wl nwl => ?_⟩
    have s2 := Same.new nwl (.lst [])
    exact ⟨d, a, ns, ⟨g, x, [], wl, _, _, _, _, _, _, _, rfl, hg, hx2, .inr ⟨h0, rfl⟩, upd_same, hD.step (D' := []) (Stp.same s2) (by simp) (by simp), Tabs.same hT s2⟩, fun σ' H' h => ⟨d, a, ns, h, fun σ' H' h => fin σ' H' h⟩⟩
  · rw [decide_eq_false (fun z => h0 (V.str.inj z))]
    refine iteT ⟨_, rfl, ⟨_, rfl⟩, x, " ", rfl, rfl, by decide +kernel, by omega, fun wl nwl => ?_⟩
    have s2 := Same.new nwl (.lst ((Txt.split x " ").map V.str))
    exact ⟨d, a, ns, ⟨g, x, Txt.split x " ", wl, _, _, _, _, _, _, _, rfl, hg, hx2, .inl ⟨h0, rfl⟩, upd_same, hD.step (D' := []) (Stp.same s2) (by simp) (by simp), Tabs.same hT s2⟩, fun σ' H' h => ⟨d, a, ns, h, fun σ' H' h => fin σ' H' h⟩⟩
end
end Wr
namespace Wr
open PySem PySem.Spec PyProof.Rows L2 LamX
section
variable {P : Program} {w : World} {K : PySem.W.Frag} {mg : Str → Option Value} {base : Heap} {f c0 Pt : Addr} {A : Around} {outer : List Env} {s : Shared} {H0 : Hp} {E0' : XK} {bc : BadCs}
theorem add_len (u v : Str) : (u ++ v).length = u.length + v.length := Str.length_append ..
theorem segC (W : LawK9 P w K mg base c0 Pt bc) (hr : Room 228 (LXc P w K mg base f c0 A outer s H0 E0').A) : PSs (LXc P w K mg base f c0 A outer s H0 E0') (loopB.drop 3) (tEnd9 (FactD9 K Pt) (LawInv9 K Pt)) := by
  have hr1 : Room 1 (LXc P w K mg base f c0 A outer s H0 E0').A := hr.mono (by omega)
  refine ⟨fun pins s1 σ1 H1 D1 I1 h1 => pss_by I1 ?_⟩
  obtain ⟨d, a, ns, ⟨g, x, b2, b4, b5, b6, b7, b8, b9, b10, rfl, hg, hx, hD, hT⟩, fin⟩ := h1
  refine ⟨_, pss_cons (ps_if (pt_cmpR op_eq (pe_use W.next hr1 (pa_cons (pv 1) (pa_cons pe_int pa_nil))) pe_int (nomark _))
    (pss_cons (ps_set (i := 5) scLaw19.nd rfl (Or.inl rfl) (pe_lst (pa_cons (pe_op op_add_str (pe_op op_mul_str pe_str (pe_op op_add pe_int (pe_use W.next hr1 (pa_cons (pv 1) (pa_cons pe_int pa_nil))))) pe_str) (pa_cons (pe_op op_add_str (pe_op op_add_str (pe_op op_mul_str pe_str pe_int) (pe_op op_mul_str pe_str pe_int)) pe_str) (pa_cons (pe_op op_add_str (pe_op op_mul_str pe_str pe_int) pe_str) pa_nil)))))
    (pss_one (ps_set (i := 11) scLaw19.nd rfl (Or.inr rfl) (pe_op op_add_str (pe_ix ix_list (pv 5) (pe_use W.next hr1 (pa_cons (pv 1) (pa_cons pe_int pa_nil))) (fun _ _ => rfl)) (pe_op op_mul_str pe_str (pe_use W.next hr1 (pa_cons (pv 1) (pa_cons pe_int pa_nil)))))))) pss_nil) (segD W hr), ?_⟩
  have big : (500000 : Nat) < sizeLine := by decide
  obtain ⟨l1, l2, l3, l4, l5, l6, l7⟩ : ("say " : Str).length = 4 ∧ ("1" : Str).length = 1 ∧ ("add " : Str).length = 4 ∧ ("1 " : Str).length = 2 ∧ ("add 1 " : Str).length = 6 ∧ ("2" : Str).length = 1 ∧ (" 1" : Str).length = 2 := by decide +kernel
  refine ⟨_, rfl, [d], d, a, ns, 9, rfl, hD, by decide, by decide, fun y1 H2 y10 y11 st2 D2 => ?_⟩
  have T2 := Tabs.stp hT st2 hD.is_
  refine ⟨rfl, _, rfl, ite2 (fun _ => ?_) (fun _ => ?_)⟩
  rotate_left
  · exact ⟨d, a, ns, ⟨g, x, _, _, _, _, _, _, _, _, rfl, hg, hx, D2, T2⟩, fun σ' H' h => fin σ' H' h⟩
  refine ⟨_, rfl, [d], d, a, ns, 300, rfl, D2, by decide, by decide, fun y2 H3 y20 y21 st3 D3 => ?_⟩
  have T3 := Tabs.stp T2 st3 D2.is_
  have m1 := mul_len (z := ("say " : Str)) (k := 30 + y2) (by omega)
  have m2 := mul_len (z := ("add " : Str)) (k := 110) (by decide)
  have m3 := mul_len (z := ("1 " : Str)) (k := 110) (by decide)
  have m4 := mul_len (z := ("add 1 " : Str)) (k := 90) (by decide)
  rw [l1] at m1
  rw [l3] at m2
  rw [l4] at m3
  rw [l5] at m4
  have m1' : 4 * (30 + y2).toNat ≤ 1400 := by omega
  have m2' : 4 * (110 : Int).toNat = 440 := by decide
  have m3' : 2 * (110 : Int).toNat = 220 := by decide
  have m4' : 6 * (90 : Int).toNat = 540 := by decide
  refine ⟨_, _, rfl, rfl, _, _, rfl, rfl, mulOk (by omega) (by omega) (by omega), ?_⟩
  refine ⟨_, _, rfl, rfl, by omega, ?_⟩
  refine ⟨_, _, rfl, rfl, mulOk (by omega) (by decide) (by decide), _, _, rfl, rfl, mulOk (by omega) (by decide) (by decide), _, _, rfl, rfl, by omega, _, _, rfl, rfl, by rw [add_len]; omega, ?_⟩
  refine ⟨_, _, rfl, rfl, mulOk (by omega) (by decide) (by decide), _, _, rfl, rfl, by omega, ?_⟩
  have n1 : (Txt.mul "say " (30 + y2) ++ ("1" : Str)).length ≤ 2000 := by rw [add_len]; omega
  have n2 : (Txt.mul "add " 110 ++ Txt.mul "1 " 110 ++ ("1" : Str)).length ≤ 2000 := by rw [add_len, add_len]; omega
  have n3 : (Txt.mul "add 1 " 90 ++ ("2" : Str)).length ≤ 2000 := by rw [add_len]; omega
  generalize (Txt.mul "say " (30 + y2) ++ ("1" : Str)) = t1 at n1 ⊢
  generalize (Txt.mul "add " 110 ++ Txt.mul "1 " 110 ++ ("1" : Str)) = t2 at n2 ⊢
  generalize (Txt.mul "add 1 " 90 ++ ("2" : Str)) = t3 at n3 ⊢
  refine ⟨by show 3 ≤ sizeLine; decide, fun p np => ?_⟩
  have s4 := Same.new np (.lst [.str t1, .str t2, .str t3])
  have np2 : p ≠ d := fun z => by
    obtain ⟨xs, hd⟩ := D3.is_
    rw [z, hd] at np; cases np
  have hp : upd H3 p (.lst [.str t1, .str t2, .str t3]) p = some (.lst [.str t1, .str t2, .str t3]) := upd_same
  have D4 := D3.step (D' := []) (Stp.same s4) (by simp) (by simp)
  have T4 := Tabs.same T3 s4
  generalize upd H3 p (.lst [.str t1, .str t2, .str t3]) = H4 at D4 T4 hp ⊢
  refine ⟨_, rfl, _, rfl, [d], d, a, ns, 3, rfl, D4, by decide, by decide, fun y3 H5 y30 y31 st5 D5 => ?_⟩
  have T5 := Tabs.stp T4 st5 D4.is_
  have hp5 : H5 p = some (.lst [.str t1, .str t2, .str t3]) := st5.keep _ _ (by simpa using np2) hp
  obtain ⟨t, ht, htl⟩ : ∃ t : Str, atI ([.str t1, .str t2, .str t3] : List V) y3 = some (.str t) ∧ t.length ≤ 2000 := by
    have : y3 = 0 ∨ y3 = 1 ∨ y3 = 2 := by omega
    rcases this with rfl | rfl | rfl
    · exact ⟨t1, atI_nat (j := 0) rfl, n1⟩
    · exact ⟨t2, atI_nat (j := 1) rfl, n2⟩
    · exact ⟨t3, atI_nat (j := 2) rfl, n3⟩
  refine ⟨p, _, _, .str t, rfl, rfl, SqL.of hp5, ht, ?_⟩
  refine ⟨_, rfl, [d], d, a, ns, 3, rfl, D5, by decide, by decide, fun y4 H6 y40 y41 st6 D6 => ?_⟩
  have T6 := Tabs.stp T5 st6 D5.is_
  have m5 := mul_len (z := (" 1" : Str)) (k := y4) (by omega)
  rw [l7] at m5
  refine ⟨_, _, rfl, rfl, mulOk (by omega) (by omega) (by omega), _, _, rfl, rfl, by omega, ?_⟩
  exact ⟨d, a, ns, ⟨g, _, _, _, _, _, _, _, _, _, rfl, hg, by rw [add_len]; omega, D6, T6⟩, fun σ' H' h => fin σ' H' h⟩
theorem segB (W : LawK9 P w K mg base c0 Pt bc) (hr : Room 228 (LXc P w K mg base f c0 A outer s H0 E0').A) : PSs (LXc P w K mg base f c0 A outer s H0 E0') loopB (tEnd9 (LawInv9 K Pt) (LawInv9 K Pt)) := by
  have hr1 : Room 1 (LXc P w K mg base f c0 A outer s H0 E0').A := hr.mono (by omega)
  have hr2 : Room 2 (LXc P w K mg base f c0 A outer s H0 E0').A := hr.mono (by omega)
  have hr89 : Room 89 (LXc P w K mg base f c0 A outer s H0 E0').A := hr.mono (by omega)
  have hr227 : Room 227 (LXc P w K mg base f c0 A outer s H0 E0').A := hr.mono (by omega)
  refine ⟨fun pins s1 σ1 H1 D1 I1 h1 => pss_by I1 ?_⟩
  obtain ⟨d, a, ns, ⟨b2, b3, b4, b5, b6, b7, b8, b9, b10, b11, rfl, hD, hT⟩, fin⟩ := h1
  refine ⟨_, pss_cons (ps_set (i := 3) scLaw19.nd rfl (Or.inl rfl) (pe_use W.written hr89 (pa_cons (pe_use W.any hr227 (pa_cons (pv 1) pa_nil)) pa_nil)))
    (pss_cons (ps_set (i := 11) scLaw19.nd rfl (Or.inr rfl) (pv 3))
    (pss_cons (ps_for PassesOwn.never rfl (pi_range1 (by rfl) W.rng (pa_cons (pe_use W.next hr1 (pa_cons (pv 1) (pa_cons pe_int pa_nil))) pa_nil)) (pg_name (i := 4) scLaw19.nd rfl (Or.inl rfl))
      (pss_one (ps_set (i := 11) scLaw19.nd rfl (Or.inr rfl) (pe_use W.changed hr2 (pa_cons (pv 1) (pa_cons (pv 11) pa_nil))))))
    (segC W hr))), ?_⟩
  refine ⟨_, rfl, [d], d, a, ns, rfl, hD, fun v e H3 av3 g3 z3 d3 st3 D3 => ?_⟩
  have T3 := Tabs.stp hT st3 hD.is_
  refine ⟨v, e, rfl, av3, g3, d3, z3, fun H4 s4 => ?_⟩
  have D4 := D3.step (D' := []) (Stp.same s4) (by simp) (by simp)
  have T4 := Tabs.same T3 s4
  have hg : GoodT e.text := ⟨e, rfl, g3, d3, z3⟩
  have htl := text_len (S := []) (by simp) g3 z3
  refine ⟨_, rfl, ?_⟩
  refine ⟨_, rfl, [d], d, a, ns, 4, rfl, D4, by decide, by decide, fun y H5 y0 y1 st5 D5 => ?_⟩
  have T5 := Tabs.stp T4 st5 D4.is_
  obtain ⟨n, rfl⟩ : ∃ n : Nat, y = (n : Int) := ⟨y.toNat, by omega⟩
  have hn : n ≤ 3 := by omega
  refine ⟨_, rfl, by omega, by omega, ?_⟩
  rw [Int.toNat_natCast]
  have lb : lenB 0 = 10000 ∧ lenB 1 = 30030 ∧ lenB 2 = 90120 ∧ lenB 3 = 270390 := by decide
  refine for_range (fun i σ H2 => ∃ (x : Str) (b4 : Option V), σ = [some (.ref a), some (.ref d), b2, some (.str e.text), b4, b5, b6, b7, b8, b9, b10, some (.str x)] ∧ x.length ≤ lenB i ∧ Dice K H2 [d] d a ns ∧ Tabs (T9 Pt) H2) ⟨e.text, b4, rfl, htl, D5, T5⟩ ?_ ?_
  · rintro i σ H2 hi ⟨x, b4, rfl, hx, D6, T6⟩
    have hx2 : x.length ≤ 100000 := by
      have : i = 0 ∨ i = 1 ∨ i = 2 := by omega
      rcases this with rfl | rfl | rfl
      · rw [lb.1] at hx; omega
      · rw [lb.2.1] at hx; omega
      · rw [lb.2.2.1] at hx; omega
    refine ⟨_, rfl, _, rfl, [d], d, a, ns, x, rfl, D6, hx2, fun y H7 hy st7 D7 => ?_⟩
    refine ⟨y, _, rfl, ?_, D7, Tabs.stp T6 st7 D6.is_⟩
    show y.length ≤ 3 * lenB i + 30
    omega
  · rintro σ H2 ⟨x, b4, rfl, hx, D6, T6⟩
    have hx2 : x.length ≤ 400000 := by
      have : n = 0 ∨ n = 1 ∨ n = 2 ∨ n = 3 := by omega
      rcases this with rfl | rfl | rfl | rfl
      · rw [lb.1] at hx; omega
      · rw [lb.2.1] at hx; omega
      · rw [lb.2.2.1] at hx; omega
      · rw [lb.2.2.2] at hx; omega
    exact ⟨d, a, ns, ⟨e.text, x, _, _, _, _, _, _, _, _, rfl, hg, hx2, D6, T6⟩, fun σ' H' h => fin σ' H' h⟩
/-- the law, all of it -/
def spLaw19 (K : PySem.W.Frag) (Pt : Addr) : Sp := fun vs H Q _ => ∃ (a : Addr) (ns : List Int), vs = [.ref a] ∧ SqL K H a (ns.map V.int) ∧ ns.length ≤ 63 ∧ Tabs (T9 Pt) H ∧ ∀ H', Q (.bl true) H'
theorem ok_law19 {f0 : Addr} {fd0 : FuncData} (W : LawK9 P w K mg base c0 Pt bc) (F : FunD K "law" "law" (defArgs s_law) (defBody s_law) (defScope s_law) [] [] f0 fd0) (hcode : fd0.code = .ref c0) (U_dice : Use P w K mg base "_law_dice" ["_law_script"] 1 (spDice K)) :
    FnOk P w K mg base CX0 229 f0 fd0 ["_law_script"] (spLaw19 K Pt) := by
  obtain ⟨oc, od, dV, kV, doc, pm, an, cdv, ct, osl, rfl, lk, hcd, _, _⟩ := F.ex
  have hcode : cdv = .ref c0 := hcode
  subst hcode
  refine fn_of lk hcd scLaw19 (fun vs H Q E h => ?_) fun A outer s H vs Q E hr h => ?_
  · obtain ⟨a, ns, rfl, _⟩ := h
    rfl
  · obtain ⟨a, ns, rfl, hs, hn, hT, q⟩ := h
    have hr1 : Room 1 _ := hr.mono (by omega)
    suffices g : ∃ t, PSs (LXc P w K mg base f0 c0 A outer s H E) (defBody s_law) t ∧ t { nx := fun _ H' => Q .non H', rt := Q } (L2.start lawN [.ref a]) H by
      obtain ⟨t, h1, h2⟩ := g
      exact ⟨t, h1.nox, h2⟩
    refine ⟨_, pss_cons (ps_set (i := 1) scLaw19.nd rfl (Or.inl rfl) (pe_use U_dice hr1 (pa_cons (pv 0) pa_nil)))
      (pss_cons (ps_for PassesOwn.never rfl (pi_range1 (by rfl) W.rng (pa_cons pe_int pa_nil)) (pg_name (i := 2) scLaw19.nd rfl (Or.inl rfl)) (segB W hr))
      (pss_one (ps_ret pe_bl))), ?_⟩
    refine ⟨_, rfl, a, ns, rfl, hs, hn, fun d H1 sm1 nd hD1 => ?_⟩
    refine ⟨6, rfl, by decide, by decide, ?_⟩
    refine for_range (fun i σ H2 => LawInv9 K Pt d a ns σ H2) ⟨_, _, _, _, _, _, _, _, _, _, rfl, hD1, Tabs.same hT sm1⟩ ?_ ?_
    · rintro i σ H2 hi ⟨b2, b3, b4, b5, b6, b7, b8, b9, b10, b11, rfl, hD2, hT2⟩
      exact ⟨d, a, ns, ⟨_, _, _, _, _, _, _, _, _, _, rfl, hD2, hT2⟩, fun σ' H' h => h⟩
    · rintro σ H2 ⟨b2, b3, b4, b5, b6, b7, b8, b9, b10, b11, rfl, hD2, hT2⟩
      exact q H2
end
end Wr
namespace Wr
open PySem PySem.Spec PyProof.Rows L2 LamX H19
def kvS : List (Str × Str) := [("num", "n"), ("name", "x"), ("add", "ee"), ("take", "ee"), ("less", "ee"), ("if", "eee"), ("let", "xee"), ("fun", "xe"), ("call", "ee"), ("say", "e"), ("box", "e"), ("look", "e"), ("put", "ee"), ("catch", "exxe"), ("throw", "e"), ("go", "ee"), ("drop", "e"), ("last", "ee"), ("else", "ee"), ("fault", "")]
theorem ones_kv : ∀ w ∈ ones, (w, ("e" : Str)) ∈ kvS := by decide +kernel
theorem twos_kv : ∀ w ∈ twos, (w, ("ee" : Str)) ∈ kvS := by decide +kernel
theorem lits_kv : (("num" : Str), ("n" : Str)) ∈ kvS ∧ (("name" : Str), ("x" : Str)) ∈ kvS ∧ (("fault" : Str), ("" : Str)) ∈ kvS ∧ (("if" : Str), ("eee" : Str)) ∈ kvS ∧ (("let" : Str), ("xee" : Str)) ∈ kvS ∧ (("fun" : Str), ("xe" : Str)) ∈ kvS ∧ (("catch" : Str), ("exxe" : Str)) ∈ kvS := by decide +kernel
theorem shape_kv {S : List Str} {e : Ex} (g : Good S e) : (e.word, e.shape) ∈ kvS := by
  obtain ⟨l1, l2, l3, l4, l5, l6, l7⟩ := lits_kv
  cases e with
  | num n => exact l1
  | name x => exact l2
  | fault => exact l3
  | one w a => exact ones_kv w g.1
  | two w a b => exact twos_kv w g.1
  | ite a b c => exact l4
  | lt x a b => exact l5
  | fn x a => exact l6
  | ct a x k b => exact l7
theorem shO_all : (allO.all fun x => match shapeO x with
    | some cs => kvS.contains (x, strO cs)
    | none => (["Add", "", "Say"] : List Str).contains x) = true := by decide +kernel
theorem kvS_eq : kv_SHAPES = kvS.map fun p => (p.1, He.Dv.str p.2) := rfl
section
variable {w : World} {K : PySem.W.Frag} {h : Heap} {mg : Str → Option Value}
theorem shapes_at (X : K.In h) (G : h.Ns mainGlobals mg) (c : Says w K) : ShapesAt K w (He.ga K "SHAPES") := by
  intro S e g
  obtain ⟨es, n, D⟩ := kd_SHAPES X G c
  have hm : (e.word, He.Dv.str e.shape) ∈ kv_SHAPES := by
    have e1 : kv_SHAPES = kvS.map fun p => (p.1, He.Dv.str p.2) := rfl
    rw [e1]
    exact List.mem_map.mpr ⟨_, shape_kv g, rfl⟩
  obtain ⟨u, h1, h2⟩ := kv_SHAPES_ok X G c hm
  exact ⟨es, n, u, D.at_, D.lit, h1, h2⟩
theorem shapes_o (X : K.In h) (G : h.Ns mainGlobals mg) (c : Says w K) : ShapesO K w (He.ga K "SHAPES") := by
  intro x hx
  obtain ⟨es, n, D⟩ := kd_SHAPES X G c
  have hb := List.all_eq_true.mp shO_all x hx
  cases e : shapeO x with
  | some cs =>
    rw [e] at hb
    have hm : (x, He.Dv.str (strO cs)) ∈ kv_SHAPES := by
      rw [kvS_eq]
      exact List.mem_map.mpr ⟨_, List.contains_iff_mem.mp hb, rfl⟩
    obtain ⟨u, h1, h2⟩ := kv_SHAPES_ok X G c hm
    exact ⟨es, n, u, D.at_, D.lit, h1, h2⟩
  | none =>
    rw [e] at hb
    have out : ∀ x ∈ (["Add", "", "Say"] : List Str), x ∉ (["num", "name", "add", "take", "less", "if", "let", "fun", "call", "say", "box", "look", "put", "catch", "throw", "go", "drop", "last", "else", "fault"] : List Str) := by decide +kernel
    exact ky_SHAPES X G c (out x (List.contains_iff_mem.mp hb))
theorem gen_defs (X : K.In h) (G : h.Ns mainGlobals mg) (c : Says w K) : GenDefs K mg :=
  ⟨f_L_dice X G c, f_L_next X G c, f_L_name X G c, f_L_leaf X G c, f_L_with X G c, f_L_free X G c, f_L_expr X G c, f_L_let X G c, f_L_use X G c, f_L_catch X G c, f_L_size X G c, f_L_deep X G c, f_L_program X G c, f_L_loop X G c, f_L_again X G c, f_L_long X G c, f_L_any X G c,
    z_len X G c, z_int X G c, z_dict X G c, z_sorted X G c, z_sum X G c, z_max X G c, z_min X G c, z_range X G c, z_isinstance X G c, z_tuple X G c⟩
def bcK (K : PySem.W.Frag) : BadCs := ⟨He.ga K "BadProgram", He.ga K "BadFuel", He.ga K "BadPapers", He.ga K "BadText", He.ga K "RestError"⟩
theorem badks (X : K.In h) (G : h.Ns mainGlobals mg) (c : Says w K) : BadKs K mg (bcK K) where
  gpg := gx_BadProgram X G c
  gfu := gx_BadFuel X G c
  gpa := gx_BadPapers X G c
  gtx := gx_BadText X G c
  grs := gx_RestError X G c
  exc := fun i hi => match i, hi with
    | 0, _ => xc_BadProgram X G c
    | 1, _ => xc_BadFuel X G c
    | 2, _ => xc_BadPapers X G c
    | 3, _ => xc_BadText X G c
  ve := fun i hi => match i, hi with
    | 0, _ => xv_BadProgram X G c
    | 1, _ => xv_BadFuel X G c
    | 2, _ => xv_BadPapers X G c
    | 3, _ => xv_BadText X G c
  rst := fun i hi => match i, hi with
    | 0, _ => xr_BadProgram X G c
    | 1, _ => xr_BadFuel X G c
    | 2, _ => xr_BadPapers X G c
    | 3, _ => xr_BadText X G c
  iss := fun i j hi hj => match i, j, hi, hj with
    | 0, 0, _, _ => xi_BadProgram_BadProgram X G c
    | 0, 1, _, _ => xi_BadProgram_BadFuel X G c
    | 0, 2, _, _ => xi_BadProgram_BadPapers X G c
    | 0, 3, _, _ => xi_BadProgram_BadText X G c
    | 1, 0, _, _ => xi_BadFuel_BadProgram X G c
    | 1, 1, _, _ => xi_BadFuel_BadFuel X G c
    | 1, 2, _, _ => xi_BadFuel_BadPapers X G c
    | 1, 3, _, _ => xi_BadFuel_BadText X G c
    | 2, 0, _, _ => xi_BadPapers_BadProgram X G c
    | 2, 1, _, _ => xi_BadPapers_BadFuel X G c
    | 2, 2, _, _ => xi_BadPapers_BadPapers X G c
    | 2, 3, _, _ => xi_BadPapers_BadText X G c
    | 3, 0, _, _ => xi_BadText_BadProgram X G c
    | 3, 1, _, _ => xi_BadText_BadFuel X G c
    | 3, 2, _, _ => xi_BadText_BadPapers X G c
    | 3, 3, _, _ => xi_BadText_BadText X G c
  xpg := xf_BadProgram X G c
  xpa := xf_BadPapers X G c
  xtx := xf_BadText X G c
  nat_ := no_BadProgram_at X G c
  nwhy := no_BadProgram_why X G c
  nnum := no_BadPapers_number X G c
  npl := no_BadText_place X G c
theorem badT {P : Program} {base : Heap} (hP : P.main.file = Pg.main.file) (hT : (P.main.scope.names.lookup ("super" : Str)).isSome = false) (X : K.In h) (G : h.Ns mainGlobals mg) (c : Says w K) (ii : iis.map (fun x => iniObs K x) = iiv) : Bad1 P w K mg base "BadText" "place" (He.ga K "BadText") := by
  have hi : iniB P.main.file K "BadText" = true := by rw [hP]; exact in_BadText X G c
  obtain ⟨cc, cda, fd, hF, S, h1, h2⟩ := ini_ok (P := P) (mg := mg) (st := s_BadText_init) (qual := "BadText.__init__") (ox_BadText X G c) hi (List.cons.inj (List.cons.inj ii).2).1 ⟨_, rfl, rfl⟩ (z_super X G c) hT
  have hB : Binds K fd ["self", "place"] [] := by
    obtain ⟨kV, doc, pm, an, ct, oc, od, osl, rfl, _⟩ := hF
    exact .all fun us hl => match us, hl with | [_, _], _ => rfl
  exact ⟨ox_BadText X G c, ⟨_, fd, h1, h2, ok_btI hF S (no_BadText_place X G c), hB⟩, gx_BadText X G c⟩
theorem bad2 {P : Program} {base : Heap} (hP : P.main.file = Pg.main.file) (hT : (P.main.scope.names.lookup ("super" : Str)).isSome = false) (X : K.In h) (G : h.Ns mainGlobals mg) (c : Says w K) (ii : iis.map (fun x => iniObs K x) = iiv) : Bad2 P w K mg base "BadProgram" "at" "why" (He.ga K "BadProgram") := by
  have hi : iniB P.main.file K "BadProgram" = true := by rw [hP]; exact in_BadProgram X G c
  obtain ⟨cc, cda, fd, hF, S, h1, h2⟩ := ini_ok (P := P) (mg := mg) (st := s_BadProgram_init) (qual := "BadProgram.__init__") (ox_BadProgram X G c) hi (List.cons.inj ii).1 ⟨_, rfl, rfl⟩ (z_super X G c) hT
  have hB : Binds K fd ["self", "at", "why"] [] := by
    obtain ⟨kV, doc, pm, an, ct, oc, od, osl, rfl, _⟩ := hF
    exact .all fun us hl => match us, hl with | [_, _, _], _ => rfl
  exact ⟨ox_BadProgram X G c, ⟨_, fd, h1, h2, ok_bgI hF S (no_BadProgram_at X G c) (no_BadProgram_why X G c), hB⟩, gx_BadProgram X G c⟩
structure Prog19 (P : Program) (w : World) (K : PySem.W.Frag) (mg : Str → Option Value) (base : Heap) : Prop where
  written : Use P w K mg base "written" ["program"] 89 spWritten
  read : Use P w K mg base "read" ["text"] 89 spRead
  writtenX : UseX P w K mg base "written" ["program"] 172 (spWritten7 (He.ga K "BadProgram"))
  readX : UseX P w K mg base "read" ["text"] 172 (spRead7 (He.ga K "BadText") (He.ga K "BadProgram"))
theorem prog19 {P : Program} {base : Heap} (hP : P.main.file = Pg.main.file) (hT : (P.main.scope.names.lookup ("super" : Str)).isSome = false) (X : K.In h) (G : h.Ns mainGlobals mg) (c : Says w K) (ii : iis.map (fun x => iniObs K x) = iiv) : Prog19 P w K mg base := by
  have hSh := shapes_at X G c
  have hSo := shapes_o X G c
  obtain ⟨es, n, KD⟩ := kd_SHAPES X G c
  have zisi := z_isinstance X G c; have zlen := z_len X G c; have ztup := z_tuple X G c; have zstr := z_str X G c; have zint := z_int X G c; have zbool := z_bool X G c; have zzip := z_zip X G c
  have zall := z_all X G c; have zset := z_set X G c; have zabs := z_abs X G c; have zenum := z_enumerate X G c
  have tn : TupD K (He.ga K "NAMES") (letters.map V.str) := tp_NAMES X G c
  have tl : TupD K (He.ga K "AS_THEY_ARE") (leaveW.map V.str) := tp_AS_THEY_ARE X G c
  have Uwhole : Use P w K mg base "is_whole" ["held"] 1 (spWhole K) := ok_whole (f_is_whole X G c) zisi zint zbool
  have UPart := ok_partI (P := P) (w := w) (base := base) (f_Part_init X G c) (c_Part X G c) (na_Part X G c)
  have UTree := ok_treeI (P := P) (w := w) (base := base) (f_Tree_init X G c) (c_Tree X G c) (na_Tree X G c)
  have URead := ok_readI (P := P) (w := w) (base := base) (f_Reader_init X G c) (c_Reader X G c) (na_Reader X G c)
  -- good programs
  have Ufits : Use P w K mg base "fits" ["place", "held"] 2 spFits := ok_fits (f_fits X G c) zisi zstr Uwhole
  have Ushape : Use P w K mg base "has_shape" ["thing"] 3 spShape := ok_has_shape KD hSh (a_SHAPES X G c) (f_has_shape X G c) zzip zisi ztup zstr zlen zall Ufits
  have Ustand : Use P w K mg base "standing" ["thing", "place"] 1 spStanding := ok_standing hSh (a_SHAPES X G c) (f_standing X G c) zzip
  have Uwhy : Use P w K mg base "why_not" ["thing", "at", "around", "bound"] 4 spWhy := ok_why_not (f_why_not X G c) (g_MOST_PARTS X G c) (g_MOST_AROUND X G c) (g_MOST_NUMBER X G c) (a_NAMES X G c) tn.k zabs zall zlen zset Ushape Ustand
  have Upart := ok_part (f_Reader_part_of X G c) (f_Reader_parts_of X G c) (c_Reader X G c) (na_Reader X G c) zenum zlen Uwhy Ustand UPart 41
  have Utree : Use P w K mg base "tree_of" ["program"] 88 (spTree (He.ga K "Tree") (He.ga K "Part")) := ok_tree_of (f_tree_of X G c) (c_Reader X G c) (na_Reader X G c) Upart URead UTree
  -- programs with a fault
  have UfitsO : Use P w K mg base "fits" ["place", "held"] 2 spFitsO := ok_fitsO (f_fits X G c) zisi zstr Uwhole
  have UshapeO : Use P w K mg base "has_shape" ["thing"] 3 spShapeO := ok_has_shapeO KD hSo (a_SHAPES X G c) (f_has_shape X G c) zzip zisi ztup zstr zlen zall UfitsO
  have UstandO : Use P w K mg base "standing" ["thing", "place"] 1 spStandingO := ok_standingO hSo (a_SHAPES X G c) (f_standing X G c) zzip
  have UwhyO : Use P w K mg base "why_not" ["thing", "at", "around", "bound"] 4 spWhyO := ok_why_notO (f_why_not X G c) (g_MOST_PARTS X G c) (g_MOST_AROUND X G c) (g_MOST_NUMBER X G c) (a_NAMES X G c) tn.k zabs zall zlen zset UshapeO UstandO
  have B2 := bad2 (base := base) hP hT X G c ii
  have BT := badT (base := base) hP hT X G c ii
  have UtreeB : UseX P w K mg base "tree_of" ["program"] 171 (spTreeBad (He.ga K "BadProgram") 41) := ok_treeBad (PC := He.ga K "Part") (k := 170) (by decide) (f_tree_of X G c) (c_Reader X G c) (na_Reader X G c) (partBad_all (f_Reader_part_of X G c) (f_Reader_parts_of X G c) (c_Reader X G c) (na_Reader X G c) zenum zlen B2 UwhyO UstandO UPart Upart 41) URead UTree
  -- texts
  have Uwords := words_all (P := P) (w := w) (base := base) (f_words_of X G c) hSh (a_SHAPES X G c) (a_AS_THEY_ARE X G c) tl.k zzip zstr 41
  have Ucom := ok_complete (P := P) (base := base) (f_is_complete X G c) hSh (a_SHAPES X G c) zlen
  have Upl := ok_placeN (P := P) (base := base) (f_place_of_next X G c) hSh (a_SHAPES X G c) zlen
  have Unum : Use P w K mg base "is_number" ["word"] 1 spIsNum := ok_isnum (f_is_number X G c) zlen zall (g_FIGURES X G c) (g_MOST_FIGURES X G c)
  have Uput := ok_put (f_Reading_put X G c) (c_Reading X G c) (na_Reading X G c) zlen ztup Ucom
  have Utn := ok_takesN (f_Reading_takes_name X G c) (c_Reading X G c) (a_NAMES X G c) tn.k Uput
  have Utn7 := ok_takesN7 (f_Reading_takes_name X G c) (c_Reading X G c) (a_NAMES X G c) tn.k Uput
  have Ubg := ok_rbegin (f_Reading_begin X G c) (c_Reading X G c) (na_Reading X G c) hSh (a_SHAPES X G c) zlen Uput
  have Ut := ok_takes (f_Reading_takes X G c) (c_Reading X G c) (na_Reading X G c) hSh (kd_SHAPES X G c) (a_SHAPES X G c) (a_NAMES X G c) tn.k (a_AS_THEY_ARE X G c) tl.k zlen zint Uput Utn Ubg Upl Unum
  have hKey : ∀ z, z ∉ allW → z ∉ leaveW → PySem.W.nsIn K (He.ga K "SHAPES") z = some none := fun z h1 h2 => ky_SHAPES X G c (fun h => by
    have : ∀ z ∈ (["num", "name", "add", "take", "less", "if", "let", "fun", "call", "say", "box", "look", "put", "catch", "throw", "go", "drop", "last", "else", "fault"] : List Str), z ∈ allW ∨ z ∈ leaveW := by decide +kernel
    exact (this z h).elim h1 h2)
  have Ut7 := ok_takes7 (f_Reading_takes X G c) (c_Reading X G c) (na_Reading X G c) hSh (kd_SHAPES X G c) (a_SHAPES X G c) (a_NAMES X G c) tn.k (a_AS_THEY_ARE X G c) tl.k zlen zint Uput Utn7 hKey Ubg Upl Unum
  have URI := ok_rdgI (P := P) (w := w) (base := base) (f_Reading_init X G c) (c_Reading X G c) (na_Reading X G c)
  exact ⟨ok_written (f_written X G c) Utree Uwords, ok_read (f_read X G c) (c_Reading X G c) (na_Reading X G c) zenum URI Ut Utree,
    ok_written7 (by decide) (by decide) (f_written X G c) Utree UtreeB Uwords, ok_read7 (by decide) (by decide) (f_read X G c) (c_Reading X G c) (na_Reading X G c) zenum zlen BT URI Ut7 Utree UtreeB⟩
theorem use_law {P : Program} {base : Heap} (hP : P.main.file = Pg.main.file) (hT : (P.main.scope.names.lookup ("super" : Str)).isSome = false) (X : K.In h) (G : h.Ns mainGlobals mg) (c : Says w K) (ii : iis.map (fun x => iniObs K x) = iiv) (TB : TabB base mg 472 468)
    {f0 : Addr} {fd0 : FuncData} (F0 : FunD K "law" "law" (defArgs s_law) (defBody s_law) (defScope s_law) [] [] f0 fd0) (hcode : fd0.code = .ref 472) : FnOk P w K mg base CX0 229 f0 fd0 ["_law_script"] (spLaw19 K 468) := by
  have D := gen_defs X G c
  have R := prog19 (P := P) (base := base) hP hT X G c ii
  have zisi := z_isinstance X G c; have zlen := z_len X G c; have ztup := z_tuple X G c; have zrng := z_range X G c; have zlist := z_list X G c; have zint := z_int X G c; have zstr := z_str X G c
  have Unext : Use P w K mg base "_law_next" ["_law_dice_here", "_law_many"] 1 (spNext K) := u_next D
  have Ulike : Use P w K mg base "_law_like" ["_law_found", "_law_due"] 100 (spLike K 100) := like_all (f_L_like X G c) zisi ztup zlist (z_bool X G c) zstr zint zlen zrng 100
  have Ufigs : Use P w K mg base "_law_figures" ["_law_word"] 1 spFigs := ok_figs (f_L_figures X G c) zint zstr zlen
  have Uwants : Use P w K mg base "_law_wants" ["_law_word"] 1 spWants := ok_wants (f_L_wants X G c)
  exact ok_law19 (bc := bcK K) ⟨⟨TB, f_L_told X G c, badks X G c, zisi, z_ValueError X G c⟩, zrng, zlen, Unext, u_any D, ok_changed (f_L_changed X G c) zlen Unext, ok_spot (f_L_spot X G c) zrng zlen zlist Ufigs Uwants, built_all (f_L_built X G c) zlist ztup Ufigs Uwants 377, R.written, R.read, R.writtenX, R.readX, Ulike⟩ F0 hcode (ok_dice D.dice D.zlen D.zint)
end
/-- a law's end with tables, the written part as it may be -/
theorem walk_ofTE {l : PySem.W.OpenLaw} {n k : Nat} {q : Program} {loose : List Str} {XP : (Str → Option Value) → Heap → Prop} {YP : World → Heap → Prop} {d : DefRec} {CX : CXT} {x : Str}
    (hn : l.most = some n) (hn2 : n ≤ sizeLine) (hdf : d.params.defaults = []) (hr : Room k callerA)
    (F : ∀ (w : World) (mg : Str → Option Value) (fa : Addr) (h : Heap), YP w h → h.Ns mainGlobals mg → mg d.name = some (.ref fa) → ∃ K : PySem.W.Frag, K.In h ∧ LamX.LawAtS l w K CX k n x mg fa h)
    (hCX : ∀ (H : Hp) (s : Shared) (e : Value) (s' : Shared), CX [] H s (fun _ _ _ => False) e s' → False) :
    PySem.W.WalkO q loose XP YP l.row.toRowW d [] (fun f vs => PySem.call f vs) := by
  refine Att.attach_callB hn hdf fun w s₀ s₁ mg mb fa o pm cd doc a vs ns G Y ho hd hcd hmg hobj hints hlen hbits hg => ?_
  obtain ⟨K, KX, fd, cs, sp, hT, nT, C, hb, hsp, hF⟩ := F w mg fa _ Y G.T.g hmg
  exact LamX.law_callTs KX G.T.g G.T.b G.T.builtins G.T.nolimit hg hT nT C G.T.bmain hobj hints (Nat.le_trans hlen hn2) hr hF hb (fun H hH hS => hsp H a ns hlen hbits hH hS) fun H e s' => hCX H s₁ e s'
theorem codB_ok {K : PySem.W.Frag} {x : Str} {c P : Addr} {fd : FuncData} {oc : Value} {od : Option Addr} {osl : Array (Option Value)} (h : codB K x c P = true) (lk : K.lookup (He.ga K x) = some ⟨oc, od, .func fd, osl⟩) : fd.code = .ref c ∧ PySem.W.codeHdIn K c P = true := by
  unfold codB at h
  rw [lk, Bool.and_eq_true] at h
  refine ⟨?_, h.2⟩
  have h1 := h.1
  dsimp only at h1
  split at h1
  · rename_i c' e
    rw [e, eq_of_beq h1]
  · cases h1
end Wr
open PySem PySem.W PySem.Calls PyProof.Rows
theorem PySem.Challenge.cw_whatremains_k19_texts_that_are_none_holds : PySem.Challenge.rw_whatremains_k19_texts_that_are_none.Holds := by
  w_on; o_law
  refine HandSHeadRun.head_any (r := OpenLaw.row PySem.Challenge.rw_whatremains_k19_texts_that_are_none) (q := view (OpenLaw.row PySem.Challenge.rw_whatremains_k19_texts_that_are_none).prog [57]) (H := H19.hk) (ob := H19.ob) (M := 20000) (loose := H19.names) (d := HandSHeadRun.topDef (OpenLaw.row PySem.Challenge.rw_whatremains_k19_texts_that_are_none).prog 57) (kwd := []) H19.ob_eq
    (by kernel_rfl) (fun s => by kernel_rfl) H19.run (by kernel_rfl) (by kernel_rfl) (by kernel_rfl) (by rfl) (by first | assumption | decide +kernel) (by decide +kernel) ⟨rfl, rfl, rfl, rfl, rfl, by decide +kernel⟩ ?hw ?hc
  case hw => w_witness2
  case hc =>
    refine Wr.walk_ofTE (l := PySem.Challenge.rw_whatremains_k19_texts_that_are_none) (n := 63) (k := 229) (x := "_law_script") (CX := L2.CX0) rfl (by decide) (by kernel_rfl) ⟨rfl, by decide, by decide⟩ ?F (fun _ _ _ _ z => z)
    intro w mg fa h Y G hmg0
    obtain ⟨K, KX, c, ii, hT, nA⟩ := Y
    have hmg : mg ("law" : PySem.Str) = some (.ref fa) := by
      have e : (HandSHeadRun.topDef (OpenLaw.row PySem.Challenge.rw_whatremains_k19_texts_that_are_none).prog 57).name = ("law" : PySem.Str) := by kernel_rfl
      rw [← e]
      exact hmg0
    obtain ⟨f0, fd, F, hm⟩ := H19.f_law KX G c
    have e := hmg.symm.trans hm
    cases e
    have e2 := hmg.symm.trans (H19.ga_law KX G c)
    cases e2
    obtain ⟨oc, od, dV, kV, doc, pm, an, cdv, ct, osl, efd, lk, hcd, _, _⟩ := id F.ex
    obtain ⟨hcode, hhd⟩ := Wr.codB_ok (H19.cod_law KX G c) lk
    have hb : ∀ (s : Shared) (v : Value), BindsTo s fd ⟨[v], []⟩ [("_law_script", v)] := fun s v => L2.FunD.bindsA (ps := ["_law_script"]) F (fun _ _ _ _ _ _ us hl => match us, hl with | [_], _ => rfl) s [v] rfl
    have nP : (468 : Addr) ∉ H19.adrs := by decide +kernel
    refine ⟨K, KX, fd, [(472, 468)], Wr.spLaw19 K 468, fun p hp => ?_, fun p hp => ?_, fun p hp => ?_, hb, fun H a ns hl _ hB hS => ?_, fun base _ _ TB => Wr.use_law (by kernel_rfl) (by kernel_rfl) KX G c ii (TB (472, 468) (List.mem_singleton.mpr rfl)) F hcode⟩
    · rw [List.mem_singleton.mp hp]; exact hT
    · rw [List.mem_singleton.mp hp]; exact nA _ nP
    · rw [List.mem_singleton.mp hp]; exact PySem.W.codeHd_of_K KX hhd
    · refine ⟨a, ns, rfl, hS, hl, fun p hp => ?_, fun _ => rfl⟩
      rw [List.mem_singleton.mp hp]
      exact LamX.TabS.nil (hB (472, 468) (List.mem_singleton.mpr rfl))
