import PyProof.Rows.All
import Wide.All
import OpenK.AllK
import Wide.FinOn
import KE.KStateDown
import HandS.ForMost
import HandS.ForExc
import HandS.IsInst
import HandS.Defaults
import HandS.Head0
import HandS.Head1
import HandS.Head2
import HandS.HeadEnd
import HandS.HeadHook1
import HandS.HeadHook2
import HandS.HeadHook3
import HandS.Wide
import HandS.Flow
import KE.KDictOf
import HandS.More
import HandS.StrMore
import HandS.Zip
import KE.GoesEnum
import KE.GoesMore
import KE.GoesZip
import HandS.Set
import HandS.Strs
import HandS.Dict
import HandS.Star
import HandS.Walk
import HandS.CallLocal
import PySem.Challenge.RW_whatremains_k14_papers
set_option Elab.async false
set_option linter.all false
set_option maxRecDepth 100000
set_option maxHeartbeats 4000000
/-! a head's facts: defs, constants, tables with text keys, and tests of one's own -/
namespace Wr
open PySem PySem.Spec PyProof.Rows L2
abbrev AlX : Type := (He.AlD × Bool) × List (Option (List (Option (Str × Int))))
def obsX (fa : List He.Fa) (fn : List He.DefD) (ex : List (PySem.W.Frag → Bool)) (ts : List He.Tab) (K : PySem.W.Frag) : AlX := ((He.obsD fa fn K, ex.all fun f => f K), ts.map fun t => He.dicW K (t.1 K))
def valX (fn : List He.DefD) (ts : List He.Tab) (w : World) : AlX := ((He.valD fn, true), ts.map fun t => some (He.keysIn w.params t.2))
def SaysX (fa : List He.Fa) (fn : List He.DefD) (ex : List (PySem.W.Frag → Bool)) (ts : List He.Tab) (w : World) (K : PySem.W.Frag) : Prop := obsX fa fn ex ts K = valX fn ts w
def hookX (adrs : List Addr) (fa : List He.Fa) (fn : List He.DefD) (ex : List (PySem.W.Frag → Bool)) (ts : List He.Tab) : PySem.W.Hook where
  α := AlX
  obs := fun s => obsX fa fn ex ts (He.frG s.heap.get? adrs)
  val := fun w => valX fn ts w
  says := fun w h => ∃ K : PySem.W.Frag, K.In h ∧ SaysX fa fn ex ts w K
  of := fun _ _ e => ⟨_, He.frG_in, e⟩
  keeps := fun _ _ _ ⟨K, hK, c⟩ k => ⟨K, PySem.W.Frag.In.keeps hK k, c⟩
section
variable {fa : List He.Fa} {fn : List He.DefD} {ex : List (PySem.W.Frag → Bool)} {ts : List He.Tab} {w : World} {K : PySem.W.Frag}
theorem SaysX.d (c : SaysX fa fn ex ts w K) : He.SaysD fa fn K := congrArg (fun z : AlX => z.1.1) c
theorem SaysX.tst (c : SaysX fa fn ex ts w K) (i : Nat) {f : PySem.W.Frag → Bool} (h : ex[i]? = some f := by rfl) : f K = true :=
  List.all_eq_true.mp (congrArg (fun z : AlX => z.1.2) c) f (List.mem_of_getElem? h)
theorem SaysX.tab (c : SaysX fa fn ex ts w K) (i : Nat) {t : He.Tab} (h : ts[i]? = some t := by rfl) : ∃ es n, KDict K w (t.1 K) es n := by
  have e : ts.map (fun t => He.dicW K (t.1 K)) = ts.map fun t => some (He.keysIn w.params t.2) := congrArg (fun z : AlX => z.2) c
  have e2 : (ts.map fun t => He.dicW K (t.1 K))[i]? = (ts.map fun t => some (He.keysIn w.params t.2))[i]? := by rw [e]
  rw [List.getElem?_map, List.getElem?_map, h] at e2
  exact He.dicW_ok (Option.some.inj e2)
end
/-- a tuple of the top, of which methods are asked -/
def tupDB (K : PySem.W.Frag) (x : Str) (vs : List He.Dv) : Bool := match K.lookup (He.ga K x) with
  | some ⟨.type c, none, .seq its _, _⟩ => decide (c = "tuple") && (decide (its.size ≤ sizeLine) && He.relAll (vs.map (He.Dv.v K)) its.toList)
  | _ => false
theorem tupDB_ok {K : PySem.W.Frag} {x : Str} {vs : List He.Dv} (h : tupDB K x vs = true) : ∃ (o : Obj) (its : Array Value) (n : Nat), K.lookup (He.ga K x) = some o ∧ o.cls = .type "tuple" ∧ o.dict = none ∧ o.data = .seq its n ∧ its.size ≤ sizeLine ∧ Vals (vs.map (He.Dv.v K)) its.toList := by
  unfold tupDB at h
  cases q : K.lookup (He.ga K x) with
  | none => rw [q] at h; cases h
  | some o =>
    obtain ⟨oc, od, dt, osl⟩ := o
    rw [q] at h
    cases oc with
    | type c =>
      cases od with
      | none =>
        cases dt with
        | seq its n =>
          obtain ⟨h1, h2⟩ := He.ba (show (decide (c = "tuple") && (decide (its.size ≤ sizeLine) && He.relAll (vs.map (He.Dv.v K)) its.toList)) = true from h)
          obtain ⟨h3, h4⟩ := He.ba h2
          exact ⟨_, its, n, rfl, congrArg Value.type (of_decide_eq_true h1), rfl, rfl, of_decide_eq_true h3, He.relAll_ok h4⟩
        | _ => cases h
      | some a => cases dt <;> cases h
    | _ => cases od <;> cases dt <;> cases h
/-- what the table of the top doesn't hold -/
def noneB (K : PySem.W.Frag) (x : Str) (ks : List Str) : Bool := ks.all fun k => He.eqO (PySem.W.nsIn K (He.ga K x) k) (some none)
theorem noneB_ok {K : PySem.W.Frag} {x : Str} {ks : List Str} (h : noneB K x ks = true) {k : Str} (hk : k ∈ ks) : PySem.W.nsIn K (He.ga K x) k = some none := He.eqO_ok (List.all_eq_true.mp h k hk)
end Wr
namespace Wr
open PySem PySem.Spec PyProof.Rows L2
/-! ### a def by its name, and its use -/
/-- the def x stands as the text st says -/
def Df (K : PySem.W.Frag) (mg : Str → Option Value) (x : Str) (st : Stmt) : Prop :=
  ∃ f fd, FunD K x x (defArgs st) (defBody st) (defScope st) [] [] f fd ∧ mg x = some (.ref f)
/-- the def x may be called, by its promise -/
def Use (P : Program) (w : World) (K : PySem.W.Frag) (mg : Str → Option Value) (base : Heap) (x : Str) (ps : List Str) (k : Nat) (sp : Sp) : Prop :=
  ∃ f fd, FnOk P w K mg base CX0 k f fd ps sp ∧ mg x = some (.ref f) ∧ PySem.W.keepIn K (.ref f) = true ∧ Binds K fd ps []
abbrev BindF (x : Str) (st : Stmt) (ps : List Str) : Prop := ∀ (kV doc pm : Value) (an : Option Addr) (cdv ct : Value) (us : List Value), us.length = ps.length →
  bindArgs (PySem.W.fnOf x x (defArgs st) (defBody st) (defScope st) .none kV doc pm an cdv ct) ⟨us, []⟩ = pure (ps.zip us)
section
variable {P : Program} {w : World} {K : PySem.W.Frag} {mg : Str → Option Value} {base : Heap}
theorem Df.use {x : Str} {st : Stmt} {N ps : List Str} {k : Nat} {sp : Sp} (D : Df K mg x st) (S : FnScope N ps (defScope st)) (b : BindF x st ps) (len : ∀ vs H Q E, sp vs H Q E → vs.length = ps.length)
    (hbody : ∀ (cdv : Value) (f : Addr) (A : Around) (outer : List Env) (s : Shared) (H : Hp) (vs : List V) (Q : VK) (E : XK), Room k (A.deeper (envOfC x (defScope st) s.heap.objs.size f cdv)) → sp vs H Q E →
      ∃ t, PSs (cxOf CX0 P w K mg base N x (defScope st) f cdv A outer s H E).nox (defBody st) t ∧ t { nx := fun _ H' => Q .non H', rt := Q } (start N vs) H) : Use P w K mg base x ps (k + 1) sp := by
  obtain ⟨f, fd, F, m⟩ := D
  refine ⟨f, fd, F.ok S len fun cdv A outer s H vs Q E hr h => ?_, m, F.kp, F.bindsN b⟩
  obtain ⟨t, h1, h2⟩ := hbody cdv f A outer s H vs Q E hr h
  exact ⟨t, h1.nox, h2⟩
theorem Use.mono {x : Str} {ps : List Str} {k j : Nat} {sp : Sp} (U : Use P w K mg base x ps k sp) (h : k ≤ j) : Use P w K mg base x ps j sp := by
  obtain ⟨f, fd, F, m, kp, b⟩ := U
  exact ⟨f, fd, F.mono h, m, kp, b⟩
end
/-- a call of such a def -/
theorem pe_use {X : Cx} {x : Str} {ps : List Str} {k : Nat} {sp : Sp} {e : Expr} {es : List Expr} {t : TA} {p pos : Pos} (U : Use X.prog X.w X.K X.mg X.base x ps k sp) (hr : Room k X.A) (ha : PA X (e :: es) t) (hg : Gl X x := by rfl)
    (hdb : (x == ("__debug__" : Str)) = false := by decide) (he : starEach (e :: es) X.env = (false, eval e X.env) :: starEach es X.env := by rfl) (hpl : ((backTo pos (starEach es X.env)).any fun x => x.fst) = false := by rfl) :
    PE X (.Call (.Name x p) (e :: es) [] pos) (tCall sp [] E0 t) := by
  obtain ⟨f, fd, F, m, kp, b⟩ := U
  exact pe_call F hr hg m kp b .nil pass0 ha hdb he hpl
/-! ### heaps -/
/-- but for the things at D all that was is as it was; tuples are -/
structure Stp (D : List Addr) (H H' : Hp) : Prop where
  keep : ∀ b o, b ∉ D → H b = some o → H' b = some o
  tups : ∀ t xs, H t = some (.tup xs) → H' t = some (.tup xs)
theorem Stp.refl (D : List Addr) (H : Hp) : Stp D H H := ⟨fun _ _ _ h => h, fun _ _ h => h⟩
theorem Stp.trans {D : List Addr} {H H1 H2 : Hp} (a : Stp D H H1) (b : Stp D H1 H2) : Stp D H H2 :=
  ⟨fun c o n h => b.keep c o n (a.keep c o n h), fun t xs h => b.tups t xs (a.tups t xs h)⟩
theorem Stp.mono {D D' : List Addr} {H H' : Hp} (a : Stp D H H') (s : ∀ b ∈ D, b ∈ D') : Stp D' H H' := ⟨fun c o n h => a.keep c o (fun z => n (s c z)) h, a.tups⟩
theorem Stp.new {D : List Addr} {H : Hp} {p : Addr} (h : H p = none) (o : HO) : Stp D H (upd H p o) :=
  ⟨fun b u _ q => by rw [upd_ne (ne_of_none q h)]; exact q, fun b u q => by rw [upd_ne (ne_of_none q h)]; exact q⟩
theorem Stp.put {D : List Addr} {H : Hp} {p : Addr} (hp : p ∈ D) (hn : ∀ xs, H p ≠ some (.tup xs)) (o : HO) : Stp D H (upd H p o) :=
  ⟨fun b u n q => by rw [upd_ne (fun z => n (by rw [z]; exact hp))]; exact q, fun b u q => by rw [upd_ne (fun z => hn u (by rw [← z]; exact q))]; exact q⟩
theorem Stp.same {D : List Addr} {H H' : Hp} (h : Same H H') : Stp D H H' := ⟨fun b o _ q => h b o q, fun t xs q => h t _ q⟩
theorem Stp.nil {H H' : Hp} (a : Stp [] H H') : Same H H' := fun b o q => a.keep b o (by simp) q
theorem Stp.was {D : List Addr} {H H' : Hp} (a : Stp D H H') {p : Addr} (hp : p ∉ D) (h : H' p = none) : H p = none := by
  cases q : H p with
  | none => rfl
  | some o => rw [a.keep p o hp q] at h; cases h
theorem Stp.seq {K : PySem.W.Frag} {D : List Addr} {H H' : Hp} {a : Addr} {xs : List V} (e : Stp D H H') (ha : a ∉ D) (h : SqL K H a xs) : SqL K H' a xs := by
  rcases h with (h | ⟨o, h⟩) | h
  · exact .inl (.inl (e.keep _ _ ha h))
  · exact .inl (.inr ⟨o, e.keep _ _ ha h⟩)
  · exact .inr h
/-- a list that no store at D touches -/
def Sq2 (K : PySem.W.Frag) (H : Hp) (D : List Addr) (a : Addr) (xs : List V) : Prop :=
  (Rd H a (.lst xs) ∧ a ∉ D) ∨ ∃ (o : Obj) (its : Array Value) (n : Nat), K.lookup a = some o ∧ o.cls = .type "list" ∧ o.dict = none ∧ o.data = .seq its n ∧ its.size ≤ sizeLine ∧ Vals xs its.toList
section
variable {K : PySem.W.Frag} {H H' : Hp} {D : List Addr} {a : Addr} {xs : List V}
theorem Sq2.seq (h : Sq2 K H D a xs) : SqL K H a xs := h.imp (fun z => z.1) id
theorem Sq2.of (h : SqL K H a xs) : Sq2 K H [] a xs := h.imp (fun z => ⟨z, by simp⟩) id
theorem Sq2.step (h : Sq2 K H D a xs) (s : Stp D H H') : Sq2 K H' D a xs := h.imp (fun z => ⟨z.1.imp (fun e => s.keep _ _ z.2 e) fun ⟨o, e⟩ => ⟨o, s.keep _ _ z.2 e⟩, z.2⟩) id
theorem Sq2.new {p : Addr} {o : HO} (h : Sq2 K H D a xs) (n : H p = none) : Sq2 K (upd H p o) (p :: D) a xs := h.imp (fun ⟨z, m⟩ => by
    have ne : a ≠ p := fun e => by
      subst e
      rcases z with z | ⟨_, z⟩ <;> (rw [n] at z; cases z)
    refine ⟨z.imp (fun e => by rw [upd_ne ne]; exact e) fun ⟨o, e⟩ => ⟨o, by rw [upd_ne ne]; exact e⟩, fun q => ?_⟩
    rcases List.mem_cons.mp q with e | e
    · exact ne e
    · exact m e) id
end
/-- the dice at d over the script at a, whose numbers are ns; D: where is written -/
structure Dice (K : PySem.W.Frag) (H : Hp) (D : List Addr) (d a : Addr) (ns : List Int) : Prop where
  at_ : ∃ i m c : Int, H d = some (.lst [.ref a, .int i, .int m, .int c]) ∧ 0 ≤ i ∧ 0 ≤ m ∧ m < 2147483647 ∧ 0 ≤ c
  sq : Sq2 K H D a (ns.map V.int)
  mem : d ∈ D
  len : ns.length ≤ 63
section
variable {K : PySem.W.Frag} {H H' : Hp} {D : List Addr} {d a : Addr} {ns : List Int}
/-- stores elsewhere leave the dice -/
theorem Dice.step {D' : List Addr} (h : Dice K H D d a ns) (s : Stp D' H H') (hs : ∀ b ∈ D', b ∈ D) (hd : d ∉ D') : Dice K H' D d a ns := by
  obtain ⟨⟨i, m, c, e, r⟩, sq, mm, l⟩ := h
  exact ⟨⟨i, m, c, s.keep _ _ hd e, r⟩, sq.step (s.mono hs), mm, l⟩
theorem Dice.new {p : Addr} {o : HO} (h : Dice K H D d a ns) (n : H p = none) : Dice K (upd H p o) (p :: D) d a ns := by
  obtain ⟨⟨i, m, c, e, r⟩, sq, mm, l⟩ := h
  exact ⟨⟨i, m, c, by rw [upd_ne (ne_of_none e n)]; exact e, r⟩, sq.new n, List.mem_cons_of_mem _ mm, l⟩
theorem Dice.up {p : Addr} {o : HO} (h : Dice K H D d a ns) (n : H p = none) : Dice K (upd H p o) D d a ns := by
  obtain ⟨⟨i, m, c, e, r⟩, sq, mm, l⟩ := h
  exact ⟨⟨i, m, c, by rw [upd_ne (ne_of_none e n)]; exact e, r⟩, sq.step (.new n _), mm, l⟩
theorem Dice.is_ (h : Dice K H D d a ns) : ∃ xs, H d = some (.lst xs) := let ⟨_, _, _, e, _⟩ := h.at_; ⟨_, e⟩
end
end Wr
namespace Wr
open PySem PySem.Spec PyProof.Rows L2
section
variable {X : Cx}
/-- dict(d): a new dict with the same pairs -/
theorem call_dictC : CallR X (.type "dict") (fun xs H Q => ∃ (a : Addr) (kvs : List (Key × V)), xs = [.ref a] ∧ H a = some (.dK kvs) ∧ ∀ p, H p = none → Q (.ref p) (upd H p (.dK kvs))) := by
  intro pins s σ H xs us Q I r q
  obtain ⟨a, kvs, ex, hd, q⟩ := q
  subst ex
  obtain ⟨u, eu, rx⟩ := vals1 r
  subst eu
  cases rx
  obtain ⟨hlen, hsys, vs, rel, dd⟩ := I.hok a _ hd
  refine PySem.kt_call_dict (knd := mixKind X.prog X.w) hsys dd (by rw [← rel.length]; exact hlen) fun h' hd' hs => ?_
  have hm : (s.heap.objs.size == sysModules) = false := beq_eq_false_iff_ne.mpr (Nat.ne_of_gt I.big)
  have k : ∀ b o, s.heap.get? b = some o → h'.get? b = some o := fun b o e => by
    rw [hs.2 b (Nat.ne_of_lt (Heap.lt_size e))]
    exact Heap.get?_push_of_some _ e
  exact ⟨.ref s.heap.objs.size, upd H s.heap.objs.size (.dK kvs), I.laid (t' := s.toks) k (Nat.le_refl _) (show ObjOk X.prog X.w _ _ _ (.dK kvs) from ⟨hlen, hm, vs, rel, hd'⟩), rfl, q _ (I.hok.fresh (Nat.le_refl _))⟩
def rUpdate : V → List V → Hp → VK → Prop := fun x xs H Q => ∃ (a b : Addr) (kvs more : List (Key × V)), x = .ref a ∧ xs = [.ref b] ∧ a ≠ b ∧ H a = some (.dK kvs) ∧ H b = some (.dK more) ∧ kvs.length + more.length ≤ sizeLine ∧ Q .non (upd H a (.dK (mergeK kvs more)))
/-- d.update(e) -/
theorem mt_update : MtR X "dict.update" rUpdate := by
  intro pins s σ H x xs v us Q I rx rv h
  obtain ⟨a, b, kvs, more, rfl, rfl, hab, hA, hB, hl, q⟩ := h
  cases rx
  obtain ⟨u, eu, ru⟩ := vals1 rv
  subst eu
  cases ru
  obtain ⟨z1, y1, vs1, r1, d1⟩ := I.hok a _ hA
  obtain ⟨z2, y2, vs2, r2, d2⟩ := I.hok b _ hB
  refine call_meetsIn PySem.F.slot_dict_update d1.typeIs PySem.F.entry_dict_update (PySem.F.args_dict_update_2 _ _) (meets_dict_update (mixKind X.prog X.w) a b hab y2) ⟨vs1, vs2, d1, d2, ?_, fun h' hd' ho' hs => ?_⟩
  · rw [← r1.length, ← r2.length]; exact hl
  · have hne : ∃ u, h'.get? a = some u := by
      obtain ⟨o, _, _, e, _⟩ := hd'
      exact ⟨o, e⟩
    exact ⟨.non, upd H a (.dK (mergeK kvs more)), I.write (t' := s.toks) (by rw [hA]; trivial) (.inl rfl) (fun c o hc e => by rw [hs.2 c hc]; exact e) hne
      (show ObjOk X.prog X.w _ _ _ (.dK (mergeK kvs more)) from ⟨Nat.le_trans (length_mergeK more kvs) hl, y1, _, r2.merge r1, hd'⟩), rfl, q⟩
end
end Wr
namespace Wr
open PySem PySem.Spec PyProof.Rows L2
/-! ### expressions -/
inductive Ex where
  | num (n : Int)
  | name (x : Str)
  | fault
  | one (w : Str) (a : Ex)
  | two (w : Str) (a b : Ex)
  | ite (a b c : Ex)
  | lt (x : Str) (a b : Ex)
  | fn (x : Str) (a : Ex)
  | ct (a : Ex) (x k : Str) (b : Ex)
  deriving DecidableEq
def letters : List Str := ["a", "b", "c", "d", "e", "f", "g", "h"]
def ones : List Str := ["say", "box", "look", "throw", "drop"]
def twos : List Str := ["add", "take", "less", "call", "put", "go", "last", "else"]
/-- v stands for e -/
def AtE (H : Hp) : V → Ex → Prop
  | v, .num n => ∃ t, v = .ref t ∧ H t = some (.tup [.str "num", .int n])
  | v, .name x => ∃ t, v = .ref t ∧ H t = some (.tup [.str "name", .str x])
  | v, .fault => ∃ t, v = .ref t ∧ H t = some (.tup [.str "fault"])
  | v, .one w a => ∃ t x, v = .ref t ∧ H t = some (.tup [.str w, x]) ∧ AtE H x a
  | v, .two w a b => ∃ t x y, v = .ref t ∧ H t = some (.tup [.str w, x, y]) ∧ AtE H x a ∧ AtE H y b
  | v, .ite a b c => ∃ t x y z, v = .ref t ∧ H t = some (.tup [.str "if", x, y, z]) ∧ AtE H x a ∧ AtE H y b ∧ AtE H z c
  | v, .lt n a b => ∃ t x y, v = .ref t ∧ H t = some (.tup [.str "let", .str n, x, y]) ∧ AtE H x a ∧ AtE H y b
  | v, .fn n a => ∃ t x, v = .ref t ∧ H t = some (.tup [.str "fun", .str n, x]) ∧ AtE H x a
  | v, .ct a n k b => ∃ t x y, v = .ref t ∧ H t = some (.tup [.str "catch", x, .str n, .str k, y]) ∧ AtE H x a ∧ AtE H y b
theorem AtE.tups {H H' : Hp} (s : ∀ t xs, H t = some (.tup xs) → H' t = some (.tup xs)) : ∀ {v : V} {e : Ex}, AtE H v e → AtE H' v e := by
  intro v e
  induction e generalizing v with
  | num n => exact fun ⟨t, e, h⟩ => ⟨t, e, s _ _ h⟩
  | name x => exact fun ⟨t, e, h⟩ => ⟨t, e, s _ _ h⟩
  | fault => exact fun ⟨t, e, h⟩ => ⟨t, e, s _ _ h⟩
  | one w a ia => exact fun ⟨t, x, e, h, ha⟩ => ⟨t, x, e, s _ _ h, ia ha⟩
  | two w a b ia ib => exact fun ⟨t, x, y, e, h, ha, hb⟩ => ⟨t, x, y, e, s _ _ h, ia ha, ib hb⟩
  | ite a b c ia ib ic => exact fun ⟨t, x, y, z, e, h, ha, hb, hc⟩ => ⟨t, x, y, z, e, s _ _ h, ia ha, ib hb, ic hc⟩
  | lt n a b ia ib => exact fun ⟨t, x, y, e, h, ha, hb⟩ => ⟨t, x, y, e, s _ _ h, ia ha, ib hb⟩
  | fn n a ia => exact fun ⟨t, x, e, h, ha⟩ => ⟨t, x, e, s _ _ h, ia ha⟩
  | ct a n k b ia ib => exact fun ⟨t, x, y, e, h, ha, hb⟩ => ⟨t, x, y, e, s _ _ h, ia ha, ib hb⟩
theorem AtE.step {D : List Addr} {H H' : Hp} (s : Stp D H H') {v : V} {e : Ex} (h : AtE H v e) : AtE H' v e := h.tups s.tups
theorem AtE.up {H : Hp} {p : Addr} (n : H p = none) (o : HO) {v : V} {e : Ex} (h : AtE H v e) : AtE (upd H p o) v e := h.step (Stp.new (D := []) n o)
/-- what is a part of a program, the names S being bound -/
def Good (S : List Str) : Ex → Prop
  | .num n => -1000000 ≤ n ∧ n ≤ 1000000
  | .name x => x ∈ S
  | .fault => True
  | .one w a => w ∈ ones ∧ Good S a
  | .two w a b => w ∈ twos ∧ Good S a ∧ Good S b
  | .ite a b c => Good S a ∧ Good S b ∧ Good S c
  | .lt x a b => x ∈ letters ∧ Good S a ∧ Good (x :: S) b
  | .fn x a => x ∈ letters ∧ Good (x :: S) a
  | .ct a x k b => x ∈ letters ∧ k ∈ letters ∧ x ≠ k ∧ Good S a ∧ Good (x :: k :: S) b
theorem Good.mono : ∀ {e : Ex} {S S' : List Str}, (∀ x ∈ S, x ∈ S') → Good S e → Good S' e := by
  intro e
  induction e with
  | num n => exact fun _ h => h
  | name x => exact fun s h => s x h
  | fault => exact fun _ h => h
  | one w a ia => exact fun s h => ⟨h.1, ia s h.2⟩
  | two w a b ia ib => exact fun s h => ⟨h.1, ia s h.2.1, ib s h.2.2⟩
  | ite a b c ia ib ic => exact fun s h => ⟨ia s h.1, ib s h.2.1, ic s h.2.2⟩
  | lt n a b ia ib => exact fun s h => ⟨h.1, ia s h.2.1, ib (fun x q => (List.mem_cons.mp q).elim (fun z => by rw [z]; exact List.mem_cons_self) fun z => List.mem_cons_of_mem _ (s x z)) h.2.2⟩
  | fn n a ia => exact fun s h => ⟨h.1, ia (fun x q => (List.mem_cons.mp q).elim (fun z => by rw [z]; exact List.mem_cons_self) fun z => List.mem_cons_of_mem _ (s x z)) h.2⟩
  | ct a n k b ia ib =>
    exact fun s h => ⟨h.1, h.2.1, h.2.2.1, ia s h.2.2.2.1, ib (fun x q => (List.mem_cons.mp q).elim (fun z => by rw [z]; exact List.mem_cons_self) fun q => List.mem_cons_of_mem _
      ((List.mem_cons.mp q).elim (fun z => by rw [z]; exact List.mem_cons_self) fun z => List.mem_cons_of_mem _ (s x z))) h.2.2.2.2⟩
def Ex.size : Ex → Nat
  | .num _ => 1
  | .name _ => 1
  | .fault => 1
  | .one _ a => 1 + a.size
  | .two _ a b => 1 + (a.size + b.size)
  | .ite a b c => 1 + (a.size + b.size + c.size)
  | .lt _ a b => 1 + (a.size + b.size)
  | .fn _ a => 1 + a.size
  | .ct a _ _ b => 1 + (a.size + b.size)
def Ex.deep : Ex → Nat
  | .num _ => 1
  | .name _ => 1
  | .fault => 1
  | .one _ a => 1 + a.deep
  | .two _ a b => 1 + max a.deep b.deep
  | .ite a b c => 1 + max (max a.deep b.deep) c.deep
  | .lt _ a b => 1 + max a.deep b.deep
  | .fn _ a => 1 + a.deep
  | .ct a _ _ b => 1 + max a.deep b.deep
theorem Ex.size_pos (e : Ex) : 1 ≤ e.size := by cases e <;> simp only [Ex.size] <;> omega
theorem Ex.deep_pos (e : Ex) : 1 ≤ e.deep := by cases e <;> simp only [Ex.deep] <;> omega
theorem Ex.deep_le (e : Ex) : e.deep ≤ e.size := by
  induction e <;> simp only [Ex.size, Ex.deep] <;> omega
/-! ### names -/
/-- the dict of the names at a: letters, among S; what they are, texts -/
structure NamesAt (H : Hp) (a : Addr) (S : List Str) : Prop where
  ex : ∃ kvs : List (Str × Str), H a = some (.dK (kvs.map fun p => ((Sum.inr p.1 : Key), V.str p.2))) ∧ (kvs.map (·.1)).Nodup ∧ (∀ x ∈ kvs.map (·.1), x ∈ letters) ∧ ∀ x ∈ kvs.map (·.1), x ∈ S
theorem NamesAt.step {D : List Addr} {H H' : Hp} {a : Addr} {S : List Str} (s : Stp D H H') (ha : a ∉ D) (h : NamesAt H a S) : NamesAt H' a S := by
  obtain ⟨kvs, e, r⟩ := h.ex
  exact ⟨kvs, s.keep _ _ ha e, r⟩
theorem nodup_sub_len {α : Type} [DecidableEq α] : ∀ {l m : List α}, l.Nodup → (∀ x ∈ l, x ∈ m) → l.length ≤ m.length
  | [], _, _, _ => Nat.zero_le _
  | x :: l, m, hn, hs => by
    obtain ⟨h1, h2⟩ := List.nodup_cons.mp hn
    have hx : x ∈ m := hs x List.mem_cons_self
    have := nodup_sub_len (l := l) (m := m.erase x) h2 fun y hy => (List.mem_erase_of_ne (fun z => h1 (by rw [← z]; exact hy))).mpr (hs y (List.mem_cons_of_mem _ hy))
    rw [List.length_erase_of_mem hx] at this
    have : 0 < m.length := List.length_pos_of_mem hx
    rw [List.length_cons]
    omega
theorem NamesAt.few {H : Hp} {a : Addr} {S : List Str} {kvs : List (Str × Str)} (hn : (kvs.map (·.1)).Nodup) (hl : ∀ x ∈ kvs.map (·.1), x ∈ letters) : kvs.length ≤ 8 := by
  have := nodup_sub_len hn hl
  rw [List.length_map] at this
  exact this
/-- {x: word}, put behind -/
theorem putK_str (kvs : List (Str × Str)) (x z : Str) : ∃ kvs' : List (Str × Str), putK (kvs.map fun p => ((Sum.inr p.1 : Key), V.str p.2)) (.inr x) (.str z) = kvs'.map (fun p => ((Sum.inr p.1 : Key), V.str p.2)) ∧
    (∀ y, y ∈ kvs'.map (·.1) ↔ y = x ∨ y ∈ kvs.map (·.1)) ∧ ((kvs.map (·.1)).Nodup → (kvs'.map (·.1)).Nodup) := by
  have e1 : ((kvs.map fun p => ((Sum.inr p.1 : Key), V.str p.2)).any fun kv => decide (kv.1 = (Sum.inr x : Key))) = kvs.any fun p => decide (p.1 = x) := by
    rw [List.any_map]
    refine congrArg (fun f => kvs.any f) (funext fun p => ?_)
    show decide ((Sum.inr p.1 : Key) = Sum.inr x) = decide (p.1 = x)
    exact key_rr _ _
  unfold putK
  rw [e1]
  by_cases c : (kvs.any fun p => decide (p.1 = x)) = true
  · rw [if_pos c]
    refine ⟨kvs.map fun p => if p.1 = x then (p.1, z) else p, ?_, ?_, ?_⟩
    · rw [List.map_map, List.map_map]
      refine List.map_congr_left fun p _ => ?_
      show (if (Sum.inr p.1 : Key) = Sum.inr x then ((Sum.inr p.1 : Key), V.str z) else ((Sum.inr p.1 : Key), V.str p.2)) = ((Sum.inr (if p.1 = x then (p.1, z) else p).1 : Key), V.str (if p.1 = x then (p.1, z) else p).2)
      by_cases h : p.1 = x
      · rw [if_pos h, if_pos (congrArg Sum.inr h)]
      · rw [if_neg h, if_neg (fun q => h (Sum.inr.inj q))]
    · intro y
      have e2 : (kvs.map fun p => if p.1 = x then (p.1, z) else p).map (·.1) = kvs.map (·.1) := by
        rw [List.map_map]
        refine List.map_congr_left fun p _ => ?_
        show (if p.1 = x then (p.1, z) else p).1 = p.1
        by_cases h : p.1 = x
        · rw [if_pos h]
        · rw [if_neg h]
      rw [e2]
      refine ⟨.inr, fun h => h.elim (fun h => ?_) id⟩
      obtain ⟨p, hp, hd⟩ := List.any_eq_true.mp c
      rw [h, ← of_decide_eq_true hd]
      exact List.mem_map.mpr ⟨p, hp, rfl⟩
    · intro hn
      have e2 : (kvs.map fun p => if p.1 = x then (p.1, z) else p).map (·.1) = kvs.map (·.1) := by
        rw [List.map_map]
        refine List.map_congr_left fun p _ => ?_
        show (if p.1 = x then (p.1, z) else p).1 = p.1
        by_cases h : p.1 = x
        · rw [if_pos h]
        · rw [if_neg h]
      rw [e2]
      exact hn
  · rw [if_neg c]
    refine ⟨kvs ++ [(x, z)], by rw [List.map_append] <;> rfl, fun y => ?_, fun hn => ?_⟩
    · rw [List.map_append, List.mem_append]
      simp only [List.map_cons, List.map_nil, List.mem_singleton]
      exact ⟨fun h => h.elim .inr .inl, fun h => h.elim .inr .inl⟩
    · rw [List.map_append]
      refine List.nodup_append.mpr ⟨hn, by simp, fun a ha b hb => ?_⟩
      simp only [List.map_cons, List.map_nil, List.mem_singleton] at hb
      rintro rfl
      refine c (List.any_eq_true.mpr ?_)
      obtain ⟨p, hp, e⟩ := List.mem_map.mp ha
      exact ⟨p, hp, decide_eq_true (e.trans hb)⟩
end Wr
namespace Wr
open PySem PySem.Spec PyProof.Rows L2
/-! ### displays of parts -/
/-- a display of a part: its words and numbers written, or standing in slots -/
inductive Bx where
  | num (n : Int)
  | numv (i : Nat)
  | nm (s : Str)
  | nmv (i : Nat)
  | fault
  | var (i : Nat)
  | ext (i : Nat) (te : TE)
  | one (w : Str) (a : Bx)
  | two (w : Str) (a b : Bx)
  | ite (a b c : Bx)
  | lt (x : Str) (a b : Bx)
  | fn (x : Str) (a : Bx)
  | ct (a : Bx) (x k : Str) (b : Bx)
/-- its reading -/
def Bx.t : Bx → TE
  | .num n => tTup (tCons (tC (.str "num")) (tCons (tC (.int n)) tNil))
  | .numv i => tTup (tCons (tC (.str "num")) (tCons (tVar i) tNil))
  | .nm s => tTup (tCons (tC (.str "name")) (tCons (tC (.str s)) tNil))
  | .nmv i => tTup (tCons (tC (.str "name")) (tCons (tVar i) tNil))
  | .fault => tTup (tCons (tC (.str "fault")) tNil)
  | .var i => tVar i
  | .ext _ te => te
  | .one w a => tTup (tCons (tC (.str w)) (tCons a.t tNil))
  | .two w a b => tTup (tCons (tC (.str w)) (tCons a.t (tCons b.t tNil)))
  | .ite a b c => tTup (tCons (tC (.str "if")) (tCons a.t (tCons b.t (tCons c.t tNil))))
  | .lt x a b => tTup (tCons (tC (.str "let")) (tCons (tC (.str x)) (tCons a.t (tCons b.t tNil))))
  | .fn x a => tTup (tCons (tC (.str "fun")) (tCons (tC (.str x)) (tCons a.t tNil)))
  | .ct a x k b => tTup (tCons (tC (.str "catch")) (tCons a.t (tCons (tC (.str x)) (tCons (tC (.str k)) (tCons b.t tNil)))))
/-- what the slots stand for -/
structure Rho where
  e : Nat → Ex
  n : Nat → Int
  s : Nat → Str
def Bx.ex (ρ : Rho) : Bx → Ex
  | .num n => .num n
  | .numv i => .num (ρ.n i)
  | .nm s => .name s
  | .nmv i => .name (ρ.s i)
  | .fault => .fault
  | .var i => ρ.e i
  | .ext i _ => ρ.e i
  | .one w a => .one w (a.ex ρ)
  | .two w a b => .two w (a.ex ρ) (b.ex ρ)
  | .ite a b c => .ite (a.ex ρ) (b.ex ρ) (c.ex ρ)
  | .lt x a b => .lt x (a.ex ρ) (b.ex ρ)
  | .fn x a => .fn x (a.ex ρ)
  | .ct a x k b => .ct (a.ex ρ) x k (b.ex ρ)
/-- the slots hold it -/
def Bx.has (ρ : Rho) (σ : L2.St) (H : Hp) : Bx → Prop
  | .num _ => True
  | .numv i => σ[i]? = some (some (.int (ρ.n i)))
  | .nm _ => True
  | .nmv i => σ[i]? = some (some (.str (ρ.s i)))
  | .fault => True
  | .var i => ∃ v, σ[i]? = some (some v) ∧ AtE H v (ρ.e i)
  | .ext i te => ∀ (H1 : Hp) (Q : VK), Stp [] H H1 → (∀ v H2, Stp [] H1 H2 → AtE H2 v (ρ.e i) → Q v H2) → te σ H1 Q
  | .one _ a => a.has ρ σ H
  | .two _ a b => a.has ρ σ H ∧ b.has ρ σ H
  | .ite a b c => a.has ρ σ H ∧ b.has ρ σ H ∧ c.has ρ σ H
  | .lt _ a b => a.has ρ σ H ∧ b.has ρ σ H
  | .fn _ a => a.has ρ σ H
  | .ct a _ _ b => a.has ρ σ H ∧ b.has ρ σ H
theorem Bx.has.step {ρ : Rho} {σ : L2.St} {H H' : Hp} (s : Stp [] H H') : ∀ {b : Bx}, b.has ρ σ H → b.has ρ σ H' := by
  intro b
  induction b with
  | num n => exact id
  | numv i => exact id
  | nm x => exact id
  | nmv i => exact id
  | fault => exact id
  | var i => exact fun ⟨v, e, h⟩ => ⟨v, e, h.step s⟩
  | ext i te => exact fun h H1 Q s1 q => h H1 Q (s.trans s1) q
  | one w a ia => exact fun h => ia h
  | two w a b ia ib => exact fun h => ⟨ia h.1, ib h.2⟩
  | ite a b c ia ib ic => exact fun h => ⟨ia h.1, ib h.2.1, ic h.2.2⟩
  | lt x a b ia ib => exact fun h => ⟨ia h.1, ib h.2⟩
  | fn x a ia => exact fun h => ia h
  | ct a x k b ia ib => exact fun h => ⟨ia h.1, ib h.2⟩
theorem Bx.read {ρ : Rho} {σ : L2.St} : ∀ (b : Bx) {H : Hp} {Q : VK}, b.has ρ σ H → (∀ v H', Stp [] H H' → AtE H' v (b.ex ρ) → Q v H') → b.t σ H Q := by
  intro b
  induction b with
  | num n => exact fun {H Q} _ q => ⟨by show 2 ≤ sizeLine; decide, fun p np => q _ _ (.new np _) ⟨p, rfl, upd_same⟩⟩
  | numv i => exact fun {H Q} h q => ⟨_, h, by show 2 ≤ sizeLine; decide, fun p np => q _ _ (.new np _) ⟨p, rfl, upd_same⟩⟩
  | nm x => exact fun {H Q} _ q => ⟨by show 2 ≤ sizeLine; decide, fun p np => q _ _ (.new np _) ⟨p, rfl, upd_same⟩⟩
  | nmv i => exact fun {H Q} h q => ⟨_, h, by show 2 ≤ sizeLine; decide, fun p np => q _ _ (.new np _) ⟨p, rfl, upd_same⟩⟩
  | fault => exact fun {H Q} _ q => ⟨by show 1 ≤ sizeLine; decide, fun p np => q _ _ (.new np _) ⟨p, rfl, upd_same⟩⟩
  | var i => exact fun {H Q} ⟨v, e, h⟩ q => ⟨v, e, q v H (.refl _ _) h⟩
  | ext i te => exact fun {H Q} h q => h H Q (.refl _ _) q
  | one w a ia => exact fun {H Q} h q => ia h fun v H1 s1 h1 => ⟨by show 2 ≤ sizeLine; decide, fun p np => q _ _ (s1.trans (.new np _)) ⟨p, v, rfl, upd_same, h1.up np _⟩⟩
  | two w a b ia ib => exact fun {H Q} h q => ia h.1 fun v H1 s1 h1 => ib (h.2.step s1) fun u H2 s2 h2 => ⟨by show 3 ≤ sizeLine; decide, fun p np => q _ _ ((s1.trans s2).trans (.new np _)) ⟨p, v, u, rfl, upd_same, (h1.step s2).up np _, h2.up np _⟩⟩
  | ite a b c ia ib ic => exact fun {H Q} h q => ia h.1 fun v H1 s1 h1 => ib (h.2.1.step s1) fun u H2 s2 h2 => ic (h.2.2.step (s1.trans s2)) fun z H3 s3 h3 => ⟨by show 4 ≤ sizeLine; decide, fun p np => q _ _ (((s1.trans s2).trans s3).trans (.new np _)) ⟨p, v, u, z, rfl, upd_same, ((h1.step s2).step s3).up np _, (h2.step s3).up np _, h3.up np _⟩⟩
  | lt x a b ia ib => exact fun {H Q} h q => ia h.1 fun v H1 s1 h1 => ib (h.2.step s1) fun u H2 s2 h2 => ⟨by show 4 ≤ sizeLine; decide, fun p np => q _ _ ((s1.trans s2).trans (.new np _)) ⟨p, v, u, rfl, upd_same, (h1.step s2).up np _, h2.up np _⟩⟩
  | fn x a ia => exact fun {H Q} h q => ia h fun v H1 s1 h1 => ⟨by show 3 ≤ sizeLine; decide, fun p np => q _ _ (s1.trans (.new np _)) ⟨p, v, rfl, upd_same, h1.up np _⟩⟩
  | ct a x k b ia ib => exact fun {H Q} h q => ia h.1 fun v H1 s1 h1 => ib (h.2.step s1) fun u H2 s2 h2 => ⟨by show 5 ≤ sizeLine; decide, fun p np => q _ _ ((s1.trans s2).trans (.new np _)) ⟨p, v, u, rfl, upd_same, (h1.step s2).up np _, h2.up np _⟩⟩
/-- a list of them -/
def bxs : List Bx → TA
  | [] => tNil
  | b :: r => tCons b.t (bxs r)
/-- values for parts -/
inductive AtL (H : Hp) : List V → List Ex → Prop where
  | nil : AtL H [] []
  | cons {v : V} {e : Ex} {vs : List V} {es : List Ex} : AtE H v e → AtL H vs es → AtL H (v :: vs) (e :: es)
theorem AtL.tups {H H' : Hp} (s : ∀ t xs, H t = some (.tup xs) → H' t = some (.tup xs)) : ∀ {vs : List V} {es : List Ex}, AtL H vs es → AtL H' vs es
  | _, _, .nil => .nil
  | _, _, .cons a t => .cons (a.tups s) (AtL.tups s t)
theorem AtL.step {D : List Addr} {H H' : Hp} (s : Stp D H H') {vs : List V} {es : List Ex} (h : AtL H vs es) : AtL H' vs es := h.tups s.tups
theorem AtL.length {H : Hp} : ∀ {vs : List V} {es : List Ex}, AtL H vs es → vs.length = es.length
  | _, _, .nil => rfl
  | _, _, .cons a t => congrArg (· + 1) (AtL.length t)
theorem AtL.append {H : Hp} : ∀ {vs us : List V} {es fs : List Ex}, AtL H vs es → AtL H us fs → AtL H (vs ++ us) (es ++ fs)
  | _, _, _, _, .nil, h => h
  | _, _, _, _, .cons a t, h => .cons a (AtL.append t h)
/-- the item at a place -/
theorem AtL.at_ {H : Hp} : ∀ {vs : List V} {es : List Ex} (k : Nat), AtL H vs es → k < es.length → ∃ v e, vs[k]? = some v ∧ es[k]? = some e ∧ e ∈ es ∧ AtE H v e
  | _, _, _, .nil, h => absurd h (by simp)
  | _, _, 0, .cons a t, _ => ⟨_, _, rfl, rfl, List.mem_cons_self, a⟩
  | _, _, k + 1, .cons a t, h => by
    obtain ⟨v, e, h1, h2, h3, h4⟩ := AtL.at_ k t (by simpa using h)
    exact ⟨v, e, h1, h2, List.mem_cons_of_mem _ h3, h4⟩
theorem AtL.ix {H : Hp} {vs : List V} {es : List Ex} {x : Int} (h : AtL H vs es) (h0 : 0 ≤ x) (h1 : x < es.length) : ∃ v e, atI vs x = some v ∧ e ∈ es ∧ AtE H v e := by
  obtain ⟨k, rfl⟩ : ∃ k : Nat, x = (k : Int) := ⟨x.toNat, by omega⟩
  obtain ⟨v, e, a1, _, a3, a4⟩ := h.at_ k (by omega)
  exact ⟨v, e, atI_nat a1, a3, a4⟩
theorem bxs.read {ρ : Rho} {σ : L2.St} : ∀ (bs : List Bx) {H : Hp} {Q : List V → Hp → Prop}, (∀ b ∈ bs, b.has ρ σ H) → (∀ vs H', Stp [] H H' → AtL H' vs (bs.map (Bx.ex ρ)) → Q vs H') → bxs bs σ H Q
  | [], H, Q, _, q => q [] H (.refl _ _) .nil
  | b :: r, H, Q, h, q => b.read (h b List.mem_cons_self) fun v H1 s1 h1 => bxs.read r (fun c hc => (h c (List.mem_cons_of_mem _ hc)).step s1) fun vs H2 s2 h2 => q _ _ (s1.trans s2) (.cons (h1.step s2) h2)
/-- name = a display -/
theorem stB {ρ : Rho} {i : Nat} {u : TS} {D : Ends} {σ : L2.St} {H : Hp} (b : Bx) (hb : b.has ρ σ H) (q : ∀ v H', Stp [] H H' → AtE H' v (b.ex ρ) → u D (σ.set i (some v)) H') : tSeq (tAsg b.t (gName i)) u D σ H := b.read hb q
theorem retB {ρ : Rho} {D : Ends} {σ : L2.St} {H : Hp} (b : Bx) (hb : b.has ρ σ H) (q : ∀ v H', Stp [] H H' → AtE H' v (b.ex ρ) → D.rt v H') : tRet b.t D σ H := b.read hb q
/-- xs.append(a display) -/
theorem apB {K : PySem.W.Frag} {ρ : Rho} {i : Nat} {u : TS} {D : Ends} {σ : L2.St} {H : Hp} {l : Addr} {vs : List V} (b : Bx) (hσ : σ[i]? = some (some (.ref l))) (hl : H l = some (.lst vs)) (hn : vs.length ≤ 1000) (hb : b.has ρ σ H)
    (q : ∀ v H1, Stp [] H H1 → AtE H1 v (b.ex ρ) → u D σ (upd H1 l (.lst (vs ++ [v])))) : tSeq (tDrop (tBM K "list" rAppend (tVar i) (tCons b.t tNil))) u D σ H :=
  ⟨_, hσ, .inl ⟨rfl, _, SqL.of hl⟩, b.read hb fun v H1 s1 h1 => ⟨l, _, _, rfl, rfl, s1.keep _ _ (by simp) hl, Nat.lt_of_le_of_lt hn (by decide), q v H1 s1 h1⟩⟩
/-- name = a list of displays -/
theorem stL {ρ : Rho} {i : Nat} {u : TS} {D : Ends} {σ : L2.St} {H : Hp} (bs : List Bx) (hl : bs.length ≤ 100) (hb : ∀ b ∈ bs, b.has ρ σ H) (q : ∀ p vs H1, Stp [] H H1 → AtL H1 vs (bs.map (Bx.ex ρ)) → H1 p = none → u D (σ.set i (some (.ref p))) (upd H1 p (.lst vs))) : tSeq (tAsg (tLst (bxs bs)) (gName i)) u D σ H :=
  bxs.read bs hb fun vs H1 s1 h1 => ⟨by rw [h1.length, List.length_map]; exact Nat.le_trans hl (by decide), fun p np => q p vs H1 s1 h1 np⟩
end Wr
namespace Wr
open PySem PySem.Spec PyProof.Rows L2
def top (i : Nat) : Stmt := PySem.Challenge.pw_whatremains_k14_papers.main.body.getD i (.Pass ⟨0, 0, 0, 0⟩)
abbrev s_BadProgram_init : Stmt := inClass (top 2) 0
abbrev s_BadPapers_init : Stmt := inClass (top 3) 0
abbrev s_Part_init : Stmt := inClass (top 10) 0
abbrev s_Tree_init : Stmt := inClass (top 11) 0
abbrev s_Reader_init : Stmt := inClass (top 12) 0
abbrev s_Reader_part_of : Stmt := inClass (top 12) 1
abbrev s_Reader_parts_of : Stmt := inClass (top 12) 2
abbrev s_why_not : Stmt := top 13
abbrev s_has_shape : Stmt := top 14
abbrev s_fits : Stmt := top 15
abbrev s_is_whole : Stmt := top 16
abbrev s_standing : Stmt := top 17
abbrev s_tree_of : Stmt := top 18
abbrev s_behind : Stmt := top 24
abbrev s_in_turn : Stmt := top 25
abbrev s_throwing : Stmt := top 26
abbrev s_of_fun : Stmt := top 27
abbrev s_of_if : Stmt := top 28
abbrev s_of_catch : Stmt := top 29
abbrev s_names_rest : Stmt := top 31
abbrev s_word_of : Stmt := top 32
abbrev s_paper_of : Stmt := top 33
abbrev s_catches_within : Stmt := top 34
abbrev s_handler_paper : Stmt := top 35
abbrev s_papers_of : Stmt := top 36
abbrev s_papers : Stmt := top 37
abbrev s_shows : Stmt := top 38
abbrev s_L_dice : Stmt := top 40
abbrev s_L_next : Stmt := top 41
abbrev s_L_like : Stmt := top 42
abbrev s_L_name : Stmt := top 43
abbrev s_L_leaf : Stmt := top 44
abbrev s_L_with : Stmt := top 45
abbrev s_L_free : Stmt := top 46
abbrev s_L_expr : Stmt := top 47
abbrev s_L_let : Stmt := top 48
abbrev s_L_use : Stmt := top 49
abbrev s_L_catch : Stmt := top 50
abbrev s_L_size : Stmt := top 51
abbrev s_L_deep : Stmt := top 52
abbrev s_L_program : Stmt := top 53
abbrev s_L_loop : Stmt := top 54
abbrev s_L_again : Stmt := top 55
abbrev s_L_long : Stmt := top 56
abbrev s_L_any : Stmt := top 57
abbrev s_L_join : Stmt := top 58
abbrev s_L_paper : Stmt := top 59
abbrev s_L_catches : Stmt := top 60
abbrev s_L_papers : Stmt := top 61
abbrev s_L_handled : Stmt := top 62
abbrev s_L_tall : Stmt := top 63
abbrev s_law : Stmt := top 64
end Wr
namespace Wr
open PySem PySem.Spec PyProof.Rows L2
section
variable {P : Program} {w : World} {K : PySem.W.Frag} {mg : Str → Option Value} {base : Heap}
def spNext (K : PySem.W.Frag) : Sp := fun vs H Q _ => ∃ (D : List Addr) (d a : Addr) (ns : List Int) (n : Int), vs = [.ref d, .int n] ∧ Dice K H D d a ns ∧ 0 < n ∧ n < 1073741824 ∧
  ∀ (x : Int) (H' : Hp), 0 ≤ x → x < n → Stp [d] H H' → Dice K H' D d a ns → Q (.int x) H'
theorem scNext : FnScope ["_law_dice_here", "_law_many", "_law_found", "_law_cell"] ["_law_dice_here", "_law_many"] (defScope s_L_next) := ⟨rfl, rfl, rfl, by decide +kernel, rfl, by decide +kernel, by decide +kernel⟩
theorem ok_next (F : Df K mg "_law_next" s_L_next) (len : mg "len" = none) : Use P w K mg base "_law_next" ["_law_dice_here", "_law_many"] 1 (spNext K) := by
  refine F.use scNext (fun _ _ _ _ _ _ us hl => match us, hl with | [_, _], _ => rfl) (fun vs H Q E h => ?_) (fun cdv f A outer s H vs Q E hr h => ?_)
  · obtain ⟨DD, d, a, ns, n, rfl, _⟩ := h
    rfl
  · obtain ⟨DD, d, a, ns, n, rfl, D, n0, n1, q⟩ := h
    refine ⟨_, pss_cons (ps_if (pt_cmpR op_gt (pe_ix ix_list (pv 0) pe_int (fun _ _ => rfl)) pe_int (nomark _))
        (pss_cons (ps_set (i := 2) scNext.nd rfl (Or.inl rfl) (pe_op op_mod (pe_ix ix_list (pv 0) pe_int (fun _ _ => rfl)) (pv 1)))
          (pss_cons (ps_asg (pe_op op_fdiv (pe_ix ix_list (pv 0) pe_int (fun _ _ => rfl)) (pv 1)) (pg_sub (pv 0) pe_int set_list)) (pss_one (ps_ret (pv 2))))) pss_nil)
      (pss_cons (ps_asg (pe_op op_add (pe_ix ix_list (pv 0) pe_int (fun _ _ => rfl)) pe_int) (pg_sub (pv 0) pe_int set_list))
      (pss_cons (ps_if (pt_cmpR op_le (pe_ix ix_list (pv 0) pe_int (fun _ _ => rfl)) (pe_callB call_len_seq (by rfl) len PySem.boot_len (pa_cons (pe_ix ix_list (pv 0) pe_int (fun _ _ => rfl)) pa_nil)) (nomark _))
        (pss_cons (ps_set (i := 3) scNext.nd rfl (Or.inl rfl) (pe_ix ix_list (pe_ix ix_list (pv 0) pe_int (fun _ _ => rfl)) (pe_op op_sub (pe_ix ix_list (pv 0) pe_int (fun _ _ => rfl)) pe_int) (fun _ _ => rfl)))
          (pss_cons (ps_asg (pe_ifExp (pt_cmpR op_ge (pv 3) (pe_op op_pow pe_int pe_int) (nomark _)) (pe_op op_fdiv (pv 3) (pv 1)) pe_int) (pg_sub (pv 0) pe_int set_list)) (pss_one (ps_ret (pe_op op_mod (pv 3) (pv 1)))))) pss_nil)
      (pss_cons (ps_asg (pe_op op_mod (pe_op op_mul (pe_ix ix_list (pv 0) pe_int (fun _ _ => rfl)) pe_int) pe_int) (pg_sub (pv 0) pe_int set_list))
      (pss_one (ps_ret (pe_op op_mod (pe_op op_fdiv (pe_ix ix_list (pv 0) pe_int (fun _ _ => rfl)) pe_int) (pv 1))))))), ?_⟩
    obtain ⟨⟨i, m, c, hD, i0, m0, m1, c0⟩, hS, mm, hl⟩ := D
    have md : ∀ b ∈ [d], b ∈ DD := fun b hb => by
      rw [List.mem_singleton.mp hb]
      exact mm
    have nt : ∀ xs, H d ≠ some (.tup xs) := fun xs z => by rw [hD] at z; cases z
    have e18 : ((10 : Int) ^ (18 : Int).toNat) = 1000000000000000000 := by decide +kernel
    refine ⟨_, rfl, d, _, _, _, rfl, rfl, SqL.of hD, rfl, _, _, rfl, rfl, _, rfl, ?_⟩
    refine ite2 (fun hc => ?_) (fun hc => ?_)
    · refine ⟨_, rfl, d, _, _, _, rfl, rfl, SqL.of hD, rfl, _, rfl, _, _, rfl, rfl, n0, ?_⟩
      refine ⟨_, rfl, d, _, _, _, rfl, rfl, SqL.of hD, rfl, _, rfl, _, _, rfl, rfl, ⟨n0, n1⟩, ?_⟩
      refine ⟨_, rfl, d, _, _, _, rfl, rfl, hD, rfl, ?_⟩
      refine ⟨_, rfl, ?_⟩
      have st : Stp [d] H (upd H d (.lst [.ref a, .int i, .int m, .int (c / n)])) := .put (by simp) nt _
      exact q _ _ (Int.emod_nonneg _ (by omega)) (Int.emod_lt_of_pos _ n0) st ⟨⟨i, m, c / n, upd_same, i0, m0, m1, Int.ediv_nonneg c0 (by omega)⟩, hS.step (st.mono md), mm, hl⟩
    · refine ⟨_, rfl, d, _, _, _, rfl, rfl, SqL.of hD, rfl, _, _, rfl, rfl, ?_⟩
      refine ⟨_, rfl, d, _, _, _, rfl, rfl, hD, rfl, ?_⟩
      have st1 : Stp [d] H (upd H d (.lst [.ref a, .int (i + 1), .int m, .int c])) := .put (by simp) nt _
      refine ⟨_, rfl, d, _, _, _, rfl, rfl, SqL.of upd_same, rfl, _, rfl, d, _, _, _, rfl, rfl, SqL.of upd_same, rfl, a, _, rfl, .inl (hS.step (st1.mono md)).seq, _, _, rfl, rfl, _, rfl, ?_⟩
      refine ite2 (fun hc2 => ?_) (fun hc2 => ?_)
      · have hle : i + 1 ≤ (ns.length : Int) := by
          have z := of_decide_eq_true hc2
          rw [List.length_map] at z
          exact z
        obtain ⟨k, rfl⟩ : ∃ k : Nat, i = (k : Int) := ⟨i.toNat, by omega⟩
        have hk : k < ns.length := by omega
        refine ⟨_, rfl, d, _, _, _, rfl, rfl, SqL.of upd_same, rfl, _, rfl, d, _, _, _, rfl, rfl, SqL.of upd_same, rfl, _, _, rfl, rfl, a, _, _, .int ns[k], rfl, rfl, (hS.step (st1.mono md)).seq, ?_, ?_⟩
        · show atI (ns.map V.int) ((k : Int) + 1 - 1) = _
          rw [show (k : Int) + 1 - 1 = (k : Int) by omega]
          exact atI_nat (by rw [List.getElem?_map, List.getElem?_eq_getElem hk] <;> rfl)
        refine ⟨_, rfl, _, _, rfl, rfl, ⟨by decide, by decide, by decide⟩, _, _, rfl, rfl, _, rfl, ?_⟩
        have fin : ∀ c2 : Int, 0 ≤ c2 → ∀ (x : Int), 0 ≤ x → x < n → Q (.int x) (upd (upd H d (.lst [.ref a, .int ((k : Int) + 1), .int m, .int c])) d (.lst [.ref a, .int ((k : Int) + 1), .int m, .int c2])) := fun c2 h2 x hx0 hx1 => by
          rw [upd_upd]
          have st : Stp [d] H (upd H d (.lst [.ref a, .int ((k : Int) + 1), .int m, .int c2])) := .put (by simp) nt _
          exact q _ _ hx0 hx1 st ⟨⟨(k : Int) + 1, m, c2, upd_same, by omega, m0, m1, h2⟩, hS.step (st.mono md), mm, hl⟩
        refine ite2 (fun hc3 => ?_) (fun hc3 => ?_)
        · have h18 : (1000000000000000000 : Int) ≤ ns[k] := by
            have z := of_decide_eq_true hc3
            rw [e18] at z
            exact z
          refine ⟨_, rfl, _, rfl, _, _, rfl, rfl, ⟨n0, n1⟩, ?_⟩
          refine ⟨_, rfl, d, _, _, _, rfl, rfl, upd_same, rfl, ?_⟩
          refine ⟨_, rfl, _, rfl, _, _, rfl, rfl, n0, ?_⟩
          exact fin _ (Int.ediv_nonneg (by omega) (by omega)) _ (Int.emod_nonneg _ (by omega)) (Int.emod_lt_of_pos _ n0)
        · refine ⟨_, rfl, d, _, _, _, rfl, rfl, upd_same, rfl, ?_⟩
          refine ⟨_, rfl, _, rfl, _, _, rfl, rfl, n0, ?_⟩
          exact fin 0 (by omega) _ (Int.emod_nonneg _ (by omega)) (Int.emod_lt_of_pos _ n0)
      · refine ⟨_, rfl, d, _, _, _, rfl, rfl, SqL.of upd_same, rfl, _, _, rfl, rfl, .inl ⟨by omega, by omega⟩, _, _, rfl, rfl, (by show (0 : Int) < 2147483647; decide), ?_⟩
        refine ⟨_, rfl, d, _, _, _, rfl, rfl, upd_same, rfl, ?_⟩
        refine ⟨_, rfl, d, _, _, _, rfl, rfl, SqL.of upd_same, rfl, _, _, rfl, rfl, ⟨by decide, by decide⟩, _, rfl, _, _, rfl, rfl, n0, ?_⟩
        rw [upd_upd]
        have st : Stp [d] H (upd H d (.lst [.ref a, .int (i + 1), .int (m * 48271 % 2147483647), .int c])) := .put (by simp) nt _
        exact q _ _ (Int.emod_nonneg _ (by omega)) (Int.emod_lt_of_pos _ n0) st ⟨⟨i + 1, _, c, upd_same, by omega, Int.emod_nonneg _ (by omega), Int.emod_lt_of_pos _ (by omega), c0⟩, hS.step (st.mono md), mm, hl⟩
end
end Wr
namespace Wr
open PySem PySem.Spec PyProof.Rows L2
theorem mergeK_str : ∀ (more kvs : List (Str × Str)), ∃ kvs' : List (Str × Str), mergeK (kvs.map fun p => ((Sum.inr p.1 : Key), V.str p.2)) (more.map fun p => ((Sum.inr p.1 : Key), V.str p.2)) = kvs'.map (fun p => ((Sum.inr p.1 : Key), V.str p.2)) ∧
    (∀ y, y ∈ kvs'.map (·.1) ↔ y ∈ more.map (·.1) ∨ y ∈ kvs.map (·.1)) ∧ ((kvs.map (·.1)).Nodup → (kvs'.map (·.1)).Nodup)
  | [], kvs => ⟨kvs, rfl, fun y => by simp, id⟩
  | (x, z) :: r, kvs => by
    obtain ⟨k1, e1, m1, n1⟩ := putK_str kvs x z
    obtain ⟨k2, e2, m2, n2⟩ := mergeK_str r k1
    refine ⟨k2, ?_, fun y => ?_, fun h => n2 (n1 h)⟩
    · show mergeK (putK (kvs.map fun p => ((Sum.inr p.1 : Key), V.str p.2)) (.inr x) (.str z)) (r.map fun p => ((Sum.inr p.1 : Key), V.str p.2)) = _
      rw [e1, e2]
    · rw [m2, m1, List.map_cons, List.mem_cons]
      constructor
      · rintro (h | h | h)
        · exact .inl (.inr h)
        · exact .inl (.inl h)
        · exact .inr h
      · rintro ((h | h) | h)
        · exact .inr (.inl h)
        · exact .inl h
        · exact .inr (.inr h)
section
variable {P : Program} {w : World} {K : PySem.W.Frag} {mg : Str → Option Value} {base : Heap}
/-! ### _law_with -/
def spWith : Sp := fun vs H Q _ => ∃ (a b : Addr) (S S2 : List Str), vs = [.ref a, .ref b] ∧ NamesAt H a S ∧ NamesAt H b S2 ∧
  ∀ (p : Addr) (H' : Hp), Same H H' → H p = none → NamesAt H' p (S2 ++ S) → Q (.ref p) H'
theorem scWith : FnScope ["_law_names", "_law_some", "_law_found"] ["_law_names", "_law_some"] (defScope s_L_with) := ⟨rfl, rfl, rfl, by decide +kernel, rfl, by decide +kernel, by decide +kernel⟩
theorem ok_with (F : Df K mg "_law_with" s_L_with) (dct : mg "dict" = none) : Use P w K mg base "_law_with" ["_law_names", "_law_some"] 1 spWith := by
  refine F.use scWith (fun _ _ _ _ _ _ us hl => match us, hl with | [_, _], _ => rfl) (fun vs H Q E h => ?_) (fun cdv f A outer s H vs Q E hr h => ?_)
  · obtain ⟨a, b, S, S2, rfl, _⟩ := h
    rfl
  · obtain ⟨a, b, S, S2, rfl, hA, hB, q⟩ := h
    refine ⟨_, pss_cons (ps_set (i := 2) scWith.nd rfl (Or.inl rfl) (pe_callTy call_dictC (by rfl) dct (by decide +kernel) (pa_cons (pv 0) pa_nil)))
      (pss_cons (ps_expr (pe_bm PySem.F.plainAttrs_dict PySem.F.slot_dict_update PySem.F.type_dict_update mt_update (pv 2) (pa_cons (pv 1) pa_nil))) (pss_one (ps_ret (pv 2)))), ?_⟩
    obtain ⟨k1, e1, n1, l1, s1⟩ := hA.ex
    obtain ⟨k2, e2, n2, l2, s2⟩ := hB.ex
    refine ⟨_, rfl, a, _, rfl, e1, fun p np => ?_⟩
    have npb : b ≠ p := ne_of_none e2 np
    refine ⟨_, rfl, .inr (.inr (.inl ⟨rfl, .inl ⟨_, upd_same⟩⟩)), _, rfl, p, b, _, _, rfl, rfl, npb.symm, upd_same, by rw [upd_ne npb]; exact e2, ?_, ?_⟩
    · rw [List.length_map, List.length_map]
      have := NamesAt.few (H := H) (a := a) (S := S) n1 l1
      have := NamesAt.few (H := H) (a := a) (S := S) n2 l2
      have h16 : (16 : Nat) ≤ sizeLine := by decide
      omega
    rw [upd_upd]
    refine ⟨_, rfl, ?_⟩
    obtain ⟨k3, e3, m3, n3⟩ := mergeK_str k2 k1
    refine q p _ (Stp.nil (.new np _)) np ⟨k3, ?_, n3 n1, fun x hx => ?_, fun x hx => ?_⟩
    · rw [upd_same, e3]
    · exact ((m3 x).mp hx).elim (l2 x) (l1 x)
    · rw [List.mem_append]
      exact ((m3 x).mp hx).imp (s2 x) (s1 x)
/-! ### _law_free -/
def spFree (K : PySem.W.Frag) : Sp := fun vs H Q _ => ∃ (D : List Addr) (d a : Addr) (ns : List Int), vs = [.ref d] ∧ Dice K H D d a ns ∧
  ∀ (x : Str) (H' : Hp), x ∈ letters → Stp [d] H H' → Dice K H' D d a ns → Q (.str x) H'
theorem scFree : FnScope ["_law_d"] ["_law_d"] (defScope s_L_free) := ⟨rfl, rfl, rfl, by decide +kernel, rfl, by decide +kernel, by decide +kernel⟩
theorem letter_at (x : Int) (h0 : 0 ≤ x) (h8 : x < 8) : ∃ c, atI (("abcdefgh" : Str).cps.toList) x = some c ∧ (⟨#[c]⟩ : Str) ∈ letters := by
  have hx : x = 0 ∨ x = 1 ∨ x = 2 ∨ x = 3 ∨ x = 4 ∨ x = 5 ∨ x = 6 ∨ x = 7 := by omega
  rcases hx with rfl | rfl | rfl | rfl | rfl | rfl | rfl | rfl
  all_goals exact ⟨_, rfl, by decide +kernel⟩
theorem ok_free (F : Df K mg "_law_free" s_L_free) (U : Use P w K mg base "_law_next" ["_law_dice_here", "_law_many"] 1 (spNext K)) : Use P w K mg base "_law_free" ["_law_d"] 2 (spFree K) := by
  refine F.use scFree (fun _ _ _ _ _ _ us hl => match us, hl with | [_], _ => rfl) (fun vs H Q E h => ?_) (fun cdv f A outer s H vs Q E hr h => ?_)
  · obtain ⟨D, d, a, ns, rfl, _⟩ := h
    rfl
  · obtain ⟨D, d, a, ns, rfl, hD, q⟩ := h
    refine ⟨_, pss_one (ps_ret (pe_ix ix_str pe_str (pe_use U hr (pa_cons (pv 0) (pa_cons pe_int pa_nil))) (fun _ _ => rfl))), ?_⟩
    refine ⟨_, rfl, D, d, a, ns, 8, rfl, hD, by decide, by decide, fun x H' h0 h1 st hD' => ?_⟩
    obtain ⟨c, e, m⟩ := letter_at x h0 h1
    exact ⟨_, _, c, rfl, rfl, by decide, e, q _ _ m st hD'⟩
/-! ### _law_dice -/
def spDice (K : PySem.W.Frag) : Sp := fun vs H Q _ => ∃ (a : Addr) (ns : List Int), vs = [.ref a] ∧ SqL K H a (ns.map V.int) ∧ ns.length ≤ 63 ∧
  ∀ (d : Addr) (H' : Hp), Same H H' → H d = none → Dice K H' [d] d a ns → Q (.ref d) H'
theorem scDice : FnScope ["_law_script", "_law_mixed", "_law_cell"] ["_law_script"] (defScope s_L_dice) := ⟨rfl, rfl, rfl, by decide +kernel, rfl, by decide +kernel, by decide +kernel⟩
theorem ok_dice (F : Df K mg "_law_dice" s_L_dice) (len : mg "len" = none) (int : mg "int" = none) : Use P w K mg base "_law_dice" ["_law_script"] 1 (spDice K) := by
  refine F.use scDice (fun _ _ _ _ _ _ us hl => match us, hl with | [_], _ => rfl) (fun vs H Q E h => ?_) (fun cdv f A outer s H vs Q E hr h => ?_)
  · obtain ⟨a, ns, rfl, _⟩ := h
    rfl
  · obtain ⟨a, ns, rfl, hS, h63, q⟩ := h
    refine ⟨_, pss_cons (ps_set (i := 1) scDice.nd rfl (Or.inl rfl) pe_int)
      (pss_cons (ps_for PassesOwn.never rfl (pi_list (pv 0)) (pg_name (i := 2) scDice.nd rfl (Or.inl rfl))
        (pss_one (ps_set (i := 1) scDice.nd rfl (Or.inl rfl) (pe_op op_mod (pe_op op_add (pe_op op_add (pe_op op_mul (pv 1) pe_int) (pe_op op_mul (pe_op op_mod (pv 2) pe_int) pe_int)) pe_int) pe_int))))
      (pss_one (ps_ret (pe_lst (pa_cons (pv 0) (pa_cons pe_int (pa_cons (pe_op op_mul (pv 1) (pe_callTy call_int1 (by rfl) int (by decide +kernel) (pa_cons (pe_cmpR op_gt (pe_callB call_len_seq (by rfl) len PySem.boot_len (pa_cons (pv 0) pa_nil)) pe_int (nomark _)) pa_nil))) (pa_cons pe_int pa_nil)))))))), ?_⟩
    refine ⟨_, rfl, a, rfl, ⟨_, hS⟩, for_list (K := K) (a := a) (xs := ns.map V.int) (fun i σ H' => ∃ (m : Int) (v : Option V), σ = [some (.ref a), some (.int m), v] ∧ H' = H ∧ 0 ≤ m ∧ m < 2147483647)
      ⟨0, none, rfl, rfl, by omega, by omega⟩ (fun i σ H' _ ⟨_, _, _, e, _⟩ => by rw [e]; exact hS) ?_ ?_⟩
    · rintro i y σ H' hi ⟨m, v, rfl, rfl, m0, m1⟩
      obtain ⟨u, rfl⟩ : ∃ u, y = V.int u := by
        rw [List.getElem?_map] at hi
        cases e : ns[i]? with
        | none => rw [e] at hi; cases hi
        | some u => rw [e] at hi; exact ⟨u, (Option.some.inj hi).symm⟩
      have g0 : 0 ≤ u % 2147483647 := Int.emod_nonneg _ (by omega)
      have g1 : u % 2147483647 < 2147483647 := Int.emod_lt_of_pos _ (by omega)
      refine ⟨_, rfl, _, _, rfl, rfl, .inl ⟨by omega, by omega⟩, _, rfl, _, _, rfl, rfl, (by show (0 : Int) < 2147483647; decide), _, _, rfl, rfl, .inl ⟨by omega, by omega⟩, _, _, rfl, rfl, _, _, rfl, rfl, _, _, rfl, rfl, (by show (0 : Int) < 2147483647; decide), ?_⟩
      exact ⟨_, _, rfl, rfl, Int.emod_nonneg _ (by omega), Int.emod_lt_of_pos _ (by omega)⟩
    · rintro σ H' ⟨m, v, rfl, rfl, m0, m1⟩
      refine ⟨_, rfl, _, rfl, _, rfl, a, _, rfl, .inl hS, _, _, rfl, rfl, .inr ⟨_, rfl, _, _, rfl, rfl, .inl ⟨by omega, by omega⟩, by show 4 ≤ sizeLine; decide, fun p np => ?_⟩⟩
      refine q p _ (Stp.nil (.new np _)) np ⟨⟨0, _, 0, upd_same, by omega, ?_, ?_, by omega⟩, (Sq2.of hS).new np, List.mem_cons_self, h63⟩
      · split <;> omega
      · split <;> omega
end
end Wr
namespace Wr
open PySem PySem.Spec PyProof.Rows L2
theorem Dp_strs {K : PySem.W.Frag} {H : Hp} : ∀ xs : List Str, DpAll K H (xs.map V.str) (xs.map PyData.str)
  | [] => .nil
  | x :: r => .cons (.str x) (Dp_strs r)
theorem lay_letters : ∀ xs : List Str, (∀ x ∈ xs, x ∈ letters) → PyData.canLayAll0 (xs.map PyData.str) = true ∧ PyData.depthAll (xs.map PyData.str) = 0
  | [], _ => ⟨rfl, rfl⟩
  | x :: r, h => by
    obtain ⟨h1, h2⟩ := lay_letters r fun y hy => h y (List.mem_cons_of_mem _ hy)
    have hx : PyData.canLay0 (.str x) = true := by
      have hm := h x List.mem_cons_self
      simp only [letters, List.mem_cons, List.not_mem_nil, or_false] at hm
      rcases hm with rfl | rfl | rfl | rfl | rfl | rfl | rfl | rfl <;> decide +kernel
    refine ⟨?_, ?_⟩
    · show (PyData.canLay0 (.str x) && PyData.canLayAll0 (r.map PyData.str)) = true
      rw [hx, h1] <;> rfl
    · show max (PyData.depth (.str x)) (PyData.depthAll (r.map PyData.str)) = 0
      rw [h2] <;> rfl
theorem shaped_letters {xs : List Str} (h : ∀ x ∈ xs, x ∈ letters) : SeqAt.shaped (.list (xs.map PyData.str)) = true := by
  obtain ⟨h1, h2⟩ := lay_letters xs h
  show (PyData.canLayAll0 (xs.map PyData.str) && decide (PyData.depthAll (xs.map PyData.str) + 1 ≤ 64)) = true
  rw [h1, h2] <;> rfl
theorem kwords {kvs : List (Str × Str)} {x : Str} (h : x ∈ kvs.map (·.1)) : ∃ z, valV (kvs.map fun p => ((Sum.inr p.1 : Key), V.str p.2)) (Sum.inr x) = some (.str z) := by
  induction kvs with
  | nil => cases h
  | cons p r ih =>
    by_cases c : p.1 = x
    · exact ⟨p.2, valV_pos (p := ((Sum.inr p.1 : Key), V.str p.2)) (congrArg Sum.inr c)⟩
    · obtain ⟨z, e⟩ := ih ((List.mem_cons.mp h).elim (fun q => absurd q.symm c) id)
      exact ⟨z, (valV_neg (p := ((Sum.inr p.1 : Key), V.str p.2)) (fun q => c (Sum.inr.inj q))).trans e⟩
section
variable {P : Program} {w : World} {K : PySem.W.Frag} {mg : Str → Option Value} {base : Heap}
def spName (K : PySem.W.Frag) : Sp := fun vs H Q _ => ∃ (D : List Addr) (d a nm kp : Addr) (ns : List Int) (S ks : List Str), vs = [.ref d, .ref nm, .ref kp] ∧ Dice K H D d a ns ∧ NamesAt H nm S ∧ SqT K H kp (ks.map V.str) ∧
  ∀ (r : V) (H' : Hp), (r = .non ∨ ∃ x, x ∈ S ∧ x ∈ letters ∧ r = .str x) → Stp [d] H H' → Dice K H' D d a ns → Q r H'
theorem scName : FnScope ["_law_d", "_law_names", "_law_kinds", "_law_some", "_law_name_here"] ["_law_d", "_law_names", "_law_kinds"] (defScope s_L_name) := ⟨rfl, rfl, rfl, by decide +kernel, rfl, by decide +kernel, by decide +kernel⟩
theorem Same.tupq {H H' : Hp} {a : Addr} {xs : List V} (e : Same H H') (h : SqT K H a xs) : SqT K H' a xs := by
  rcases h with (h | ⟨o, h⟩) | h
  · exact .inl (.inl (e _ _ h))
  · exact .inl (.inr ⟨o, e _ _ h⟩)
  · exact .inr h
theorem ok_name (F : Df K mg "_law_name" s_L_name) (srt : mg "sorted" = none) (len : mg "len" = none) (U : Use P w K mg base "_law_next" ["_law_dice_here", "_law_many"] 1 (spNext K)) :
    Use P w K mg base "_law_name" ["_law_d", "_law_names", "_law_kinds"] 2 (spName K) := by
  refine F.use scName (fun _ _ _ _ _ _ us hl => match us, hl with | [_, _, _], _ => rfl) (fun vs H Q E h => ?_) (fun cdv f A outer s H vs Q E hr h => ?_)
  · obtain ⟨D, d, a, nm, kp, ns, S, ks, rfl, _⟩ := h
    rfl
  · obtain ⟨D, d, a, nm, kp, ns, S, ks, rfl, hD, hN, hK, q⟩ := h
    refine ⟨_, pss_cons (ps_setLc (i := 3) (own := [("_law_name_here", 4)]) (g := gName 4) (by rfl) scName.nd rfl rfl (sw_true rfl rfl rfl (by decide +kernel))
        (pi_list (pe_callB (call_sortedD rfl) (by rfl) srt (by decide +kernel) (pa_cons (pv 1) pa_nil))) (blkOk_by (own := [("_law_name_here", 4)]) (N := ["_law_d", "_law_names", "_law_kinds", "_law_some", "_law_name_here"]) (sc := defScope s_L_name) (by decide +kernel))
        (fun _ _ _ _ _ => pg_name (i := 4) scName.nd rfl (Or.inl rfl))
        (fun _ _ _ _ _ => pts_one (pt_cmpR (r := rIn K false) op_in_seq (pe_dget (hu_of hr) (pv 1) (pv 4) (fun _ _ => rfl)) (pv 2) rfl)) (fun _ _ _ _ _ => pv 4))
      (pss_one (ps_ret (pe_ifExp (pt_cmpR (op_neD hr.units) (pv 3) (pe_lst pa_nil) (nomark _))
        (pe_ix ix_list (pv 3) (pe_use U hr (pa_cons (pv 0) (pa_cons (pe_callB call_len_seq (by rfl) len PySem.boot_len (pa_cons (pv 3) pa_nil)) pa_nil))) (fun _ _ => rfl)) pe_non))), ?_⟩
    obtain ⟨kvs, e, nd, hl, hs⟩ := hN.ex
    have few := NamesAt.few (H := H) (a := nm) (S := S) nd hl
    refine ⟨_, rfl, nm, _, kvs.map (·.1), rfl, .inl e, ?_, ?_, fun ys p perm srt' np => ?_⟩
    · rw [List.map_map, List.map_map]; rfl
    · rw [List.length_map]; omega
    have hy : ∀ x ∈ ys, x ∈ kvs.map (·.1) := fun x hx => perm.mem_iff.mp hx
    have ly : ys.length = kvs.length := by rw [perm.length_eq, List.length_map]
    refine ⟨p, rfl, ⟨_, SqL.of upd_same⟩, fun R nR => ?_⟩
    have s0 : Same H (upd H p (.lst (ys.map V.str))) := Stp.nil (.new np _)
    have npR : p ≠ R := ne_of_none upd_same nR
    refine lc_list (K := K) (a := p) (xs := ys.map V.str) (fun i H2 => Same (upd H p (.lst (ys.map V.str))) H2 ∧ ∃ acc : List Str, H2 R = some (.lst (acc.map V.str)) ∧ (∀ x ∈ acc, x ∈ ys) ∧ acc.length ≤ i)
      ⟨Stp.nil (.new nR _), [], upd_same, by simp, Nat.zero_le _⟩ (fun i H2 _ h => SqL.of (h.1 _ _ upd_same)) ?_ ?_
    · rintro i x H2 hi ⟨sm, acc, hR, ha, hlen⟩
      obtain ⟨x, rfl, hx⟩ : ∃ z, x = V.str z ∧ z ∈ ys := by
        rw [List.getElem?_map] at hi
        cases e : ys[i]? with
        | none => rw [e] at hi; cases hi
        | some u => rw [e] at hi; exact ⟨u, (Option.some.inj hi).symm, List.mem_of_getElem? e⟩
      have hiy : i < ys.length := by
        have z := (List.getElem?_eq_some_iff.mp hi).1
        rw [List.length_map] at z
        exact z
      obtain ⟨z, ez⟩ := kwords (hy x hx)
      have e2 : H2 nm = some (.dK (kvs.map fun p => ((Sum.inr p.1 : Key), V.str p.2))) := sm _ _ (s0 _ _ e)
      refine ⟨rfl, _, rfl, _, rfl, nm, V.str z, rfl, ?_, _, rfl, kp, _, rfl, .inr (Same.tupq sm (Same.tupq s0 hK)), rfl, ?_, _, rfl, ?_⟩
      · rw [← ez]
        exact DGet.k (k := Sum.inr x) e2
      · simp only [List.all_map]
        exact List.all_eq_true.mpr fun _ _ => rfl
      refine ite2 (fun _ => ?_) (fun _ => ?_)
      · refine ⟨_, rfl, acc.map V.str, hR, ?_, ?_, ?_⟩
        · rw [List.length_map]
          have : (8 : Nat) < sizeLine := by decide
          omega
        · exact fun b o hb => by
            have nb : b ≠ R := fun z => by rw [z] at hb; rw [nR] at hb; cases hb
            rw [upd_ne nb]
            exact sm _ _ hb
        · refine ⟨acc ++ [x], by rw [upd_same, List.map_append] <;> rfl, fun y hy' => ?_, by rw [List.length_append, List.length_singleton]; omega⟩
          rcases List.mem_append.mp hy' with h | h
          · exact ha y h
          · rw [List.mem_singleton.mp h]; exact hx
      · exact ⟨sm, acc, hR, ha, by omega⟩
    · rintro H2 ⟨sm, acc, hR, ha, hlen⟩
      rw [List.length_map] at hlen
      have haL : ∀ x ∈ acc, x ∈ letters := fun x hx => hl x (hy x (ha x hx))
      have sm2 : Same H H2 := s0.trans sm
      refine ⟨_, rfl, Nat.zero_le _, fun p2 np2 => ?_⟩
      have npR2 : R ≠ p2 := ne_of_none hR np2
      refine ⟨.list (acc.map PyData.str), .list [], .lst (SqL.of (by rw [upd_ne npR2]; exact hR)) (Dp_strs acc), .lst (SqL.of upd_same) .nil, shaped_letters haL, rfl, _, rfl, ?_⟩
      have sm3 : Same H (upd H2 p2 (.lst [])) := sm2.trans (Stp.nil (.new np2 _))
      have hD3 : Dice K (upd H2 p2 (.lst [])) D d a ns := hD.step (D' := []) (Stp.same sm3) (by simp) (by simp)
      cases acc with
      | nil =>
        refine iteF ?_
        exact q _ _ (.inl rfl) (Stp.same sm3) hD3
      | cons y r =>
        refine iteT ?_
        have hR3 : upd H2 p2 (.lst []) R = some (.lst ((y :: r).map V.str)) := by rw [upd_ne npR2]; exact hR
        refine ⟨_, rfl, _, rfl, _, rfl, R, _, rfl, .inl (SqL.of hR3), D, d, a, ns, _, rfl, hD3, ?_, ?_, fun x H4 x0 x1 st hD4 => ?_⟩
        · rw [List.length_map, List.length_cons]; omega
        · rw [List.length_map]; omega
        have nRd : R ∉ [d] := fun z => by
          rw [List.mem_singleton.mp z] at nR
          obtain ⟨xs, ed⟩ := hD.is_
          rw [s0 _ _ ed] at nR
          cases nR
        rw [List.length_map] at x1
        obtain ⟨k, rfl⟩ : ∃ k : Nat, x = (k : Int) := ⟨x.toNat, by omega⟩
        have hk : k < (y :: r).length := by omega
        refine ⟨R, _, _, .str (y :: r)[k], rfl, rfl, SqL.of (st.keep _ _ nRd hR3), atI_nat (by rw [List.getElem?_map, List.getElem?_eq_getElem hk] <;> rfl), ?_⟩
        have hm := ha _ (List.getElem_mem hk)
        exact q _ _ (.inr ⟨_, hs _ (hy _ hm), hl _ (hy _ hm), rfl⟩) ((Stp.same sm3).trans st) hD4
end
end Wr
namespace Wr
open PySem PySem.Spec PyProof.Rows L2
theorem Dice.off {K : PySem.W.Frag} {H : Hp} {D : List Addr} {d a : Addr} {ns : List Int} (h : Dice K H D d a ns) {b : Addr} {o : HO} (e : H b = some o) (ho : ∀ xs, o ≠ .lst xs) : b ∉ [d] := fun z => by
  obtain ⟨xs, ed⟩ := h.is_
  rw [List.mem_singleton.mp z, ed] at e
  exact ho xs (Option.some.inj e).symm
theorem NamesAt.off {K : PySem.W.Frag} {H : Hp} {D : List Addr} {d a nm : Addr} {ns : List Int} {S : List Str} (h : NamesAt H nm S) (hD : Dice K H D d a ns) : nm ∉ [d] := by
  obtain ⟨kvs, e, _⟩ := h.ex
  exact hD.off e fun xs z => by cases z
theorem Dice.fresh {K : PySem.W.Frag} {H : Hp} {D : List Addr} {d a p : Addr} {ns : List Int} (h : Dice K H D d a ns) (n : H p = none) : p ∉ [d] := fun z => by
  obtain ⟨xs, ed⟩ := h.is_
  rw [List.mem_singleton.mp z, ed] at n
  cases n
theorem Stp.up {D : List Addr} {H H' : Hp} (s : Stp D H H') {p : Addr} (n : H' p = none) (o : HO) : Stp D H (upd H' p o) := s.trans (.new n o)
theorem Good.letter_num {S : List Str} {n : Int} (h0 : -1000000 ≤ n) (h1 : n ≤ 1000000) : Good S (.num n) := ⟨h0, h1⟩
section
variable {P : Program} {w : World} {K : PySem.W.Frag} {mg : Str → Option Value} {base : Heap}
/-- what hands back a part with the names S bound, drawn by the dice at d -/
def Draws (K : PySem.W.Frag) (D W : List Addr) (d a : Addr) (ns : List Int) (S : List Str) (G : Ex → Hp → Prop) (H : Hp) (Q : VK) : Prop :=
  ∀ (v : V) (e : Ex) (H' : Hp), AtE H' v e → Good S e → G e H' → Stp W H H' → Dice K H' D d a ns → Q v H'
def spLeaf (K : PySem.W.Frag) : Sp := fun vs H Q _ => ∃ (D : List Addr) (d a nm : Addr) (ns : List Int) (S : List Str), vs = [.ref d, .ref nm] ∧ Dice K H D d a ns ∧ NamesAt H nm S ∧
  Draws K D [d] d a ns S (fun e _ => e.size = 1 ∧ e.deep = 1) H Q
theorem scLeaf : FnScope ["_law_d", "_law_names", "_law_kinds", "_law_name_here"] ["_law_d", "_law_names"] (defScope s_L_leaf) := ⟨rfl, rfl, rfl, by decide +kernel, rfl, by decide +kernel, by decide +kernel⟩
theorem menu8 (x : Int) (h0 : 0 ≤ x) (h8 : x < 8) : ∃ j : Int, atI ([.int 0, .int 0, .int 1, .int 1, .int 1, .int 1, .int 1, .int 2] : List V) x = some (.int j) ∧ (j = 0 ∨ j = 1 ∨ j = 2) := by
  have hx : x = 0 ∨ x = 1 ∨ x = 2 ∨ x = 3 ∨ x = 4 ∨ x = 5 ∨ x = 6 ∨ x = 7 := by omega
  rcases hx with rfl | rfl | rfl | rfl | rfl | rfl | rfl | rfl
  all_goals exact ⟨_, rfl, by decide⟩
theorem menu3 (a b c : Int) (j : Int) (h : j = 0 ∨ j = 1 ∨ j = 2) : ∃ k : Int, atI ([.int a, .int b, .int c] : List V) j = some (.int k) ∧ (k = a ∨ k = b ∨ k = c) := by
  rcases h with rfl | rfl | rfl
  · exact ⟨_, rfl, .inl rfl⟩
  · exact ⟨_, rfl, .inr (.inl rfl)⟩
  · exact ⟨_, rfl, .inr (.inr rfl)⟩
theorem menu2 (a b : V) (c : Bool) : ∃ v, atI ([a, b] : List V) (if c = true then 1 else 0) = some v ∧ (v = a ∨ v = b) := by
  cases c
  · exact ⟨a, rfl, .inl rfl⟩
  · exact ⟨b, rfl, .inr rfl⟩
theorem ok_leaf (F : Df K mg "_law_leaf" s_L_leaf) (int : mg "int" = none) (U : Use P w K mg base "_law_next" ["_law_dice_here", "_law_many"] 1 (spNext K)) (UN : Use P w K mg base "_law_name" ["_law_d", "_law_names", "_law_kinds"] 2 (spName K)) :
    Use P w K mg base "_law_leaf" ["_law_d", "_law_names"] 3 (spLeaf K) := by
  refine F.use scLeaf (fun _ _ _ _ _ _ us hl => match us, hl with | [_, _], _ => rfl) (fun vs H Q E h => ?_) (fun cdv f A outer s H vs Q E hr h => ?_)
  · obtain ⟨D, d, a, nm, ns, S, rfl, _⟩ := h
    rfl
  · obtain ⟨D, d, a, nm, ns, S, rfl, hD, hN, q⟩ := h
    have hr1 : Room 1 _ := hr.mono (by decide)
    refine ⟨_, pss_cons (ps_set (i := 2) scLeaf.nd rfl (Or.inl rfl) (pe_ix ix_list (pe_lst (pa_cons (pe_tup (pa_cons pe_str pa_nil)) (pa_cons (pe_tup (pa_cons pe_str (pa_cons pe_str (pa_cons pe_str (pa_cons pe_str pa_nil))))) pa_nil)))
          (pe_callTy call_int1 (by rfl) int (by decide +kernel) (pa_cons (pe_cmpR op_eq (pe_use U hr1 (pa_cons (pv 0) (pa_cons pe_int pa_nil))) pe_int (nomark _)) pa_nil)) (fun _ _ => rfl)))
      (pss_cons (ps_set (i := 3) scLeaf.nd rfl (Or.inl rfl) (pe_use UN hr (pa_cons (pv 0) (pa_cons (pv 1) (pa_cons (pv 2) pa_nil)))))
      (pss_cons (ps_if (PW.pt (pw_and (pt_cmpR op_notN (pv 3) pe_non (nomark _)) (pw_and1 (pt_cmpR op_gt (pe_use U hr1 (pa_cons (pv 0) (pa_cons pe_int pa_nil))) pe_int (nomark _)))))
        (pss_one (ps_ret (pe_tup (pa_cons pe_str (pa_cons (pv 3) pa_nil))))) pss_nil)
      (pss_one (ps_ret (pe_tup (pa_cons pe_str (pa_cons (pe_ix ix_list (pe_lst (pa_cons (pe_use U hr1 (pa_cons (pv 0) (pa_cons pe_int pa_nil))) (pa_cons (pe_op op_sub (pe_use U hr1 (pa_cons (pv 0) (pa_cons pe_int pa_nil))) pe_int) (pa_cons (pe_op op_pow pe_int pe_int) pa_nil))))
          (pe_ix ix_list (pe_lst (pa_cons pe_int (pa_cons pe_int (pa_cons pe_int (pa_cons pe_int (pa_cons pe_int (pa_cons pe_int (pa_cons pe_int (pa_cons pe_int pa_nil))))))))) (pe_use U hr1 (pa_cons (pv 0) (pa_cons pe_int pa_nil))) (fun _ _ => rfl)) (fun _ _ => rfl)) pa_nil))))))), ?_⟩
    refine ⟨(by show 1 ≤ sizeLine; decide), fun t1 n1 => ⟨(by show 4 ≤ sizeLine; decide), fun t2 n2 => ⟨(by show 2 ≤ sizeLine; decide), fun l3 n3 => ?_⟩⟩⟩
    have ne12 : t1 ≠ t2 := ne_of_none upd_same n2
    have st3 : Stp [d] H (upd (upd (upd H t1 (.tup [.str "number"])) t2 (.tup [.str "number", .str "fun", .str "rest", .str "box"])) l3 (.lst [.ref t1, .ref t2])) := ((Stp.new n1 _).up n2 _).up n3 _
    have hD3 := ((hD.up (o := .tup [.str "number"]) n1).up (o := .tup [.str "number", .str "fun", .str "rest", .str "box"]) n2).up (o := .lst [.ref t1, .ref t2]) n3
    refine ⟨_, rfl, D, d, a, ns, 16, rfl, hD3, by decide, by decide, fun x H4 x0 x1 st4 hD4 => ?_⟩
    have ne13 : t1 ≠ l3 := ne_of_none (by rw [upd_ne ne12]; exact upd_same) n3
    have ne23 : t2 ≠ l3 := ne_of_none upd_same n3
    have nl3 : l3 ∉ [d] := fun z => by
      obtain ⟨xs, ed⟩ := hD.is_
      have := (((Stp.new (D := []) n1 (.tup [.str "number"])).up n2 (.tup [.str "number", .str "fun", .str "rest", .str "box"])).keep _ _ (by simp) ed)
      rw [← List.mem_singleton.mp z, n3] at this
      cases this
    have e3 : H4 l3 = some (.lst [.ref t1, .ref t2]) := st4.keep _ _ nl3 upd_same
    have e1 : H4 t1 = some (.tup [.str "number"]) := st4.tups _ _ (by rw [upd_ne ne13, upd_ne ne12]; exact upd_same)
    have e2 : H4 t2 = some (.tup [.str "number", .str "fun", .str "rest", .str "box"]) := st4.tups _ _ (by rw [upd_ne ne23]; exact upd_same)
    refine ⟨rfl, .inr ⟨_, rfl, ?_⟩⟩
    have s4 : Stp [d] H H4 := st3.trans st4
    have hN4 : NamesAt H4 nm S := hN.step s4 (hN.off hD)
    obtain ⟨kp, ks, hkp, hix⟩ : ∃ (kp : Addr) (ks : List Str), SqT K H4 kp (ks.map V.str) ∧ atI ([.ref t1, .ref t2] : List V) (if decide (V.int x = V.int 15) = true then 1 else 0) = some (.ref kp) := by
      obtain ⟨v, ev, hv⟩ := menu2 (.ref t1) (.ref t2) (decide (V.int x = V.int 15))
      rcases hv with rfl | rfl
      · exact ⟨t1, ["number"], SqT.of e1, ev⟩
      · exact ⟨t2, ["number", "fun", "rest", "box"], SqT.of e2, ev⟩
    refine ⟨l3, _, _, _, rfl, rfl, SqL.of e3, hix, ?_⟩
    refine ⟨_, rfl, _, rfl, _, rfl, D, d, a, nm, kp, ns, S, ks, rfl, hD4, hN4, hkp, fun r H5 hrr st5 hD5 => ?_⟩
    have s5 : Stp [d] H H5 := s4.trans st5
    -- the number
    have fin : ∀ H6 : Hp, Stp [d] H H6 → Dice K H6 D d a ns → ∀ σ, σ = ([some (.ref d), some (.ref nm), some (.ref kp), some r] : L2.St) →
        (tRet (tTup (tCons (fun _ H Q => Q (.str "num") H) (tCons (tOp (rIxL K) (tLst (tCons (tCall (spNext K) [] E0 (tCons (tVar 0) (tCons (fun _ H Q => Q (.int 5) H) tNil))) (tCons (tOp (rI0 fun i j => .int (i - j)) (tCall (spNext K) [] E0 (tCons (tVar 0) (tCons (fun _ H Q => Q (.int 40) H) tNil))) (fun _ H Q => Q (.int 20) H)) (tCons (tOp (rI CPow fun i j => .int (i ^ j.toNat)) (fun _ H Q => Q (.int 10) H) (fun _ H Q => Q (.int 6) H)) tNil))))
          (tOp (rIxL K) (tLst (tCons (fun _ H Q => Q (.int 0) H) (tCons (fun _ H Q => Q (.int 0) H) (tCons (fun _ H Q => Q (.int 1) H) (tCons (fun _ H Q => Q (.int 1) H) (tCons (fun _ H Q => Q (.int 1) H) (tCons (fun _ H Q => Q (.int 1) H) (tCons (fun _ H Q => Q (.int 1) H) (tCons (fun _ H Q => Q (.int 2) H) tNil))))))))) (tCall (spNext K) [] E0 (tCons (tVar 0) (tCons (fun _ H Q => Q (.int 8) H) tNil))))) tNil)))) { nx := fun _ H' => Q .non H', rt := Q } σ H6 := by
      rintro H6 s6 hD6 σ rfl
      refine ⟨_, rfl, D, d, a, ns, 5, rfl, hD6, by decide, by decide, fun x5 H7 a0 a1 st7 hD7 => ?_⟩
      refine ⟨_, rfl, D, d, a, ns, 40, rfl, hD7, by decide, by decide, fun x40 H8 b0 b1 st8 hD8 => ?_⟩
      refine ⟨_, _, rfl, rfl, _, _, rfl, rfl, ⟨by decide, by decide, by decide⟩, (by show 3 ≤ sizeLine; decide), fun l9 n9 => ?_⟩
      refine ⟨(by show 8 ≤ sizeLine; decide), fun l10 n10 => ?_⟩
      have hD10 := (hD8.up (o := .lst [.int x5, .int (x40 - 20), .int ((10 : Int) ^ (6 : Int).toNat)]) n9).up (o := .lst [.int 0, .int 0, .int 1, .int 1, .int 1, .int 1, .int 1, .int 2]) n10
      refine ⟨_, rfl, D, d, a, ns, 8, rfl, hD10, by decide, by decide, fun x8 H11 c0 c1 st11 hD11 => ?_⟩
      have ne : l9 ≠ l10 := ne_of_none upd_same n10
      have n9d : l9 ∉ [d] := hD8.fresh n9
      have n10d : l10 ∉ [d] := (hD8.up (o := .lst [.int x5, .int (x40 - 20), .int ((10 : Int) ^ (6 : Int).toNat)]) n9).fresh n10
      have e9 : H11 l9 = some (.lst [.int x5, .int (x40 - 20), .int ((10 : Int) ^ (6 : Int).toNat)]) := st11.keep _ _ n9d (by rw [upd_ne ne]; exact upd_same)
      have e10 : H11 l10 = some (.lst [.int 0, .int 0, .int 1, .int 1, .int 1, .int 1, .int 1, .int 2]) := st11.keep _ _ n10d upd_same
      obtain ⟨j, ej, hj⟩ := menu8 x8 c0 c1
      obtain ⟨k, ek, hk⟩ := menu3 x5 (x40 - 20) ((10 : Int) ^ (6 : Int).toNat) j hj
      refine ⟨l10, _, _, _, rfl, rfl, SqL.of e10, ej, l9, _, _, _, rfl, rfl, SqL.of e9, ek, (by show 2 ≤ sizeLine; decide), fun t nt => ?_⟩
      have e6 : ((10 : Int) ^ (6 : Int).toNat) = 1000000 := by decide +kernel
      rw [e6] at hk
      have sfin : Stp [d] H H11 := (((s6.trans st7).trans st8).up n9 _).up n10 _ |>.trans st11
      exact q _ (.num k) _ ⟨t, rfl, upd_same⟩ ⟨by omega, by omega⟩ ⟨rfl, rfl⟩ (sfin.up nt _) (hD11.up nt)
    refine ⟨_, rfl, rfl, _, rfl, ?_⟩
    rcases hrr with rfl | ⟨x, hx, hxl, rfl⟩
    · refine iteF ?_
      exact fin _ s5 hD5 _ rfl
    · refine iteT ?_
      refine ⟨_, rfl, D, d, a, ns, 3, rfl, hD5, by decide, by decide, fun x3 H6 a0 a1 st6 hD6 => ?_⟩
      refine ⟨_, _, rfl, rfl, _, rfl, ?_⟩
      refine ite2 (fun _ => ?_) (fun _ => ?_)
      · refine ⟨_, rfl, (by show 2 ≤ sizeLine; decide), fun t nt => ?_⟩
        exact q _ (.name x) _ ⟨t, rfl, upd_same⟩ hx ⟨rfl, rfl⟩ ((s5.trans st6).up nt _) (hD6.up nt)
      · exact fin _ (s5.trans st6) hD6 _ rfl
end
end Wr
namespace Wr
open PySem PySem.Spec PyProof.Rows L2
/-- what a drawing def stands on: the dice, the names, the room -/
structure Gen (K : PySem.W.Frag) (H : Hp) (D : List Addr) (d a nm rm : Addr) (ns : List Int) (S : List Str) (r : Int) : Prop where
  di : Dice K H D d a ns
  na : NamesAt H nm S
  ro : H rm = some (.lst [.int r])
  rd : rm ∈ D
  ne : rm ≠ d
section
variable {K : PySem.W.Frag} {H H' : Hp} {D : List Addr} {d a nm rm : Addr} {ns : List Int} {S : List Str} {r : Int}
theorem Gen.nx (g : Gen K H D d a nm rm ns S r) (s : Stp [d] H H') (h : Dice K H' D d a ns) : Gen K H' D d a nm rm ns S r :=
  ⟨h, g.na.step s (g.na.off g.di), s.keep _ _ (fun z => g.ne (List.mem_singleton.mp z)) g.ro, g.rd, g.ne⟩
theorem Gen.nroom (g : Gen K H D d a nm rm ns S r) : nm ≠ rm := by
  obtain ⟨kvs, e, _⟩ := g.na.ex
  exact ne_of e g.ro fun z => by cases z
theorem Gen.ex {r' : Int} (g : Gen K H D d a nm rm ns S r) (s : Stp [d, rm] H H') (h : Dice K H' D d a ns) (e : H' rm = some (.lst [.int r'])) : Gen K H' D d a nm rm ns S r' := by
  refine ⟨h, g.na.step s fun z => ?_, e, g.rd, g.ne⟩
  rcases List.mem_cons.mp z with z | z
  · exact g.na.off g.di (List.mem_singleton.mpr z)
  · exact g.nroom (List.mem_singleton.mp z)
theorem Gen.up (g : Gen K H D d a nm rm ns S r) {p : Addr} (n : H p = none) (o : HO) : Gen K (upd H p o) D d a nm rm ns S r := by
  refine ⟨g.di.up n, g.na.step (.new n _) (g.na.off g.di), ?_, g.rd, g.ne⟩
  rw [upd_ne (ne_of_none g.ro n)]
  exact g.ro
theorem Gen.with {nm' : Addr} {S' : List Str} (g : Gen K H D d a nm rm ns S r) (h : NamesAt H nm' S') : Gen K H D d a nm' rm ns S' r := ⟨g.di, h, g.ro, g.rd, g.ne⟩
theorem Gen.sub (g : Gen K H D d a nm rm ns S r) : ∀ b ∈ [d], b ∈ [d, rm] := fun b hb => by rw [List.mem_singleton.mp hb]; exact List.mem_cons_self
theorem Gen.dec {r' : Int} (g : Gen K H D d a nm rm ns S r) : Stp [d, rm] H (upd H rm (.lst [.int r'])) ∧ Gen K (upd H rm (.lst [.int r'])) D d a nm rm ns S r' := by
  have st : Stp [d, rm] H (upd H rm (.lst [.int r'])) := .put (by simp) (fun xs z => by rw [g.ro] at z; cases z) _
  have st1 : Stp [rm] H (upd H rm (.lst [.int r'])) := .put (by simp) (fun xs z => by rw [g.ro] at z; cases z) _
  refine ⟨st, g.ex st (g.di.step st1 (fun b hb => by rw [List.mem_singleton.mp hb]; exact g.rd) fun z => g.ne (List.mem_singleton.mp z).symm) upd_same⟩
end
def mx (r : Int) : Int := if r < 4 then 4 else r
def dm (r : Int) : Int := 1 + 4 * (mx r - 4)
/-- behind a drawn part: the room left, how deep, how large (from the room r; k, j: what stands about it) -/
def Left (rm : Addr) (r k j : Int) (e : Ex) (H' : Hp) : Prop := ∃ r' : Int, H' rm = some (.lst [.int r']) ∧ r' ≤ r ∧ (e.deep : Int) ≤ k + dm r ∧ (e.size : Int) + 17 * mx r' ≤ j + 17 * mx r
def spGen (K : PySem.W.Frag) (n : Nat) (k j : Int) (args : Addr → Addr → Addr → List V) : Sp := fun vs H Q _ => ∃ (D : List Addr) (d a nm rm : Addr) (ns : List Int) (S : List Str) (r : Int), vs = args d nm rm ∧ Gen K H D d a nm rm ns S r ∧ r ≤ n + 4 ∧
  Draws K D [d, rm] d a ns S (Left rm r k j) H Q
abbrev args3 : Addr → Addr → Addr → List V := fun d nm rm => [.ref d, .ref nm, .ref rm]
def spExpr (K : PySem.W.Frag) (n : Nat) : Sp := spGen K n 0 1 args3
def spUse (K : PySem.W.Frag) (n : Nat) : Sp := spGen K n 4 17 args3
theorem mx_ge (r : Int) : 4 ≤ mx r ∧ r ≤ mx r := by unfold mx; split <;> omega
theorem mx_mono {r r' : Int} (h : r' ≤ r) : mx r' ≤ mx r := by unfold mx; split <;> split <;> omega
section
variable {P : Program} {w : World} {K : PySem.W.Frag} {mg : Str → Option Value} {base : Heap}
theorem scUse : FnScope ["_law_d", "_law_names", "_law_room", "_law_kind", "_law_name_here"] ["_law_d", "_law_names", "_law_room"] (defScope s_L_use) := ⟨rfl, rfl, rfl, by decide +kernel, rfl, by decide +kernel, by decide +kernel⟩
theorem kind4 (x : Int) (h0 : 0 ≤ x) (h4 : x < 4) : ∃ k : Str, atI ([.str "fun", .str "box", .str "rest", .str "rest"] : List V) x = some (.str k) ∧ (k = "fun" ∨ k = "box" ∨ k = "rest") := by
  have hx : x = 0 ∨ x = 1 ∨ x = 2 ∨ x = 3 := by omega
  rcases hx with rfl | rfl | rfl | rfl
  · exact ⟨_, rfl, .inl rfl⟩
  · exact ⟨_, rfl, .inr (.inl rfl)⟩
  · exact ⟨_, rfl, .inr (.inr rfl)⟩
  · exact ⟨_, rfl, .inr (.inr rfl)⟩
theorem menu2i (a b : V) (x : Int) (h0 : 0 ≤ x) (h2 : x < 2) : ∃ v, atI ([a, b] : List V) x = some v ∧ (v = a ∨ v = b) := by
  have hx : x = 0 ∨ x = 1 := by omega
  rcases hx with rfl | rfl
  · exact ⟨a, rfl, .inl rfl⟩
  · exact ⟨b, rfl, .inr rfl⟩
end
end Wr
namespace Wr
open PySem PySem.Spec PyProof.Rows L2
section
variable {P : Program} {w : World} {K : PySem.W.Frag} {mg : Str → Option Value} {base : Heap}
theorem dm_pos (r : Int) : 1 ≤ dm r := by unfold dm; have := (mx_ge r).1; omega
theorem ok_use (n : Nat) (F : Df K mg "_law_use" s_L_use) (int : mg "int" = none) (U : Use P w K mg base "_law_next" ["_law_dice_here", "_law_many"] 1 (spNext K)) (UN : Use P w K mg base "_law_name" ["_law_d", "_law_names", "_law_kinds"] 2 (spName K))
    (UL : Use P w K mg base "_law_leaf" ["_law_d", "_law_names"] 3 (spLeaf K)) (UE : Use P w K mg base "_law_expr" ["_law_d", "_law_names", "_law_room"] (2 * n + 6) (spExpr K n)) :
    Use P w K mg base "_law_use" ["_law_d", "_law_names", "_law_room"] (2 * n + 7) (spUse K n) := by
  refine F.use scUse (fun _ _ _ _ _ _ us hl => match us, hl with | [_, _, _], _ => rfl) (fun vs H Q E h => ?_) (fun cdv f A outer s H vs Q E hr h => ?_)
  · obtain ⟨D, d, a, nm, rm, ns, S, r, rfl, _⟩ := h
    rfl
  · obtain ⟨D, d, a, nm, rm, ns, S, r, rfl, g, hrn, q⟩ := h
    have hr1 : Room 1 _ := hr.mono (by omega)
    have hr2 : Room 2 _ := hr.mono (by omega)
    have hr3 : Room 3 _ := hr.mono (by omega)
    refine ⟨_, pss_cons (ps_set (i := 3) scUse.nd rfl (Or.inl rfl) (pe_ix ix_list (pe_lst (pa_cons pe_str (pa_cons pe_str (pa_cons pe_str (pa_cons pe_str pa_nil))))) (pe_use U hr1 (pa_cons (pv 0) (pa_cons pe_int pa_nil))) (fun _ _ => rfl)))
      (pss_cons (ps_set (i := 4) scUse.nd rfl (Or.inl rfl) (pe_use UN hr2 (pa_cons (pv 0) (pa_cons (pv 1) (pa_cons
          (pe_ix ix_list (pe_lst (pa_cons (pe_tup (pa_cons (pv 3) pa_nil)) (pa_cons (pe_tup (pa_cons (pv 3) (pa_cons pe_str pa_nil))) pa_nil)))
            (pe_callTy call_int1 (by rfl) int (by decide +kernel) (pa_cons (pe_cmpR op_eq (pe_use U hr1 (pa_cons (pv 0) (pa_cons pe_int pa_nil))) pe_int (nomark _)) pa_nil)) (fun _ _ => rfl)) pa_nil)))))
      (pss_cons (ps_if (pt_cmpR op_isN (pv 4) pe_non (nomark _)) (pss_one (ps_ret (pe_use UL hr3 (pa_cons (pv 0) (pa_cons (pv 1) pa_nil))))) pss_nil)
      (pss_cons (ps_if (pt_cmpR op_eq (pv 3) pe_str (nomark _)) (pss_one (ps_ret (pe_tup (pa_cons pe_str (pa_cons (pe_tup (pa_cons pe_str (pa_cons (pv 4) pa_nil))) (pa_cons (pe_use UE hr (pa_cons (pv 0) (pa_cons (pv 1) (pa_cons (pv 2) pa_nil)))) pa_nil)))))) pss_nil)
      (pss_cons (ps_if (pt_cmpR op_eq (pv 3) pe_str (nomark _)) (pss_one (ps_ret (pe_ix ix_list (pe_lst (pa_cons (pe_tup (pa_cons pe_str (pa_cons (pe_tup (pa_cons pe_str (pa_cons (pv 4) pa_nil))) pa_nil)))
          (pa_cons (pe_tup (pa_cons pe_str (pa_cons (pe_tup (pa_cons pe_str (pa_cons (pv 4) pa_nil))) (pa_cons (pe_use UE hr (pa_cons (pv 0) (pa_cons (pv 1) (pa_cons (pv 2) pa_nil)))) pa_nil)))) pa_nil))) (pe_use U hr1 (pa_cons (pv 0) (pa_cons pe_int pa_nil))) (fun _ _ => rfl)))) pss_nil)
      (pss_one (ps_ret (pe_ix ix_list (pe_lst (pa_cons (pe_tup (pa_cons pe_str (pa_cons (pe_tup (pa_cons pe_str (pa_cons (pv 4) pa_nil))) (pa_cons (pe_use UE hr (pa_cons (pv 0) (pa_cons (pv 1) (pa_cons (pv 2) pa_nil)))) pa_nil))))
          (pa_cons (pe_tup (pa_cons pe_str (pa_cons (pe_tup (pa_cons pe_str (pa_cons (pv 4) pa_nil))) pa_nil))) pa_nil))) (pe_callTy call_int1 (by rfl) int (by decide +kernel) (pa_cons (pe_cmpR op_eq (pe_use U hr1 (pa_cons (pv 0) (pa_cons pe_int pa_nil))) pe_int (nomark _)) pa_nil)) (fun _ _ => rfl)))))))), ?_⟩
    have d1 := dm_pos r
    have m1 := (mx_ge r).1
    refine ⟨(by show 4 ≤ sizeLine; decide), fun l1 n1 => ?_⟩
    have g1 := g.up n1 (.lst [.str "fun", .str "box", .str "rest", .str "rest"])
    have s1 : Stp [d, rm] H (upd H l1 (.lst [.str "fun", .str "box", .str "rest", .str "rest"])) := .new n1 _
    refine ⟨_, rfl, D, d, a, ns, 4, rfl, g1.di, by decide, by decide, fun x H2 x0 x1 st2 hD2 => ?_⟩
    have g2 := g1.nx st2 hD2
    have s2 := s1.trans (st2.mono g.sub)
    obtain ⟨kd, ek, hk⟩ := kind4 x x0 x1
    refine ⟨l1, _, _, _, rfl, rfl, SqL.of (st2.keep _ _ (g.di.fresh n1) upd_same), ek, ?_⟩
    refine ⟨_, rfl, _, rfl, _, rfl, (by show 1 ≤ sizeLine; decide), fun t1 nt1 => ⟨_, rfl, (by show 2 ≤ sizeLine; decide), fun t2 nt2 => ⟨(by show 2 ≤ sizeLine; decide), fun l3 n3 => ?_⟩⟩⟩
    have g5 := ((g2.up nt1 (.tup [.str kd])).up nt2 (.tup [.str kd, .str "number"])).up n3 (.lst [.ref t1, .ref t2])
    have s5 : Stp [d, rm] H _ := ((s2.up nt1 (.tup [.str kd])).up nt2 (.tup [.str kd, .str "number"])).up n3 (.lst [.ref t1, .ref t2])
    have ne12 : t1 ≠ t2 := ne_of_none upd_same nt2
    have ne13 : t1 ≠ l3 := ne_of_none (by rw [upd_ne ne12]; exact upd_same) n3
    have ne23 : t2 ≠ l3 := ne_of_none upd_same n3
    refine ⟨_, rfl, D, d, a, ns, 9, rfl, g5.di, by decide, by decide, fun y H6 y0 y1 st6 hD6 => ?_⟩
    have g6 := g5.nx st6 hD6
    have s6 := s5.trans (st6.mono g.sub)
    have n3d : l3 ∉ [d] := ((g2.up nt1 (.tup [.str kd])).up nt2 (.tup [.str kd, .str "number"])).di.fresh n3
    have e3 : H6 l3 = some (.lst [.ref t1, .ref t2]) := st6.keep _ _ n3d upd_same
    have e1 : H6 t1 = some (.tup [.str kd]) := st6.tups _ _ (by rw [upd_ne ne13, upd_ne ne12]; exact upd_same)
    have e2 : H6 t2 = some (.tup [.str kd, .str "number"]) := st6.tups _ _ (by rw [upd_ne ne23]; exact upd_same)
    refine ⟨rfl, .inr ⟨_, rfl, ?_⟩⟩
    obtain ⟨kp, ks, hkp, hix⟩ : ∃ (kp : Addr) (ks : List Str), SqT K H6 kp (ks.map V.str) ∧ atI ([.ref t1, .ref t2] : List V) (if decide (V.int y = V.int 8) = true then 1 else 0) = some (.ref kp) := by
      obtain ⟨v, ev, hv⟩ := menu2 (.ref t1) (.ref t2) (decide (V.int y = V.int 8))
      rcases hv with rfl | rfl
      · exact ⟨t1, [kd], SqT.of e1, ev⟩
      · exact ⟨t2, [kd, "number"], SqT.of e2, ev⟩
    refine ⟨l3, _, _, _, rfl, rfl, SqL.of e3, hix, ?_⟩
    refine ⟨D, d, a, nm, kp, ns, S, ks, rfl, hD6, g6.na, hkp, fun rr H7 hrr st7 hD7 => ?_⟩
    have g7 := g6.nx st7 hD7
    have s7 := s6.trans (st7.mono g.sub)
    refine ⟨_, rfl, rfl, _, rfl, ?_⟩
    rcases hrr with rfl | ⟨x, hx, hxl, rfl⟩
    · refine iteT ?_
      refine ⟨_, rfl, _, rfl, D, d, a, nm, ns, S, rfl, hD7, g7.na, fun v e H8 hv hg he st8 hD8 => ?_⟩
      refine q v e H8 hv hg ⟨r, (g7.nx st8 hD8).ro, Int.le_refl _, by omega, by omega⟩ (s7.trans (st8.mono g.sub)) hD8
    · refine iteF ?_
      -- a part with a name and a part within
      have two : ∀ (word : Str), word ∈ twos → ∀ (H8 : Hp) (t v : _) (e : Ex) (r' : Int) (H9 : Hp), H8 t = some (.tup [.str "name", .str x]) → AtE H8 v e → Good S e → Left rm r 0 1 e H8 → Stp [d, rm] H H8 → Dice K H8 D d a ns →
          ∀ p, H8 p = none → Q (.ref p) (upd H8 p (.tup [.str word, .ref t, v])) := by
        intro word hw H8 t v e r' H9 ht hv hg ⟨r2, hr2', hle, hdp, hsz⟩ st hD8 p np
        refine q _ (.two word (.name x) e) _ ⟨p, _, _, rfl, upd_same, ⟨t, rfl, by rw [upd_ne (ne_of_none ht np)]; exact ht⟩, hv.up np _⟩ ⟨hw, hx, hg⟩ ⟨r2, by rw [upd_ne (ne_of_none hr2' np)]; exact hr2', hle, ?_, ?_⟩ (st.up np _) (hD8.up np)
        · simp only [Ex.deep]
          have := e.deep_pos
          omega
        · simp only [Ex.size]
          omega
      refine ⟨_, rfl, rfl, _, rfl, ?_⟩
      rcases hk with rfl | hk
      · refine iteT ?_
        refine ⟨_, rfl, (by show 2 ≤ sizeLine; decide), fun t nt => ?_⟩
        have g8 := g7.up nt (.tup [.str "name", .str x])
        have s8 := s7.up nt (.tup [.str "name", .str x])
        refine ⟨_, rfl, _, rfl, _, rfl, D, d, a, nm, rm, ns, S, r, rfl, g8, hrn, fun v e H9 hv hg hl st9 hD9 => ?_⟩
        refine ⟨(by show 3 ≤ sizeLine; decide), fun p np => ?_⟩
        exact two "call" (by decide +kernel) H9 t v e 0 H9 (st9.tups _ _ upd_same) hv hg hl (s8.trans st9) hD9 p np
      · -- a part with a name alone
        have one : ∀ (word : Str), word ∈ ones → ∀ (H8 : Hp) (t p : Addr) (r2 : Int), H8 t = some (.tup [.str "name", .str x]) → H8 p = some (.tup [.str word, .ref t]) → H8 rm = some (.lst [.int r2]) → r2 ≤ r → Stp [d, rm] H H8 → Dice K H8 D d a ns → Q (.ref p) H8 := by
          intro word hw H8 t p r2 ht hp hr2 hle st hD8
          refine q _ (.one word (.name x)) _ ⟨p, _, rfl, hp, t, rfl, ht⟩ ⟨hw, hx⟩ ⟨r2, hr2, hle, ?_, ?_⟩ st hD8
          · simp only [Ex.deep]; omega
          · simp only [Ex.size]
            have := mx_mono hle
            omega
        rcases hk with rfl | rfl
        · refine iteF ?_
          refine ⟨_, rfl, rfl, _, rfl, ?_⟩
          refine iteT ?_
          refine ⟨_, rfl, (by show 2 ≤ sizeLine; decide), fun t nt => ⟨(by show 2 ≤ sizeLine; decide), fun p np => ⟨_, rfl, (by show 2 ≤ sizeLine; decide), fun t2 nt2 => ?_⟩⟩⟩
          have g10 := ((g7.up nt (.tup [.str "name", .str x])).up np (.tup [.str "look", .ref t])).up nt2 (.tup [.str "name", .str x])
          have s10 := ((s7.up nt (.tup [.str "name", .str x])).up np (.tup [.str "look", .ref t])).up nt2 (.tup [.str "name", .str x])
          have s8 : Stp [] (upd (upd H7 t (.tup [.str "name", .str x])) p (.tup [.str "look", .ref t])) (upd (upd (upd H7 t (.tup [.str "name", .str x])) p (.tup [.str "look", .ref t])) t2 (.tup [.str "name", .str x])) := .new nt2 _
          have et := s8.tups t _ (by rw [upd_ne (ne_of_none upd_same np)]; exact upd_same)
          have ep := s8.tups p _ upd_same
          refine ⟨_, rfl, _, rfl, _, rfl, D, d, a, nm, rm, ns, S, r, rfl, g10, hrn, fun v e H11 hv hg hl st11 hD11 => ?_⟩
          refine ⟨(by show 3 ≤ sizeLine; decide), fun p2 np2 => ⟨(by show 2 ≤ sizeLine; decide), fun l nl => ?_⟩⟩
          obtain ⟨r2, hr2, hle, hdp, hsz⟩ := hl
          have g12 := ((g10.ex st11 hD11 hr2).up np2 (.tup [.str "put", .ref t2, v])).up nl (.lst [.ref p, .ref p2])
          have s12 := ((s10.trans st11).up np2 (.tup [.str "put", .ref t2, v])).up nl (.lst [.ref p, .ref p2])
          have s11 : Stp [] H11 (upd (upd H11 p2 (.tup [.str "put", .ref t2, v])) l (.lst [.ref p, .ref p2])) := (Stp.new np2 _).up nl _
          refine ⟨_, rfl, D, d, a, ns, 2, rfl, g12.di, by decide, by decide, fun y H13 y0 y1 st13 hD13 => ?_⟩
          have nld : l ∉ [d] := ((g10.ex st11 hD11 hr2).up np2 (.tup [.str "put", .ref t2, v])).di.fresh nl
          have el : H13 l = some (.lst [.ref p, .ref p2]) := st13.keep _ _ nld upd_same
          obtain ⟨z, ez, hz⟩ := menu2i (.ref p) (.ref p2) y y0 y1
          refine ⟨l, _, _, _, rfl, rfl, SqL.of el, ez, ?_⟩
          have all : ∀ b xs, (upd (upd (upd H7 t (.tup [.str "name", .str x])) p (.tup [.str "look", .ref t])) t2 (.tup [.str "name", .str x])) b = some (.tup xs) → H13 b = some (.tup xs) := fun b xs e => st13.tups _ _ (s11.tups _ _ (st11.tups _ _ e))
          have g13 := g12.nx st13 hD13
          have sF := s12.trans (st13.mono g.sub)
          rcases hz with rfl | rfl
          · exact one "look" (by decide +kernel) H13 t p r2 (all _ _ et) (all _ _ ep) g13.ro hle sF hD13
          · have e2 : H13 p2 = some (.tup [.str "put", .ref t2, v]) := st13.tups _ _ (by rw [upd_ne (ne_of_none upd_same nl)]; exact upd_same)
            refine q _ (.two "put" (.name x) e) _ ⟨p2, _, _, rfl, e2, ⟨t2, rfl, all _ _ upd_same⟩, (hv.step s11).step st13⟩ ⟨by decide +kernel, hx, hg⟩ ⟨r2, g13.ro, hle, ?_, ?_⟩ sF hD13
            · simp only [Ex.deep]
              have := e.deep_pos
              omega
            · simp only [Ex.size]
              omega
        · refine iteF ?_
          refine ⟨_, rfl, rfl, _, rfl, ?_⟩
          refine iteF ?_
          refine ⟨_, rfl, (by show 2 ≤ sizeLine; decide), fun t nt => ?_⟩
          have g8 := g7.up nt (.tup [.str "name", .str x])
          have s8 := s7.up nt (.tup [.str "name", .str x])
          refine ⟨_, rfl, _, rfl, _, rfl, D, d, a, nm, rm, ns, S, r, rfl, g8, hrn, fun v e H9 hv hg hl st9 hD9 => ?_⟩
          obtain ⟨r2, hr2, hle, hdp, hsz⟩ := hl
          refine ⟨(by show 3 ≤ sizeLine; decide), fun p np => ⟨_, rfl, (by show 2 ≤ sizeLine; decide), fun t2 nt2 => ⟨(by show 2 ≤ sizeLine; decide), fun p2 np2 => ⟨(by show 2 ≤ sizeLine; decide), fun l nl => ?_⟩⟩⟩⟩
          have g9 := g8.ex st9 hD9 hr2
          have g12 := (((g9.up np (.tup [.str "go", .ref t, v])).up nt2 (.tup [.str "name", .str x])).up np2 (.tup [.str "drop", .ref t2])).up nl (.lst [.ref p, .ref p2])
          have s11 : Stp [] H9 _ := (((Stp.new np (.tup [.str "go", .ref t, v])).up nt2 (.tup [.str "name", .str x])).up np2 (.tup [.str "drop", .ref t2])).up nl (.lst [.ref p, .ref p2])
          have nepl : p ≠ l := ne_of_none (by rw [upd_ne (ne_of_none (by rw [upd_ne (ne_of_none upd_same nt2)]; exact upd_same) np2), upd_ne (ne_of_none upd_same nt2)]; exact upd_same) nl
          refine ⟨_, rfl, D, d, a, ns, 4, rfl, g12.di, by decide, by decide, fun y H13 y0 y1 st13 hD13 => ?_⟩
          have nld : l ∉ [d] := (((g9.up np (.tup [.str "go", .ref t, v])).up nt2 (.tup [.str "name", .str x])).up np2 (.tup [.str "drop", .ref t2])).di.fresh nl
          have el : H13 l = some (.lst [.ref p, .ref p2]) := st13.keep _ _ nld upd_same
          refine ⟨rfl, .inr ⟨_, rfl, ?_⟩⟩
          obtain ⟨z, ez, hz⟩ := menu2 (.ref p) (.ref p2) (decide (V.int y = V.int 3))
          refine ⟨l, _, _, _, rfl, rfl, SqL.of el, ez, ?_⟩
          have g13 := g12.nx st13 hD13
          have sF : Stp [d, rm] H H13 := ((s8.trans st9).trans (s11.mono fun b hb => by cases hb)).trans (st13.mono g.sub)
          rcases hz with rfl | rfl
          · have e2 : H13 p = some (.tup [.str "go", .ref t, v]) := st13.tups _ _ (by rw [upd_ne nepl, upd_ne (ne_of_none (by rw [upd_ne (ne_of_none upd_same nt2)]; exact upd_same) np2), upd_ne (ne_of_none upd_same nt2)]; exact upd_same)
            refine q _ (.two "go" (.name x) e) _ ⟨p, _, _, rfl, e2, ⟨t, rfl, st13.tups _ _ (s11.tups _ _ (st9.tups _ _ upd_same))⟩, (hv.step s11).step st13⟩ ⟨by decide +kernel, hx, hg⟩ ⟨r2, g13.ro, hle, ?_, ?_⟩ sF hD13
            · simp only [Ex.deep]
              have := e.deep_pos
              omega
            · simp only [Ex.size]
              omega
          · refine one "drop" (by decide +kernel) H13 t2 p2 r2 ?_ ?_ g13.ro hle sF hD13
            · exact st13.tups _ _ (by rw [upd_ne (ne_of_none (by rw [upd_ne (ne_of_none upd_same np2)]; exact upd_same) nl), upd_ne (ne_of_none upd_same np2)]; exact upd_same)
            · exact st13.tups _ _ (by rw [upd_ne (ne_of_none upd_same nl)]; exact upd_same)
end
end Wr
namespace Wr
open PySem PySem.Spec PyProof.Rows L2
section
variable {K : PySem.W.Frag} {H H' : Hp} {D : List Addr} {d a nm rm : Addr} {ns : List Int} {S : List Str} {r : Int}
theorem Gen.same (g : Gen K H D d a nm rm ns S r) (s : Same H H') : Gen K H' D d a nm rm ns S r := by
  refine ⟨g.di.step (D' := []) (Stp.same s) (by simp) (by simp), g.na.step (D := []) (Stp.same s) (by simp), s _ _ g.ro, g.rd, g.ne⟩
end
/-- {x: word} -/
theorem NamesAt.one {H : Hp} {p : Addr} {x z : Str} (hx : x ∈ letters) (e : H p = some (.dK (mergeK [] [((Sum.inr x : Key), V.str z)]))) : NamesAt H p [x] :=
  ⟨[(x, z)], by rw [e] <;> rfl, by simp, fun y hy => by rw [List.mem_singleton.mp hy]; exact hx, fun y hy => hy⟩
theorem NamesAt.two {H : Hp} {p : Addr} {x z y u : Str} (hx : x ∈ letters) (hy : y ∈ letters) (hne : x ≠ y) (e : H p = some (.dK (mergeK [] [((Sum.inr x : Key), V.str z), (Sum.inr y, V.str u)]))) : NamesAt H p [x, y] := by
  obtain ⟨k, e1, m, n⟩ := mergeK_str [(x, z), (y, u)] []
  refine ⟨k, e.trans ?_, n (by simp), fun q hq => ?_, fun q hq => ?_⟩
  · rw [← e1] <;> rfl
  · have := (m q).mp hq
    simp only [List.map_cons, List.map_nil, List.mem_cons, List.not_mem_nil, or_false] at this
    rcases this with rfl | rfl
    · exact hx
    · exact hy
  · have := (m q).mp hq
    simpa using this
section
variable {P : Program} {w : World} {K : PySem.W.Frag} {mg : Str → Option Value} {base : Heap}
def spLet (K : PySem.W.Frag) (n : Nat) : Sp := fun vs H Q E => ∃ way : Int, spGen K n 4 17 (fun d nm rm => [.ref d, .ref nm, .ref rm, .int way]) vs H Q E
theorem scLet : FnScope ["_law_d", "_law_names", "_law_room", "_law_way", "_law_x", "_law_y", "_law_fun", "_law_body", "_law_mine"] ["_law_d", "_law_names", "_law_room", "_law_way"] (defScope s_L_let) := ⟨rfl, rfl, rfl, by decide +kernel, rfl, by decide +kernel, by decide +kernel⟩
theorem ok_let (n : Nat) (F : Df K mg "_law_let" s_L_let) (UF : Use P w K mg base "_law_free" ["_law_d"] 2 (spFree K)) (UW : Use P w K mg base "_law_with" ["_law_names", "_law_some"] 1 spWith)
    (UL : Use P w K mg base "_law_leaf" ["_law_d", "_law_names"] 3 (spLeaf K)) (UE : Use P w K mg base "_law_expr" ["_law_d", "_law_names", "_law_room"] (2 * n + 6) (spExpr K n)) :
    Use P w K mg base "_law_let" ["_law_d", "_law_names", "_law_room", "_law_way"] (2 * n + 7) (spLet K n) := by
  refine F.use scLet (fun _ _ _ _ _ _ us hl => match us, hl with | [_, _, _, _], _ => rfl) (fun vs H Q E h => ?_) (fun cdv f A outer s H vs Q E hr h => ?_)
  · obtain ⟨way, D, d, a, nm, rm, ns, S, r, rfl, _⟩ := h
    rfl
  · obtain ⟨way, D, d, a, nm, rm, ns, S, r, rfl, g, hrn, q⟩ := h
    have hr1 : Room 1 _ := hr.mono (by omega)
    have hr2 : Room 2 _ := hr.mono (by omega)
    have hr3 : Room 3 _ := hr.mono (by omega)
    refine ⟨_, pss_cons (ps_set (i := 4) scLet.nd rfl (Or.inl rfl) (pe_use UF hr2 (pa_cons (pv 0) pa_nil)))
      (pss_cons (ps_if (pt_cmpR op_lt (pv 3) pe_int (nomark _)) (pss_one (ps_ret (pe_tup (pa_cons pe_str (pa_cons (pv 4) (pa_cons (pe_use UE hr (pa_cons (pv 0) (pa_cons (pv 1) (pa_cons (pv 2) pa_nil))))
          (pa_cons (pe_use UE hr (pa_cons (pv 0) (pa_cons (pe_use UW hr1 (pa_cons (pv 1) (pa_cons (pe_disp (pps_cons (pv 4) pe_str pps_nil) (by rfl) (by rfl) (fun z => by cases z) (by decide)) pa_nil))) (pa_cons (pv 2) pa_nil)))) pa_nil))))))) pss_nil)
      (pss_cons (ps_if (pt_cmpR op_eq (pv 3) pe_int (nomark _))
          (pss_cons (ps_set (i := 5) scLet.nd rfl (Or.inl rfl) (pe_use UF hr2 (pa_cons (pv 0) pa_nil)))
          (pss_cons (ps_set (i := 6) scLet.nd rfl (Or.inl rfl) (pe_tup (pa_cons pe_str (pa_cons (pv 5) (pa_cons (pe_use UE hr (pa_cons (pv 0) (pa_cons (pe_use UW hr1 (pa_cons (pv 1) (pa_cons (pe_disp (pps_cons (pv 5) pe_str pps_nil) (by rfl) (by rfl) (fun z => by cases z) (by decide)) pa_nil))) (pa_cons (pv 2) pa_nil)))) pa_nil)))))
          (pss_cons (ps_set (i := 7) scLet.nd rfl (Or.inl rfl) (pe_use UE hr (pa_cons (pv 0) (pa_cons (pe_use UW hr1 (pa_cons (pv 1) (pa_cons (pe_disp (pps_cons (pv 4) pe_str pps_nil) (by rfl) (by rfl) (fun z => by cases z) (by decide)) pa_nil))) (pa_cons (pv 2) pa_nil)))))
          (pss_one (ps_ret (pe_tup (pa_cons pe_str (pa_cons (pv 4) (pa_cons (pv 6) (pa_cons (pe_tup (pa_cons pe_str (pa_cons (pe_tup (pa_cons pe_str (pa_cons (pe_tup (pa_cons pe_str (pa_cons (pv 4) pa_nil))) (pa_cons (pe_use UL hr3 (pa_cons (pv 0) (pa_cons (pv 1) pa_nil))) pa_nil)))) (pa_cons (pv 7) pa_nil)))) pa_nil)))))))))) pss_nil)
      (pss_cons (ps_set (i := 8) scLet.nd rfl (Or.inl rfl) (pe_use UW hr1 (pa_cons (pv 1) (pa_cons (pe_disp (pps_cons (pv 4) pe_str pps_nil) (by rfl) (by rfl) (fun z => by cases z) (by decide)) pa_nil))))
      (pss_cons (ps_set (i := 7) scLet.nd rfl (Or.inl rfl) (pe_tup (pa_cons pe_str (pa_cons (pe_use UE hr (pa_cons (pv 0) (pa_cons (pv 8) (pa_cons (pv 2) pa_nil)))) (pa_cons (pe_tup (pa_cons pe_str (pa_cons (pe_tup (pa_cons pe_str (pa_cons (pv 4) pa_nil))) pa_nil))) pa_nil)))))
      (pss_one (ps_ret (pe_tup (pa_cons pe_str (pa_cons (pv 4) (pa_cons (pe_tup (pa_cons pe_str (pa_cons (pe_use UL hr3 (pa_cons (pv 0) (pa_cons (pv 1) pa_nil))) pa_nil))) (pa_cons (pv 7) pa_nil))))))))))), ?_⟩
    have d1 := dm_pos r
    have m1 := (mx_ge r).1
    refine ⟨_, rfl, D, d, a, ns, rfl, g.di, fun x H1 hx st1 hD1 => ?_⟩
    have g1 := g.nx st1 hD1
    have s1 := st1.mono g.sub
    refine ⟨_, rfl, _, _, rfl, rfl, _, rfl, ?_⟩
    refine ite2 (fun _ => ?_) (fun _ => ?_)
    · refine ⟨_, rfl, _, rfl, _, rfl, _, rfl, D, d, a, nm, rm, ns, S, r, rfl, g1, hrn, fun v e H2 hv hg ⟨r2, hr2', hle2, hd2, hz2⟩ st2 hD2 => ?_⟩
      have g2 := g1.ex st2 hD2 hr2'
      refine ⟨_, rfl, _, rfl, fun p np => ⟨_, rfl, upd_same, [((Sum.inr x : Key), V.str "number")], rfl, (by show 1 ≤ 15; decide), ?_⟩⟩
      rw [upd_upd]
      have g3 := g2.up np (.dK (mergeK [] [((Sum.inr x : Key), V.str "number")]))
      refine ⟨nm, p, S, [x], rfl, g3.na, .one hx upd_same, fun nm2 H4 sm4 nn4 na4 => ?_⟩
      have g4 := (g3.same sm4).with na4
      have s4 := ((s1.trans st2).up np (.dK (mergeK [] [((Sum.inr x : Key), V.str "number")]))).trans (Stp.same sm4)
      refine ⟨_, rfl, D, d, a, nm2, rm, ns, _, r2, rfl, g4, Int.le_trans hle2 hrn, fun v2 e2 H5 hv2 hg2 ⟨r3, hr3', hle3, hd3, hz3⟩ st5 hD5 => ?_⟩
      refine ⟨(by show 4 ≤ sizeLine; decide), fun t nt => ?_⟩
      have dm2 : dm r2 ≤ dm r := by unfold dm; have := mx_mono hle2; omega
      refine q _ (.lt x e e2) _ ⟨t, v, v2, rfl, upd_same, ?_, hv2.up nt _⟩ ⟨hx, hg, hg2.mono (fun y hy => by simpa using hy)⟩ ⟨r3, by rw [upd_ne (ne_of_none hr3' nt)]; exact hr3', by omega, ?_, ?_⟩ ((s4.trans st5).up nt _) (hD5.up nt)
      · exact ((((hv.up np _).step (D := []) (Stp.same sm4))).step st5).up nt _
      · simp only [Ex.deep]
        omega
      · simp only [Ex.size]
        omega
    · refine ⟨_, rfl, rfl, _, rfl, ?_⟩
      refine ite2 (fun _ => ?_) (fun _ => ?_)
      · refine ⟨_, rfl, D, d, a, ns, rfl, hD1, fun y H2 hy st2 hD2 => ?_⟩
        have g2 := g1.nx st2 hD2
        have s2 := s1.trans (st2.mono g.sub)
        refine ⟨_, rfl, _, rfl, _, rfl, fun p np => ⟨_, rfl, upd_same, [((Sum.inr y : Key), V.str "number")], rfl, (by show 1 ≤ 15; decide), ?_⟩⟩
        rw [upd_upd]
        have g3 := g2.up np (.dK (mergeK [] [((Sum.inr y : Key), V.str "number")]))
        refine ⟨nm, p, S, [y], rfl, g3.na, .one hy upd_same, fun nm2 H4 sm4 nn4 na4 => ?_⟩
        have g4' := g3.same sm4
        have g4 := g4'.with na4
        have s4 := (s2.up np (.dK (mergeK [] [((Sum.inr y : Key), V.str "number")]))).trans (Stp.same sm4)
        refine ⟨_, rfl, D, d, a, nm2, rm, ns, _, r, rfl, g4, hrn, fun v e H5 hv hg ⟨r2, hr2', hle2, hd2, hz2⟩ st5 hD5 => ?_⟩
        have g5 := g4'.ex st5 hD5 hr2'
        refine ⟨(by show 3 ≤ sizeLine; decide), fun t nt => ?_⟩
        have g6 := g5.up nt (.tup [.str "fun", .str y, v])
        have s6 := (s4.trans st5).up nt (.tup [.str "fun", .str y, v])
        have atF : AtE (upd H5 t (.tup [.str "fun", .str y, v])) (.ref t) (.fn y e) := ⟨t, v, rfl, upd_same, hv.up nt _⟩
        refine ⟨_, rfl, _, rfl, fun p2 np2 => ⟨_, rfl, upd_same, [((Sum.inr x : Key), V.str "fun")], rfl, (by show 1 ≤ 15; decide), ?_⟩⟩
        rw [upd_upd]
        have g7 := g6.up np2 (.dK (mergeK [] [((Sum.inr x : Key), V.str "fun")]))
        refine ⟨nm, p2, S, [x], rfl, g7.na, .one hx upd_same, fun nm3 H8 sm8 nn8 na8 => ?_⟩
        have g8' := g7.same sm8
        have g8 := g8'.with na8
        have s8 := (s6.up np2 (.dK (mergeK [] [((Sum.inr x : Key), V.str "fun")]))).trans (Stp.same sm8)
        have atF8 := (atF.up np2 (.dK (mergeK [] [((Sum.inr x : Key), V.str "fun")]))).step (D := []) (Stp.same sm8)
        refine ⟨_, rfl, D, d, a, nm3, rm, ns, _, r2, rfl, g8, Int.le_trans hle2 hrn, fun v2 e2 H9 hv2 hg2 ⟨r3, hr3', hle3, hd3, hz3⟩ st9 hD9 => ?_⟩
        have g9 := g8'.ex st9 hD9 hr3'
        refine ⟨_, rfl, _, rfl, _, rfl, (by show 2 ≤ sizeLine; decide), fun t3 nt3 => ?_⟩
        have g10 := g9.up nt3 (.tup [.str "name", .str x])
        refine ⟨_, rfl, _, rfl, D, d, a, nm, ns, S, rfl, g10.di, g10.na, fun v4 e4 H11 hv4 hg4 ⟨z4, p4⟩ st11 hD11 => ?_⟩
        have g11 := g10.nx st11 hD11
        refine ⟨(by show 3 ≤ sizeLine; decide), fun t5 nt5 => ⟨_, rfl, (by show 3 ≤ sizeLine; decide), fun t6 nt6 => ⟨(by show 4 ≤ sizeLine; decide), fun t7 nt7 => ?_⟩⟩⟩
        have g14 := ((g11.up nt5 (.tup [.str "call", .ref t3, v4])).up nt6 (.tup [.str "add", .ref t5, v2])).up nt7 (.tup [.str "let", .str x, .ref t, .ref t6])
        have s14 : Stp [] H11 (upd (upd (upd H11 t5 (.tup [.str "call", .ref t3, v4])) t6 (.tup [.str "add", .ref t5, v2])) t7 (.tup [.str "let", .str x, .ref t, .ref t6])) := ((Stp.new nt5 _).up nt6 _).up nt7 _
        have sA : Stp [d, rm] H9 H11 := (Stp.new nt3 _).trans (st11.mono g.sub)
        have dm2 : dm r2 ≤ dm r := by unfold dm; have := mx_mono hle2; omega
        have atN : AtE H11 (.ref t3) (.name x) := ⟨t3, rfl, st11.tups _ _ upd_same⟩
        have at6 : (upd (upd (upd H11 t5 (.tup [.str "call", .ref t3, v4])) t6 (.tup [.str "add", .ref t5, v2])) t7 (.tup [.str "let", .str x, .ref t, .ref t6])) t6 = some (.tup [.str "add", .ref t5, v2]) := by
          rw [upd_ne (ne_of_none upd_same nt7)]; exact upd_same
        have at5 : (upd (upd (upd H11 t5 (.tup [.str "call", .ref t3, v4])) t6 (.tup [.str "add", .ref t5, v2])) t7 (.tup [.str "let", .str x, .ref t, .ref t6])) t5 = some (.tup [.str "call", .ref t3, v4]) := by
          rw [upd_ne (ne_of_none (by rw [upd_ne (ne_of_none upd_same nt6)]; exact upd_same) nt7), upd_ne (ne_of_none upd_same nt6)]; exact upd_same
        refine q _ (.lt x (.fn y e) (.two "add" (.two "call" (.name x) e4) e2)) _
          ⟨t7, _, _, rfl, upd_same, ((atF8.step st9).step sA).step s14, t6, _, _, rfl, at6, ⟨t5, _, _, rfl, at5, atN.step s14, hv4.step s14⟩, ((hv2.step sA)).step s14⟩
          ⟨hx, ⟨hy, hg.mono (fun z hz => by simpa using hz)⟩, by decide +kernel, ⟨by decide +kernel, List.mem_cons_self, hg4.mono (fun z hz => List.mem_cons_of_mem _ hz)⟩, hg2.mono (fun z hz => by simpa using hz)⟩
          ⟨r3, g14.ro, by omega, ?_, ?_⟩ (((s8.trans st9).trans sA).trans (s14.mono fun b hb => by cases hb)) g14.di
        · simp only [Ex.deep, p4]
          omega
        · simp only [Ex.size, z4]
          omega
      · refine ⟨_, rfl, fun p np => ⟨_, rfl, upd_same, [((Sum.inr x : Key), V.str "box")], rfl, (by show 1 ≤ 15; decide), ?_⟩⟩
        rw [upd_upd]
        have g3 := g1.up np (.dK (mergeK [] [((Sum.inr x : Key), V.str "box")]))
        refine ⟨nm, p, S, [x], rfl, g3.na, .one hx upd_same, fun nm2 H4 sm4 nn4 na4 => ?_⟩
        have g4' := g3.same sm4
        have g4 := g4'.with na4
        have s4 := (s1.up np (.dK (mergeK [] [((Sum.inr x : Key), V.str "box")]))).trans (Stp.same sm4)
        refine ⟨_, rfl, _, rfl, _, rfl, D, d, a, nm2, rm, ns, _, r, rfl, g4, hrn, fun v e H5 hv hg ⟨r2, hr2', hle2, hd2, hz2⟩ st5 hD5 => ?_⟩
        have g5 := g4'.ex st5 hD5 hr2'
        refine ⟨_, rfl, (by show 2 ≤ sizeLine; decide), fun t1 nt1 => ⟨(by show 2 ≤ sizeLine; decide), fun t2 nt2 => ⟨(by show 3 ≤ sizeLine; decide), fun t3 nt3 => ?_⟩⟩⟩
        have g8 := ((g5.up nt1 (.tup [.str "name", .str x])).up nt2 (.tup [.str "look", .ref t1])).up nt3 (.tup [.str "add", v, .ref t2])
        have s8 : Stp [] H5 (upd (upd (upd H5 t1 (.tup [.str "name", .str x])) t2 (.tup [.str "look", .ref t1])) t3 (.tup [.str "add", v, .ref t2])) := ((Stp.new nt1 _).up nt2 _).up nt3 _
        have at3 : AtE (upd (upd (upd H5 t1 (.tup [.str "name", .str x])) t2 (.tup [.str "look", .ref t1])) t3 (.tup [.str "add", v, .ref t2])) (.ref t3) (.two "add" e (.one "look" (.name x))) := by
          refine ⟨t3, _, _, rfl, upd_same, hv.step s8, t2, _, rfl, ?_, t1, rfl, ?_⟩
          · rw [upd_ne (ne_of_none upd_same nt3)]; exact upd_same
          · rw [upd_ne (ne_of_none (by rw [upd_ne (ne_of_none upd_same nt2)]; exact upd_same) nt3), upd_ne (ne_of_none upd_same nt2)]; exact upd_same
        refine ⟨_, rfl, _, rfl, _, rfl, D, d, a, nm, ns, S, rfl, g8.di, g8.na, fun v4 e4 H9 hv4 hg4 ⟨z4, p4⟩ st9 hD9 => ?_⟩
        refine ⟨(by show 2 ≤ sizeLine; decide), fun t5 nt5 => ⟨_, rfl, (by show 4 ≤ sizeLine; decide), fun t6 nt6 => ?_⟩⟩
        have g11 := ((g8.nx st9 hD9).up nt5 (.tup [.str "box", v4])).up nt6 (.tup [.str "let", .str x, .ref t5, .ref t3])
        have s11 : Stp [] H9 (upd (upd H9 t5 (.tup [.str "box", v4])) t6 (.tup [.str "let", .str x, .ref t5, .ref t3])) := (Stp.new nt5 _).up nt6 _
        refine q _ (.lt x (.one "box" e4) (.two "add" e (.one "look" (.name x)))) _
          ⟨t6, _, _, rfl, upd_same, ⟨t5, _, rfl, by rw [upd_ne (ne_of_none upd_same nt6)]; exact upd_same, hv4.step s11⟩, (at3.step st9).step s11⟩
          ⟨hx, ⟨by decide +kernel, hg4⟩, by decide +kernel, hg.mono (fun z hz => by simpa using hz), by decide +kernel, List.mem_cons_self⟩
          ⟨r2, g11.ro, hle2, ?_, ?_⟩ ((((s4.trans st5).trans (s8.mono fun b hb => by cases hb)).trans (st9.mono g.sub)).trans (s11.mono fun b hb => by cases hb)) g11.di
        · simp only [Ex.deep, p4]
          have := e.deep_pos
          omega
        · simp only [Ex.size, z4]
          omega
end
end Wr
namespace Wr
open PySem PySem.Spec PyProof.Rows L2
section
variable {P : Program} {w : World} {K : PySem.W.Frag} {mg : Str → Option Value} {base : Heap}
abbrev WF : WX := fun _ _ _ _ => False
theorem index_letter {x : Str} (h : x ∈ letters) : ∃ i : Nat, Txt.index0 ("bcdefgha" : Str) x = some i ∧ ∃ c, atI (("abcdefgh" : Str).cps.toList) (i : Int) = some c ∧ (⟨#[c]⟩ : Str) ∈ letters ∧ x ≠ (⟨#[c]⟩ : Str) := by
  simp only [letters, List.mem_cons, List.not_mem_nil, or_false] at h
  rcases h with rfl | rfl | rfl | rfl | rfl | rfl | rfl | rfl
  · exact ⟨7, by decide +kernel, 104, rfl, by decide +kernel, by decide +kernel⟩
  · exact ⟨0, by decide +kernel, 97, rfl, by decide +kernel, by decide +kernel⟩
  · exact ⟨1, by decide +kernel, 98, rfl, by decide +kernel, by decide +kernel⟩
  · exact ⟨2, by decide +kernel, 99, rfl, by decide +kernel, by decide +kernel⟩
  · exact ⟨3, by decide +kernel, 100, rfl, by decide +kernel, by decide +kernel⟩
  · exact ⟨4, by decide +kernel, 101, rfl, by decide +kernel, by decide +kernel⟩
  · exact ⟨5, by decide +kernel, 102, rfl, by decide +kernel, by decide +kernel⟩
  · exact ⟨6, by decide +kernel, 103, rfl, by decide +kernel, by decide +kernel⟩
theorem scCatch : FnScope ["_law_d", "_law_names", "_law_room", "_law_x", "_law_k", "_law_body", "_law_mine", "_law_one", "_law_two", "_law_twice", "_law_some"] ["_law_d", "_law_names", "_law_room"] (defScope s_L_catch) := ⟨rfl, rfl, rfl, by decide +kernel, rfl, by decide +kernel, by decide +kernel⟩
abbrev Tk (H H' : Hp) : Prop := ∀ t xs, H t = some (.tup xs) → H' t = some (.tup xs)
theorem Tk.back {H HF : Hp} {p : Addr} {o : HO} (n : H p = none) (k : Tk (upd H p o) HF) : Tk H HF := fun t xs h => k t xs ((Stp.new (D := []) n o).tups t xs h)
theorem Stp.putnew {H0 H : Hp} {l : Addr} (s : Stp [] H0 H) (n : H0 l = none) (o : HO) : Stp [] H0 (upd H l o) :=
  ⟨fun b u m h => by rw [upd_ne (ne_of_none h n)]; exact s.keep b u m h, fun t xs h => by rw [upd_ne (ne_of_none h n)]; exact s.tups t xs h⟩
theorem menu8v (a b c d e f g h : V) (x : Int) (h0 : 0 ≤ x) (h8 : x < 8) : ∃ v, atI ([a, b, c, d, e, f, g, h] : List V) x = some v ∧ (v = a ∨ v = b ∨ v = c ∨ v = d ∨ v = e ∨ v = f ∨ v = g ∨ v = h) := by
  have hx : x = 0 ∨ x = 1 ∨ x = 2 ∨ x = 3 ∨ x = 4 ∨ x = 5 ∨ x = 6 ∨ x = 7 := by omega
  rcases hx with rfl | rfl | rfl | rfl | rfl | rfl | rfl | rfl
  · exact ⟨a, rfl, .inl rfl⟩
  · exact ⟨b, rfl, .inr (.inl rfl)⟩
  · exact ⟨c, rfl, .inr (.inr (.inl rfl))⟩
  · exact ⟨d, rfl, .inr (.inr (.inr (.inl rfl)))⟩
  · exact ⟨e, rfl, .inr (.inr (.inr (.inr (.inl rfl))))⟩
  · exact ⟨f, rfl, .inr (.inr (.inr (.inr (.inr (.inl rfl)))))⟩
  · exact ⟨g, rfl, .inr (.inr (.inr (.inr (.inr (.inr (.inl rfl))))))⟩
  · exact ⟨h, rfl, .inr (.inr (.inr (.inr (.inr (.inr (.inr rfl))))))⟩
theorem takesF {X : Cx} : Takes X WF := fun _ _ ⟨_, _, _, _, _, _, _, _, _, _, _, _, _, _, _, _, h⟩ => h.elim
theorem ok_catch (n : Nat) (F : Df K mg "_law_catch" s_L_catch) (U : Use P w K mg base "_law_next" ["_law_dice_here", "_law_many"] 1 (spNext K)) (UF : Use P w K mg base "_law_free" ["_law_d"] 2 (spFree K)) (UW : Use P w K mg base "_law_with" ["_law_names", "_law_some"] 1 spWith)
    (UL : Use P w K mg base "_law_leaf" ["_law_d", "_law_names"] 3 (spLeaf K)) (UE : Use P w K mg base "_law_expr" ["_law_d", "_law_names", "_law_room"] (2 * n + 6) (spExpr K n)) :
    Use P w K mg base "_law_catch" ["_law_d", "_law_names", "_law_room"] (2 * n + 7) (spUse K n) := by
  refine F.use scCatch (fun _ _ _ _ _ _ us hl => match us, hl with | [_, _, _], _ => rfl) (fun vs H Q E h => ?_) (fun cdv f A outer s H vs Q E hr h => ?_)
  · obtain ⟨D, d, a, nm, rm, ns, S, r, rfl, _⟩ := h
    rfl
  · obtain ⟨D, d, a, nm, rm, ns, S, r, rfl, g, hrn, q⟩ := h
    have hr1 : Room 1 _ := hr.mono (by omega)
    have hr2 : Room 2 _ := hr.mono (by omega)
    have hr3 : Room 3 _ := hr.mono (by omega)
    refine ⟨_, pss_cons (ps_set (i := 3) scCatch.nd rfl (Or.inl rfl) (pe_use UF hr2 (pa_cons (pv 0) pa_nil)))
      (pss_cons (ps_set (i := 4) scCatch.nd rfl (Or.inl rfl) (pe_ix ix_str pe_str (pe_bmS PySem.F.plainAttrs_str PySem.F.slot_str_index PySem.F.type_str_index (mt_indexX rfl takesF) pe_str (pa_cons (pv 3) pa_nil)) (fun _ _ => rfl)))
      (pss_cons (ps_set (i := 5) scCatch.nd rfl (Or.inl rfl) (pe_use UE hr (pa_cons (pv 0) (pa_cons (pv 1) (pa_cons (pv 2) pa_nil)))))
      (pss_cons (ps_if (pt_cmpR op_gt (pe_use U hr1 (pa_cons (pv 0) (pa_cons pe_int pa_nil))) pe_int (nomark _))
        (pss_one (ps_set (i := 5) scCatch.nd rfl (Or.inl rfl) (pe_tup (pa_cons pe_str (pa_cons (pe_tup (pa_cons pe_str (pa_cons (pe_use UL hr3 (pa_cons (pv 0) (pa_cons (pv 1) pa_nil))) pa_nil))) (pa_cons (pv 5) pa_nil)))))) pss_nil)
      (pss_cons (ps_set (i := 6) scCatch.nd rfl (Or.inl rfl) (pe_use UW hr1 (pa_cons (pv 1) (pa_cons (pe_disp (pps_cons (pv 3) pe_str (pps_cons (pv 4) pe_str pps_nil)) (by rfl) (by rfl) (fun z => by cases z) (by decide)) pa_nil))))
      (pss_cons (ps_set (i := 7) scCatch.nd rfl (Or.inl rfl) (pe_tup (pa_cons pe_str (pa_cons (pe_tup (pa_cons pe_str (pa_cons (pv 4) pa_nil))) (pa_cons (pe_use UL hr3 (pa_cons (pv 0) (pa_cons (pv 6) pa_nil))) pa_nil)))))
      (pss_cons (ps_set (i := 8) scCatch.nd rfl (Or.inl rfl) (pe_tup (pa_cons pe_str (pa_cons (pe_tup (pa_cons pe_str (pa_cons (pv 4) pa_nil))) (pa_cons (pe_use UE hr (pa_cons (pv 0) (pa_cons (pv 6) (pa_cons (pv 2) pa_nil)))) pa_nil)))))
      (pss_cons (ps_set (i := 9) scCatch.nd rfl (Or.inl rfl) (pe_tup (pa_cons pe_str (pa_cons (pe_tup (pa_cons pe_str (pa_cons (pe_tup (pa_cons pe_str (pa_cons (pv 4) pa_nil))) (pa_cons (pe_tup (pa_cons pe_str (pa_cons pe_int pa_nil))) pa_nil)))) (pa_cons (pv 8) pa_nil)))))
      (pss_cons (ps_set (i := 10) scCatch.nd rfl (Or.inl rfl) (pe_lst (pa_cons (pe_use UE hr (pa_cons (pv 0) (pa_cons (pv 6) (pa_cons (pv 2) pa_nil)))) (pa_cons (pv 7) (pa_cons (pv 8) (pa_cons (pv 9)
          (pa_cons (pe_tup (pa_cons pe_str (pa_cons (pv 3) (pa_cons (pv 8) (pa_cons (pe_tup (pa_cons pe_str (pa_cons (pe_tup (pa_cons pe_str (pa_cons (pv 3) pa_nil))) (pa_cons (pe_tup (pa_cons pe_str (pa_cons (pe_tup (pa_cons pe_str (pa_cons (pv 4) pa_nil))) pa_nil))) pa_nil)))) pa_nil))))) pa_nil)))))))
      (pss_cons (ps_set (i := 10) scCatch.nd rfl (Or.inl rfl) (pe_op op_cat (pv 10) (pe_lst
          (pa_cons (pe_tup (pa_cons pe_str (pa_cons (pe_tup (pa_cons pe_str (pa_cons (pe_tup (pa_cons pe_str (pa_cons (pv 3) pa_nil))) pa_nil))) (pa_cons (pv 7) pa_nil))))
          (pa_cons (pe_tup (pa_cons pe_str (pa_cons (pe_tup (pa_cons pe_str (pa_cons (pv 3) pa_nil))) (pa_cons (pv 8) (pa_cons (pv 7) pa_nil))))) pa_nil)))))
      (pss_cons (ps_expr (pe_bm PySem.F.plainAttrs_list PySem.F.slot_list_append PySem.F.type_list_append mt_append (pv 10) (pa_cons (pe_tup (pa_cons pe_str (pa_cons (pe_tup (pa_cons pe_str (pa_cons (pe_tup (pa_cons pe_str (pa_cons (pv 4) pa_nil))) pa_nil))) (pa_cons (pv 7) pa_nil)))) pa_nil)))
      (pss_one (ps_ret (pe_tup (pa_cons pe_str (pa_cons (pv 5) (pa_cons (pv 3) (pa_cons (pv 4) (pa_cons (pe_ix ix_list (pv 10) (pe_use U hr1 (pa_cons (pv 0) (pa_cons pe_int pa_nil))) (fun _ _ => rfl)) pa_nil)))))))))))))))))), ?_⟩
    have d1 := dm_pos r
    have m1 := (mx_ge r).1
    refine ⟨_, rfl, D, d, a, ns, rfl, g.di, fun x H1 hx st1 hD1 => ?_⟩
    have g1 := g.nx st1 hD1
    have s1 := st1.mono g.sub
    obtain ⟨ix, eix, c, ec, hk, hxk⟩ := index_letter hx
    refine ⟨rfl, _, rfl, _, _, rfl, rfl, fun k2 hk2 => ?_, fun hn => ?_⟩
    case refine_2 => rw [eix] at hn; cases hn
    rw [eix] at hk2
    cases hk2
    refine ⟨_, _, c, rfl, rfl, by decide, ec, ?_⟩
    generalize hkk : (⟨#[c]⟩ : Str) = k at *
    refine ⟨_, rfl, _, rfl, _, rfl, D, d, a, nm, rm, ns, S, r, rfl, g1, hrn, fun v e H3 hv hg ⟨r2, hr2', hle2, hd2, hz2⟩ st3 hD3 => ?_⟩
    have g3 := g1.ex st3 hD3 hr2'
    have s3 := s1.trans st3
    refine ⟨_, rfl, D, d, a, ns, 4, rfl, g3.di, by decide, by decide, fun y H4 y0 y1 st4 hD4 => ?_⟩
    have g4 := g3.nx st4 hD4
    have s4 := s3.trans (st4.mono g.sub)
    refine ⟨_, _, rfl, rfl, _, rfl, ?_⟩
    -- the body: as it came, or behind a throw
    refine ite2 (fun _ => ?_) (fun _ => ?_)
    case' refine_1 =>
      refine ⟨_, rfl, _, rfl, D, d, a, nm, ns, S, rfl, g4.di, g4.na, fun v5 e5 H5 hv5 hg5 ⟨z5, p5⟩ st5 hD5 => ?_⟩
      refine ⟨(by show 2 ≤ sizeLine; decide), fun t nt => ⟨_, rfl, (by show 3 ≤ sizeLine; decide), fun t2 nt2 => ?_⟩⟩
      have gB := ((g4.nx st5 hD5).up nt (.tup [.str "throw", v5])).up nt2 (.tup [.str "add", .ref t, v])
      have sB := ((s4.trans (st5.mono g.sub)).up nt (.tup [.str "throw", v5])).up nt2 (.tup [.str "add", .ref t, v])
      have aB : AtE _ (.ref t2) (.two "add" (.one "throw" e5) e) := ⟨t2, _, _, rfl, upd_same, ⟨t, _, rfl, by rw [upd_ne (ne_of_none upd_same nt2)]; exact upd_same, ((hv5.up nt _).up nt2 _)⟩, ((((hv.step st4).step st5).up nt _).up nt2 _)⟩
      have gdB : Good S (.two "add" (.one "throw" e5) e) := ⟨by decide +kernel, ⟨by decide +kernel, hg5⟩, hg⟩
      have dB : ((Ex.two "add" (.one "throw" e5) e).deep : Int) ≤ 2 + dm r := by simp only [Ex.deep, p5]; omega
      have zB : ((Ex.two "add" (.one "throw" e5) e).size : Int) + 17 * mx r2 ≤ 4 + 17 * mx r := by simp only [Ex.size, z5]; omega
      generalize (Ex.two "add" (.one "throw" e5) e) = eb at aB gdB dB zB
      generalize (V.ref t2) = vb at aB ⊢
      generalize (upd (upd H5 t (.tup [.str "throw", v5])) t2 (.tup [.str "add", .ref t, v])) = HB at gB sB aB ⊢
    case' refine_2 =>
      have gB := g4
      have sB := s4
      have aB : AtE H4 v e := hv.step st4
      have gdB : Good S e := hg
      have dB : (e.deep : Int) ≤ 2 + dm r := by omega
      have zB : (e.size : Int) + 17 * mx r2 ≤ 4 + 17 * mx r := by omega
      generalize e = eb at aB gdB dB zB
      generalize v = vb at aB ⊢
      generalize H4 = HB at gB sB aB ⊢
    all_goals (
      refine ⟨_, rfl, fun p np => ⟨_, rfl, _, rfl, upd_same, [((Sum.inr x : Key), V.str "number"), (Sum.inr k, V.str "rest")], rfl, (by show 2 ≤ 15; decide), ?_⟩⟩
      rw [upd_upd]
      have gC := gB.up np (.dK (mergeK [] [((Sum.inr x : Key), V.str "number"), (Sum.inr k, V.str "rest")]))
      refine ⟨nm, p, S, [x, k], rfl, gC.na, .two hx hk hxk upd_same, fun mi H6 sm6 nn6 na6 => ?_⟩
      have g6 := (gC.same sm6).with na6
      have s6 := (sB.up np (.dK (mergeK [] [((Sum.inr x : Key), V.str "number"), (Sum.inr k, V.str "rest")]))).trans (Stp.same sm6)
      have a6 : AtE H6 vb eb := (aB.up np _).step (D := []) (Stp.same sm6)
      -- one
      refine ⟨_, rfl, (by show 2 ≤ sizeLine; decide), fun t1 n1 => ⟨_, rfl, _, rfl, D, d, a, mi, ns, _, rfl, (g6.up n1 _).di, (g6.up n1 _).na, fun v7 e7 H7 hv7 hg7 ⟨z7, p7⟩ st7 hD7 => ?_⟩⟩
      have g7 := (g6.up n1 _).nx st7 hD7
      have s7 := (s6.up n1 _).trans (st7.mono g.sub)
      refine ⟨(by show 3 ≤ sizeLine; decide), fun t2 n2 => ?_⟩
      -- two
      refine ⟨_, rfl, (by show 2 ≤ sizeLine; decide), fun t3 n3 => ⟨_, rfl, _, rfl, _, rfl, D, d, a, mi, rm, ns, _, r2, rfl, (g7.up n2 _).up n3 _, Int.le_trans hle2 hrn, fun v8 e8 H8 hv8 hg8 ⟨r3, hr3', hle3, hd3, hz3⟩ st8 hD8 => ?_⟩⟩
      have g8 := ((g7.up n2 _).up n3 _).ex st8 hD8 hr3'
      have s8 := ((s7.up n2 _).up n3 _).trans st8
      refine ⟨(by show 3 ≤ sizeLine; decide), fun t4 n4 => ?_⟩
      -- twice
      refine ⟨_, rfl, (by show 2 ≤ sizeLine; decide), fun t5 n5 => ⟨(by show 2 ≤ sizeLine; decide), fun t6 n6 => ⟨(by show 3 ≤ sizeLine; decide), fun t7 n7 => ⟨_, rfl, (by show 3 ≤ sizeLine; decide), fun t8 n8 => ?_⟩⟩⟩⟩
      -- some
      have g9 := (((((g8.up n4 _).up n5 _).up n6 _).up n7 _).up n8 (.tup [.str "add", .ref t7, .ref t4]))
      have s9 := (((((s8.up n4 _).up n5 _).up n6 _).up n7 _).up n8 (.tup [.str "add", .ref t7, .ref t4]))
      refine ⟨_, rfl, _, rfl, _, rfl, D, d, a, mi, rm, ns, _, r3, rfl, g9, by omega, fun v9 e9 H9 hv9 hg9 ⟨r4, hr4', hle4, hd4, hz4⟩ st9 hD9 => ?_⟩
      have g10 := g9.ex st9 hD9 hr4'
      refine ⟨_, rfl, _, rfl, _, rfl, _, rfl, _, rfl, _, rfl, (by show 2 ≤ sizeLine; decide), fun ta na => ⟨_, rfl, (by show 2 ≤ sizeLine; decide), fun tb nb => ⟨(by show 2 ≤ sizeLine; decide), fun tc nc => ⟨(by show 3 ≤ sizeLine; decide), fun td nd => ⟨(by show 4 ≤ sizeLine; decide), fun te ne => ⟨(by show 5 ≤ sizeLine; decide), fun l1 nl1 => ?_⟩⟩⟩⟩⟩⟩
      refine ⟨_, rfl, _, rfl, (by show 2 ≤ sizeLine; decide), fun tf nf => ⟨(by show 2 ≤ sizeLine; decide), fun tg ng => ⟨_, rfl, (by show 3 ≤ sizeLine; decide), fun th nh => ⟨_, rfl, (by show 2 ≤ sizeLine; decide), fun ti ni => ⟨_, rfl, _, rfl, (by show 4 ≤ sizeLine; decide), fun tj nj => ⟨(by show 2 ≤ sizeLine; decide), fun l2 nl2 => ?_⟩⟩⟩⟩⟩⟩
      have k2l := (((((Stp.new (D := []) nf _).up ng _).up nh _).up ni _).up nj _).up nl2 (.lst [.ref th, .ref tj])
      refine ⟨l1, l2, _, _, rfl, rfl, k2l.keep _ _ (by simp) upd_same, upd_same, (by show 7 ≤ sizeLine; decide), fun l3 nl3 => ?_⟩
      refine ⟨_, rfl, .inl ⟨rfl, _, SqL.of upd_same⟩, _, rfl, (by show 2 ≤ sizeLine; decide), fun tk nk => ⟨(by show 2 ≤ sizeLine; decide), fun tm nm' => ⟨_, rfl, (by show 3 ≤ sizeLine; decide), fun tn nn => ?_⟩⟩⟩
      have k3l := ((Stp.new (D := []) nk _).up nm' _).up nn (.tup [.str "add", .ref tm, .ref t2])
      have e3l := k3l.keep _ _ (by simp) (upd_same (a := l3))
      refine ⟨l3, _, _, rfl, rfl, e3l, (by show 7 < sizeLine; decide), ?_⟩
      have c3 := ((((((((((((Stp.new (D := []) na _).up nb _).up nc _).up nd _).up ne _).up nl1 _).up nf _).up ng _).up nh _).up ni _).up nj _).up nl2 (.lst [.ref th, .ref tj]))
      have n3' : H9 l3 = none := c3.was (by simp) nl3
      have cn := (((c3.up nl3 _).up nk _).up nm' _).up nn (.tup [.str "add", .ref tm, .ref t2])
      have cL := cn.putnew n3' (.lst ([v9, .ref t2, .ref t4, .ref t8, .ref te] ++ [.ref th, .ref tj] ++ [.ref tn]))
      have gL := g10.same cL.nil
      refine ⟨_, rfl, _, rfl, _, rfl, _, rfl, _, rfl, D, d, a, ns, 8, rfl, gL.di, by decide, by decide, fun z H11 z0 z1 st11 hD11 => ?_⟩
      have l3d : l3 ∉ [d] := g10.di.fresh n3'
      have el3 : H11 l3 = some (.lst ([v9, .ref t2, .ref t4, .ref t8, .ref te] ++ [.ref th, .ref tj] ++ [.ref tn])) := st11.keep _ _ l3d upd_same
      obtain ⟨vz, evz, hvz⟩ := menu8v v9 (.ref t2) (.ref t4) (.ref t8) (.ref te) (.ref th) (.ref tj) (.ref tn) z z0 z1
      refine ⟨l3, _, _, _, rfl, rfl, SqL.of el3, evz, (by show 5 ≤ sizeLine; decide), fun p9 np9 => ?_⟩
      have kL : Tk (upd _ l3 (.lst ([v9, .ref t2, .ref t4, .ref t8, .ref te] ++ [.ref th, .ref tj] ++ [.ref tn]))) H11 := st11.tups
      have kn : Tk _ H11 := fun t xs h => kL _ _ ((Stp.put (D := [l3]) (by simp) (fun xs z => by rw [e3l] at z; cases z) _).tups t xs h)
      have km := Tk.back nn kn
      have kk := Tk.back nm' km
      have k3 := Tk.back nk kk
      have kj2 := Tk.back nl3 k3
      have kj := Tk.back nl2 kj2
      have ki := Tk.back nj kj
      have kh := Tk.back ni ki
      have kg := Tk.back nh kh
      have kf := Tk.back ng kg
      have kl1 := Tk.back nf kf
      have ke := Tk.back nl1 kl1
      have kd := Tk.back ne ke
      have kc := Tk.back nd kd
      have kb := Tk.back nc kc
      have ka := Tk.back nb kb
      have k9 : Tk H9 H11 := Tk.back na ka
      have k8' := fun t xs h => k9 t xs (st9.tups t xs h)
      have k7 := Tk.back n8 k8'
      have k6 := Tk.back n7 k7
      have k5 := Tk.back n6 k6
      have k4 := Tk.back n5 k5
      have kH8 : Tk H8 H11 := Tk.back n4 k4
      have k3' := fun t xs h => kH8 t xs (st8.tups t xs h)
      have k2 := Tk.back n3 k3'
      have kH7 : Tk H7 H11 := Tk.back n2 k2
      have k1 := fun t xs h => kH7 t xs (st7.tups t xs h)
      have kH6 : Tk H6 H11 := Tk.back n1 k1
      have f1 := k1 _ _ upd_same
      have f2 := k2 _ _ upd_same
      have f3 := k3' _ _ upd_same
      have f4 := k4 _ _ upd_same
      have f5 := k5 _ _ upd_same
      have f6 := k6 _ _ upd_same
      have f7 := k7 _ _ upd_same
      have f8 := k8' _ _ upd_same
      have fa := ka _ _ upd_same
      have fb := kb _ _ upd_same
      have fc := kc _ _ upd_same
      have fd := kd _ _ upd_same
      have fe := ke _ _ upd_same
      have ff := kf _ _ upd_same
      have fg := kg _ _ upd_same
      have fh := kh _ _ upd_same
      have fi := ki _ _ upd_same
      have fj := kj _ _ upd_same
      have fk := kk _ _ upd_same
      have fm := km _ _ upd_same
      have fn := kn _ _ upd_same
      have aOne : AtE H11 (.ref t2) (.two "go" (.name k) e7) := ⟨t2, _, _, rfl, f2, ⟨t1, rfl, f1⟩, hv7.tups kH7⟩
      have aTwo : AtE H11 (.ref t4) (.two "go" (.name k) e8) := ⟨t4, _, _, rfl, f4, ⟨t3, rfl, f3⟩, hv8.tups kH8⟩
      have a11 : AtE H11 vb eb := a6.tups kH6
      have gL11 : H11 rm = some (.lst [.int r4]) := (gL.nx st11 hD11).ro
      have sF := ((((s9.trans st9).trans (cL.mono fun b hb => by cases hb)).trans (st11.mono g.sub)).up np9 (.tup [.str "catch", vb, .str x, .str k, vz]))
      have mm := mx_mono hle3
      have mm2 := mx_mono hle4
      have mm3 := mx_mono hle2
      have dd2 : dm r2 ≤ dm r := by unfold dm; omega
      have dd3 : dm r3 ≤ dm r2 := by unfold dm; omega
      have p0 := e8.deep_pos
      have hand : ∃ eh, AtE H11 vz eh ∧ Good (x :: k :: S) eh ∧ (eh.deep : Int) ≤ 3 + dm r ∧ (eh.size : Int) + 17 * mx r4 ≤ 8 + 17 * mx r2 := by
        have gk : k ∈ (x :: k :: S) := by simp
        have gx : x ∈ (x :: k :: S) := by simp
        have gOne : Good (x :: k :: S) (.two "go" (.name k) e7) := ⟨by decide +kernel, gk, hg7⟩
        have gTwo : Good (x :: k :: S) (.two "go" (.name k) e8) := ⟨by decide +kernel, gk, hg8⟩
        have aX : ∀ {t : Addr}, H11 t = some (.tup [.str "name", .str x]) → AtE H11 (.ref t) (.name x) := fun h => ⟨_, rfl, h⟩
        have aK : ∀ {t : Addr}, H11 t = some (.tup [.str "name", .str k]) → AtE H11 (.ref t) (.name k) := fun h => ⟨_, rfl, h⟩
        rcases hvz with rfl | rfl | rfl | rfl | rfl | rfl | rfl | rfl
        · exact ⟨e9, hv9.tups k9, hg9, by omega, by omega⟩
        · exact ⟨_, aOne, gOne, by simp only [Ex.deep, p7]; omega, by simp only [Ex.size, z7]; omega⟩
        · exact ⟨_, aTwo, gTwo, by simp only [Ex.deep]; omega, by simp only [Ex.size]; omega⟩
        · exact ⟨.two "add" (.two "go" (.name k) (.num 1)) (.two "go" (.name k) e8), ⟨t8, _, _, rfl, f8, ⟨t7, _, _, rfl, f7, aK f5, ⟨t6, rfl, f6⟩⟩, aTwo⟩, ⟨by decide +kernel, ⟨by decide +kernel, gk, ⟨by decide, by decide⟩⟩, gTwo⟩, by simp only [Ex.deep]; omega, by simp only [Ex.size]; omega⟩
        · exact ⟨.lt x (.two "go" (.name k) e8) (.two "add" (.name x) (.one "drop" (.name k))), ⟨te, _, _, rfl, fe, aTwo, td, _, _, rfl, fd, aX fa, tc, _, rfl, fc, aK fb⟩, ⟨hx, gTwo, by decide +kernel, List.mem_cons_self, by decide +kernel, List.mem_cons_of_mem _ gk⟩, by simp only [Ex.deep]; omega, by simp only [Ex.size]; omega⟩
        · exact ⟨.two "add" (.one "say" (.name x)) (.two "go" (.name k) e7), ⟨th, _, _, rfl, fh, ⟨tg, _, rfl, fg, aX ff⟩, aOne⟩, ⟨by decide +kernel, ⟨by decide +kernel, gx⟩, gOne⟩, by simp only [Ex.deep, p7]; omega, by simp only [Ex.size, z7]; omega⟩
        · exact ⟨.ite (.name x) (.two "go" (.name k) e8) (.two "go" (.name k) e7), ⟨tj, _, _, _, rfl, fj, aX fi, aTwo, aOne⟩, ⟨gx, gTwo, gOne⟩, by simp only [Ex.deep, p7]; omega, by simp only [Ex.size, z7]; omega⟩
        · exact ⟨.two "add" (.one "drop" (.name k)) (.two "go" (.name k) e7), ⟨tn, _, _, rfl, fn, ⟨tm, _, rfl, fm, aK fk⟩, aOne⟩, ⟨by decide +kernel, ⟨by decide +kernel, gk⟩, gOne⟩, by simp only [Ex.deep, p7]; omega, by simp only [Ex.size, z7]; omega⟩
      obtain ⟨eh, aH, gH, dH, zH⟩ := hand
      refine q _ (.ct eb x k eh) _ ⟨p9, _, _, rfl, upd_same, a11.up np9 _, aH.up np9 _⟩ ⟨hx, hk, hxk, gdB, gH⟩ ⟨r4, by rw [upd_ne (ne_of_none gL11 np9)]; exact gL11, by omega, ?_, ?_⟩ sF (hD11.up np9)
      · simp only [Ex.deep]; omega
      · simp only [Ex.size]; omega)
end
end Wr
namespace Wr
open PySem PySem.Spec PyProof.Rows L2
section
variable {P : Program} {w : World} {K : PySem.W.Frag} {mg : Str → Option Value} {base : Heap}
theorem use_never {x : Str} {st : Stmt} {ps : List Str} (F : Df K mg x st) (b : BindF x st ps) (k : Nat) : Use P w K mg base x ps k (fun _ _ _ _ => False) := by
  obtain ⟨f, fd, F, m⟩ := F
  exact ⟨f, fd, ⟨fun vs H Q E h => h.elim, fun A outer s H args us vs Q E _ _ _ _ h => h.elim⟩, m, F.kp, F.bindsN b⟩
theorem scExpr : FnScope ["_law_d", "_law_names", "_law_room", "_law_way", "_law_word", "_law_one"] ["_law_d", "_law_names", "_law_room"] (defScope s_L_expr) := ⟨rfl, rfl, rfl, by decide +kernel, rfl, by decide +kernel, by decide +kernel⟩
theorem word3 (x : Int) (h0 : 0 ≤ x) (h3 : x < 3) : ∃ k : Str, atI ([.str "add", .str "take", .str "less"] : List V) x = some (.str k) ∧ k ∈ twos := by
  have hx : x = 0 ∨ x = 1 ∨ x = 2 := by omega
  rcases hx with rfl | rfl | rfl
  · exact ⟨_, rfl, by decide +kernel⟩
  · exact ⟨_, rfl, by decide +kernel⟩
  · exact ⟨_, rfl, by decide +kernel⟩
theorem ok_expr (n : Nat) {spI spL spC spU : Sp} (hI : 1 ≤ n → spI = spExpr K (n - 1) ∧ spL = spLet K (n - 1) ∧ spC = spUse K (n - 1) ∧ spU = spUse K (n - 1)) (F : Df K mg "_law_expr" s_L_expr)
    (U : Use P w K mg base "_law_next" ["_law_dice_here", "_law_many"] 1 (spNext K)) (UL : Use P w K mg base "_law_leaf" ["_law_d", "_law_names"] 3 (spLeaf K)) (UE : Use P w K mg base "_law_expr" ["_law_d", "_law_names", "_law_room"] (2 * n + 4) spI)
    (UT : Use P w K mg base "_law_let" ["_law_d", "_law_names", "_law_room", "_law_way"] (2 * n + 5) spL) (UC : Use P w K mg base "_law_catch" ["_law_d", "_law_names", "_law_room"] (2 * n + 5) spC) (UU : Use P w K mg base "_law_use" ["_law_d", "_law_names", "_law_room"] (2 * n + 5) spU) :
    Use P w K mg base "_law_expr" ["_law_d", "_law_names", "_law_room"] (2 * n + 6) (spExpr K n) := by
  refine F.use scExpr (fun _ _ _ _ _ _ us hl => match us, hl with | [_, _, _], _ => rfl) (fun vs H Q E h => ?_) (fun cdv f A outer s H vs Q E hr h => ?_)
  · obtain ⟨D, d, a, nm, rm, ns, S, r, rfl, _⟩ := h
    rfl
  · obtain ⟨D, d, a, nm, rm, ns, S, r, rfl, g, hrn, q⟩ := h
    have hr1 : Room 1 _ := hr.mono (by omega)
    have hr3 : Room 3 _ := hr.mono (by omega)
    have hrE : Room (2 * n + 4) _ := hr.mono (by omega)
    refine ⟨_, pss_cons (ps_asg (pe_op op_sub (pe_ix ix_list (pv 2) pe_int (fun _ _ => rfl)) pe_int) (pg_sub (pv 2) pe_int set_list))
      (pss_cons (ps_set (i := 3) scExpr.nd rfl (Or.inl rfl) (pe_use U hr1 (pa_cons (pv 0) (pa_cons pe_int pa_nil))))
      (pss_cons (ps_if (PW.pt (pw_or (pt_cmpR op_lt (pe_ix ix_list (pv 2) pe_int (fun _ _ => rfl)) pe_int (nomark _)) (pw_or1 (pt_cmpR op_lt (pv 3) pe_int (nomark _))))) (pss_one (ps_ret (pe_use UL hr3 (pa_cons (pv 0) (pa_cons (pv 1) pa_nil))))) pss_nil)
      (pss_cons (ps_if (pt_cmpR op_lt (pv 3) pe_int (nomark _))
          (pss_cons (ps_set (i := 4) scExpr.nd rfl (Or.inl rfl) (pe_ix ix_list (pe_lst (pa_cons pe_str (pa_cons pe_str (pa_cons pe_str pa_nil)))) (pe_op op_sub (pv 3) pe_int) (fun _ _ => rfl)))
          (pss_cons (ps_set (i := 5) scExpr.nd rfl (Or.inl rfl) (pe_use UE hrE (pa_cons (pv 0) (pa_cons (pv 1) (pa_cons (pv 2) pa_nil)))))
          (pss_one (ps_ret (pe_tup (pa_cons (pv 4) (pa_cons (pv 5) (pa_cons (pe_use UE hrE (pa_cons (pv 0) (pa_cons (pv 1) (pa_cons (pv 2) pa_nil)))) pa_nil)))))))) pss_nil)
      (pss_cons (ps_if (pt_cmpR op_eq (pv 3) pe_int (nomark _)) (pss_one (ps_ret (pe_tup (pa_cons pe_str (pa_cons (pe_use UE hrE (pa_cons (pv 0) (pa_cons (pv 1) (pa_cons (pv 2) pa_nil)))) (pa_cons (pe_use UE hrE (pa_cons (pv 0) (pa_cons (pv 1) (pa_cons (pv 2) pa_nil)))) (pa_cons (pe_use UE hrE (pa_cons (pv 0) (pa_cons (pv 1) (pa_cons (pv 2) pa_nil)))) pa_nil))))))) pss_nil)
      (pss_cons (ps_if (pt_cmpR op_lt (pv 3) pe_int (nomark _)) (pss_one (ps_ret (pe_tup (pa_cons pe_str (pa_cons (pe_use UE hrE (pa_cons (pv 0) (pa_cons (pv 1) (pa_cons (pv 2) pa_nil)))) pa_nil))))) pss_nil)
      (pss_cons (ps_if (pt_cmpR op_lt (pv 3) pe_int (nomark _)) (pss_one (ps_ret (pe_use UT hr (pa_cons (pv 0) (pa_cons (pv 1) (pa_cons (pv 2) (pa_cons (pv 3) pa_nil))))))) pss_nil)
      (pss_cons (ps_if (pt_cmpR op_lt (pv 3) pe_int (nomark _)) (pss_one (ps_ret (pe_use UC hr (pa_cons (pv 0) (pa_cons (pv 1) (pa_cons (pv 2) pa_nil)))))) pss_nil)
      (pss_cons (ps_if (pt_cmpR op_lt (pv 3) pe_int (nomark _)) (pss_one (ps_ret (pe_tup (pa_cons pe_str (pa_cons (pe_use UE hrE (pa_cons (pv 0) (pa_cons (pv 1) (pa_cons (pv 2) pa_nil)))) pa_nil))))) pss_nil)
      (pss_cons (ps_if (pt_cmpR op_lt (pv 3) pe_int (nomark _)) (pss_one (ps_ret (pe_tup (pa_cons pe_str (pa_cons (pe_use UE hrE (pa_cons (pv 0) (pa_cons (pv 1) (pa_cons (pv 2) pa_nil)))) (pa_cons (pe_tup (pa_cons pe_str (pa_cons (pe_use UE hrE (pa_cons (pv 0) (pa_cons (pv 1) (pa_cons (pv 2) pa_nil)))) pa_nil))) pa_nil)))))) pss_nil)
      (pss_cons (ps_if (pt_cmpR op_eq (pv 3) pe_int (nomark _)) (pss_one (ps_ret (pe_tup (pa_cons pe_str (pa_cons (pe_use UE hrE (pa_cons (pv 0) (pa_cons (pv 1) (pa_cons (pv 2) pa_nil)))) (pa_cons (pe_use UE hrE (pa_cons (pv 0) (pa_cons (pv 1) (pa_cons (pv 2) pa_nil)))) pa_nil)))))) pss_nil)
      (pss_cons (ps_if (pt_cmpR op_eq (pv 3) pe_int (nomark _)) (pss_one (ps_ret (pe_ifExp (pt_cmpR op_eq (pe_use U hr1 (pa_cons (pv 0) (pa_cons pe_int pa_nil))) pe_int (nomark _)) (pe_tup (pa_cons pe_str pa_nil)) (pe_use UL hr3 (pa_cons (pv 0) (pa_cons (pv 1) pa_nil)))))) pss_nil)
      (pss_one (ps_ret (pe_use UU hr (pa_cons (pv 0) (pa_cons (pv 1) (pa_cons (pv 2) pa_nil))))))))))))))))), ?_⟩
    have d1 := dm_pos r
    have m1 := (mx_ge r)
    obtain ⟨sd, gd⟩ := g.dec (r' := r - 1)
    refine ⟨_, rfl, rm, _, _, _, rfl, rfl, SqL.of g.ro, rfl, _, _, rfl, rfl, _, rfl, rm, _, _, _, rfl, rfl, g.ro, rfl, ?_⟩
    refine ⟨_, rfl, D, d, a, ns, 22, rfl, gd.di, by decide, by decide, fun x H2 x0 x1 st2 hD2 => ?_⟩
    have g2 := gd.nx st2 hD2
    have s2 := sd.trans (st2.mono g.sub)
    -- a leaf
    have leaf : ∀ (v : V) (e : Ex) (H3 : Hp), AtE H3 v e → Good S e → e.size = 1 ∧ e.deep = 1 → Stp [d] H2 H3 → Dice K H3 D d a ns → Q v H3 := fun v e H3 hv hg ⟨z, p⟩ st hD3 => by
      refine q v e H3 hv hg ⟨r - 1, (g2.nx st hD3).ro, by omega, by omega, ?_⟩ (s2.trans (st.mono g.sub)) hD3
      have := mx_mono (show r - 1 ≤ r by omega)
      omega
    refine ⟨_, rfl, rm, _, _, _, rfl, rfl, SqL.of g2.ro, rfl, _, _, rfl, rfl, _, rfl, ?_⟩
    refine ite2 (fun c1 => ?_) (fun c1 => ?_)
    · refine iteT ?_
      exact ⟨_, rfl, _, rfl, D, d, a, nm, ns, S, rfl, hD2, g2.na, leaf⟩
    · refine ⟨_, rfl, _, _, rfl, rfl, _, rfl, ?_⟩
      refine ite2 (fun c2 => ?_) (fun c2 => ?_)
      · exact ⟨_, rfl, _, rfl, D, d, a, nm, ns, S, rfl, hD2, g2.na, leaf⟩
      have h5 : 4 ≤ r - 1 := by
        have z := of_decide_eq_false (Bool.eq_false_iff.mpr c1)
        omega
      have hn : 1 ≤ n := by omega
      obtain ⟨rfl, rfl, rfl, rfl⟩ := hI hn
      have en : ((n - 1 : Nat) : Int) + 4 = (n : Int) + 3 := by omega
      have hmx : mx (r - 1) = mx r - 1 := by unfold mx; split <;> split <;> omega
      have hdm : dm (r - 1) = dm r - 4 := by unfold dm; omega
      have mono : ∀ {u t : Int}, u ≤ t → mx u ≤ mx t ∧ dm u ≤ dm t := fun h => ⟨mx_mono h, by unfold dm; have := mx_mono h; omega⟩
      have s2r := s2
      -- two parts behind one another
      have two : ∀ (word : Str), word ∈ twos → ∀ (H5 : Hp) (v1 v2 : V) (e1 e2 : Ex) (r3 : Int) (r4 : Int), AtE H5 v1 e1 → AtE H5 v2 e2 → Good S e1 → Good S e2 → r3 ≤ r - 1 → (e1.deep : Int) ≤ 0 + dm (r - 1) → (e1.size : Int) + 17 * mx r3 ≤ 1 + 17 * mx (r - 1) →
          r4 ≤ r3 → (e2.deep : Int) ≤ 1 + dm r3 → (e2.size : Int) + 17 * mx r4 ≤ 2 + 17 * mx r3 → Stp [d, rm] H H5 → Dice K H5 D d a ns → H5 rm = some (.lst [.int r4]) → ∀ p, H5 p = none → Q (.ref p) (upd H5 p (.tup [.str word, v1, v2])) := by
        intro word hw H5 v1 v2 e1 e2 r3 r4 h1 h2 g1 g2' a1 a2 a3 a4 a5 a6 st hD5 hr4 p np
        have m3 := mono a1
        refine q _ (.two word e1 e2) _ ⟨p, _, _, rfl, upd_same, h1.up np _, h2.up np _⟩ ⟨hw, g1, g2'⟩ ⟨r4, by rw [upd_ne (ne_of_none hr4 np)]; exact hr4, by omega, ?_, ?_⟩ (st.up np _) (hD5.up np)
        · simp only [Ex.deep]; omega
        · simp only [Ex.size]; omega
      refine ⟨_, rfl, _, _, rfl, rfl, _, rfl, ?_⟩
      refine ite2 (fun c3 => ?_) (fun c3 => ?_)
      · have h2 : 2 ≤ x := by have z := of_decide_eq_false (Bool.eq_false_iff.mpr c2); omega
        have h3 : x < 5 := of_decide_eq_true c3
        obtain ⟨word, ew, hw⟩ := word3 (x - 2) (by omega) (by omega)
        refine ⟨(by show 3 ≤ sizeLine; decide), fun l nl => ⟨_, rfl, _, _, rfl, rfl, l, _, _, _, rfl, rfl, SqL.of upd_same, ew, ?_⟩⟩
        have g3 := g2.up nl (.lst [.str "add", .str "take", .str "less"])
        have s3 := s2.up nl (.lst [.str "add", .str "take", .str "less"])
        refine ⟨_, rfl, _, rfl, _, rfl, D, d, a, nm, rm, ns, S, r - 1, rfl, g3, by omega, fun v1 e1 H4 hv1 hg1 ⟨r3, hr3, hle3, hd3, hz3⟩ st4 hD4 => ?_⟩
        have g4 := g3.ex st4 hD4 hr3
        refine ⟨_, rfl, _, rfl, _, rfl, _, rfl, _, rfl, D, d, a, nm, rm, ns, S, r3, rfl, g4, by omega, fun v2 e2 H5 hv2 hg2 ⟨r4, hr4, hle4, hd4, hz4⟩ st5 hD5 => ?_⟩
        refine ⟨(by show 3 ≤ sizeLine; decide), fun p np => ?_⟩
        exact two word hw H5 v1 v2 e1 e2 r3 r4 (hv1.step st5) hv2 hg1 hg2 hle3 hd3 hz3 hle4 (by omega) (by omega) ((s3.trans st4).trans st5) hD5 hr4 p np
      · refine ⟨_, rfl, rfl, _, rfl, ?_⟩
        refine ite2 (fun c4 => ?_) (fun c4 => ?_)
        · refine ⟨_, rfl, _, rfl, _, rfl, D, d, a, nm, rm, ns, S, r - 1, rfl, g2, by omega, fun v1 e1 H4 hv1 hg1 ⟨r3, hr3, hle3, hd3, hz3⟩ st4 hD4 => ?_⟩
          have g4 := g2.ex st4 hD4 hr3
          refine ⟨_, rfl, _, rfl, _, rfl, D, d, a, nm, rm, ns, S, r3, rfl, g4, by omega, fun v2 e2 H5 hv2 hg2 ⟨r4, hr4, hle4, hd4, hz4⟩ st5 hD5 => ?_⟩
          have g5 := g4.ex st5 hD5 hr4
          refine ⟨_, rfl, _, rfl, _, rfl, D, d, a, nm, rm, ns, S, r4, rfl, g5, by omega, fun v3 e3 H6 hv3 hg3 ⟨r5, hr5, hle5, hd5, hz5⟩ st6 hD6 => ?_⟩
          refine ⟨(by show 4 ≤ sizeLine; decide), fun p np => ?_⟩
          have m3 := mono hle3
          have m4 := mono hle4
          refine q _ (.ite e1 e2 e3) _ ⟨p, _, _, _, rfl, upd_same, ((hv1.step st5).step st6).up np _, (hv2.step st6).up np _, hv3.up np _⟩ ⟨hg1, hg2, hg3⟩ ⟨r5, by rw [upd_ne (ne_of_none hr5 np)]; exact hr5, by omega, ?_, ?_⟩ ((((s2.trans st4).trans st5).trans st6).up np _) (hD6.up np)
          · simp only [Ex.deep]; omega
          · simp only [Ex.size]; omega
        · refine ⟨_, rfl, _, _, rfl, rfl, _, rfl, ?_⟩
          -- one part
          have one : ∀ (word : Str), word ∈ ones → ∀ (v1 : V) (e1 : Ex) (H4 : Hp), AtE H4 v1 e1 → Good S e1 → Left rm (r - 1) 0 1 e1 H4 → Stp [d, rm] H2 H4 → Dice K H4 D d a ns → ∀ p, H4 p = none → Q (.ref p) (upd H4 p (.tup [.str word, v1])) := by
            intro word hw v1 e1 H4 h1 g1 ⟨r3, hr3, hle3, hd3, hz3⟩ st4 hD4 p np
            refine q _ (.one word e1) _ ⟨p, _, rfl, upd_same, h1.up np _⟩ ⟨hw, g1⟩ ⟨r3, by rw [upd_ne (ne_of_none hr3 np)]; exact hr3, by omega, ?_, ?_⟩ ((s2.trans st4).up np _) (hD4.up np)
            · simp only [Ex.deep]; omega
            · simp only [Ex.size]; omega
          -- what another def hands back
          have pass : ∀ (v1 : V) (e1 : Ex) (H4 : Hp), AtE H4 v1 e1 → Good S e1 → Left rm (r - 1) 4 17 e1 H4 → Stp [d, rm] H2 H4 → Dice K H4 D d a ns → Q v1 H4 := fun v1 e1 H4 h1 g1 ⟨r3, hr3, hle3, hd3, hz3⟩ st4 hD4 =>
            q _ e1 _ h1 g1 ⟨r3, hr3, by omega, by omega, by omega⟩ (s2.trans st4) hD4
          refine ite2 (fun c5 => ?_) (fun c5 => ?_)
          · refine ⟨_, rfl, _, rfl, _, rfl, D, d, a, nm, rm, ns, S, r - 1, rfl, g2, by omega, fun v1 e1 H4 hv1 hg1 hl st4 hD4 => ⟨(by show 2 ≤ sizeLine; decide), fun p np => ?_⟩⟩
            exact one "say" (by decide +kernel) v1 e1 H4 hv1 hg1 hl st4 hD4 p np
          · refine ⟨_, rfl, _, _, rfl, rfl, _, rfl, ?_⟩
            refine ite2 (fun c6 => ?_) (fun c6 => ?_)
            · exact ⟨_, rfl, _, rfl, _, rfl, _, rfl, x, D, d, a, nm, rm, ns, S, r - 1, rfl, g2, by omega, pass⟩
            · refine ⟨_, rfl, _, _, rfl, rfl, _, rfl, ?_⟩
              refine ite2 (fun c7 => ?_) (fun c7 => ?_)
              · exact ⟨_, rfl, _, rfl, _, rfl, D, d, a, nm, rm, ns, S, r - 1, rfl, g2, by omega, pass⟩
              · refine ⟨_, rfl, _, _, rfl, rfl, _, rfl, ?_⟩
                refine ite2 (fun c8 => ?_) (fun c8 => ?_)
                · refine ⟨_, rfl, _, rfl, _, rfl, D, d, a, nm, rm, ns, S, r - 1, rfl, g2, by omega, fun v1 e1 H4 hv1 hg1 hl st4 hD4 => ⟨(by show 2 ≤ sizeLine; decide), fun p np => ?_⟩⟩
                  exact one "throw" (by decide +kernel) v1 e1 H4 hv1 hg1 hl st4 hD4 p np
                · refine ⟨_, rfl, _, _, rfl, rfl, _, rfl, ?_⟩
                  refine ite2 (fun c9 => ?_) (fun c9 => ?_)
                  · refine ⟨_, rfl, _, rfl, _, rfl, D, d, a, nm, rm, ns, S, r - 1, rfl, g2, by omega, fun v1 e1 H4 hv1 hg1 ⟨r3, hr3, hle3, hd3, hz3⟩ st4 hD4 => ?_⟩
                    have g4 := g2.ex st4 hD4 hr3
                    refine ⟨_, rfl, _, rfl, _, rfl, D, d, a, nm, rm, ns, S, r3, rfl, g4, by omega, fun v2 e2 H5 hv2 hg2 ⟨r4, hr4, hle4, hd4, hz4⟩ st5 hD5 => ?_⟩
                    refine ⟨(by show 2 ≤ sizeLine; decide), fun t nt => ⟨(by show 3 ≤ sizeLine; decide), fun p np => ?_⟩⟩
                    exact two "last" (by decide +kernel) (upd H5 t (.tup [.str "say", v2])) v1 (.ref t) e1 (.one "say" e2) r3 r4 ((hv1.step st5).up nt _) ⟨t, _, rfl, upd_same, hv2.up nt _⟩ hg1 ⟨by decide +kernel, hg2⟩ hle3 hd3 hz3 hle4 (by simp only [Ex.deep]; omega) (by simp only [Ex.size]; omega)
                      (((s2.trans st4).trans st5).up nt _) (hD5.up nt) (by rw [upd_ne (ne_of_none hr4 nt)]; exact hr4) p np
                  · refine ⟨_, rfl, rfl, _, rfl, ?_⟩
                    refine ite2 (fun c10 => ?_) (fun c10 => ?_)
                    · refine ⟨_, rfl, _, rfl, _, rfl, D, d, a, nm, rm, ns, S, r - 1, rfl, g2, by omega, fun v1 e1 H4 hv1 hg1 ⟨r3, hr3, hle3, hd3, hz3⟩ st4 hD4 => ?_⟩
                      have g4 := g2.ex st4 hD4 hr3
                      refine ⟨_, rfl, _, rfl, _, rfl, D, d, a, nm, rm, ns, S, r3, rfl, g4, by omega, fun v2 e2 H5 hv2 hg2 ⟨r4, hr4, hle4, hd4, hz4⟩ st5 hD5 => ?_⟩
                      refine ⟨(by show 3 ≤ sizeLine; decide), fun p np => ?_⟩
                      exact two "else" (by decide +kernel) H5 v1 v2 e1 e2 r3 r4 (hv1.step st5) hv2 hg1 hg2 hle3 hd3 hz3 hle4 (by omega) (by omega) ((s2.trans st4).trans st5) hD5 hr4 p np
                    · refine ⟨_, rfl, rfl, _, rfl, ?_⟩
                      refine ite2 (fun c11 => ?_) (fun c11 => ?_)
                      · refine ⟨_, rfl, D, d, a, ns, 3, rfl, hD2, by decide, by decide, fun y H4 y0 y1 st4 hD4 => ?_⟩
                        have g4 := g2.nx st4 hD4
                        refine ⟨rfl, _, rfl, ?_⟩
                        refine ite2 (fun c12 => ?_) (fun c12 => ?_)
                        · refine ⟨(by show 1 ≤ sizeLine; decide), fun p np => ?_⟩
                          exact leaf _ .fault _ ⟨p, rfl, upd_same⟩ trivial ⟨rfl, rfl⟩ (st4.up np _) (hD4.up np)
                        · exact ⟨_, rfl, _, rfl, D, d, a, nm, ns, S, rfl, hD4, g4.na, fun v e H5 hv hg hz st hD5 => leaf v e H5 hv hg hz (st4.trans st) hD5⟩
                      · exact ⟨_, rfl, _, rfl, _, rfl, D, d, a, nm, rm, ns, S, r - 1, rfl, g2, by omega, pass⟩
end
end Wr
namespace Wr
open PySem PySem.Spec PyProof.Rows L2
/-! ### the items of a part -/
/-- the parts within, as they stand -/
def Ex.kids : Ex → List Ex
  | .num _ => []
  | .name _ => []
  | .fault => []
  | .one _ a => [a]
  | .two _ a b => [a, b]
  | .ite a b c => [a, b, c]
  | .lt _ a b => [a, b]
  | .fn _ a => [a]
  | .ct a _ _ b => [a, b]
/-- a part's items: texts, numbers, parts -/
inductive Its (H : Hp) : List V → List Ex → Prop where
  | nil : Its H [] []
  | str (x : Str) {vs : List V} {es : List Ex} : Its H vs es → Its H (.str x :: vs) es
  | int (i : Int) {vs : List V} {es : List Ex} : Its H vs es → Its H (.int i :: vs) es
  | kid {v : V} {e : Ex} {vs : List V} {es : List Ex} : AtE H v e → Its H vs es → Its H (v :: vs) (e :: es)
theorem AtE.ref {H : Hp} {v : V} {e : Ex} (h : AtE H v e) : ∃ t xs, v = .ref t ∧ H t = some (.tup xs) ∧ Its H xs e.kids ∧ xs.length ≤ 5 ∧ 1 ≤ xs.length := by
  cases e with
  | num n => obtain ⟨t, rfl, h⟩ := h; exact ⟨t, _, rfl, h, .str _ (.int _ .nil), by show 2 ≤ 5; decide, by show 1 ≤ 2; decide⟩
  | name x => obtain ⟨t, rfl, h⟩ := h; exact ⟨t, _, rfl, h, .str _ (.str _ .nil), by show 2 ≤ 5; decide, by show 1 ≤ 2; decide⟩
  | fault => obtain ⟨t, rfl, h⟩ := h; exact ⟨t, _, rfl, h, .str _ .nil, by decide, by decide⟩
  | one w a => obtain ⟨t, x, rfl, h, ha⟩ := h; exact ⟨t, _, rfl, h, .str _ (.kid ha .nil), by show 2 ≤ 5; decide, by show 1 ≤ 2; decide⟩
  | two w a b => obtain ⟨t, x, y, rfl, h, ha, hb⟩ := h; exact ⟨t, _, rfl, h, .str _ (.kid ha (.kid hb .nil)), by show 3 ≤ 5; decide, by show 1 ≤ 3; decide⟩
  | ite a b c => obtain ⟨t, x, y, z, rfl, h, ha, hb, hc⟩ := h; exact ⟨t, _, rfl, h, .str _ (.kid ha (.kid hb (.kid hc .nil))), by show 4 ≤ 5; decide, by show 1 ≤ 4; decide⟩
  | lt n a b => obtain ⟨t, x, y, rfl, h, ha, hb⟩ := h; exact ⟨t, _, rfl, h, .str _ (.str _ (.kid ha (.kid hb .nil))), by show 4 ≤ 5; decide, by show 1 ≤ 4; decide⟩
  | fn n a => obtain ⟨t, x, rfl, h, ha⟩ := h; exact ⟨t, _, rfl, h, .str _ (.str _ (.kid ha .nil)), by show 3 ≤ 5; decide, by show 1 ≤ 3; decide⟩
  | ct a n k b => obtain ⟨t, x, y, rfl, h, ha, hb⟩ := h; exact ⟨t, _, rfl, h, .str _ (.kid ha (.str _ (.str _ (.kid hb .nil)))), by show 5 ≤ 5; decide, by show 1 ≤ 5; decide⟩
theorem Ex.size_kids (e : Ex) : (e.size : Int) = 1 + (e.kids.map fun a => (a.size : Int)).sum := by
  cases e <;> simp [Ex.size, Ex.kids] <;> omega
def maxL (l : List Nat) : Nat := l.foldr max 0
theorem Ex.deep_kids (e : Ex) : e.deep = 1 + maxL (e.kids.map Ex.deep) := by
  cases e <;> simp [Ex.deep, Ex.kids, maxL] <;> omega
theorem maxL_mem {l : List Nat} {x : Nat} (h : x ∈ l) : x ≤ maxL l := by
  induction l with
  | nil => cases h
  | cons a r ih =>
    show x ≤ max a (maxL r)
    rcases List.mem_cons.mp h with rfl | h
    · omega
    · have := ih h; omega
theorem maxL_in {l : List Nat} : maxL l = 0 ∨ maxL l ∈ l := by
  induction l with
  | nil => exact .inl rfl
  | cons a r ih =>
    show max a (maxL r) = 0 ∨ max a (maxL r) ∈ a :: r
    by_cases c : maxL r ≤ a
    · rw [Nat.max_eq_left c]; exact .inr List.mem_cons_self
    · rw [Nat.max_eq_right (by omega)]
      rcases ih with ih | ih
      · omega
      · exact .inr (List.mem_cons_of_mem _ ih)
theorem kid_deep {e k : Ex} (h : k ∈ e.kids) : k.deep < e.deep := by
  rw [e.deep_kids]
  have := maxL_mem (List.mem_map.mpr ⟨k, h, rfl⟩ : k.deep ∈ e.kids.map Ex.deep)
  omega
/-- what stands at the place i, and what is behind -/
theorem Its.step {H : Hp} {vs : List V} {es : List Ex} {i : Nat} {x : V} (h : Its H (vs.drop i) es) (e : vs[i]? = some x) :
    (((∃ s, x = .str s) ∨ (∃ n, x = .int n)) ∧ Its H (vs.drop (i + 1)) es) ∨ ∃ e es3, es = e :: es3 ∧ AtE H x e ∧ Its H (vs.drop (i + 1)) es3 := by
  obtain ⟨hi, rfl⟩ := List.getElem?_eq_some_iff.mp e
  rw [List.drop_eq_getElem_cons hi] at h
  generalize vs[i] = y at h ⊢
  cases h with
  | str s t => exact .inl ⟨.inl ⟨s, rfl⟩, t⟩
  | int n t => exact .inl ⟨.inr ⟨n, rfl⟩, t⟩
  | kid a t => exact .inr ⟨_, _, rfl, a, t⟩
end Wr
namespace Wr
open PySem PySem.Spec PyProof.Rows L2
section
variable {P : Program} {w : World} {K : PySem.W.Frag} {mg : Str → Option Value} {base : Heap}
theorem use_no {x : Str} {st : Stmt} {ps : List Str} {sp : Sp} (F : Df K mg x st) (b : BindF x st ps) (k : Nat) (no : ∀ vs H Q E, ¬ sp vs H Q E) : Use P w K mg base x ps k sp := by
  obtain ⟨f, fd, F, m⟩ := F
  exact ⟨f, fd, ⟨fun vs H Q E h => (no vs H Q E h).elim, fun A outer s H args us vs Q E _ _ _ _ h => (no vs H Q E h).elim⟩, m, F.kp, F.bindsN b⟩
/-- isinstance(x, tuple) of an item -/
theorem isi_tuple_leaf {H : Hp} {x : V} (h : (∃ s, x = V.str s) ∨ ∃ n, x = V.int n) : ∃ t, TyX K H x t ∧ PySem.W.kitOne K t (.type "tuple") = some false := by
  rcases h with ⟨s, rfl⟩ | ⟨n, rfl⟩
  · exact ⟨_, .base (.str s), kit_ty (by decide +kernel)⟩
  · exact ⟨_, .base (.int n), kit_ty (by decide +kernel)⟩
theorem isi_tuple_kid {H : Hp} {x : V} {e : Ex} (h : AtE H x e) : ∃ t, TyX K H x t ∧ PySem.W.kitOne K t (.type "tuple") = some true := by
  obtain ⟨t, xs, rfl, h, _⟩ := h.ref
  exact ⟨_, .base (.tup h), kit_ty (by decide +kernel)⟩
def spSize (n : Nat) : Sp := fun vs H Q _ => ∃ (v : V) (e : Ex), vs = [v] ∧ AtE H v e ∧ e.deep ≤ n ∧ ∀ H', Same H H' → Q (.int e.size) H'
theorem scSize : FnScope ["_law_part", "_law_one"] ["_law_part"] (defScope s_L_size) := ⟨rfl, rfl, rfl, by decide +kernel, rfl, by decide +kernel, by decide +kernel⟩
theorem ok_size (n : Nat) (F : Df K mg "_law_size" s_L_size) (sum : mg "sum" = none) (isi : mg "isinstance" = none) (tup : mg "tuple" = none) (U : Use P w K mg base "_law_size" ["_law_part"] n (spSize n)) :
    Use P w K mg base "_law_size" ["_law_part"] (n + 1) (spSize (n + 1)) := by
  refine F.use scSize (fun _ _ _ _ _ _ us hl => match us, hl with | [_], _ => rfl) (fun vs H Q E h => ?_) (fun cdv f A outer s H vs Q E hr h => ?_)
  · obtain ⟨v, e, rfl, _⟩ := h
    rfl
  · obtain ⟨v, e, rfl, hv, hd, q⟩ := h
    refine ⟨_, pss_one (ps_ret (pe_op op_add pe_int (pe_callB (cr_sum rfl) (by rfl) sum (by decide +kernel) (pa_cons
      (pe_lc (own := [("_law_one", 1)]) (g := gName 1) (by rfl) scSize.nd (pi_tup (pv 0)) (blkOk_by (own := [("_law_one", 1)]) (N := ["_law_part", "_law_one"]) (sc := defScope s_L_size) (by decide +kernel))
        (fun _ _ _ _ _ => pg_name (i := 1) scSize.nd rfl (Or.inl rfl))
        (fun _ _ _ _ _ => pts_one (pt_val (pe_callB (r := rIsi K) call_isi (by rfl) isi (by decide +kernel) (pa_cons (pv 1) (pa_cons (pe_bltn (v := .ty "tuple") (u := .type "tuple") (by rfl) tup (by decide +kernel) rfl) pa_nil)))))
        (fun _ _ _ _ _ => pe_use U hr (pa_cons (pv 1) pa_nil))) pa_nil)))), ?_⟩
    obtain ⟨t, xs, rfl, ht, hI, h5, _⟩ := hv.ref
    refine ⟨_, rfl, t, rfl, ⟨_, SqT.of ht⟩, fun D nD => ?_⟩
    refine lc_tup (K := K) (a := t) (xs := xs) (fun i H2 => Same H H2 ∧ ∃ es1 es2 : List Ex, e.kids = es1 ++ es2 ∧ Its H (xs.drop i) es2 ∧ H2 D = some (.lst (es1.map fun a => V.int a.size)) ∧ es1.length ≤ i)
      ⟨Stp.nil (.new nD _), [], e.kids, rfl, hI, upd_same, Nat.zero_le _⟩ (fun i H2 _ h => SqT.of (h.1 _ _ ht)) ?_ ?_
    · rintro i x H2 hi ⟨sm, es1, es2, ek, hI2, hD, hl⟩
      have hix : i < xs.length := (List.getElem?_eq_some_iff.mp hi).1
      rcases hI2.step hi with ⟨hlf, hI3⟩ | ⟨e1, es3, rfl, hx, hI3⟩
      · obtain ⟨ty, h1, h2⟩ := isi_tuple_leaf (K := K) (H := H2) hlf
        refine ⟨rfl, _, rfl, x, .ty "tuple", ty, .type "tuple", false, rfl, .ty _, h1, h2, false, rfl, ?_⟩
        exact iteF ⟨sm, es1, es2, ek, hI3, hD, by omega⟩
      · have hx2 : AtE H2 x e1 := hx.step (D := []) (Stp.same sm)
        obtain ⟨ty, h1, h2⟩ := isi_tuple_kid (K := K) hx2
        refine ⟨rfl, _, rfl, x, .ty "tuple", ty, .type "tuple", true, rfl, .ty _, h1, h2, true, rfl, ?_⟩
        refine iteT ?_
        have hk : e1 ∈ e.kids := by rw [ek]; simp
        refine ⟨_, rfl, x, e1, rfl, hx2, by have := kid_deep hk; omega, fun H3 sm3 => ?_⟩
        refine ⟨es1.map fun a => V.int a.size, sm3 _ _ hD, ?_, ?_, ?_⟩
        · rw [List.length_map]
          have : (5 : Nat) < sizeLine := by decide
          omega
        · exact fun b o hb => by
            rw [upd_ne (fun z => by rw [z, nD] at hb; cases hb)]
            exact sm3 _ _ (sm _ _ hb)
        · exact ⟨es1 ++ [e1], es3, by rw [ek]; simp, hI3, by rw [upd_same, List.map_append]; rfl, by rw [List.length_append, List.length_singleton]; omega⟩
    · rintro H2 ⟨sm, es1, es2, ek, hI2, hD, hl⟩
      rw [List.drop_length] at hI2
      cases hI2
      rw [List.append_nil] at ek
      refine ⟨D, es1.map fun a => (a.size : Int), rfl, SqL.of (by rw [List.map_map]; exact hD), _, _, rfl, rfl, ?_⟩
      have ez : (1 : Int) + (es1.map fun a => (a.size : Int)).sum = (e.size : Int) := by rw [e.size_kids, ek]
      show Q (V.int (1 + (es1.map fun a => (a.size : Int)).sum)) H2
      rw [ez]
      exact q H2 sm
theorem size_all (F : Df K mg "_law_size" s_L_size) (sum : mg "sum" = none) (isi : mg "isinstance" = none) (tup : mg "tuple" = none) : ∀ n : Nat, Use P w K mg base "_law_size" ["_law_part"] n (spSize n)
  | 0 => use_no F (fun _ _ _ _ _ _ us hl => match us, hl with | [_], _ => rfl) 0 fun vs H Q E ⟨v, e, _, _, hd, _⟩ => by have := e.deep_pos; omega
  | n + 1 => ok_size n F sum isi tup (size_all F sum isi tup n)
def spDeep (n : Nat) : Sp := fun vs H Q _ => ∃ (v : V) (e : Ex), vs = [v] ∧ AtE H v e ∧ e.deep ≤ n ∧ ∀ H', Same H H' → Q (.int e.deep) H'
theorem scDeep : FnScope ["_law_part", "_law_one"] ["_law_part"] (defScope s_L_deep) := ⟨rfl, rfl, rfl, by decide +kernel, rfl, by decide +kernel, by decide +kernel⟩
theorem ok_deep (n : Nat) (F : Df K mg "_law_deep" s_L_deep) (max' : mg "max" = none) (isi : mg "isinstance" = none) (tup : mg "tuple" = none) (U : Use P w K mg base "_law_deep" ["_law_part"] n (spDeep n)) :
    Use P w K mg base "_law_deep" ["_law_part"] (n + 1) (spDeep (n + 1)) := by
  refine F.use scDeep (fun _ _ _ _ _ _ us hl => match us, hl with | [_], _ => rfl) (fun vs H Q E h => ?_) (fun cdv f A outer s H vs Q E hr h => ?_)
  · obtain ⟨v, e, rfl, _⟩ := h
    rfl
  · obtain ⟨v, e, rfl, hv, hd, q⟩ := h
    refine ⟨_, pss_one (ps_ret (pe_op op_add pe_int (pe_callB (cr_max rfl) (by rfl) max' (by decide +kernel) (pa_cons (pe_op op_cat (pe_lst (pa_cons pe_int pa_nil))
      (pe_lc (own := [("_law_one", 1)]) (g := gName 1) (by rfl) scDeep.nd (pi_tup (pv 0)) (blkOk_by (own := [("_law_one", 1)]) (N := ["_law_part", "_law_one"]) (sc := defScope s_L_deep) (by decide +kernel))
        (fun _ _ _ _ _ => pg_name (i := 1) scDeep.nd rfl (Or.inl rfl))
        (fun _ _ _ _ _ => pts_one (pt_val (pe_callB (r := rIsi K) call_isi (by rfl) isi (by decide +kernel) (pa_cons (pv 1) (pa_cons (pe_bltn (v := .ty "tuple") (u := .type "tuple") (by rfl) tup (by decide +kernel) rfl) pa_nil)))))
        (fun _ _ _ _ _ => pe_use U hr (pa_cons (pv 1) pa_nil)))) pa_nil)))), ?_⟩
    obtain ⟨t, xs, rfl, ht, hI, h5, _⟩ := hv.ref
    refine ⟨(by show 1 ≤ sizeLine; decide), fun l nl => ?_⟩
    have s0 : Same H (upd H l (.lst [.int 0])) := Stp.nil (.new nl _)
    refine ⟨_, rfl, t, rfl, ⟨_, SqT.of (s0 _ _ ht)⟩, fun D nD => ?_⟩
    have nlD : l ≠ D := ne_of_none upd_same nD
    have nD0 : H D = none := Stp.was (D := []) (Stp.same s0) (by simp) nD
    refine lc_tup (K := K) (a := t) (xs := xs) (fun i H2 => Same H H2 ∧ H2 l = some (.lst [.int 0]) ∧ ∃ es1 es2 : List Ex, e.kids = es1 ++ es2 ∧ Its H (xs.drop i) es2 ∧ H2 D = some (.lst (es1.map fun a => V.int a.deep)) ∧ es1.length ≤ i)
      ⟨s0.trans (Stp.nil (.new nD _)), by rw [upd_ne nlD]; exact upd_same, [], e.kids, rfl, hI, upd_same, Nat.zero_le _⟩ (fun i H2 _ h => SqT.of (h.1 _ _ ht)) ?_ ?_
    · rintro i x H2 hi ⟨sm, hL, es1, es2, ek, hI2, hD, hl⟩
      have hix : i < xs.length := (List.getElem?_eq_some_iff.mp hi).1
      rcases hI2.step hi with ⟨hlf, hI3⟩ | ⟨e1, es3, rfl, hx, hI3⟩
      · obtain ⟨ty, h1, h2⟩ := isi_tuple_leaf (K := K) (H := H2) hlf
        refine ⟨rfl, _, rfl, x, .ty "tuple", ty, .type "tuple", false, rfl, .ty _, h1, h2, false, rfl, ?_⟩
        exact iteF ⟨sm, hL, es1, es2, ek, hI3, hD, by omega⟩
      · have hx2 : AtE H2 x e1 := hx.step (D := []) (Stp.same sm)
        obtain ⟨ty, h1, h2⟩ := isi_tuple_kid (K := K) hx2
        refine ⟨rfl, _, rfl, x, .ty "tuple", ty, .type "tuple", true, rfl, .ty _, h1, h2, true, rfl, ?_⟩
        refine iteT ?_
        have hk : e1 ∈ e.kids := by rw [ek]; simp
        refine ⟨_, rfl, x, e1, rfl, hx2, by have := kid_deep hk; omega, fun H3 sm3 => ?_⟩
        refine ⟨es1.map fun a => V.int a.deep, sm3 _ _ hD, ?_, ?_, ?_, ?_⟩
        · rw [List.length_map]
          have : (5 : Nat) < sizeLine := by decide
          omega
        · exact fun b o hb => by
            rw [upd_ne (fun z => by rw [z, nD0] at hb; cases hb)]
            exact sm3 _ _ (sm _ _ hb)
        · rw [upd_ne nlD]; exact sm3 _ _ hL
        · exact ⟨es1 ++ [e1], es3, by rw [ek]; simp, hI3, by rw [upd_same, List.map_append]; rfl, by rw [List.length_append, List.length_singleton]; omega⟩
    · rintro H2 ⟨sm, hL, es1, es2, ek, hI2, hD, hl⟩
      rw [List.drop_length] at hI2
      cases hI2
      rw [List.append_nil] at ek
      refine ⟨l, D, _, _, rfl, rfl, hL, hD, ?_, fun p np => ?_⟩
      · rw [List.length_map, List.length_singleton]
        have : (6 : Nat) ≤ sizeLine := by decide
        omega
      refine ⟨p, ((0 :: es1.map Ex.deep).map fun (a : Nat) => (a : Int)), rfl, SqL.of (by rw [upd_same, List.map_map, List.map_cons, List.map_map]; rfl), by simp, fun m hm hle => ?_⟩
      refine ⟨_, _, rfl, rfl, ?_⟩
      have em : m = ((maxL (es1.map Ex.deep) : Nat) : Int) := by
        obtain ⟨a, ha, rfl⟩ := List.mem_map.mp hm
        have h1 : a ≤ maxL (es1.map Ex.deep) := by
          rcases List.mem_cons.mp ha with rfl | ha
          · omega
          · exact maxL_mem ha
        have h2 : ((maxL (es1.map Ex.deep) : Nat) : Int) ≤ (a : Int) := by
          rcases maxL_in (l := es1.map Ex.deep) with h | h
          · omega
          · exact hle _ (List.mem_map.mpr ⟨_, List.mem_cons_of_mem _ h, rfl⟩)
        omega
      have ed : (1 : Int) + m = (e.deep : Int) := by rw [em, e.deep_kids, ek]; omega
      show Q (V.int (1 + m)) _
      rw [ed]
      exact q _ (sm.trans (Stp.nil (.new np _)))
theorem deep_all (F : Df K mg "_law_deep" s_L_deep) (max' : mg "max" = none) (isi : mg "isinstance" = none) (tup : mg "tuple" = none) : ∀ n : Nat, Use P w K mg base "_law_deep" ["_law_part"] n (spDeep n)
  | 0 => use_no F (fun _ _ _ _ _ _ us hl => match us, hl with | [_], _ => rfl) 0 fun vs H Q E ⟨v, e, _, _, hd, _⟩ => by have := e.deep_pos; omega
  | n + 1 => ok_deep n F max' isi tup (deep_all F max' isi tup n)
end
end Wr
namespace Wr
open PySem PySem.Spec PyProof.Rows L2
theorem Dice.weak {K : PySem.W.Frag} {H : Hp} {D D' : List Addr} {d a : Addr} {ns : List Int} (h : Dice K H D' d a ns) (s : ∀ b ∈ D, b ∈ D') (m : d ∈ D) : Dice K H D d a ns :=
  ⟨h.at_, h.sq.imp (fun z => ⟨z.1, fun q => z.2 (s _ q)⟩) id, m, h.len⟩
theorem Stp.drop {d p : Addr} {H H' : Hp} {o : HO} (s : Stp [d, p] (upd H p o) H') (n : H p = none) : Stp [d] H H' :=
  ⟨fun b u m h => s.keep b u (fun z => by
    rcases List.mem_cons.mp z with z | z
    · exact m (List.mem_singleton.mpr z)
    · rw [List.mem_singleton.mp z, n] at h; cases h) (by rw [upd_ne (ne_of_none h n)]; exact h), fun t xs h => s.tups t xs (by rw [upd_ne (ne_of_none h n)]; exact h)⟩
section
variable {P : Program} {w : World} {K : PySem.W.Frag} {mg : Str → Option Value} {base : Heap}
structure GenDefs (K : PySem.W.Frag) (mg : Str → Option Value) : Prop where
  dice : Df K mg "_law_dice" s_L_dice
  next : Df K mg "_law_next" s_L_next
  name : Df K mg "_law_name" s_L_name
  leaf : Df K mg "_law_leaf" s_L_leaf
  with_ : Df K mg "_law_with" s_L_with
  free : Df K mg "_law_free" s_L_free
  expr : Df K mg "_law_expr" s_L_expr
  let_ : Df K mg "_law_let" s_L_let
  use : Df K mg "_law_use" s_L_use
  catch_ : Df K mg "_law_catch" s_L_catch
  size : Df K mg "_law_size" s_L_size
  deep : Df K mg "_law_deep" s_L_deep
  program : Df K mg "_law_program" s_L_program
  loop : Df K mg "_law_loop" s_L_loop
  again : Df K mg "_law_again" s_L_again
  long : Df K mg "_law_long" s_L_long
  any : Df K mg "_law_any" s_L_any
  zlen : mg "len" = none
  zint : mg "int" = none
  zdict : mg "dict" = none
  zsorted : mg "sorted" = none
  zsum : mg "sum" = none
  zmax : mg "max" = none
  zmin : mg "min" = none
  zrange : mg "range" = none
  zisi : mg "isinstance" = none
  ztuple : mg "tuple" = none
variable (G : GenDefs K mg)
include G
theorem u_next : Use P w K mg base "_law_next" ["_law_dice_here", "_law_many"] 1 (spNext K) := ok_next G.next G.zlen
theorem u_free : Use P w K mg base "_law_free" ["_law_d"] 2 (spFree K) := ok_free G.free (u_next G)
theorem u_with : Use P w K mg base "_law_with" ["_law_names", "_law_some"] 1 spWith := ok_with G.with_ G.zdict
theorem u_name : Use P w K mg base "_law_name" ["_law_d", "_law_names", "_law_kinds"] 2 (spName K) := ok_name G.name G.zsorted G.zlen (u_next G)
theorem u_leaf : Use P w K mg base "_law_leaf" ["_law_d", "_law_names"] 3 (spLeaf K) := ok_leaf G.leaf G.zint (u_next G) (u_name G)
theorem expr_all : ∀ n : Nat, Use P w K mg base "_law_expr" ["_law_d", "_law_names", "_law_room"] (2 * n + 6) (spExpr K n)
  | 0 => ok_expr 0 (spI := fun _ _ _ _ => False) (spL := fun _ _ _ _ => False) (spC := fun _ _ _ _ => False) (spU := fun _ _ _ _ => False) (fun h => absurd h (by decide)) G.expr (u_next G) (u_leaf G)
      (use_never G.expr (fun _ _ _ _ _ _ us hl => match us, hl with | [_, _, _], _ => rfl) _) (use_never G.let_ (fun _ _ _ _ _ _ us hl => match us, hl with | [_, _, _, _], _ => rfl) _)
      (use_never G.catch_ (fun _ _ _ _ _ _ us hl => match us, hl with | [_, _, _], _ => rfl) _) (use_never G.use (fun _ _ _ _ _ _ us hl => match us, hl with | [_, _, _], _ => rfl) _)
  | n + 1 => ok_expr (n + 1) (fun _ => ⟨rfl, rfl, rfl, rfl⟩) G.expr (u_next G) (u_leaf G) (expr_all n) (ok_let n G.let_ (u_free G) (u_with G) (u_leaf G) (expr_all n))
      (ok_catch n G.catch_ (u_next G) (u_free G) (u_with G) (u_leaf G) (expr_all n)) (ok_use n G.use G.zint (u_next G) (u_name G) (u_leaf G) (expr_all n))
theorem u_size (n : Nat) : Use P w K mg base "_law_size" ["_law_part"] n (spSize n) := size_all G.size G.zsum G.zisi G.ztuple n
theorem u_deep (n : Nat) : Use P w K mg base "_law_deep" ["_law_part"] n (spDeep n) := deep_all G.deep G.zmax G.zisi G.ztuple n
/-! ### _law_program -/
/-- what hands back a program -/
def Gives (K : PySem.W.Frag) (D : List Addr) (d a : Addr) (ns : List Int) (H : Hp) (Q : VK) : Prop :=
  ∀ (v : V) (e : Ex) (H' : Hp), AtE H' v e → Good [] e → e.size ≤ 200 → e.deep ≤ 41 → Stp [d] H H' → Dice K H' D d a ns → Q v H'
def spProgram (K : PySem.W.Frag) : Sp := fun vs H Q _ => ∃ (D : List Addr) (d a : Addr) (ns : List Int), vs = [.ref d] ∧ Dice K H D d a ns ∧ Gives K D d a ns H Q
omit G in
theorem scProgram : FnScope ["_law_d", "_law_found"] ["_law_d"] (defScope s_L_program) := ⟨rfl, rfl, rfl, by decide +kernel, rfl, by decide +kernel, by decide +kernel⟩
omit G in
theorem rooms3 (x : Int) (h0 : 0 ≤ x) (h3 : x < 3) : ∃ k : Int, atI ([.int 10, .int 25, .int 60] : List V) x = some (.int k) ∧ k ≤ 60 := by
  have hx : x = 0 ∨ x = 1 ∨ x = 2 := by omega
  rcases hx with rfl | rfl | rfl
  · exact ⟨_, rfl, by decide⟩
  · exact ⟨_, rfl, by decide⟩
  · exact ⟨_, rfl, by decide⟩
theorem u_program : Use P w K mg base "_law_program" ["_law_d"] 226 (spProgram K) := by
  have U : Use P w K mg base "_law_next" ["_law_dice_here", "_law_many"] 1 (spNext K) := u_next G
  have UE : Use P w K mg base "_law_expr" ["_law_d", "_law_names", "_law_room"] 118 (spExpr K 56) := expr_all G 56
  have US : Use P w K mg base "_law_size" ["_law_part"] 225 (spSize 225) := u_size G 225
  have UD : Use P w K mg base "_law_deep" ["_law_part"] 225 (spDeep 225) := u_deep G 225
  refine G.program.use scProgram (fun _ _ _ _ _ _ us hl => match us, hl with | [_], _ => rfl) (fun vs H Q E h => ?_) (fun cdv f A outer s H vs Q E hr h => ?_)
  · obtain ⟨D, d, a, ns, rfl, _⟩ := h
    rfl
  · obtain ⟨D, d, a, ns, rfl, hD, q⟩ := h
    have hr1 : Room 1 _ := hr.mono (by decide)
    have hrE : Room 118 _ := hr.mono (by decide)
    refine ⟨_, pss_cons (ps_set (i := 1) scProgram.nd rfl (Or.inl rfl) (pe_use UE hrE (pa_cons (pv 0) (pa_cons pe_dnewK (pa_cons (pe_lst (pa_cons (pe_ix ix_list (pe_lst (pa_cons pe_int (pa_cons pe_int (pa_cons pe_int pa_nil)))) (pe_use U hr1 (pa_cons (pv 0) (pa_cons pe_int pa_nil))) (fun _ _ => rfl)) pa_nil)) pa_nil)))))
      (pss_cons (ps_while PassesOwn.never (PW.pt (pw_or (pt_cmpR op_gt (pe_use US hr (pa_cons (pv 1) pa_nil)) pe_int (nomark _)) (pw_or1 (pt_cmpR op_gt (pe_use UD hr (pa_cons (pv 1) pa_nil)) pe_int (nomark _)))))
        (pss_one (ps_set (i := 1) scProgram.nd rfl (Or.inl rfl) (pe_use UE hrE (pa_cons (pv 0) (pa_cons pe_dnewK (pa_cons (pe_lst (pa_cons pe_int pa_nil)) pa_nil)))))))
      (pss_one (ps_ret (pv 1)))), ?_⟩
    -- one drawing
    have draw : ∀ (H1 : Hp) (nm rm : Addr) (r : Int) (Q1 : VK), Stp [d] H H1 → Dice K H1 D d a ns → H1 rm = none → r ≤ 60 → H1 nm = some (.dK []) → (∀ (v : V) (e : Ex) (H' : Hp), AtE H' v e → Good [] e → (e.deep : Int) ≤ dm r → (e.size : Int) ≤ 1 + 17 * (mx r - 4) → Stp [d] H H' → Dice K H' D d a ns → Q1 v H') →
        spExpr K 56 [.ref d, .ref nm, .ref rm] (upd H1 rm (.lst [.int r])) Q1 E0 := by
      intro H1 nm rm r Q1 st hD1 nrm hr60 hnm q1
      have nd : rm ≠ d := fun z => hD1.fresh nrm (List.mem_singleton.mpr z)
      refine ⟨rm :: D, d, a, nm, rm, ns, [], r, rfl, ⟨hD1.new nrm, ⟨[], by rw [upd_ne (ne_of_none hnm nrm)]; exact hnm, by simp, by simp, by simp⟩, upd_same, List.mem_cons_self, nd⟩, by omega, fun v e H' hv hg ⟨r', hr', hle, hd, hz⟩ st' hD' => ?_⟩
      have := (mx_ge r').1
      exact q1 v e H' hv hg (by omega) (by omega) (st.trans (st'.drop nrm)) (hD'.weak (fun b hb => List.mem_cons_of_mem _ hb) hD1.mem)
    refine ⟨_, rfl, fun nm nnm => ⟨(by show 3 ≤ sizeLine; decide), fun l nl => ?_⟩⟩
    have s2 : Stp [d] H (upd (upd H nm (.dK [])) l (.lst [.int 10, .int 25, .int 60])) := (Stp.new nnm _).up nl _
    have hD2 := (hD.up (o := .dK []) nnm).up (o := .lst [.int 10, .int 25, .int 60]) nl
    refine ⟨_, rfl, D, d, a, ns, 3, rfl, hD2, by decide, by decide, fun x H3 x0 x1 st3 hD3 => ?_⟩
    have nld : l ∉ [d] := (hD.up (o := .dK []) nnm).fresh nl
    have nmd : nm ∉ [d] := hD.fresh nnm
    have el : H3 l = some (.lst [.int 10, .int 25, .int 60]) := st3.keep _ _ nld upd_same
    have enm : H3 nm = some (.dK []) := st3.keep _ _ nmd (by rw [upd_ne (ne_of_none upd_same nl)]; exact upd_same)
    obtain ⟨r, er, hr60⟩ := rooms3 x x0 x1
    refine ⟨l, _, _, _, rfl, rfl, SqL.of el, er, (by show 1 ≤ sizeLine; decide), fun rm nrm => ?_⟩
    refine draw H3 nm rm r _ (s2.trans st3) hD3 nrm hr60 enm (fun v e H4 hv hg hd hz st hD4 => ?_)
    refine ⟨fun m σ H' => ∃ (v : V) (e : Ex), σ = [some (.ref d), some v] ∧ AtE H' v e ∧ Good [] e ∧ Stp [d] H H' ∧ Dice K H' D d a ns ∧ e.deep ≤ 225 ∧ (m = 0 → e.size ≤ 200 ∧ e.deep ≤ 41), ⟨1, v, e, rfl, hv, hg, st, hD4, ?_, fun z => by cases z⟩, ?_⟩
    · have : dm r ≤ 225 := by unfold dm mx; split <;> omega
      omega
    rintro m σ H5 ⟨v, e, rfl, hv, hg, st5, hD5, h225, hm⟩
    have fin : e.size ≤ 200 → e.deep ≤ 41 → ∀ H6, Same H5 H6 → Q v H6 := fun h1 h2 H6 sm => q v e H6 (hv.step (D := []) (Stp.same sm)) hg h1 h2 (st5.trans (Stp.same sm)) (hD5.step (D' := []) (Stp.same sm) (by simp) (by simp))
    -- once more
    have again : ∀ H6, Same H5 H6 → ¬ (e.size ≤ 200 ∧ e.deep ≤ 41) → ∃ N : L2.St → Hp → Prop, (∀ σ' H', N σ' H' → ∃ m', m' < m ∧ ∃ (v : V) (e : Ex), σ' = [some (.ref d), some v] ∧ AtE H' v e ∧ Good [] e ∧ Stp [d] H H' ∧ Dice K H' D d a ns ∧ e.deep ≤ 225 ∧ (m' = 0 → e.size ≤ 200 ∧ e.deep ≤ 41)) ∧
        ∀ p, H6 p = none → ∀ rm, (upd H6 p (.dK [])) rm = none → spExpr K 56 [.ref d, .ref p, .ref rm] (upd (upd H6 p (.dK [])) rm (.lst [.int 10])) (fun x H1 => N [some (.ref d), some x] H1) E0 := by
      intro H6 sm hbad
      have hm0 : m ≠ 0 := fun z => hbad (hm z)
      refine ⟨fun σ' H' => ∃ (v : V) (e : Ex), σ' = [some (.ref d), some v] ∧ AtE H' v e ∧ Good [] e ∧ Stp [d] H H' ∧ Dice K H' D d a ns ∧ e.deep ≤ 225 ∧ (e.size ≤ 200 ∧ e.deep ≤ 41), fun σ' H' ⟨v, e, a1, a2, a3, a4, a5, a6, a7⟩ => ⟨0, by omega, v, e, a1, a2, a3, a4, a5, a6, fun _ => a7⟩, fun p np rm nrm => ?_⟩
      have hD6 : Dice K (upd H6 p (.dK [])) D d a ns := (hD5.step (D' := []) (Stp.same sm) (by simp) (by simp)).up np
      refine draw _ p rm 10 _ ((st5.trans (Stp.same sm)).up np _) hD6 nrm (by decide) upd_same (fun v e H' hv hg hd hz st hD' => ?_)
      have e1 : dm 10 = 25 := by decide
      have e2 : mx 10 = 10 := by decide
      rw [e1] at hd
      rw [e2] at hz
      exact ⟨v, e, rfl, hv, hg, st, hD', by omega, by omega, by omega⟩
    refine ⟨_, rfl, v, e, rfl, hv, h225, fun H6 sm6 => ⟨_, _, rfl, rfl, _, rfl, ?_⟩⟩
    by_cases c : e.size ≤ 200
    · rw [show decide ((200 : Int) < (e.size : Int)) = false from decide_eq_false (by omega)]
      refine iteF ?_
      refine ⟨_, rfl, v, e, rfl, hv.step (D := []) (Stp.same sm6), h225, fun H7 sm7 => ⟨_, _, rfl, rfl, _, rfl, ?_⟩⟩
      by_cases c2 : e.deep ≤ 41
      · rw [show decide ((41 : Int) < (e.deep : Int)) = false from decide_eq_false (by omega)]
        refine iteF ?_
        exact ⟨_, rfl, fin c c2 H7 (sm6.trans sm7)⟩
      · rw [show decide ((41 : Int) < (e.deep : Int)) = true from decide_eq_true (by omega)]
        refine iteT ?_
        obtain ⟨N, hN, hgo⟩ := again H7 (sm6.trans sm7) (fun z => c2 z.2)
        exact ⟨N, hN, _, rfl, fun p np => ⟨(by show 1 ≤ sizeLine; decide), fun rm nrm => hgo p np rm nrm⟩⟩
    · rw [show decide ((200 : Int) < (e.size : Int)) = true from decide_eq_true (by omega)]
      refine iteT ?_
      refine iteT ?_
      obtain ⟨N, hN, hgo⟩ := again H6 sm6 (fun z => c z.1)
      exact ⟨N, hN, _, rfl, fun p np => ⟨(by show 1 ≤ sizeLine; decide), fun rm nrm => hgo p np rm nrm⟩⟩
end
end Wr
namespace Wr
open PySem PySem.Spec PyProof.Rows L2
section
variable {P : Program} {w : World} {K : PySem.W.Frag} {mg : Str → Option Value} {base : Heap}
def exAgain : Ex := .two "call" (.one "look" (.name "b")) (.two "take" (.name "a") (.num 1))
def spAgain : Sp := fun vs H Q _ => ∃ v, vs = [v] ∧ ∀ u H', Stp [] H H' → AtE H' u exAgain → Q u H'
theorem scAgain : FnScope ["_law_d"] ["_law_d"] (defScope s_L_again) := ⟨rfl, rfl, rfl, by decide +kernel, rfl, by decide +kernel, by decide +kernel⟩
def rho0 : Rho := ⟨fun _ => .fault, fun _ => 0, fun _ => "a"⟩
/-- the derivation of a name, a number, written -/
theorem ok_again (F : Df K mg "_law_again" s_L_again) : Use P w K mg base "_law_again" ["_law_d"] 1 spAgain := by
  refine F.use scAgain (fun _ _ _ _ _ _ us hl => match us, hl with | [_], _ => rfl) (fun vs H Q E h => ?_) (fun cdv f A outer s H vs Q E hr h => ?_)
  · obtain ⟨v, rfl, _⟩ := h
    rfl
  · obtain ⟨v, rfl, q⟩ := h
    refine ⟨_, pss_one (ps_ret (pe_tup (pa_cons pe_str (pa_cons (pe_tup (pa_cons pe_str (pa_cons (pe_tup (pa_cons pe_str (pa_cons pe_str pa_nil))) pa_nil))) (pa_cons (pe_tup (pa_cons pe_str (pa_cons (pe_tup (pa_cons pe_str (pa_cons pe_str pa_nil))) (pa_cons (pe_tup (pa_cons pe_str (pa_cons pe_int pa_nil))) pa_nil)))) pa_nil))))), ?_⟩
    exact Bx.read (ρ := rho0) (.two "call" (.one "look" (.nm "b")) (.two "take" (.nm "a") (.num 1))) ⟨trivial, trivial, trivial⟩ fun v H' s h => q v H' s h
def exLoop (step base : Ex) (many : Int) : Ex := .lt "b" (.one "box" (.num 0)) (.lt "f" (.fn "a" (.ite (.two "less" (.name "a") (.num 1)) base step)) (.lt "c" (.two "put" (.name "b") (.name "f")) (.two "call" (.name "f") (.num many))))
def spLoop : Sp := fun vs H Q _ => ∃ (v x y : V) (e1 e2 : Ex) (n : Int), vs = [v, x, y, .int n] ∧ AtE H x e1 ∧ AtE H y e2 ∧ ∀ u H', Stp [] H H' → AtE H' u (exLoop e1 e2 n) → Q u H'
theorem scLoop : FnScope ["_law_d", "_law_step", "_law_base", "_law_many", "_law_body", "_law_call"] ["_law_d", "_law_step", "_law_base", "_law_many"] (defScope s_L_loop) := ⟨rfl, rfl, rfl, by decide +kernel, rfl, by decide +kernel, by decide +kernel⟩
theorem ok_loop (F : Df K mg "_law_loop" s_L_loop) : Use P w K mg base "_law_loop" ["_law_d", "_law_step", "_law_base", "_law_many"] 1 spLoop := by
  refine F.use scLoop (fun _ _ _ _ _ _ us hl => match us, hl with | [_, _, _, _], _ => rfl) (fun vs H Q E h => ?_) (fun cdv f A outer s H vs Q E hr h => ?_)
  · obtain ⟨v, x, y, e1, e2, n, rfl, _⟩ := h
    rfl
  · obtain ⟨v, x, y, e1, e2, n, rfl, h1, h2, q⟩ := h
    refine ⟨_, pss_cons (ps_set (i := 4) scLoop.nd rfl (Or.inl rfl) (pe_tup (pa_cons pe_str (pa_cons (pe_tup (pa_cons pe_str (pa_cons (pe_tup (pa_cons pe_str (pa_cons pe_str pa_nil))) (pa_cons (pe_tup (pa_cons pe_str (pa_cons pe_int pa_nil))) pa_nil)))) (pa_cons (pv 2) (pa_cons (pv 1) pa_nil))))))
      (pss_cons (ps_set (i := 5) scLoop.nd rfl (Or.inl rfl) (pe_tup (pa_cons pe_str (pa_cons pe_str (pa_cons (pe_tup (pa_cons pe_str (pa_cons (pe_tup (pa_cons pe_str (pa_cons pe_str pa_nil))) (pa_cons (pe_tup (pa_cons pe_str (pa_cons pe_str pa_nil))) pa_nil))))
          (pa_cons (pe_tup (pa_cons pe_str (pa_cons (pe_tup (pa_cons pe_str (pa_cons pe_str pa_nil))) (pa_cons (pe_tup (pa_cons pe_str (pa_cons (pv 3) pa_nil))) pa_nil)))) pa_nil))))))
      (pss_one (ps_ret (pe_tup (pa_cons pe_str (pa_cons pe_str (pa_cons (pe_tup (pa_cons pe_str (pa_cons (pe_tup (pa_cons pe_str (pa_cons pe_int pa_nil))) pa_nil)))
        (pa_cons (pe_tup (pa_cons pe_str (pa_cons pe_str (pa_cons (pe_tup (pa_cons pe_str (pa_cons pe_str (pa_cons (pv 4) pa_nil)))) (pa_cons (pv 5) pa_nil))))) pa_nil)))))))), ?_⟩
    refine stB (ρ := ⟨fun i => if i = 1 then e1 else e2, fun _ => n, fun _ => "a"⟩) (.ite (.two "less" (.nm "a") (.num 1)) (.var 2) (.var 1)) ?_ fun vb H1 s1 a1 => ?_
    · exact ⟨⟨trivial, trivial⟩, ⟨y, rfl, h2⟩, ⟨x, rfl, h1⟩⟩
    refine stB (ρ := ⟨fun i => if i = 1 then e1 else e2, fun _ => n, fun _ => "a"⟩) (.lt "c" (.two "put" (.nm "b") (.nm "f")) (.two "call" (.nm "f") (.numv 3))) ?_ fun vc H2 s2 a2 => ?_
    · exact ⟨⟨trivial, trivial⟩, trivial, rfl⟩
    refine retB (ρ := ⟨fun i => if i = 4 then .ite (.two "less" (.name "a") (.num 1)) e2 e1 else .lt "c" (.two "put" (.name "b") (.name "f")) (.two "call" (.name "f") (.num n)), fun _ => n, fun _ => "a"⟩)
      (.lt "b" (.one "box" (.num 0)) (.lt "f" (.fn "a" (.var 4)) (.var 5))) ?_ fun u H3 s3 a3 => ?_
    · exact ⟨trivial, ⟨vb, rfl, a1.step s2⟩, ⟨vc, rfl, a2⟩⟩
    exact q u H3 ((s1.trans s2).trans s3) a3
end
end Wr
namespace Wr
open PySem PySem.Spec PyProof.Rows L2
section
variable {P : Program} {w : World} {K : PySem.W.Frag} {mg : Str → Option Value} {base : Heap}
def spLong (K : PySem.W.Frag) : Sp := spProgram K
theorem scLong : FnScope ["_law_d", "_law_again_here", "_law_some", "_law_body", "_law_bases", "_law_many", "_law_step", "_law_found", "_law_gos", "_law_handlers", "_law_k"] ["_law_d"] (defScope s_L_long) := ⟨rfl, rfl, rfl, by decide +kernel, rfl, by decide +kernel, by decide +kernel⟩
def exSteps : List Ex := [.two "add" (.name "a") exAgain, exAgain, .two "last" exAgain (.one "say" (.name "a")), .two "add" (.one "say" (.name "a")) exAgain, .two "add" (.one "throw" (.name "a")) exAgain,
  .two "else" exAgain (.one "say" (.name "a")), .lt "c" exAgain (.two "add" (.name "c") (.name "c")), .ct (.two "add" (.one "throw" (.name "a")) exAgain) "d" "e" (.two "go" (.name "e") (.name "d"))]
def exBases : List Ex := [.num 0, .one "throw" (.num 3), .fault, .one "say" (.num 9)]
def exGo (n : Int) : Ex := .two "go" (.name "h") (.num n)
def exHands : List Ex := [.name "g", exGo 1, .two "add" (exGo 1) (exGo 2), .two "add" (exGo 1) (.one "drop" (.name "h")), exGo 3, .lt "a" (exGo 1) (.lt "b" (exGo 2) (.two "add" (.name "a") (.name "b")))]
instance goodDec (S : List Str) : (e : Ex) → Decidable (Good S e)
  | .num n => by unfold Good; exact inferInstance
  | .name x => by unfold Good; exact inferInstance
  | .fault => by unfold Good; exact inferInstance
  | .one w a => have := goodDec S a; by unfold Good; exact inferInstance
  | .two w a b => have := goodDec S a; have := goodDec S b; by unfold Good; exact inferInstance
  | .ite a b c => have := goodDec S a; have := goodDec S b; have := goodDec S c; by unfold Good; exact inferInstance
  | .lt x a b => have := goodDec S a; have := goodDec (x :: S) b; by unfold Good; exact inferInstance
  | .fn x a => have := goodDec (x :: S) a; by unfold Good; exact inferInstance
  | .ct a x k b => have := goodDec S a; have := goodDec (x :: k :: S) b; by unfold Good; exact inferInstance
theorem steps_good : ∀ e ∈ exSteps, Good ["a", "b"] e ∧ e.size ≤ 20 ∧ e.deep ≤ 10 := by decide +kernel
theorem bases_good : ∀ e ∈ exBases, Good ["a", "b"] e ∧ e.size ≤ 20 ∧ e.deep ≤ 10 := by decide +kernel
theorem hands_good : ∀ e ∈ exHands, Good ["g", "h"] e ∧ e.size ≤ 20 ∧ e.deep ≤ 10 := by decide +kernel
theorem loop_good {e1 e2 : Ex} {n : Int} (h1 : Good ["a", "b"] e1 ∧ e1.size ≤ 20 ∧ e1.deep ≤ 10) (h2 : Good ["a", "b"] e2 ∧ e2.size ≤ 20 ∧ e2.deep ≤ 10) (n0 : 0 ≤ n) (n1 : n ≤ 1900) :
    Good [] (exLoop e1 e2 n) ∧ (exLoop e1 e2 n).size ≤ 100 ∧ (exLoop e1 e2 n).deep ≤ 30 := by
  refine ⟨⟨by decide +kernel, ⟨by decide +kernel, by decide, by decide⟩, by decide +kernel, ⟨by decide +kernel, ⟨by decide +kernel, by decide +kernel, by decide, by decide⟩, h2.1.mono (fun x hx => ?_), h1.1.mono (fun x hx => ?_)⟩, by decide +kernel, ⟨by decide +kernel, by decide +kernel, by decide +kernel⟩, by decide +kernel, by decide +kernel, ?_⟩, ?_, ?_⟩
  · simp only [List.mem_cons, List.not_mem_nil, or_false] at hx ⊢
    rcases hx with h | h
    · exact .inl h
    · exact .inr h
  · simp only [List.mem_cons, List.not_mem_nil, or_false] at hx ⊢
    rcases hx with h | h
    · exact .inl h
    · exact .inr h
  · exact ⟨by omega, by omega⟩
  · simp only [exLoop, Ex.size]; omega
  · simp only [exLoop, Ex.deep]; omega
theorem many8 (x : Int) (h0 : 0 ≤ x) (h8 : x < 8) : ∃ k : Int, atI ([.int 3, .int 8, .int 30, .int 200, .int 3, .int 8, .int 30, .int 1900] : List V) x = some (.int k) ∧ 0 ≤ k ∧ k ≤ 1900 := by
  have hx : x = 0 ∨ x = 1 ∨ x = 2 ∨ x = 3 ∨ x = 4 ∨ x = 5 ∨ x = 6 ∨ x = 7 := by omega
  rcases hx with rfl | rfl | rfl | rfl | rfl | rfl | rfl | rfl
  all_goals exact ⟨_, rfl, by decide, by decide⟩
theorem Tk.put {H : Hp} {p : Addr} {vs us : List V} (e : H p = some (.lst vs)) : Tk H (upd H p (.lst us)) := (Stp.put (D := [p]) (by simp) (fun xs z => by rw [e] at z; cases z) _).tups
/-- a list of parts that grows at p, which is new -/
structure Lst (H0 H : Hp) (p : Addr) (vs : List V) (es : List Ex) : Prop where
  st : Stp [] H0 H
  n0 : H0 p = none
  at_ : H p = some (.lst vs)
  al : AtL H vs es
theorem Lst.make {H0 H1 : Hp} {p : Addr} {vs : List V} {es : List Ex} (s : Stp [] H0 H1) (np : H1 p = none) (a : AtL H1 vs es) : Lst H0 (upd H1 p (.lst vs)) p vs es :=
  ⟨s.trans (.new np _), s.was (by simp) np, upd_same, a.step (D := []) (.new np _)⟩
theorem Lst.step {H0 H H1 : Hp} {p : Addr} {vs : List V} {es : List Ex} (L : Lst H0 H p vs es) (s : Stp [] H H1) : Lst H0 H1 p vs es := ⟨L.st.trans s, L.n0, s.keep _ _ (by simp) L.at_, L.al.step s⟩
theorem Lst.app {H0 H H1 : Hp} {p : Addr} {vs : List V} {es : List Ex} {v : V} {e : Ex} (L : Lst H0 H p vs es) (s : Stp [] H H1) (a : AtE H1 v e) : Lst H0 (upd H1 p (.lst (vs ++ [v]))) p (vs ++ [v]) (es ++ [e]) := by
  have L1 := L.step s
  have k : ∀ t xs, H1 t = some (.tup xs) → upd H1 p (.lst (vs ++ [v])) t = some (.tup xs) := (Stp.put (D := [p]) (by simp) (fun xs z => by rw [L1.at_] at z; cases z) _).tups
  exact ⟨L1.st.putnew L.n0 _, L.n0, upd_same, (L1.al.tups k).append (.cons (a.tups k) .nil)⟩
/-- an item of a list of parts, as a part of a display -/
theorem ext_ix {K : PySem.W.Frag} {σ : L2.St} {H : Hp} {l : Addr} {vs : List V} {e : Ex} {i : Nat} {j : Int} {v : V} (hσ : σ[i]? = some (some (.ref l))) (hl : H l = some (.lst vs)) (hj : atI vs j = some v) (hv : AtE H v e) :
    ∀ (H1 : Hp) (Q : VK), Stp [] H H1 → (∀ v H2, Stp [] H1 H2 → AtE H2 v e → Q v H2) → tOp (rIxL K) (tVar i) (tC (.int j)) σ H1 Q :=
  fun H1 Q s q => ⟨_, hσ, l, _, _, _, rfl, rfl, SqL.of (s.keep _ _ (by simp) hl), hj, q v H1 (.refl _ _) (hv.step s)⟩
theorem ok_long (F : Df K mg "_law_long" s_L_long) (rng : mg "range" = none) (mn : mg "min" = none) (U : Use P w K mg base "_law_next" ["_law_dice_here", "_law_many"] 1 (spNext K)) (UA : Use P w K mg base "_law_again" ["_law_d"] 1 spAgain)
    (UO : Use P w K mg base "_law_loop" ["_law_d", "_law_step", "_law_base", "_law_many"] 1 spLoop) : Use P w K mg base "_law_long" ["_law_d"] 2 (spLong K) := by
  refine F.use scLong (fun _ _ _ _ _ _ us hl => match us, hl with | [_], _ => rfl) (fun vs H Q E h => ?_) (fun cdv f A outer s H vs Q E hr h => ?_)
  · obtain ⟨D, d, a, ns, rfl, _⟩ := h
    rfl
  · obtain ⟨D, d, a, ns, rfl, hD, q⟩ := h
    refine ⟨_, pss_cons (ps_set (i := 1) scLong.nd rfl (Or.inl rfl) (pe_use UA hr (pa_cons (pv 0) pa_nil)))
      (pss_cons (ps_set (i := 2) scLong.nd rfl (Or.inl rfl) (pe_lst (pa_cons (pe_tup (pa_cons pe_str (pa_cons (pe_tup (pa_cons pe_str (pa_cons pe_str pa_nil))) (pa_cons (pv 1) pa_nil)))) (pa_cons (pv 1)
          (pa_cons (pe_tup (pa_cons pe_str (pa_cons (pv 1) (pa_cons (pe_tup (pa_cons pe_str (pa_cons (pe_tup (pa_cons pe_str (pa_cons pe_str pa_nil))) pa_nil))) pa_nil)))) pa_nil)))))
      (pss_cons (ps_expr (pe_bm PySem.F.plainAttrs_list PySem.F.slot_list_append PySem.F.type_list_append mt_append (pv 2) (pa_cons (pe_tup (pa_cons pe_str (pa_cons (pe_tup (pa_cons pe_str (pa_cons (pe_tup (pa_cons pe_str (pa_cons pe_str pa_nil))) pa_nil))) (pa_cons (pv 1) pa_nil)))) pa_nil)))
      (pss_cons (ps_expr (pe_bm PySem.F.plainAttrs_list PySem.F.slot_list_append PySem.F.type_list_append mt_append (pv 2) (pa_cons (pe_tup (pa_cons pe_str (pa_cons (pe_tup (pa_cons pe_str (pa_cons (pe_tup (pa_cons pe_str (pa_cons pe_str pa_nil))) pa_nil))) (pa_cons (pv 1) pa_nil)))) pa_nil)))
      (pss_cons (ps_expr (pe_bm PySem.F.plainAttrs_list PySem.F.slot_list_append PySem.F.type_list_append mt_append (pv 2) (pa_cons (pe_tup (pa_cons pe_str (pa_cons (pv 1) (pa_cons (pe_tup (pa_cons pe_str (pa_cons (pe_tup (pa_cons pe_str (pa_cons pe_str pa_nil))) pa_nil))) pa_nil)))) pa_nil)))
      (pss_cons (ps_expr (pe_bm PySem.F.plainAttrs_list PySem.F.slot_list_append PySem.F.type_list_append mt_append (pv 2) (pa_cons (pe_tup (pa_cons pe_str (pa_cons pe_str (pa_cons (pv 1) (pa_cons (pe_tup (pa_cons pe_str (pa_cons (pe_tup (pa_cons pe_str (pa_cons pe_str pa_nil))) (pa_cons (pe_tup (pa_cons pe_str (pa_cons pe_str pa_nil))) pa_nil)))) pa_nil))))) pa_nil)))
      (pss_cons (ps_set (i := 3) scLong.nd rfl (Or.inl rfl) (pe_tup (pa_cons pe_str (pa_cons (pe_tup (pa_cons pe_str (pa_cons (pe_tup (pa_cons pe_str (pa_cons pe_str pa_nil))) pa_nil))) (pa_cons (pv 1) pa_nil)))))
      (pss_cons (ps_expr (pe_bm PySem.F.plainAttrs_list PySem.F.slot_list_append PySem.F.type_list_append mt_append (pv 2) (pa_cons (pe_tup (pa_cons pe_str (pa_cons (pv 3) (pa_cons pe_str (pa_cons pe_str (pa_cons (pe_tup (pa_cons pe_str (pa_cons (pe_tup (pa_cons pe_str (pa_cons pe_str pa_nil))) (pa_cons (pe_tup (pa_cons pe_str (pa_cons pe_str pa_nil))) pa_nil)))) pa_nil)))))) pa_nil)))
      (pss_cons (ps_set (i := 4) scLong.nd rfl (Or.inl rfl) (pe_lst (pa_cons (pe_tup (pa_cons pe_str (pa_cons pe_int pa_nil))) (pa_cons (pe_tup (pa_cons pe_str (pa_cons (pe_tup (pa_cons pe_str (pa_cons pe_int pa_nil))) pa_nil))) (pa_cons (pe_tup (pa_cons pe_str pa_nil)) (pa_cons (pe_tup (pa_cons pe_str (pa_cons (pe_tup (pa_cons pe_str (pa_cons pe_int pa_nil))) pa_nil))) pa_nil))))))
      (pss_cons (ps_set (i := 5) scLong.nd rfl (Or.inl rfl) (pe_ix ix_list (pe_lst (pa_cons pe_int (pa_cons pe_int (pa_cons pe_int (pa_cons pe_int (pa_cons pe_int (pa_cons pe_int (pa_cons pe_int (pa_cons pe_int pa_nil))))))))) (pe_use U hr (pa_cons (pv 0) (pa_cons pe_int pa_nil))) (fun _ _ => rfl)))
      (pss_cons (ps_set (i := 6) scLong.nd rfl (Or.inl rfl) (pe_use U hr (pa_cons (pv 0) (pa_cons pe_int pa_nil))))
      (pss_cons (ps_set (i := 5) scLong.nd rfl (Or.inl rfl) (pe_ifExp (pt_cmpR (r := rIn K false) op_in_seq (pv 6) (pe_tup (pa_cons pe_int (pa_cons pe_int pa_nil))) rfl) (pe_callB (call_min2 rfl) (by rfl) mn (by decide +kernel) (pa_cons (pv 5) (pa_cons pe_int pa_nil))) (pv 5)))
      (pss_cons (ps_set (i := 7) scLong.nd rfl (Or.inl rfl) (pe_use UO hr (pa_cons (pv 0) (pa_cons (pe_ix ix_list (pv 2) (pv 6) (fun _ _ => rfl)) (pa_cons (pe_ix ix_list (pv 4) (pe_use U hr (pa_cons (pv 0) (pa_cons pe_int pa_nil))) (fun _ _ => rfl)) (pa_cons (pv 5) pa_nil))))))
      (pss_cons (ps_setLc (i := 8) (own := [("_law_k", 10)]) (g := gName 10) (tt := tYes) (by rfl) scLong.nd rfl rfl (sw_true rfl rfl rfl (by decide +kernel)) (pi_range1 (by rfl) rng (pa_cons pe_int pa_nil))
          (blkOk_by (own := [("_law_k", 10)]) (N := ["_law_d", "_law_again_here", "_law_some", "_law_body", "_law_bases", "_law_many", "_law_step", "_law_found", "_law_gos", "_law_handlers", "_law_k"]) (sc := defScope s_L_long) (by decide +kernel))
          (fun _ _ _ _ _ => pg_name (i := 10) scLong.nd rfl (Or.inl rfl)) (fun _ _ _ _ _ => pts_nil) (fun _ _ _ _ _ => pe_tup (pa_cons pe_str (pa_cons (pe_tup (pa_cons pe_str (pa_cons pe_str pa_nil))) (pa_cons (pe_tup (pa_cons pe_str (pa_cons (pe_op op_add pe_int (pv 10)) pa_nil))) pa_nil)))))
      (pss_cons (ps_set (i := 9) scLong.nd rfl (Or.inl rfl) (pe_lst (pa_cons (pe_tup (pa_cons pe_str (pa_cons pe_str pa_nil))) (pa_cons (pe_ix ix_list (pv 8) pe_int (fun _ _ => rfl)) (pa_cons (pe_tup (pa_cons pe_str (pa_cons (pe_ix ix_list (pv 8) pe_int (fun _ _ => rfl)) (pa_cons (pe_ix ix_list (pv 8) pe_int (fun _ _ => rfl)) pa_nil))))
          (pa_cons (pe_tup (pa_cons pe_str (pa_cons (pe_ix ix_list (pv 8) pe_int (fun _ _ => rfl)) (pa_cons (pe_tup (pa_cons pe_str (pa_cons (pe_tup (pa_cons pe_str (pa_cons pe_str pa_nil))) pa_nil))) pa_nil)))) (pa_cons (pe_ix ix_list (pv 8) pe_int (fun _ _ => rfl)) pa_nil)))))))
      (pss_cons (ps_expr (pe_bm PySem.F.plainAttrs_list PySem.F.slot_list_append PySem.F.type_list_append mt_append (pv 9) (pa_cons (pe_tup (pa_cons pe_str (pa_cons pe_str (pa_cons (pe_ix ix_list (pv 8) pe_int (fun _ _ => rfl)) (pa_cons (pe_tup (pa_cons pe_str (pa_cons pe_str (pa_cons (pe_ix ix_list (pv 8) pe_int (fun _ _ => rfl)) (pa_cons (pe_tup (pa_cons pe_str (pa_cons (pe_tup (pa_cons pe_str (pa_cons pe_str pa_nil))) (pa_cons (pe_tup (pa_cons pe_str (pa_cons pe_str pa_nil))) pa_nil)))) pa_nil))))) pa_nil))))) pa_nil)))
      (pss_cons (ps_if (pt_cmpR op_gt (pe_use U hr (pa_cons (pv 0) (pa_cons pe_int pa_nil))) pe_int (nomark _))
          (pss_one (ps_set (i := 7) scLong.nd rfl (Or.inl rfl) (pe_tup (pa_cons pe_str (pa_cons (pv 7) (pa_cons pe_str (pa_cons pe_str (pa_cons (pe_ix ix_list (pv 9) (pe_use U hr (pa_cons (pv 0) (pa_cons pe_int pa_nil))) (fun _ _ => rfl)) pa_nil)))))))) pss_nil)
      (pss_one (ps_ret (pv 7))))))))))))))))))), ?_⟩
    refine ⟨_, rfl, .ref d, rfl, fun vA H1 s1 aA => ?_⟩
    let ρ : Rho := ⟨fun i => if i = 3 then .two "add" (.one "throw" (.name "a")) exAgain else exAgain, fun _ => 0, fun _ => "a"⟩
    refine stL (ρ := ρ) [.two "add" (.nm "a") (.var 1), .var 1, .two "last" (.var 1) (.one "say" (.nm "a"))] (by decide) ?_ fun p vs2 H2 s2 aL np => ?_
    · intro b hb
      simp only [List.mem_cons, List.not_mem_nil, or_false] at hb
      rcases hb with rfl | rfl | rfl
      · exact ⟨trivial, vA, rfl, aA⟩
      · exact ⟨vA, rfl, aA⟩
      · exact ⟨⟨vA, rfl, aA⟩, trivial⟩
    have L2' := Lst.make s2 np aL
    refine apB (ρ := ρ) (.two "add" (.one "say" (.nm "a")) (.var 1)) rfl L2'.at_ (by rw [L2'.al.length]; decide) ?_ fun v3 H3 s3 a3 => ?_
    · exact ⟨trivial, vA, rfl, aA.step L2'.st⟩
    have L3 := L2'.app s3 a3
    refine apB (ρ := ρ) (.two "add" (.one "throw" (.nm "a")) (.var 1)) rfl L3.at_ (by rw [L3.al.length]; decide) ?_ fun v4 H4 s4 a4 => ?_
    · exact ⟨trivial, vA, rfl, aA.step L3.st⟩
    have L4 := L3.app s4 a4
    refine apB (ρ := ρ) (.two "else" (.var 1) (.one "say" (.nm "a"))) rfl L4.at_ (by rw [L4.al.length]; decide) ?_ fun v5 H5 s5 a5 => ?_
    · exact ⟨⟨vA, rfl, aA.step L4.st⟩, trivial⟩
    have L5 := L4.app s5 a5
    refine apB (ρ := ρ) (.lt "c" (.var 1) (.two "add" (.nm "c") (.nm "c"))) rfl L5.at_ (by rw [L5.al.length]; decide) ?_ fun v6 H6 s6 a6 => ?_
    · exact ⟨⟨vA, rfl, aA.step L5.st⟩, trivial, trivial⟩
    have L6 := L5.app s6 a6
    refine stB (ρ := ρ) (.two "add" (.one "throw" (.nm "a")) (.var 1)) ?_ fun v7 H7 s7 a7 => ?_
    · exact ⟨trivial, vA, rfl, aA.step L6.st⟩
    have L7 := L6.step s7
    refine apB (ρ := ρ) (.ct (.var 3) "d" "e" (.two "go" (.nm "e") (.nm "d"))) rfl L7.at_ (by rw [L7.al.length]; decide) ?_ fun v8 H8 s8 a8 => ?_
    · exact ⟨⟨v7, rfl, a7⟩, trivial, trivial⟩
    have L8 := L7.app s8 a8
    refine stL (ρ := ρ) [.num 0, .one "throw" (.num 3), .fault, .one "say" (.num 9)] (by decide) ?_ fun pb vsb H9 s9 aLb npb => ?_
    · intro b hb
      simp only [List.mem_cons, List.not_mem_nil, or_false] at hb
      rcases hb with rfl | rfl | rfl | rfl <;> exact trivial
    have L9 := (L8.step s9).step (.new npb (.lst vsb))
    have LB := Lst.make (s1.trans (L8.st.trans s9)) npb aLb
    have hD9 : Dice K (upd H9 pb (.lst vsb)) D d a ns := hD.step (D' := []) LB.st (by simp) (by simp)
    refine ⟨(by show 8 ≤ sizeLine; decide), fun l nl => ⟨_, rfl, D, d, a, ns, 8, rfl, hD9.up nl, by decide, by decide, fun x H10 x0 x1 st10 hD10 => ?_⟩⟩
    obtain ⟨m, em, m0, m1⟩ := many8 x x0 x1
    refine ⟨l, _, _, _, rfl, rfl, SqL.of (st10.keep _ _ (hD9.fresh nl) upd_same), em, ?_⟩
    have pd : p ∉ [d] := fun z => by
      obtain ⟨xs, ed⟩ := hD.is_
      have := s1.was (by simp) L2'.n0
      rw [List.mem_singleton.mp z, ed] at this
      cases this
    have pbd : pb ∉ [d] := fun z => by
      obtain ⟨xs, ed⟩ := hD.is_
      have := LB.n0
      rw [List.mem_singleton.mp z, ed] at this
      cases this
    have s10 : Stp [d] H H10 := ((LB.st.trans (.new nl _)).mono (fun b hb => by cases hb)).trans st10
    have e10 : H10 p = some (.lst _) := st10.keep _ _ pd ((Stp.new (D := []) nl _).keep _ _ (by simp) L9.at_)
    have b10 : H10 pb = some (.lst _) := st10.keep _ _ pbd ((Stp.new (D := []) nl _).keep _ _ (by simp) LB.at_)
    have al10 := (L9.al.step (D := []) (.new nl _)).step st10
    have bl10 := (LB.al.step (D := []) (.new nl _)).step st10
    refine ⟨_, rfl, D, d, a, ns, 8, rfl, hD10, by decide, by decide, fun y H11 y0 y1 st11 hD11 => ?_⟩
    have s11 := s10.trans st11
    have e11 := st11.keep _ _ pd e10
    have b11 := st11.keep _ _ pbd b10
    have al11 := al10.step st11
    have bl11 := bl10.step st11
    refine ⟨_, rfl, (by show 2 ≤ sizeLine; decide), fun t nt => ⟨t, _, rfl, .inr (SqT.of upd_same), rfl, rfl, _, rfl, ?_⟩⟩
    have s12 := s11.up nt (.tup [.int 4, .int 7])
    have e12 := (Stp.new (D := []) nt (.tup [.int 4, .int 7])).keep _ _ (by simp) e11
    have b12 := (Stp.new (D := []) nt (.tup [.int 4, .int 7])).keep _ _ (by simp) b11
    have al12 := al11.step (D := []) (.new nt (.tup [.int 4, .int 7]))
    have bl12 := bl11.step (D := []) (.new nt (.tup [.int 4, .int 7]))
    have hD12 := hD11.up (o := .tup [.int 4, .int 7]) nt
    generalize upd H11 t (.tup [.int 4, .int 7]) = H12 at s12 e12 b12 al12 bl12 hD12 ⊢
    have hm2 : 0 ≤ (if (300 : Int) < m then 300 else m) ∧ (if (300 : Int) < m then 300 else m) ≤ 1900 := by split <;> omega
    refine ite2 (fun _ => ?_) (fun _ => ?_)
    case' refine_1 =>
      refine ⟨_, rfl, _, _, rfl, ?_⟩
      have hmm := hm2
      generalize (if (300 : Int) < m then 300 else m) = m2 at hmm ⊢
    case' refine_2 =>
      refine ⟨_, rfl, ?_⟩
      have hmm : 0 ≤ m ∧ m ≤ 1900 := ⟨m0, m1⟩
      generalize m = m2 at hmm ⊢
    all_goals (
      obtain ⟨vx, ex, ix1, ix2, ix3⟩ := al12.ix (x := y) y0 y1
      have hx := steps_good ex ix2
      refine ⟨_, rfl, _, rfl, _, rfl, p, _, _, _, rfl, rfl, SqL.of e12, ix1, _, rfl, _, rfl, D, d, a, ns, 4, rfl, hD12, by decide, by decide, fun z H13 z0 z1 st13 hD13 => ?_⟩
      obtain ⟨vy, ey, iy1, iy2, iy3⟩ := bl12.ix (x := z) z0 z1
      have hy := bases_good ey iy2
      refine ⟨pb, _, _, _, rfl, rfl, SqL.of (st13.keep _ _ pbd b12), iy1, _, rfl, .ref d, vx, vy, ex, ey, m2, rfl, ix3.step st13, iy3.step st13, fun vf H14 s14 af => ?_⟩
      have gf := loop_good hx hy hmm.1 hmm.2
      generalize exLoop ex ey m2 = ef at af gf
      have st14 : Stp [d] H H14 := (s12.trans st13).trans (s14.mono fun b hb => by cases hb)
      have hD14 := hD13.step (D' := []) s14 (by simp) (by simp)
      refine ⟨3, rfl, by decide, by decide, fun G nG => ?_⟩
      refine lc_range (lo := 0) (n := 3) (fun i H15 => ∃ vs, H15 G = some (.lst vs) ∧ vs.length ≤ i ∧ AtL H15 vs ((List.range i).map fun (k : Nat) => exGo (1 + (k : Int))) ∧ Stp [] H14 H15) ⟨[], upd_same, Nat.zero_le _, .nil, .new nG _⟩ ?_ ?_
      · rintro i H15 hi ⟨vs, eG, hl, al, s15⟩
        refine ⟨rfl, (by show 2 ≤ sizeLine; decide), fun t1 n1 => ⟨_, rfl, _, _, rfl, rfl, (by show 2 ≤ sizeLine; decide), fun t2 n2 => ⟨(by show 3 ≤ sizeLine; decide), fun t3 n3 => ?_⟩⟩⟩
        have c3 := ((Stp.new (D := []) n1 _).trans (.new n2 _)).trans (.new n3 (.tup [.str "go", .ref t1, .ref t2]))
        have eG3 := c3.keep _ _ (by simp) eG
        have n14G : H14 G = none := nG
        refine ⟨vs, eG3, Nat.lt_of_le_of_lt hl (Nat.lt_of_lt_of_le hi (by decide)), vs ++ [.ref t3], upd_same, by rw [List.length_append, List.length_singleton]; omega, ?_, (s15.trans c3).putnew n14G _⟩
        have k := Tk.put (us := vs ++ [.ref t3]) eG3
        rw [List.range_succ, List.map_append]
        refine ((al.step c3).tups k).append (.cons ?_ .nil)
        have k2 := Tk.back n3 k
        have k1 := Tk.back n2 k2
        have el : ((0 : Int) + (i : Int)) = (i : Int) := by omega
        refine ⟨t3, _, _, rfl, k _ _ upd_same, ⟨t1, rfl, k1 _ _ upd_same⟩, t2, rfl, ?_⟩
        exact (k2 _ _ upd_same).trans (by show some (HO.tup [V.str "num", V.int (1 + ((0 : Int) + (i : Int)))]) = _; rw [el])
      · rintro H15 ⟨vs, eG, hl, al, s15⟩
        have nGH : H14 G = none := nG
        have sH15 : Stp [d] H H15 := st14.trans (s15.mono fun b hb => by cases hb)
        have hD15 := hD14.step (D' := []) s15 (by simp) (by simp)
        have af15 := af.step s15
        obtain ⟨u0, u1, u2, rfl, g0, g1, g2⟩ : ∃ u0 u1 u2, vs = [u0, u1, u2] ∧ AtE H15 u0 (exGo 1) ∧ AtE H15 u1 (exGo 2) ∧ AtE H15 u2 (exGo 3) := by
          cases al with
          | cons a0 al => cases al with
            | cons a1 al => cases al with
              | cons a2 al => cases al; exact ⟨_, _, _, rfl, a0, a1, a2⟩
        let ρ2 : Rho := ⟨fun i => if i = 0 then exGo 1 else if i = 1 then exGo 2 else exGo 3, fun _ => 0, fun _ => "a"⟩
        have x0' : ∀ {σ : L2.St} {Hc : Hp}, σ[8]? = some (some (.ref G)) → Stp [] H15 Hc → (Bx.ext 0 (tOp (rIxL K) (tVar 8) (tC (.int 0)))).has ρ2 σ Hc := fun hσ sc => ext_ix hσ (sc.keep _ _ (by simp) eG) rfl (g0.step sc)
        have x1' : ∀ {σ : L2.St} {Hc : Hp}, σ[8]? = some (some (.ref G)) → Stp [] H15 Hc → (Bx.ext 1 (tOp (rIxL K) (tVar 8) (tC (.int 1)))).has ρ2 σ Hc := fun hσ sc => ext_ix hσ (sc.keep _ _ (by simp) eG) rfl (g1.step sc)
        have x2' : ∀ {σ : L2.St} {Hc : Hp}, σ[8]? = some (some (.ref G)) → Stp [] H15 Hc → (Bx.ext 2 (tOp (rIxL K) (tVar 8) (tC (.int 2)))).has ρ2 σ Hc := fun hσ sc => ext_ix hσ (sc.keep _ _ (by simp) eG) rfl (g2.step sc)
        refine stL (ρ := ρ2) [.nm "g", .ext 0 (tOp (rIxL K) (tVar 8) (tC (.int 0))), .two "add" (.ext 0 (tOp (rIxL K) (tVar 8) (tC (.int 0)))) (.ext 1 (tOp (rIxL K) (tVar 8) (tC (.int 1)))),
          .two "add" (.ext 0 (tOp (rIxL K) (tVar 8) (tC (.int 0)))) (.one "drop" (.nm "h")), .ext 2 (tOp (rIxL K) (tVar 8) (tC (.int 2)))] (by show 5 ≤ 100; decide) ?_ fun ph vsh H16 s16 alh nph => ?_
        · intro b hb
          simp only [List.mem_cons, List.not_mem_nil, or_false] at hb
          rcases hb with rfl | rfl | rfl | rfl | rfl
          · exact trivial
          · exact x0' rfl (.refl _ _)
          · exact ⟨x0' rfl (.refl _ _), x1' rfl (.refl _ _)⟩
          · exact ⟨x0' rfl (.refl _ _), trivial⟩
          · exact x2' rfl (.refl _ _)
        have LH := Lst.make s16 nph alh
        refine apB (ρ := ρ2) (.lt "a" (.ext 0 (tOp (rIxL K) (tVar 8) (tC (.int 0)))) (.lt "b" (.ext 1 (tOp (rIxL K) (tVar 8) (tC (.int 1)))) (.two "add" (.nm "a") (.nm "b")))) rfl LH.at_ (by rw [LH.al.length]; show 5 ≤ 1000; decide) ?_ fun v17 H17 s17 a17 => ?_
        · exact ⟨x0' rfl LH.st, x1' rfl LH.st, trivial, trivial⟩
        have LI := LH.app s17 a17
        have sI : Stp [d] H _ := sH15.trans (LI.st.mono fun b hb => by cases hb)
        have hDI := hD15.step (D' := []) LI.st (by simp) (by simp)
        have afI := af15.step LI.st
        refine ⟨_, rfl, D, d, a, ns, 5, rfl, hDI, by decide, by decide, fun k H18 k0 k1 st18 hD18 => ⟨_, _, rfl, rfl, _, rfl, ?_⟩⟩
        have sI8 := sI.trans st18
        have phd : ph ∉ [d] := fun z => by
          obtain ⟨xs, ed⟩ := hD15.is_
          have := LI.n0
          rw [List.mem_singleton.mp z, ed] at this
          cases this
        refine ite2 (fun _ => ?_) (fun _ => ?_)
        · refine ⟨_, rfl, _, rfl, _, rfl, D, d, a, ns, 6, rfl, hD18, by decide, by decide, fun k2 H19 k20 k21 st19 hD19 => ?_⟩
          obtain ⟨vh, eh, ih1, ih2, ih3⟩ := LI.al.ix (x := k2) k20 k21
          have hh := hands_good eh ih2
          refine ⟨ph, _, _, _, rfl, rfl, SqL.of (st19.keep _ _ phd (st18.keep _ _ phd LI.at_)), ih1, (by show 5 ≤ sizeLine; decide), fun pc npc => ⟨_, rfl, ?_⟩⟩
          refine q _ (.ct ef "g" "h" eh) _ ⟨pc, _, _, rfl, upd_same, ((afI.step st18).step st19).up npc _, ((ih3.step st18).step st19).up npc _⟩ ⟨by decide +kernel, by decide +kernel, by decide +kernel, gf.1, hh.1⟩ ?_ ?_ ((sI8.trans st19).up npc _) (hD19.up npc)
          · simp only [Ex.size]; omega
          · simp only [Ex.deep]; omega
        · exact ⟨_, rfl, q _ ef _ (afI.step st18) gf.1 (by omega) (by omega) sI8 hD18⟩)
end
end Wr
namespace Wr
open PySem PySem.Spec PyProof.Rows L2
section
variable {P : Program} {w : World} {K : PySem.W.Frag} {mg : Str → Option Value} {base : Heap}
theorem scAny : FnScope ["_law_d"] ["_law_d"] (defScope s_L_any) := ⟨rfl, rfl, rfl, by decide +kernel, rfl, by decide +kernel, by decide +kernel⟩
theorem u_long (G : GenDefs K mg) : Use P w K mg base "_law_long" ["_law_d"] 2 (spProgram K) := ok_long G.long G.zrange G.zmin (u_next G) (ok_again G.again) (ok_loop G.loop)
theorem u_any (G : GenDefs K mg) : Use P w K mg base "_law_any" ["_law_d"] 227 (spProgram K) := by
  have U : Use P w K mg base "_law_next" ["_law_dice_here", "_law_many"] 1 (spNext K) := u_next G
  have UL : Use P w K mg base "_law_long" ["_law_d"] 2 (spProgram K) := u_long G
  have UP : Use P w K mg base "_law_program" ["_law_d"] 226 (spProgram K) := u_program G
  refine G.any.use scAny (fun _ _ _ _ _ _ us hl => match us, hl with | [_], _ => rfl) (fun vs H Q E h => ?_) (fun cdv f A outer s H vs Q E hr h => ?_)
  · obtain ⟨D, d, a, ns, rfl, _⟩ := h
    rfl
  · obtain ⟨D, d, a, ns, rfl, hD, q⟩ := h
    have hr1 : Room 1 _ := hr.mono (by decide)
    have hr2 : Room 2 _ := hr.mono (by decide)
    refine ⟨_, pss_one (ps_ret (pe_ifExp (pt_cmpR op_eq (pe_use U hr1 (pa_cons (pv 0) (pa_cons pe_int pa_nil))) pe_int (nomark _)) (pe_use UL hr2 (pa_cons (pv 0) pa_nil)) (pe_use UP hr (pa_cons (pv 0) pa_nil)))), ?_⟩
    refine ⟨_, rfl, D, d, a, ns, 3, rfl, hD, by decide, by decide, fun x H1 x0 x1 st hD1 => ⟨rfl, _, rfl, ?_⟩⟩
    refine ite2 (fun _ => ?_) (fun _ => ?_)
    · exact ⟨_, rfl, D, d, a, ns, rfl, hD1, fun v e H2 h1 h2 h3 h4 s2 hD2 => q v e H2 h1 h2 h3 h4 (st.trans s2) hD2⟩
    · exact ⟨_, rfl, D, d, a, ns, rfl, hD1, fun v e H2 h1 h2 h3 h4 s2 hD2 => q v e H2 h1 h2 h3 h4 (st.trans s2) hD2⟩
end
end Wr
namespace Wr
open PySem PySem.Spec PyProof.Rows L2
section
variable {P : Program} {w : World} {K : PySem.W.Frag} {mg : Str → Option Value} {base : Heap}
/-- is it a whole number: of what is an int, what a bool -/
def spWhole (K : PySem.W.Frag) : Sp := fun vs H Q _ => ∃ (v : V) (t : Value) (b c : Bool), vs = [v] ∧ TyX K H v t ∧ PySem.W.kitOne K t (.type "int") = some b ∧ PySem.W.kitOne K t (.type "bool") = some c ∧ Q (.bl (b && !c)) H
theorem scWhole : FnScope ["held"] ["held"] (defScope s_is_whole) := ⟨rfl, rfl, rfl, by decide +kernel, rfl, by decide +kernel, by decide +kernel⟩
theorem ok_whole (F : Df K mg "is_whole" s_is_whole) (isi : mg "isinstance" = none) (it : mg "int" = none) (bo : mg "bool" = none) : Use P w K mg base "is_whole" ["held"] 1 (spWhole K) := by
  refine F.use scWhole (fun _ _ _ _ _ _ us hl => match us, hl with | [_], _ => rfl) (fun vs H Q E h => ?_) (fun cdv f A outer s H vs Q E hr h => ?_)
  · obtain ⟨v, t, b, c, rfl, _⟩ := h
    rfl
  · obtain ⟨v, t, b, c, rfl, ty, h1, h2, q⟩ := h
    refine ⟨_, pss_one (ps_ret (pe_and (pe_callB (r := rIsi K) call_isi (by rfl) isi (by decide +kernel) (pa_cons (pv 0) (pa_cons (pe_bltn (v := .ty "int") (u := .type "int") (by rfl) it (by decide +kernel) rfl) pa_nil)))
      (pe_one (pe_not (pe_callB (r := rIsi K) call_isi (by rfl) isi (by decide +kernel) (pa_cons (pv 0) (pa_cons (pe_bltn (v := .ty "bool") (u := .type "bool") (by rfl) bo (by decide +kernel) rfl) pa_nil))))))), ?_⟩
    refine ⟨_, rfl, v, .ty "int", t, .type "int", b, rfl, .ty _, ty, h1, b, rfl, ?_⟩
    cases b with
    | false => exact iteF q
    | true => exact iteT ⟨_, rfl, v, .ty "bool", t, .type "bool", c, rfl, .ty _, ty, h2, c, rfl, q⟩
/-- does it fit a place of a good part -/
def spFits : Sp := fun vs H Q _ => ∃ (x : Str) (v : V), vs = [.str x, v] ∧ ((x = "n" ∧ ∃ i, v = .int i) ∨ (x = "x" ∧ ∃ s, v = .str s) ∨ x = "e") ∧ Q (.bl true) H
theorem scFits : FnScope ["place", "held"] ["place", "held"] (defScope s_fits) := ⟨rfl, rfl, rfl, by decide +kernel, rfl, by decide +kernel, by decide +kernel⟩
theorem ok_fits (F : Df K mg "fits" s_fits) (isi : mg "isinstance" = none) (st : mg "str" = none) (U : Use P w K mg base "is_whole" ["held"] 1 (spWhole K)) : Use P w K mg base "fits" ["place", "held"] 2 spFits := by
  refine F.use scFits (fun _ _ _ _ _ _ us hl => match us, hl with | [_, _], _ => rfl) (fun vs H Q E h => ?_) (fun cdv f A outer s H vs Q E hr h => ?_)
  · obtain ⟨x, v, rfl, _⟩ := h
    rfl
  · obtain ⟨x, v, rfl, h, q⟩ := h
    refine ⟨_, pss_cons (ps_if (pt_cmpR op_eq (pv 0) pe_str (nomark _)) (pss_one (ps_ret (pe_use U hr (pa_cons (pv 1) pa_nil)))) pss_nil)
      (pss_cons (ps_if (pt_cmpR op_eq (pv 0) pe_str (nomark _)) (pss_one (ps_ret (pe_callB (r := rIsi K) call_isi (by rfl) isi (by decide +kernel) (pa_cons (pv 1) (pa_cons (pe_bltn (v := .ty "str") (u := .type "str") (by rfl) st (by decide +kernel) rfl) pa_nil))))) pss_nil)
      (pss_one (ps_ret pe_bl))), ?_⟩
    rcases h with ⟨rfl, i, rfl⟩ | ⟨rfl, s, rfl⟩ | rfl
    · refine ⟨_, rfl, rfl, _, rfl, iteT ?_⟩
      exact ⟨_, rfl, .int i, _, true, false, rfl, .base (.int i), kit_ty (by decide +kernel), kit_ty (by decide +kernel), q⟩
    · refine ⟨_, rfl, rfl, _, rfl, iteF ?_⟩
      refine ⟨_, rfl, rfl, _, rfl, iteT ?_⟩
      exact ⟨_, rfl, .str s, .ty "str", _, .type "str", true, rfl, .ty _, .base (.str s), kit_ty (by decide +kernel), q⟩
    · refine ⟨_, rfl, rfl, _, rfl, iteF ?_⟩
      refine ⟨_, rfl, rfl, _, rfl, iteF ?_⟩
      exact q
end
end Wr
namespace Wr
open PySem PySem.Spec PyProof.Rows L2
/-! ### papers -/
inductive Wd where
  | quiet | free | used
  deriving DecidableEq
def Wd.s : Wd → Str
  | .quiet => "quiet"
  | .free => "free"
  | .used => "used"
def woV : Option Wd → V
  | none => .non
  | some w => .str w.s
def joinS : Option Wd → Option Wd → Option Wd
  | none, _ => none
  | some _, none => none
  | some .quiet, some w => some w
  | some .free, some .used => none
  | some .used, some .used => none
  | some .free, some _ => some .free
  | some .used, some _ => some .used
def joinW (ws : List (Option Wd)) : Option Wd := ws.foldl joinS (some .quiet)
def hid (k : Option Str) (x : Str) : Option Str := if k = some x then none else k
def isK : Ex → Option Str → Bool
  | .name x, some y => decide (x = y)
  | _, _ => false
def soft (w : Option Wd) : Option Wd := if w = some .quiet then some .free else w
/-- the greater one; none if one is -/
def mxW : Option Wd → Option Wd → Option Wd
  | none, _ => none
  | _, none => none
  | some .used, some _ => some .used
  | some _, some .used => some .used
  | some .free, some _ => some .free
  | some _, some .free => some .free
  | some .quiet, some .quiet => some .quiet
def Ex.wd : Ex → Option Str → Option Wd
  | .num _, _ => some .quiet
  | .fault, _ => some .quiet
  | .name x, k => if k = some x then none else some .quiet
  | .one w a, k => if w = "drop" then (if isK a k = true then some .used else soft (joinW [a.wd k])) else if w = "throw" then soft (joinW [a.wd k]) else joinW [a.wd k]
  | .two w a b, k => if w = "go" then (if isK a k = true then (if b.wd k = some .quiet then some .used else none) else soft (joinW [a.wd k, b.wd k])) else if w = "call" then soft (joinW [a.wd k, b.wd k]) else joinW [a.wd k, b.wd k]
  | .ite a b c, k => joinW [a.wd k, mxW (b.wd k) (c.wd k)]
  | .lt x a b, k => joinW [a.wd k, b.wd (hid k x)]
  | .fn x a, k => if a.wd (hid k x) = some .quiet ∨ a.wd (hid k x) = some .free then some .quiet else none
  | .ct a x k' b, k => if (b.wd (hid (hid k x) k') = some .quiet ∨ b.wd (hid (hid k x) k') = some .free) ∧ a.wd k ≠ none then (if a.wd k = some .quiet then some .free else a.wd k) else none
/-- v is the paper of e, k being the rest's name -/
def PapAt (H : Hp) : V → Ex → Option Str → Prop
  | v, .num n, k => ∃ t u, v = .ref t ∧ H t = some (.tup [woV ((Ex.num n).wd k), .ref u]) ∧ H u = some (.tup [])
  | v, .name x, k => ∃ t u, v = .ref t ∧ H t = some (.tup [woV ((Ex.name x).wd k), .ref u]) ∧ H u = some (.tup [])
  | v, .fault, k => ∃ t u, v = .ref t ∧ H t = some (.tup [woV (Ex.fault.wd k), .ref u]) ∧ H u = some (.tup [])
  | v, .one w a, k => ∃ t u x, v = .ref t ∧ H t = some (.tup [woV ((Ex.one w a).wd k), .ref u]) ∧ H u = some (.tup [x]) ∧ PapAt H x a k
  | v, .two w a b, k => ∃ t u x y, v = .ref t ∧ H t = some (.tup [woV ((Ex.two w a b).wd k), .ref u]) ∧ H u = some (.tup [x, y]) ∧ PapAt H x a k ∧ PapAt H y b k
  | v, .ite a b c, k => ∃ t u x y z, v = .ref t ∧ H t = some (.tup [woV ((Ex.ite a b c).wd k), .ref u]) ∧ H u = some (.tup [x, y, z]) ∧ PapAt H x a k ∧ PapAt H y b k ∧ PapAt H z c k
  | v, .lt n a b, k => ∃ t u x y, v = .ref t ∧ H t = some (.tup [woV ((Ex.lt n a b).wd k), .ref u]) ∧ H u = some (.tup [x, y]) ∧ PapAt H x a k ∧ PapAt H y b (hid k n)
  | v, .fn n a, k => ∃ t u x, v = .ref t ∧ H t = some (.tup [woV ((Ex.fn n a).wd k), .ref u]) ∧ H u = some (.tup [x]) ∧ PapAt H x a (hid k n)
  | v, .ct a n k' b, k => ∃ t u x y, v = .ref t ∧ H t = some (.tup [woV ((Ex.ct a n k' b).wd k), .ref u]) ∧ H u = some (.tup [x, y]) ∧ PapAt H x a k ∧ PapAt H y b (hid (hid k n) k')
theorem PapAt.tups {H H' : Hp} (s : ∀ t xs, H t = some (.tup xs) → H' t = some (.tup xs)) : ∀ {e : Ex} {v : V} {k : Option Str}, PapAt H v e k → PapAt H' v e k := by
  intro e
  induction e with
  | num n => exact fun {v k} ⟨t, u, e, h, g⟩ => ⟨t, u, e, s _ _ h, s _ _ g⟩
  | name x => exact fun {v k} ⟨t, u, e, h, g⟩ => ⟨t, u, e, s _ _ h, s _ _ g⟩
  | fault => exact fun {v k} ⟨t, u, e, h, g⟩ => ⟨t, u, e, s _ _ h, s _ _ g⟩
  | one w a ia => exact fun {v k} ⟨t, u, x, e, h, g, ha⟩ => ⟨t, u, x, e, s _ _ h, s _ _ g, ia ha⟩
  | two w a b ia ib => exact fun {v k} ⟨t, u, x, y, e, h, g, ha, hb⟩ => ⟨t, u, x, y, e, s _ _ h, s _ _ g, ia ha, ib hb⟩
  | ite a b c ia ib ic => exact fun {v k} ⟨t, u, x, y, z, e, h, g, ha, hb, hc⟩ => ⟨t, u, x, y, z, e, s _ _ h, s _ _ g, ia ha, ib hb, ic hc⟩
  | lt n a b ia ib => exact fun {v k} ⟨t, u, x, y, e, h, g, ha, hb⟩ => ⟨t, u, x, y, e, s _ _ h, s _ _ g, ia ha, ib hb⟩
  | fn n a ia => exact fun {v k} ⟨t, u, x, e, h, g, ha⟩ => ⟨t, u, x, e, s _ _ h, s _ _ g, ia ha⟩
  | ct a n k' b ia ib => exact fun {v k} ⟨t, u, x, y, e, h, g, ha, hb⟩ => ⟨t, u, x, y, e, s _ _ h, s _ _ g, ia ha, ib hb⟩
/-- the names for the parts within -/
def Ex.ks (k : Option Str) : Ex → List (Option Str)
  | .num _ => []
  | .name _ => []
  | .fault => []
  | .one _ _ => [k]
  | .two _ _ _ => [k, k]
  | .ite _ _ _ => [k, k, k]
  | .lt x _ _ => [k, hid k x]
  | .fn x _ => [hid k x]
  | .ct _ x k' _ => [k, hid (hid k x) k']
/-- papers for parts with names -/
inductive PapL (H : Hp) : List V → List Ex → List (Option Str) → Prop where
  | nil : PapL H [] [] []
  | cons {v : V} {e : Ex} {k : Option Str} {vs : List V} {es : List Ex} {ks : List (Option Str)} : PapAt H v e k → PapL H vs es ks → PapL H (v :: vs) (e :: es) (k :: ks)
theorem PapL.tups {H H' : Hp} (s : ∀ t xs, H t = some (.tup xs) → H' t = some (.tup xs)) : ∀ {vs : List V} {es : List Ex} {ks : List (Option Str)}, PapL H vs es ks → PapL H' vs es ks
  | _, _, _, .nil => .nil
  | _, _, _, .cons a t => .cons (a.tups s) (PapL.tups s t)
/-- a paper from its parts' papers -/
theorem PapAt.mk_ {H : Hp} {e : Ex} {k : Option Str} {t u : Addr} {vs : List V} (h : H t = some (.tup [woV (e.wd k), .ref u])) (g : H u = some (.tup vs)) (l : PapL H vs e.kids (e.ks k)) : PapAt H (.ref t) e k := by
  cases e with
  | num n => cases l; exact ⟨t, u, rfl, h, g⟩
  | name x => cases l; exact ⟨t, u, rfl, h, g⟩
  | fault => cases l; exact ⟨t, u, rfl, h, g⟩
  | one w a => cases l with | cons ha l => cases l; exact ⟨t, u, _, rfl, h, g, ha⟩
  | two w a b => cases l with | cons ha l => cases l with | cons hb l => cases l; exact ⟨t, u, _, _, rfl, h, g, ha, hb⟩
  | ite a b c => cases l with | cons ha l => cases l with | cons hb l => cases l with | cons hc l => cases l; exact ⟨t, u, _, _, _, rfl, h, g, ha, hb, hc⟩
  | lt n a b => cases l with | cons ha l => cases l with | cons hb l => cases l; exact ⟨t, u, _, _, rfl, h, g, ha, hb⟩
  | fn n a => cases l with | cons ha l => cases l; exact ⟨t, u, _, rfl, h, g, ha⟩
  | ct a n k' b => cases l with | cons ha l => cases l with | cons hb l => cases l; exact ⟨t, u, _, _, rfl, h, g, ha, hb⟩
/-- its word and its parts -/
theorem PapAt.open_ {H : Hp} {v : V} {e : Ex} {k : Option Str} (h : PapAt H v e k) : ∃ t u vs, v = .ref t ∧ H t = some (.tup [woV (e.wd k), .ref u]) ∧ H u = some (.tup vs) ∧ PapL H vs e.kids (e.ks k) := by
  cases e with
  | num n => obtain ⟨t, u, rfl, h, g⟩ := h; exact ⟨t, u, _, rfl, h, g, .nil⟩
  | name x => obtain ⟨t, u, rfl, h, g⟩ := h; exact ⟨t, u, _, rfl, h, g, .nil⟩
  | fault => obtain ⟨t, u, rfl, h, g⟩ := h; exact ⟨t, u, _, rfl, h, g, .nil⟩
  | one w a => obtain ⟨t, u, x, rfl, h, g, ha⟩ := h; exact ⟨t, u, _, rfl, h, g, .cons ha .nil⟩
  | two w a b => obtain ⟨t, u, x, y, rfl, h, g, ha, hb⟩ := h; exact ⟨t, u, _, rfl, h, g, .cons ha (.cons hb .nil)⟩
  | ite a b c => obtain ⟨t, u, x, y, z, rfl, h, g, ha, hb, hc⟩ := h; exact ⟨t, u, _, rfl, h, g, .cons ha (.cons hb (.cons hc .nil))⟩
  | lt n a b => obtain ⟨t, u, x, y, rfl, h, g, ha, hb⟩ := h; exact ⟨t, u, _, rfl, h, g, .cons ha (.cons hb .nil)⟩
  | fn n a => obtain ⟨t, u, x, rfl, h, g, ha⟩ := h; exact ⟨t, u, _, rfl, h, g, .cons ha .nil⟩
  | ct a n k' b => obtain ⟨t, u, x, y, rfl, h, g, ha, hb⟩ := h; exact ⟨t, u, _, rfl, h, g, .cons ha (.cons hb .nil)⟩
end Wr
namespace Wr
open PySem PySem.Spec PyProof.Rows L2
def Ex.word : Ex → Str
  | .num _ => "num"
  | .name _ => "name"
  | .fault => "fault"
  | .one w _ => w
  | .two w _ _ => w
  | .ite _ _ _ => "if"
  | .lt _ _ _ => "let"
  | .fn _ _ => "fun"
  | .ct _ _ _ _ => "catch"
def Ex.isCt : Ex → Bool
  | .ct _ _ _ _ => true
  | _ => false
/-- all catches, as they stand -/
def Ex.cts : Ex → List Ex
  | .num _ => []
  | .name _ => []
  | .fault => []
  | .one _ a => a.cts
  | .two _ a b => a.cts ++ b.cts
  | .ite a b c => a.cts ++ (b.cts ++ c.cts)
  | .lt _ a b => a.cts ++ b.cts
  | .fn _ a => a.cts
  | .ct a x k b => .ct a x k b :: (a.cts ++ b.cts)
theorem Ex.cts_kids (e : Ex) : e.cts = (if e.isCt = true then [e] else []) ++ (e.kids.map Ex.cts).flatten := by
  cases e <;> simp [Ex.cts, Ex.kids, Ex.isCt]
theorem Ex.cts_size (e : Ex) : e.cts.length ≤ e.size := by
  induction e <;> simp only [Ex.cts, Ex.size, List.length_nil, List.length_append, List.length_cons] <;> omega
/-- the first item is the word -/
theorem AtE.words {H : Hp} {v : V} {e : Ex} (h : AtE H v e) : ∃ t xs, v = .ref t ∧ H t = some (.tup (.str e.word :: xs)) ∧ Its H (.str e.word :: xs) e.kids ∧ (V.str e.word :: xs).length ≤ 5 := by
  obtain ⟨t, xs, rfl, ht, hI, h5, h1⟩ := h.ref
  cases e with
  | num n => obtain ⟨_, e, h⟩ := h; cases e; rw [h] at ht; cases ht; exact ⟨t, _, rfl, h, hI, h5⟩
  | name n => obtain ⟨_, e, h⟩ := h; cases e; rw [h] at ht; cases ht; exact ⟨t, _, rfl, h, hI, h5⟩
  | fault => obtain ⟨_, e, h⟩ := h; cases e; rw [h] at ht; cases ht; exact ⟨t, _, rfl, h, hI, h5⟩
  | one w a => obtain ⟨_, _, e, h, _⟩ := h; cases e; rw [h] at ht; cases ht; exact ⟨t, _, rfl, h, hI, h5⟩
  | two w a b => obtain ⟨_, _, _, e, h, _⟩ := h; cases e; rw [h] at ht; cases ht; exact ⟨t, _, rfl, h, hI, h5⟩
  | ite a b c => obtain ⟨_, _, _, _, e, h, _⟩ := h; cases e; rw [h] at ht; cases ht; exact ⟨t, _, rfl, h, hI, h5⟩
  | lt n a b => obtain ⟨_, _, _, e, h, _⟩ := h; cases e; rw [h] at ht; cases ht; exact ⟨t, _, rfl, h, hI, h5⟩
  | fn n a => obtain ⟨_, _, e, h, _⟩ := h; cases e; rw [h] at ht; cases ht; exact ⟨t, _, rfl, h, hI, h5⟩
  | ct a n k b => obtain ⟨_, _, _, e, h, _⟩ := h; cases e; rw [h] at ht; cases ht; exact ⟨t, _, rfl, h, hI, h5⟩
theorem Good.kid {S : List Str} {e k : Ex} (g : Good S e) (h : k ∈ e.kids) : ∃ S', Good S' k := by
  cases e with
  | num n => cases h
  | name x => cases h
  | fault => cases h
  | one w a => rw [List.mem_singleton.mp h]; exact ⟨S, g.2⟩
  | two w a b =>
    simp only [Ex.kids, List.mem_cons, List.not_mem_nil, or_false] at h
    rcases h with rfl | rfl
    · exact ⟨S, g.2.1⟩
    · exact ⟨S, g.2.2⟩
  | ite a b c =>
    simp only [Ex.kids, List.mem_cons, List.not_mem_nil, or_false] at h
    rcases h with rfl | rfl | rfl
    · exact ⟨S, g.1⟩
    · exact ⟨S, g.2.1⟩
    · exact ⟨S, g.2.2⟩
  | lt n a b =>
    simp only [Ex.kids, List.mem_cons, List.not_mem_nil, or_false] at h
    rcases h with rfl | rfl
    · exact ⟨S, g.2.1⟩
    · exact ⟨_, g.2.2⟩
  | fn n a => rw [List.mem_singleton.mp h]; exact ⟨_, g.2⟩
  | ct a n k' b =>
    simp only [Ex.kids, List.mem_cons, List.not_mem_nil, or_false] at h
    rcases h with rfl | rfl
    · exact ⟨S, g.2.2.2.1⟩
    · exact ⟨_, g.2.2.2.2⟩
theorem ones_ne : ∀ w ∈ ones, w ≠ "catch" ∧ w ≠ "num" ∧ w ≠ "fault" ∧ w ≠ "name" ∧ w ≠ "let" ∧ w ≠ "fun" ∧ w ≠ "if" ∧ w ∉ twos := by decide +kernel
theorem twos_ne : ∀ w ∈ twos, w ≠ "catch" ∧ w ≠ "num" ∧ w ≠ "fault" ∧ w ≠ "name" ∧ w ≠ "let" ∧ w ≠ "fun" ∧ w ≠ "if" ∧ w ∉ ones := by decide +kernel
theorem word_ct {S : List Str} {e : Ex} (g : Good S e) : decide (V.str e.word = V.str "catch") = e.isCt := by
  cases e with
  | num n => exact decide_eq_false (by show ¬ V.str "num" = V.str "catch"; decide +kernel)
  | name x => exact decide_eq_false (by show ¬ V.str "name" = V.str "catch"; decide +kernel)
  | fault => exact decide_eq_false (by show ¬ V.str "fault" = V.str "catch"; decide +kernel)
  | one w a => exact decide_eq_false fun h => (ones_ne w g.1).1 (V.str.inj h)
  | two w a b => exact decide_eq_false fun h => (twos_ne w g.1).1 (V.str.inj h)
  | ite a b c => exact decide_eq_false (by show ¬ V.str "if" = V.str "catch"; decide +kernel)
  | lt n a b => exact decide_eq_false (by show ¬ V.str "let" = V.str "catch"; decide +kernel)
  | fn n a => exact decide_eq_false (by show ¬ V.str "fun" = V.str "catch"; decide +kernel)
  | ct a n k b => exact decide_eq_true rfl
theorem kid_size {e k : Ex} (h : k ∈ e.kids) : k.size < e.size := by
  cases e <;> simp only [Ex.kids, List.mem_cons, List.not_mem_nil, or_false] at h
  all_goals simp only [Ex.size]
  · subst h; omega
  · rcases h with rfl | rfl <;> omega
  · rcases h with rfl | rfl | rfl <;> omega
  · rcases h with rfl | rfl <;> omega
  · subst h; omega
  · rcases h with rfl | rfl <;> omega
end Wr
namespace Wr
open PySem PySem.Spec PyProof.Rows L2
/-- a part as data -/
def Ex.dat : Ex → PyData
  | .num n => .tuple [.str "num", .int n]
  | .name x => .tuple [.str "name", .str x]
  | .fault => .tuple [.str "fault"]
  | .one w a => .tuple [.str w, a.dat]
  | .two w a b => .tuple [.str w, a.dat, b.dat]
  | .ite a b c => .tuple [.str "if", a.dat, b.dat, c.dat]
  | .lt x a b => .tuple [.str "let", .str x, a.dat, b.dat]
  | .fn x a => .tuple [.str "fun", .str x, a.dat]
  | .ct a x k b => .tuple [.str "catch", a.dat, .str x, .str k, b.dat]
theorem AtE.dp {K : PySem.W.Frag} {H : Hp} {v : V} {e : Ex} (h : AtE H v e) : Dp K H v e.dat := by
  induction e generalizing v with
  | num n => obtain ⟨t, rfl, h⟩ := h; exact .tup (SqT.of h) (.cons (.str _) (.cons (.int _) .nil))
  | name x => obtain ⟨t, rfl, h⟩ := h; exact .tup (SqT.of h) (.cons (.str _) (.cons (.str _) .nil))
  | fault => obtain ⟨t, rfl, h⟩ := h; exact .tup (SqT.of h) (.cons (.str _) .nil)
  | one w a ia => obtain ⟨t, x, rfl, h, ha⟩ := h; exact .tup (SqT.of h) (.cons (.str _) (.cons (ia ha) .nil))
  | two w a b ia ib => obtain ⟨t, x, y, rfl, h, ha, hb⟩ := h; exact .tup (SqT.of h) (.cons (.str _) (.cons (ia ha) (.cons (ib hb) .nil)))
  | ite a b c ia ib ic => obtain ⟨t, x, y, z, rfl, h, ha, hb, hc⟩ := h; exact .tup (SqT.of h) (.cons (.str _) (.cons (ia ha) (.cons (ib hb) (.cons (ic hc) .nil))))
  | lt n a b ia ib => obtain ⟨t, x, y, rfl, h, ha, hb⟩ := h; exact .tup (SqT.of h) (.cons (.str _) (.cons (.str _) (.cons (ia ha) (.cons (ib hb) .nil))))
  | fn n a ia => obtain ⟨t, x, rfl, h, ha⟩ := h; exact .tup (SqT.of h) (.cons (.str _) (.cons (.str _) (.cons (ia ha) .nil)))
  | ct a n k b ia ib => obtain ⟨t, x, y, rfl, h, ha, hb⟩ := h; exact .tup (SqT.of h) (.cons (.str _) (.cons (ia ha) (.cons (.str _) (.cons (.str _) (.cons (ib hb) .nil)))))
theorem Ex.dat_depth (e : Ex) : e.dat.depth = e.deep := by
  induction e with
  | num n => rfl
  | name x => rfl
  | fault => rfl
  | one w a ia => simp only [Ex.dat, Ex.deep, PyData.depth, PyData.depthAll, ia]; omega
  | two w a b ia ib => simp only [Ex.dat, Ex.deep, PyData.depth, PyData.depthAll, ia, ib]; omega
  | ite a b c ia ib ic => simp only [Ex.dat, Ex.deep, PyData.depth, PyData.depthAll, ia, ib, ic]; omega
  | lt n a b ia ib => simp only [Ex.dat, Ex.deep, PyData.depth, PyData.depthAll, ia, ib]; omega
  | fn n a ia => simp only [Ex.dat, Ex.deep, PyData.depth, PyData.depthAll, ia]; omega
  | ct a n k b ia ib => simp only [Ex.dat, Ex.deep, PyData.depth, PyData.depthAll, ia, ib]; omega
theorem ones_lay : ∀ w ∈ ones, PyData.canLay0 (.str w) = true := by decide +kernel
theorem twos_lay : ∀ w ∈ twos, PyData.canLay0 (.str w) = true := by decide +kernel
theorem lets_lay : ∀ w ∈ letters, PyData.canLay0 (.str w) = true := by decide +kernel
theorem words_lay : PyData.canLay0 (.str "num") = true ∧ PyData.canLay0 (.str "name") = true ∧ PyData.canLay0 (.str "fault") = true ∧ PyData.canLay0 (.str "if") = true ∧ PyData.canLay0 (.str "let") = true ∧ PyData.canLay0 (.str "fun") = true ∧ PyData.canLay0 (.str "catch") = true := by decide +kernel
theorem consL {S : List Str} {x : Str} (hS : ∀ y ∈ S, y ∈ letters) (hx : x ∈ letters) : ∀ y ∈ x :: S, y ∈ letters := fun y hy => (List.mem_cons.mp hy).elim (fun z => by rw [z]; exact hx) (hS y)
theorem Good.lay {e : Ex} : ∀ {S : List Str}, (∀ x ∈ S, x ∈ letters) → Good S e → PyData.canLay0 e.dat = true := by
  obtain ⟨w1, w2, w3, w4, w5, w6, w7⟩ := words_lay
  induction e with
  | num n => intro S hS g; simp only [Ex.dat, PyData.canLay0, PyData.canLayAll0, Bool.and_true] at *; exact w1
  | name x =>
    intro S hS g
    have := lets_lay x (hS x g)
    simp only [Ex.dat, PyData.canLay0, PyData.canLayAll0, Bool.and_true, Bool.and_eq_true] at *
    exact ⟨w2, this⟩
  | fault => intro S hS g; simp only [Ex.dat, PyData.canLay0, PyData.canLayAll0, Bool.and_true] at *; exact w3
  | one w a ia =>
    intro S hS g
    have := ones_lay w g.1
    have a1 := ia hS g.2
    simp only [Ex.dat, PyData.canLay0, PyData.canLayAll0, Bool.and_true, Bool.and_eq_true] at *
    exact ⟨this, a1⟩
  | two w a b ia ib =>
    intro S hS g
    have := twos_lay w g.1
    have a1 := ia hS g.2.1
    have a2 := ib hS g.2.2
    simp only [Ex.dat, PyData.canLay0, PyData.canLayAll0, Bool.and_true, Bool.and_eq_true] at *
    exact ⟨this, a1, a2⟩
  | ite a b c ia ib ic =>
    intro S hS g
    have a1 := ia hS g.1
    have a2 := ib hS g.2.1
    have a3 := ic hS g.2.2
    simp only [Ex.dat, PyData.canLay0, PyData.canLayAll0, Bool.and_true, Bool.and_eq_true] at *
    exact ⟨w4, a1, a2, a3⟩
  | lt n a b ia ib =>
    intro S hS g
    have h := lets_lay n g.1
    have a1 := ia hS g.2.1
    have a2 := ib (consL hS g.1) g.2.2
    simp only [Ex.dat, PyData.canLay0, PyData.canLayAll0, Bool.and_true, Bool.and_eq_true] at *
    exact ⟨w5, h, a1, a2⟩
  | fn n a ia =>
    intro S hS g
    have h := lets_lay n g.1
    have a1 := ia (consL hS g.1) g.2
    simp only [Ex.dat, PyData.canLay0, PyData.canLayAll0, Bool.and_true, Bool.and_eq_true] at *
    exact ⟨w6, h, a1⟩
  | ct a n k b ia ib =>
    intro S hS g
    have h := lets_lay n g.1
    have h2 := lets_lay k g.2.1
    have a1 := ia hS g.2.2.2.1
    have a2 := ib (consL (consL hS g.2.1) g.1) g.2.2.2.2
    simp only [Ex.dat, PyData.canLay0, PyData.canLayAll0, Bool.and_true, Bool.and_eq_true] at *
    exact ⟨w7, a1, h, h2, a2⟩
theorem Good.shaped {e : Ex} {S : List Str} (hS : ∀ x ∈ S, x ∈ letters) (g : Good S e) (hd : e.deep ≤ 64) : SeqAt.shaped e.dat = true := by
  unfold SeqAt.shaped
  rw [g.lay hS, e.dat_depth]
  exact decide_eq_true hd
def okV : Option Str → V
  | none => .non
  | some x => .str x
def okD : Option Str → PyData
  | none => .none
  | some x => .str x
/-- is it the name k -/
theorem eqv_name {e : Ex} {S : List Str} (g : Good S e) (k : Option Str) : PyData.eqv e.dat (.tuple [.str "name", okD k]) = isK e k := by
  have ne : ∀ {w : Str}, w ≠ "name" → (w == ("name" : Str)) = false := fun h => beq_eq_false_iff_ne.mpr h
  have hd : ∀ (w : Str) (rest : List PyData), w ≠ "name" → PyData.eqv (.tuple (.str w :: rest)) (.tuple [.str "name", okD k]) = false := fun w rest h => by
    simp only [PyData.eqv, PyData.eqvAll, ne h, Bool.false_and]
  cases e with
  | num n => exact hd "num" _ (by decide +kernel)
  | name x =>
    cases k with
    | none => simp [Ex.dat, okD, PyData.eqv, PyData.eqvAll, isK]
    | some y =>
      show PyData.eqv (.tuple [.str "name", .str x]) (.tuple [.str "name", .str y]) = decide (x = y)
      simp only [PyData.eqv, PyData.eqvAll, beq_self_eq_true, Bool.true_and, Bool.and_true]
      by_cases h : x = y
      · rw [decide_eq_true h, h]; exact beq_self_eq_true _
      · rw [decide_eq_false h]; exact beq_eq_false_iff_ne.mpr h
  | fault => exact hd "fault" _ (by decide +kernel)
  | one w a => exact hd w _ (ones_ne w g.1).2.2.2.1
  | two w a b => exact hd w _ (twos_ne w g.1).2.2.2.1
  | ite a b c => exact hd "if" _ (by decide +kernel)
  | lt n a b => exact hd "let" _ (by decide +kernel)
  | fn n a => exact hd "fun" _ (by decide +kernel)
  | ct a n k' b => exact hd "catch" _ (by decide +kernel)
/-- a comprehension over zip of two lists of one length -/
theorem lc_zipL {K : PySem.W.Frag} {a b : Addr} {xs ys : List V} {g : TG} {tt : TT} {te : TE} {vs : List Nat} {σ : L2.St} {H1 : Hp} {D : Addr} {Qd : Hp → Prop} (hl : xs.length = ys.length) (Pv : Nat → Hp → Prop) (h0 : Pv 0 (upd H1 D (.lst []))) (hq : ∀ i H, i ≤ xs.length → Pv i H → SqL K H a xs ∧ SqL K H b ys)
    (hs : ∀ i x y T H, xs[i]? = some x → ys[i]? = some y → Pv i H → H T = none → g (.ref T) (wipe σ vs) (upd H T (.tup [x, y])) fun σ2 H2 => wipe σ2 vs = wipe σ vs ∧ tt σ2 H2 fun b H3 =>
      if b = true then te σ2 H3 fun y H4 => ∃ acc, H4 D = some (.lst acc) ∧ acc.length < sizeLine ∧ Pv (i + 1) (upd H4 D (.lst (acc ++ [y]))) else Pv (i + 1) H3) (hd : ∀ H, Pv xs.length H → Qd H) :
    ∃ W : Nat → Nat → Hp → Prop, (∃ m, W 0 m (upd H1 D (.lst []))) ∧ ∀ i m H, W i m H →
      ((Itz K a b).stop i H ∧ Qd H) ∨ ((Itz K a b).go i H ∧ ∃ Nx : Hp → Prop, (∀ H', Nx H' → ∃ m', m' < m ∧ W (i + 1) m' H') ∧ ∀ v H', (Itz K a b).yld i H v H' → g v (wipe σ vs) H' fun σ2 H2 => wipe σ2 vs = wipe σ vs ∧ tt σ2 H2 fun b H3 =>
        if b = true then te σ2 H3 fun y H4 => ∃ acc, H4 D = some (.lst acc) ∧ acc.length < sizeLine ∧ Nx (upd H4 D (.lst (acc ++ [y]))) else Nx H3) := by
  refine ⟨fun i m H => m = xs.length - i ∧ i ≤ xs.length ∧ Pv i H, ⟨xs.length, by simp, Nat.zero_le _, h0⟩, ?_⟩
  rintro i m H ⟨rfl, hi, p⟩
  obtain ⟨qx, qy⟩ := hq i H hi p
  by_cases hlt : i < xs.length
  · have hx : xs[i]? = some xs[i] := List.getElem?_eq_getElem hlt
    have hlt2 : i < ys.length := by omega
    have hy : ys[i]? = some ys[i] := List.getElem?_eq_getElem hlt2
    refine .inr ⟨⟨xs, ys, _, _, qx, qy, hx, hy⟩, Pv (i + 1), fun H' p' => ⟨xs.length - (i + 1), by omega, rfl, hlt, p'⟩, fun v H' yl => ?_⟩
    obtain ⟨T, x, y, rfl, hT, rfl, f1, f2⟩ := yl
    exact hs i x y T H (f1 xs qx) (f2 ys qy) p hT
  · have e : i = xs.length := by omega
    subst e
    exact .inl ⟨⟨xs, ys, qx, qy, .inl (Nat.le_refl _)⟩, hd H p⟩
end Wr
namespace Wr
open PySem PySem.Spec PyProof.Rows L2
theorem Same.new {H : Hp} {p : Addr} (n : H p = none) (o : HO) : Same H (upd H p o) := Stp.nil (.new n o)
theorem ones_nf : ∀ w ∈ ones, inV (V.str w) [.str "num", .str "fault"] = false := by decide +kernel
theorem twos_nf : ∀ w ∈ twos, inV (V.str w) [.str "num", .str "fault"] = false := by decide +kernel
theorem word_nf {S : List Str} {e : Ex} (g : Good S e) (h : inV (V.str e.word) [.str "num", .str "fault"] = true) : e.kids = [] ∧ (∀ k, e.ks k = []) ∧ ∀ k, e.wd k = some .quiet := by
  have no : ∀ {w : Str}, inV (V.str w) [.str "num", .str "fault"] = false → inV (V.str w) [.str "num", .str "fault"] = true → False := fun a b => by rw [a] at b; cases b
  cases e with
  | num n => exact ⟨rfl, fun _ => rfl, fun _ => rfl⟩
  | name x => exact (no (w := "name") (by decide +kernel) h).elim
  | fault => exact ⟨rfl, fun _ => rfl, fun _ => rfl⟩
  | one w a => exact (no (ones_nf w g.1) h).elim
  | two w a b => exact (no (twos_nf w g.1) h).elim
  | ite a b c => exact (no (w := "if") (by decide +kernel) h).elim
  | lt n a b => exact (no (w := "let") (by decide +kernel) h).elim
  | fn n a => exact (no (w := "fun") (by decide +kernel) h).elim
  | ct a n k b => exact (no (w := "catch") (by decide +kernel) h).elim
theorem word_name {S : List Str} {e : Ex} (g : Good S e) (h : decide (V.str e.word = V.str "name") = true) : ∃ x, e = .name x := by
  have h := V.str.inj (of_decide_eq_true h)
  cases e with
  | num n => exact absurd h (by show ¬ (("num" : Str) = "name"); decide +kernel)
  | name x => exact ⟨x, rfl⟩
  | fault => exact absurd h (by show ¬ (("fault" : Str) = "name"); decide +kernel)
  | one w a => exact absurd h (ones_ne w g.1).2.2.2.1
  | two w a b => exact absurd h (twos_ne w g.1).2.2.2.1
  | ite a b c => exact absurd h (by show ¬ (("if" : Str) = "name"); decide +kernel)
  | lt n a b => exact absurd h (by show ¬ (("let" : Str) = "name"); decide +kernel)
  | fn n a => exact absurd h (by show ¬ (("fun" : Str) = "name"); decide +kernel)
  | ct a n k b => exact absurd h (by show ¬ (("catch" : Str) = "name"); decide +kernel)
theorem cut1 (x : V) (xs : List V) : cutV (x :: xs) (some 1) none = xs := by
  have e : HT.sIx (x :: xs).length 0 (some ((1 : Nat) : Int)) = 1 := by rw [HT.sIx_nat]; show min 1 (xs.length + 1) = 1; omega
  unfold cutV
  rw [show (1 : Int) = ((1 : Nat) : Int) from rfl, e, HT.sIx_none]
  show (xs.take (xs.length + 1 - 1)) = xs
  rw [Nat.add_sub_cancel, List.take_length]
theorem cut1_no (x : V) (xs : List V) (y : Nat) : ¬ (HT.sIx (x :: xs).length 0 (some 1) = 0 ∧ HT.sIx (x :: xs).length (x :: xs).length none = y) := by
  have e : HT.sIx (x :: xs).length 0 (some ((1 : Nat) : Int)) = 1 := by rw [HT.sIx_nat]; show min 1 (xs.length + 1) = 1; omega
  intro h
  rw [show (some (1 : Int)) = some ((1 : Nat) : Int) from rfl, e] at h
  cases h.1
theorem rep_one (n : Nat) (x : V) : (List.replicate ((n : Int)).toNat [x]).flatten = List.replicate n x := by
  rw [Int.toNat_natCast]
  induction n with
  | zero => rfl
  | succ n ih => rw [List.replicate_succ, List.flatten_cons, ih]; rfl
theorem flat_okV (k : Option Str) : flatV (okV k) = true := by cases k <;> rfl
theorem scal_okV (x : Str) (k : Option Str) : scal (V.str x) (okV k) = true := by cases k <;> rfl
theorem dec_okV (x : Str) (k : Option Str) : decide (V.str x = okV k) = decide (k = some x) := by
  cases k with
  | none => rfl
  | some y =>
    show decide (V.str x = V.str y) = decide (some y = some x)
    by_cases h : x = y
    · rw [decide_eq_true (congrArg V.str h), decide_eq_true (congrArg some h.symm)]
    · rw [decide_eq_false (fun z => h (V.str.inj z)), decide_eq_false (fun z => h (Option.some.inj z).symm)]
theorem Its.tail {H : Hp} {w : Str} {xs : List V} {es : List Ex} (h : Its H (.str w :: xs) es) : Its H xs es := by
  cases h with
  | str _ h => exact h
  | kid h _ => obtain ⟨_, _, e, _⟩ := h.ref; cases e
theorem AtL.same {H H' : Hp} (s : Same H H') {vs : List V} {es : List Ex} (h : AtL H vs es) : AtL H' vs es := h.step (D := []) (Stp.same s)
theorem AtE.same {H H' : Hp} (s : Same H H') {v : V} {e : Ex} (h : AtE H v e) : AtE H' v e := h.step (D := []) (Stp.same s)
theorem AtL.snoc {H : Hp} {vs : List V} {es : List Ex} {v : V} {e : Ex} (h : AtL H vs es) (g : AtE H v e) : AtL H (vs ++ [v]) (es ++ [e]) := h.append (.cons g .nil)
end Wr
namespace Wr
open PySem PySem.Spec PyProof.Rows L2
theorem Good.kid2 {S : List Str} {e k : Ex} (hS : ∀ x ∈ S, x ∈ letters) (g : Good S e) (h : k ∈ e.kids) : ∃ S', (∀ x ∈ S', x ∈ letters) ∧ Good S' k := by
  cases e with
  | num n => cases h
  | name x => cases h
  | fault => cases h
  | one w a => rw [List.mem_singleton.mp h]; exact ⟨S, hS, g.2⟩
  | two w a b =>
    simp only [Ex.kids, List.mem_cons, List.not_mem_nil, or_false] at h
    rcases h with rfl | rfl
    · exact ⟨S, hS, g.2.1⟩
    · exact ⟨S, hS, g.2.2⟩
  | ite a b c =>
    simp only [Ex.kids, List.mem_cons, List.not_mem_nil, or_false] at h
    rcases h with rfl | rfl | rfl
    · exact ⟨S, hS, g.1⟩
    · exact ⟨S, hS, g.2.1⟩
    · exact ⟨S, hS, g.2.2⟩
  | lt n a b =>
    simp only [Ex.kids, List.mem_cons, List.not_mem_nil, or_false] at h
    rcases h with rfl | rfl
    · exact ⟨S, hS, g.2.1⟩
    · exact ⟨_, consL hS g.1, g.2.2⟩
  | fn n a => rw [List.mem_singleton.mp h]; exact ⟨_, consL hS g.1, g.2⟩
  | ct a n k' b =>
    simp only [Ex.kids, List.mem_cons, List.not_mem_nil, or_false] at h
    rcases h with rfl | rfl
    · exact ⟨S, hS, g.2.2.2.1⟩
    · exact ⟨_, consL (consL hS g.2.1) g.1, g.2.2.2.2⟩
theorem ones_lf : ∀ w ∈ ones, inV (V.str w) [.str "let", .str "fun"] = false := by decide +kernel
theorem twos_lf : ∀ w ∈ twos, inV (V.str w) [.str "let", .str "fun"] = false := by decide +kernel
theorem word_lf {S : List Str} {e : Ex} (g : Good S e) (h : inV (V.str e.word) [.str "let", .str "fun"] = true) : (∃ x a b, e = .lt x a b) ∨ ∃ x a, e = .fn x a := by
  have no : ∀ {w : Str}, inV (V.str w) [.str "let", .str "fun"] = false → inV (V.str w) [.str "let", .str "fun"] = true → False := fun a b => by rw [a] at b; cases b
  cases e with
  | num n => exact (no (w := "num") (by decide +kernel) h).elim
  | name x => exact (no (w := "name") (by decide +kernel) h).elim
  | fault => exact (no (w := "fault") (by decide +kernel) h).elim
  | one w a => exact (no (ones_lf w g.1) h).elim
  | two w a b => exact (no (twos_lf w g.1) h).elim
  | ite a b c => exact (no (w := "if") (by decide +kernel) h).elim
  | lt n a b => exact .inl ⟨_, _, _, rfl⟩
  | fn n a => exact .inr ⟨_, _, rfl⟩
  | ct a n k b => exact (no (w := "catch") (by decide +kernel) h).elim
theorem word_nlf {S : List Str} {e : Ex} (g : Good S e) (h : ¬ inV (V.str e.word) [.str "let", .str "fun"] = true) (hc : ¬ e.isCt = true) (k : Option Str) : (e.ks k).map okV = List.replicate e.kids.length (okV k) := by
  cases e with
  | lt n a b => exact absurd (by show inV (V.str "let") [.str "let", .str "fun"] = true; decide +kernel) h
  | fn n a => exact absurd (by show inV (V.str "fun") [.str "let", .str "fun"] = true; decide +kernel) h
  | ct a n k b => exact absurd rfl hc
  | _ => rfl
theorem in_okV (k : Option Str) (x y : Str) : inV (okV k) [.str x, .str y] = decide (k = some x ∨ k = some y) := by
  cases k with
  | none => rfl
  | some z =>
    show (x == z || (y == z || false)) = decide (some z = some x ∨ some z = some y)
    rw [Bool.or_false]
    by_cases h : x = z
    · rw [h, decide_eq_true (Or.inl rfl)]; simp
    · by_cases h2 : y = z
      · rw [h2, decide_eq_true (Or.inr rfl)]; simp
      · rw [beq_eq_false_iff_ne.mpr h, beq_eq_false_iff_ne.mpr h2, decide_eq_false (by rintro (q | q); exact h (Option.some.inj q).symm; exact h2 (Option.some.inj q).symm)]; rfl
theorem rd_names {K : PySem.W.Frag} {D : Ends} {σ : L2.St} {H : Hp} {S : List Str} {e : Ex} {k : Option Str} {t p : Addr} (hg : Good S e) (hv : AtE H (.ref t) e) (h0 : σ[0]? = some (some (.ref t))) (h1 : σ[1]? = some (some (okV k))) (h2 : σ[2]? = some (some (.str e.word))) (h4 : σ[4]? = some (some (.ref p)))
    (hp : H p = some (.lst (List.replicate e.kids.length (okV k)))) (q : ∀ H', Stp [p] H H' → H' p = some (.lst ((e.ks k).map okV)) → D.nx σ H') :
    tIfS (tOr (tAnd (tTest (tOp (rIn K false) (tVar 2) (tTup (tCons (tC (V.str ("let"))) (tCons (tC (V.str ("fun"))) tNil))))) (tTest (tOp rEq (tOp (rIxT K) (tVar 0) (tC (V.int 1))) (tVar 1)))) (tAnd (tTest (tOp rEq (tVar 2) (tC (V.str ("catch"))))) (tTest (tOp (rIn K false) (tVar 1) (tSl (rSlT K) (tVar 0) (tPart (tC (V.int 2))) (tPart (tC (V.int 4)))))))) (tAsg (tC V.non) (gSub (tVar 4) (tUn (rU fun i => V.int (-i)) (tC (V.int 1))) rSetL)) tNext D σ H := by
  refine ⟨_, h2, (by show 2 ≤ sizeLine; decide), fun p1 np1 => ⟨p1, _, rfl, .inr (SqT.of upd_same), rfl, rfl, _, rfl, ?_⟩⟩
  have st1 : Stp [p] H (upd H p1 (.tup [V.str "let", V.str "fun"])) := .new np1 _
  have hp1 := Same.new np1 (.tup [V.str "let", V.str "fun"]) _ _ hp
  have hv1 := hv.same (Same.new np1 (.tup [V.str "let", V.str "fun"]))
  generalize upd H p1 (.tup [V.str "let", V.str "fun"]) = H1 at st1 hp1 hv1 ⊢
  refine ite2 (fun hc => ?_) (fun hc => ?_)
  · rcases word_lf hg hc with ⟨x, a, b, rfl⟩ | ⟨x, a, rfl⟩
    · obtain ⟨t2, v1, v2, e2, hx, _⟩ := hv1
      cases e2
      refine ⟨_, h0, t, _, _, .str x, rfl, rfl, SqT.of hx, atI_nat (j := 1) rfl, _, h1, scal_okV x k, _, rfl, ?_⟩
      rw [dec_okV]
      refine ite2 (fun hd => ?_) (fun hd => ?_)
      · have hk := of_decide_eq_true hd
        subst hk
        refine iteT ?_
        refine ⟨_, h4, 1, rfl, p, _, -1, 1, rfl, rfl, hp1, rfl, ?_⟩
        refine q _ (st1.trans (.put List.mem_cons_self (fun xs h => by rw [hp1] at h; cases h) _)) ?_
        rw [upd_same]
        show some (HO.lst [okV (some x), V.non]) = some (HO.lst [okV (some x), okV (hid (some x) x)])
        rw [hid, if_pos rfl]; rfl
      · refine ⟨_, h2, rfl, _, rfl, ?_⟩
        refine iteF ?_
        refine iteF ?_
        refine q _ st1 ?_
        rw [hp1]
        show some (HO.lst [okV k, okV k]) = some (HO.lst [okV k, okV (hid k x)])
        rw [hid, if_neg (of_decide_eq_false (by simpa using hd))]
    · obtain ⟨t2, v1, e2, hx, _⟩ := hv1
      cases e2
      refine ⟨_, h0, t, _, _, .str x, rfl, rfl, SqT.of hx, atI_nat (j := 1) rfl, _, h1, scal_okV x k, _, rfl, ?_⟩
      rw [dec_okV]
      refine ite2 (fun hd => ?_) (fun hd => ?_)
      · have hk := of_decide_eq_true hd
        subst hk
        refine iteT ?_
        refine ⟨_, h4, 1, rfl, p, _, -1, 0, rfl, rfl, hp1, rfl, ?_⟩
        refine q _ (st1.trans (.put List.mem_cons_self (fun xs h => by rw [hp1] at h; cases h) _)) ?_
        rw [upd_same]
        show some (HO.lst [V.non]) = some (HO.lst [okV (hid (some x) x)])
        rw [hid, if_pos rfl]; rfl
      · refine ⟨_, h2, rfl, _, rfl, ?_⟩
        refine iteF ?_
        refine iteF ?_
        refine q _ st1 ?_
        rw [hp1]
        show some (HO.lst [okV k]) = some (HO.lst [okV (hid k x)])
        rw [hid, if_neg (of_decide_eq_false (by simpa using hd))]
  · refine iteF ?_
    refine ⟨_, h2, rfl, _, rfl, ?_⟩
    rw [word_ct hg]
    refine ite2 (fun hd => ?_) (fun hd => ?_)
    · cases e with
      | ct a x k' b =>
        obtain ⟨t2, v1, v2, e2, hx, _⟩ := hv1
        cases e2
        refine ⟨_, h1, _, h0, 2, rfl, 4, rfl, t, _, rfl, SqT.of hx, (by show ¬ ((2 : Nat) = 0 ∧ _); exact fun h => by cases h.1), fun p2 np2 => ?_⟩
        have st2 := st1.trans (Stp.new (D := [p]) np2 (.tup [V.str x, V.str k']))
        have hp2 := Same.new np2 (.tup [V.str x, V.str k']) _ _ hp1
        refine ⟨p2, [V.str x, V.str k'], rfl, .inr (SqT.of upd_same), flat_okV k, rfl, _, rfl, ?_⟩
        show (if (inV (okV k) [V.str x, V.str k']) = true then _ else _)
        rw [in_okV]
        refine ite2 (fun hd => ?_) (fun hd => ?_)
        · have hk := of_decide_eq_true hd
          refine ⟨_, h4, 1, rfl, p, _, -1, 1, rfl, rfl, hp2, rfl, ?_⟩
          refine q _ (st2.trans (.put List.mem_cons_self (fun xs h => by rw [hp2] at h; cases h) _)) ?_
          rw [upd_same]
          show some (HO.lst [okV k, V.non]) = some (HO.lst [okV k, okV (hid (hid k x) k')])
          have : hid (hid k x) k' = none := by
            rcases hk with hk | hk
            · simp [hid, hk]
            · subst hk
              unfold hid
              by_cases c : some k' = some x
              · rw [if_pos c]; rfl
              · rw [if_neg c, if_pos rfl]
          rw [this]; rfl
        · refine q _ st2 ?_
          refine hp2.trans ?_
          show some (HO.lst [okV k, okV k]) = some (HO.lst [okV k, okV (hid (hid k x) k')])
          have hd := of_decide_eq_false (by simpa only [Bool.not_eq_true] using hd)
          have e1 : hid k x = k := if_neg fun h => hd (.inl h)
          have e2 : hid k k' = k := if_neg fun h => hd (.inr h)
          rw [e1, e2]
      | _ => cases hd
    · refine iteF ?_
      refine q _ st1 ?_
      rw [word_nlf hg (by simpa using hc) hd]
      exact hp1
end Wr
namespace Wr
open PySem PySem.Spec PyProof.Rows L2
theorem Stp.drop1 {p : Addr} {H H' : Hp} {o : HO} (s : Stp [p] (upd H p o) H') (n : H p = none) : Same H H' := fun b x hb =>
  s.keep b x (fun h => by rw [List.mem_singleton.mp h, n] at hb; cases hb) (Same.new n o b x hb)
theorem PapL.same {H H' : Hp} (s : Same H H') {vs : List V} {es : List Ex} {ks : List (Option Str)} (h : PapL H vs es ks) : PapL H' vs es ks := h.tups fun t xs e => s _ _ e
theorem PapL.snoc {H : Hp} : ∀ {vs : List V} {es : List Ex} {ks : List (Option Str)} {v : V} {e : Ex} {k : Option Str}, PapL H vs es ks → PapAt H v e k → PapL H (vs ++ [v]) (es ++ [e]) (ks ++ [k])
  | _, _, _, _, _, _, .nil, g => .cons g .nil
  | _, _, _, _, _, _, .cons a t, g => .cons a (t.snoc g)
theorem PapL.length {H : Hp} : ∀ {vs : List V} {es : List Ex} {ks : List (Option Str)}, PapL H vs es ks → vs.length = es.length ∧ vs.length = ks.length
  | _, _, _, .nil => ⟨rfl, rfl⟩
  | _, _, _, .cons _ t => by obtain ⟨a, b⟩ := t.length; simp [a, ← b]
/-- the words of the papers of the parts within -/
def Ex.ws (e : Ex) (k : Option Str) : List (Option Wd) := List.zipWith Ex.wd e.kids (e.ks k)
theorem PapL.at_ {H : Hp} : ∀ {vs : List V} {es : List Ex} {ks : List (Option Str)} {i : Nat} {v : V}, PapL H vs es ks → vs[i]? = some v → ∃ e k, (List.zipWith Ex.wd es ks)[i]? = some (e.wd k) ∧ PapAt H v e k
  | _, _, _, _, _, .nil, h => by simp at h
  | _, _, _, 0, _, .cons (e := e) (k := k) a t, h => by cases h; exact ⟨e, k, rfl, a⟩
  | _, _, _, i + 1, _, .cons a t, h => t.at_ (i := i) h
theorem Ex.ks_len (e : Ex) (k : Option Str) : (e.ks k).length = e.kids.length := by cases e <;> rfl
theorem Ex.ws_len (e : Ex) (k : Option Str) : (e.ws k).length = e.kids.length := by cases e <;> rfl
theorem Ex.kids_len (e : Ex) : e.kids.length ≤ 3 := by cases e <;> simp [Ex.kids]
theorem take_snoc {α : Type} {l : List α} {i : Nat} {x : α} (h : l[i]? = some x) : l.take (i + 1) = l.take i ++ [x] := by rw [List.take_add_one, h]; rfl
theorem tYes_if {σ : L2.St} {H : Hp} {F G : Hp → Prop} (h : F H) : tYes σ H fun b H3 => if b = true then F H3 else G H3 := by
  show (if true = true then F H else G H)
  rw [if_pos rfl]
  exact h
theorem hid_lets {k : Option Str} (hk : ∀ x, k = some x → x ∈ letters) (y : Str) : ∀ x, hid k y = some x → x ∈ letters := fun x h => by
  unfold hid at h
  by_cases c : k = some y
  · rw [if_pos c] at h; cases h
  · rw [if_neg c] at h; exact hk x h
theorem ks_lets {k : Option Str} (hk : ∀ x, k = some x → x ∈ letters) {e : Ex} {j : Option Str} (h : j ∈ e.ks k) : ∀ x, j = some x → x ∈ letters := by
  cases e <;> simp only [Ex.ks, List.mem_cons, List.not_mem_nil, or_false, or_self] at h
  · subst h; exact hk
  · subst h; exact hk
  · subst h; exact hk
  · rcases h with rfl | rfl
    · exact hk
    · exact hid_lets hk _
  · subst h; exact hid_lets hk _
  · rcases h with rfl | rfl
    · exact hk
    · exact hid_lets (hid_lets hk _) _
end Wr
namespace Wr
open PySem PySem.Spec PyProof.Rows L2
/-- zip of a text and a tuple -/
def ItzS (K : PySem.W.Frag) (z : Str) (b : Addr) (n : Nat) : It :=
  ⟨fun i H => ∃ (ys : List V) (c : Nat) (y : V), SqT K H b ys ∧ ys.length = n ∧ z.cps[i]? = some c ∧ ys[i]? = some y,
    fun i H v H' => ∃ (T : Addr) (c : Nat) (y : V), v = .ref T ∧ H T = none ∧ H' = upd H T (.tup [.str ⟨#[c]⟩, y]) ∧ z.cps[i]? = some c ∧ ∀ ys, SqT K H b ys → ys[i]? = some y,
    fun i H => ∃ ys : List V, SqT K H b ys ∧ ys.length = n ∧ (z.cps.size ≤ i ∨ ys.length ≤ i)⟩
theorem turn_zipS {P : Program} {w : World} {K : PySem.W.Frag} {elts : List Expr} {kk : Nat} {tpos : Pos} {b z TI TO i1 i2 : Addr} {n : Nat} {x : Str} {t : Tok} (S : ZipSep2 z TI TO i1 i2 [i1] [i2, b]) :
    Turn P w K (.Tuple elts kk tpos) (ItzS K x b n) [z, TI, TO, i1, i2] z (fun i h => (i ≤ x.cps.size ∧ i ≤ n) ∧ IsZip h z TI TO .none ∧ IsTupOf2 h TI (.ref i1) (.ref i2) ∧ (∃ a1 a2, IsTupOf2 h TO a1 a2) ∧ h.IsStrIter i1 (strIterType x) x t i ∧ h.IsTupleIter i2 b i) where
  mem := by simp
  obj := fun i h st c hc => by
    obtain ⟨_, hz, hTI, ⟨x, y, hTO⟩, ⟨o1, e1, d1⟩, ⟨o2, e2, _, d2⟩⟩ := st
    have e' : c = z ∨ c = TI ∨ c = TO ∨ c = i1 ∨ c = i2 := by simpa using hc
    rcases e' with q | q | q | q | q
    · rw [q]; exact ⟨_, hz, fun v q => nomatch q⟩
    · rw [q]; exact ⟨_, hTI, fun v q => nomatch q⟩
    · rw [q]; exact ⟨_, hTO, fun v q => nomatch q⟩
    · rw [q]; exact ⟨o1, e1, fun v q => by rw [d1.2] at q; cases q⟩
    · rw [q]; exact ⟨o2, e2, fun v q => by rw [d2] at q; cases q⟩
  keep := fun i h h' st k => by
    obtain ⟨hi, hz, hTI, ⟨x, y, hTO⟩, ⟨o1, e1, d1⟩, h2⟩ := st
    exact ⟨hi, k z (by simp) _ hz, k TI (by simp) _ hTI, ⟨x, y, k TO (by simp) _ hTO⟩, ⟨o1, k i1 (by simp) _ e1, d1⟩, h2.at fun o q => k i2 (by simp) o q⟩
  item := by
    intro X hP hw hK hc i pins s σ H E I hf st hg
    subst hP hw hK
    obtain ⟨hi, hz, hTI, ⟨x0, y0, hTO⟩, h1, h2⟩ := st
    obtain ⟨ys, c, y, hqy, hyn, hx, hy⟩ := hg
    obtain ⟨its2, rv2, p2, _⟩ := I.tuple hqy
    obtain ⟨u2, hu2, ru2⟩ := rv2.get hy
    have hzl : z < s.heap.objs.size := Heap.lt_size hz
    have hin : i < x.cps.size := by
      rcases Nat.lt_or_ge i x.cps.size with h | h
      · exact h
      · rw [Array.getElem?_eq_none h] at hx; cases hx
    have hne : b ≠ i2 := fun e => by
      obtain ⟨o2, e2, c2, _⟩ := h2
      obtain ⟨o3, e3, c3, _⟩ := id p2
      rw [e, e2] at e3
      cases e3
      have q := c2.symm.trans c3
      injection q with q
      exact absurd q (by decide)
    have hi2 : i < its2.toArray.size := by
      rw [List.size_toArray, ← rv2.length]
      exact (List.getElem?_eq_some_iff.mp hy).1
    have D1 := Draws.text (prog := X.prog) (w := X.w) (A := X.A.in1) (I.ok.hd hc) i1 x t
    have D2 := Draws.tuple (prog := X.prog) (w := X.w) (A := X.A.in1) (I.ok.hd hc) i2 b hne its2.toArray
    refine wpAny_pyNext_zipD2_item (i := i) S D1 D2 hz hTI hTO h1 ⟨h2, p2⟩ hin hi2 fun x1 x2 h' tk ⟨c', u, hc', ex1⟩ ex2 z' TO' h1' h2' hT hsz hk => ?_
    refine ⟨_, rfl, wpAny_letOwnedTupleGo_zip (s := { s with heap := h', toks := tk }) z' fun h'' z'' sb => ?_⟩
    have hT2 : h''.get? s.heap.objs.size = some { cls := .type "tuple", data := .seq #[x1, x2] } := (sb.2 _ (Nat.ne_of_gt hzl)).trans hT
    have ecc : c' = c := by rw [hx] at hc'; exact (Option.some.inj hc').symm
    subst ecc
    have e2 : x2 = u2 := by
      have := hu2
      have z : its2.toArray[i]? = some u2 := by simpa using hu2
      rw [z] at ex2
      exact (Option.some.inj ex2).symm
    subst ex1 e2
    have new : ObjOk X.prog X.w (upd H s.heap.objs.size (.tup [.str ⟨#[c']⟩, y])) h'' s.heap.objs.size (.tup [.str ⟨#[c']⟩, y]) :=
      ⟨by show 2 ≤ sizeLine; decide, [.str ⟨#[c']⟩ u, x2], .cons ⟨u, rfl⟩ (.cons ru2 .nil), ⟨_, hT2, rfl, _, rfl⟩⟩
    have I1 : Inv X pins σ (upd H s.heap.objs.size (.tup [.str ⟨#[c']⟩, y])) { s with heap := h'', toks := tk } :=
      I.turnedNew (t' := tk) (ch := [z, TI, TO, i1, i2]) (fun c o hb q => (sb.2 c (fun q' => hb (by simp [q']))).trans (hk c o (fun q' => hb (by simp [q'])) (fun q' => hb (by simp [q'])) (fun q' => hb (by simp [q'])) (fun q' => hb (by simp [q'])) q)) hf (Nat.le_refl _) new
    refine ⟨.ref s.heap.objs.size, _, I1, rfl, ⟨_, c', y, rfl, I.hok.fresh (Nat.le_refl _), rfl, hx, fun l hl => by rw [I.tuple_inj hl hqy]; exact hy⟩, ⟨⟨hin, by rw [← hyn]; exact (List.getElem?_eq_some_iff.mp hy).1⟩, z'', ?_, ⟨.str ⟨#[c']⟩ u, x2, ?_⟩, ?_, ?_⟩, fun c hcm => ?_⟩
    · exact (sb.2 _ S.TIz).trans (hk _ _ S.TIz S.TITO S.TIi1 S.TIi2 hTI)
    · exact (sb.2 _ S.TOz).trans TO'
    · obtain ⟨o1, e1, d1⟩ := h1'
      exact ⟨o1, (sb.2 _ (Ne.symm S.zi1)).trans e1, d1⟩
    · exact h2'.1.at fun o q => (sb.2 _ (Ne.symm S.zi2)).trans q
    · have hlt : c < s.heap.objs.size := by
        have e' : c = z ∨ c = TI ∨ c = TO ∨ c = i1 ∨ c = i2 := by simpa using hcm
        rcases e' with q | q | q | q | q
        · rw [q]; exact hzl
        · rw [q]; exact Heap.lt_size hTI
        · rw [q]; exact Heap.lt_size hTO
        · rw [q]; obtain ⟨_, e1, _⟩ := h1; exact Heap.lt_size e1
        · rw [q]; obtain ⟨_, e2, _⟩ := h2; exact Heap.lt_size e2
      rw [upd_ne (Nat.ne_of_lt hlt)]
      exact (hf c hcm).1
  done := by
    intro X hP hw hK hc i pins s σ H E I hf st hg
    subst hP hw hK
    obtain ⟨hi, hz, hTI, ⟨x0, y0, hTO⟩, h1, h2⟩ := st
    obtain ⟨ys, hqy, hyn, hend⟩ := hg
    obtain ⟨its2, rv2, p2, _⟩ := I.tuple hqy
    have l2 := rv2.length
    have hne : b ≠ i2 := fun e => by
      obtain ⟨o2, e2, c2, _⟩ := h2
      obtain ⟨o3, e3, c3, _⟩ := id p2
      rw [e, e2] at e3
      cases e3
      have q := c2.symm.trans c3
      injection q with q
      exact absurd q (by decide)
    have D1 := Draws.text (prog := X.prog) (w := X.w) (A := X.A.in1) (I.ok.hd hc) i1 x t
    have D2 := Draws.tuple (prog := X.prog) (w := X.w) (A := X.A.in1) (I.ok.hd hc) i2 b hne its2.toArray
    have hj : i ≤ its2.toArray.size := by
      rw [List.size_toArray, ← l2, hyn]
      exact hi.2
    have e2 : its2.toArray.size = ys.length := by
      rw [List.size_toArray]
      exact l2.symm
    have he : i = x.cps.size ∨ i = its2.toArray.size := by
      rcases hend with q | q
      · exact .inl (Nat.le_antisymm hi.1 q)
      · exact .inr (by rw [e2]; exact Nat.le_antisymm (by rw [hyn]; exact hi.2) q)
    exact wpAny_pyNext_zipD2_end (i := i) S D1 D2 hz hTI hTO h1 ⟨h2, p2⟩ hi.1 hj he fun h' tk hk => ⟨rfl, I.turnedL (t' := tk) (ch := [z, TI, TO, i1, i2]) (fun c o hb q =>
      hk c o (fun q' => hb (by simp [q'])) (fun q' => hb (by simp [q'])) (fun q' => hb (by simp [q'])) (fun q' => hb (by simp [q'])) q) hf⟩
  self := fun A i s Q E st h => wpAny_pyIter_zip st.2.1 h
def iZipS (K : PySem.W.Frag) (ta : TA) : TI := fun σ H R => ta σ H fun vs H1 => ∃ (x : Str) (b : Addr) (ys : List V), vs = [.str x, .ref b] ∧ SqT K H1 b ys ∧ R (ItzS K x b ys.length) H1
theorem pi_zipS {X : Cx} {e e2 : Expr} {ta : TA} {p pos tpos : Pos} {elts : List Expr} {kk : Nat} (hg : Gl X "zip") (hm : X.mg "zip" = none) (ha : PA X [e, e2] ta)
    (hs : starEach [e, e2] X.env = (false, eval e X.env) :: starEach [e2] X.env := by rfl) (hpl : (backTo pos (starEach [e2] X.env)).any (·.1) = false := by rfl) :
    PI X (.Tuple elts kk tpos) (.Call (.Name "zip" p) [e, e2] [] pos) (iZipS X.K ta) := by
  refine ⟨fun pins s σ H R I h => ?_⟩
  refine Call_ (ld_blt I hg hm PyProof.Rows.boot_zip (PyProof.Rows.callWith_type1 (thn (ha.run pos pins s σ H _ I h) fun us s1 ⟨vs, H1, I1, r1, q1⟩ => ?_) hs hpl))
  obtain ⟨x, b, ys, ex, hqy, q⟩ := q1
  subst ex
  obtain ⟨u, w', eu, ⟨t, ru⟩, rw'⟩ := vals2 r1
  subst eu ru
  cases rw'
  obtain ⟨its2, rv2, p2, _⟩ := I1.tuple hqy
  obtain ⟨o2, ho2, _⟩ := id p2
  have hb : b < s1.heap.objs.size := Heap.lt_size ho2
  refine zip_begins2 (begins_text x t) (begins_tuple b its2.toArray) trivial (show s1.heap.IsTuple b its2.toArray from p2) fun h' hz hTI hTO h1 h2 hsz hk => wpAny_pyIter_zip hz ?_
  have I2 : Inv X pins σ H1 { s1 with heap := h' } := I1.kept (t' := s1.toks) hk
  have S := zip_sep2 (N := s1.heap.objs.size) (fp1 := []) (fp2 := [b]) (by simp) (fun c hc => by rw [List.mem_singleton.mp hc]; exact hb)
  refine ⟨s1.heap.objs.size + 4, [s1.heap.objs.size + 4, s1.heap.objs.size + 2, s1.heap.objs.size + 3, s1.heap.objs.size, s1.heap.objs.size + 1], _, _, H1, rfl, I2, turn_zipS (n := ys.length) (x := x) (t := t) S, ⟨⟨Nat.zero_le _, Nat.zero_le _⟩, hz, hTI, ⟨_, _, hTO⟩, ⟨_, h1, rfl, rfl⟩, ⟨_, h2, rfl, rfl⟩⟩, fun c hcm => ?_, q⟩
  have e' : c = s1.heap.objs.size + 4 ∨ c = s1.heap.objs.size + 2 ∨ c = s1.heap.objs.size + 3 ∨ c = s1.heap.objs.size ∨ c = s1.heap.objs.size + 1 := by simpa using hcm
  have hle : s1.heap.objs.size ≤ c := by
    rcases e' with z | z | z | z | z
    · rw [z]; exact Nat.le_add_right _ _
    · rw [z]; exact Nat.le_add_right _ _
    · rw [z]; exact Nat.le_add_right _ _
    · rw [z]; exact Nat.le_refl _
    · rw [z]; exact Nat.le_add_right _ _
  exact I1.fpOk hle (I1.hok.fresh hle)
/-- a comprehension over zip of a text and a tuple of one length -/
theorem lc_zipS {K : PySem.W.Frag} {x : Str} {b : Addr} {ys : List V} {g : TG} {tt : TT} {te : TE} {vs : List Nat} {σ : L2.St} {H1 : Hp} {D : Addr} {Qd : Hp → Prop} (hl : x.cps.size = ys.length) (Pv : Nat → Hp → Prop) (h0 : Pv 0 (upd H1 D (.lst []))) (hq : ∀ i H, i ≤ ys.length → Pv i H → SqT K H b ys)
    (hs : ∀ i c y T H, x.cps[i]? = some c → ys[i]? = some y → Pv i H → H T = none → g (.ref T) (wipe σ vs) (upd H T (.tup [.str ⟨#[c]⟩, y])) fun σ2 H2 => wipe σ2 vs = wipe σ vs ∧ tt σ2 H2 fun b H3 =>
      if b = true then te σ2 H3 fun y H4 => ∃ acc, H4 D = some (.lst acc) ∧ acc.length < sizeLine ∧ Pv (i + 1) (upd H4 D (.lst (acc ++ [y]))) else Pv (i + 1) H3) (hd : ∀ H, Pv ys.length H → Qd H) :
    ∃ W : Nat → Nat → Hp → Prop, (∃ m, W 0 m (upd H1 D (.lst []))) ∧ ∀ i m H, W i m H →
      ((ItzS K x b ys.length).stop i H ∧ Qd H) ∨ ((ItzS K x b ys.length).go i H ∧ ∃ Nx : Hp → Prop, (∀ H', Nx H' → ∃ m', m' < m ∧ W (i + 1) m' H') ∧ ∀ v H', (ItzS K x b ys.length).yld i H v H' → g v (wipe σ vs) H' fun σ2 H2 => wipe σ2 vs = wipe σ vs ∧ tt σ2 H2 fun b H3 =>
        if b = true then te σ2 H3 fun y H4 => ∃ acc, H4 D = some (.lst acc) ∧ acc.length < sizeLine ∧ Nx (upd H4 D (.lst (acc ++ [y]))) else Nx H3) := by
  refine ⟨fun i m H => m = ys.length - i ∧ i ≤ ys.length ∧ Pv i H, ⟨ys.length, by simp, Nat.zero_le _, h0⟩, ?_⟩
  rintro i m H ⟨rfl, hi, p⟩
  have q := hq i H hi p
  by_cases hlt : i < ys.length
  · have hy : ys[i]? = some ys[i] := List.getElem?_eq_getElem hlt
    have hx : x.cps[i]? = some (x.cps[i]'(by omega)) := Array.getElem?_eq_getElem (by omega)
    refine .inr ⟨⟨ys, _, _, q, rfl, hx, hy⟩, Pv (i + 1), fun H' p' => ⟨ys.length - (i + 1), by omega, rfl, hlt, p'⟩, fun v H' yl => ?_⟩
    obtain ⟨T, c, y, rfl, hT, rfl, f1, f2⟩ := yl
    exact hs i c y T H f1 (f2 ys q) p hT
  · have e : i = ys.length := by omega
    subst e
    exact .inl ⟨⟨ys, q, rfl, .inr (Nat.le_refl _)⟩, hd H p⟩
end Wr
namespace Wr
open PySem PySem.Spec PyProof.Rows L2
/-- what stands behind a part's word: n, x, e -/
def Ex.shape : Ex → Str
  | .num _ => "n"
  | .name _ => "x"
  | .fault => ""
  | .one _ _ => "e"
  | .two _ _ _ => "ee"
  | .ite _ _ _ => "eee"
  | .lt _ _ _ => "xee"
  | .fn _ _ => "xe"
  | .ct _ _ _ _ => "exxe"
def stand (p : Str) : List Nat → List V → List V
  | c :: cs, x :: xs => if (⟨#[c]⟩ : Str) = p then x :: stand p cs xs else stand p cs xs
  | _, _ => []
theorem stand_snoc (p : Str) : ∀ (cs : List Nat) (xs : List V) (c : Nat) (x : V), cs.length = xs.length → stand p (cs ++ [c]) (xs ++ [x]) = stand p cs xs ++ (if (⟨#[c]⟩ : Str) = p then [x] else [])
  | [], [], c, x, _ => by simp only [List.nil_append, stand]
  | c0 :: cs, x0 :: xs, c, x, h => by
    simp only [List.cons_append, stand]
    rw [stand_snoc p cs xs c x (by simpa using h)]
    split <;> rfl
  | [], _ :: _, _, _, h => by simp at h
  | _ :: _, [], _, _, h => by simp at h
theorem stand_len (p : Str) : ∀ (cs : List Nat) (xs : List V), (stand p cs xs).length ≤ xs.length
  | [], _ => by simp [stand]
  | _ :: _, [] => by simp [stand]
  | c :: cs, x :: xs => by
    have := stand_len p cs xs
    simp only [stand]
    split <;> simp only [List.length_cons] <;> omega
/-- the items behind the word are as many as the shape asks for -/
theorem shape_len {H : Hp} {t : Addr} {e : Ex} {w : Str} {xs : List V} (h : AtE H (.ref t) e) (ht : H t = some (.tup (.str w :: xs))) : e.shape.cps.size = xs.length := by
  cases e with
  | num n => obtain ⟨_, e, h⟩ := h; cases e; rw [h] at ht; cases ht; show ("n" : Str).cps.size = 1; decide +kernel
  | name n => obtain ⟨_, e, h⟩ := h; cases e; rw [h] at ht; cases ht; show ("x" : Str).cps.size = 1; decide +kernel
  | fault => obtain ⟨_, e, h⟩ := h; cases e; rw [h] at ht; cases ht; decide +kernel
  | one w a => obtain ⟨_, _, e, h, _⟩ := h; cases e; rw [h] at ht; cases ht; show ("e" : Str).cps.size = 1; decide +kernel
  | two w a b => obtain ⟨_, _, _, e, h, _⟩ := h; cases e; rw [h] at ht; cases ht; show ("ee" : Str).cps.size = 2; decide +kernel
  | ite a b c => obtain ⟨_, _, _, _, e, h, _⟩ := h; cases e; rw [h] at ht; cases ht; show ("eee" : Str).cps.size = 3; decide +kernel
  | lt n a b => obtain ⟨_, _, _, e, h, _⟩ := h; cases e; rw [h] at ht; cases ht; show ("xee" : Str).cps.size = 3; decide +kernel
  | fn n a => obtain ⟨_, _, e, h, _⟩ := h; cases e; rw [h] at ht; cases ht; show ("xe" : Str).cps.size = 2; decide +kernel
  | ct a n k b => obtain ⟨_, _, _, e, h, _⟩ := h; cases e; rw [h] at ht; cases ht; show ("exxe" : Str).cps.size = 4; decide +kernel
section
variable {P : Program} {w : World} {K : PySem.W.Frag} {mg : Str → Option Value} {base : Heap}
/-- the table of shapes stands at sa -/
def ShapesAt (K : PySem.W.Frag) (w : World) (sa : Addr) : Prop := ∀ (S : List Str) (e : Ex), Good S e → KDct K w sa e.word (.str e.shape)
def spStanding : Sp := fun vs H Q _ => ∃ (t : Addr) (e : Ex) (S : List Str) (xs : List V) (p : Str), vs = [.ref t, .str p] ∧ AtE H (.ref t) e ∧ Good S e ∧ H t = some (.tup (.str e.word :: xs)) ∧ xs.length ≤ 4 ∧
  ∀ (l : Addr) (H' : Hp), Same H H' → H l = none → H' l = some (.lst (stand p e.shape.cps.toList xs)) → Q (.ref l) H'
theorem scStanding : FnScope ["thing", "place", "kind", "held"] ["thing", "place"] (defScope s_standing) := ⟨rfl, rfl, rfl, by decide +kernel, rfl, by decide +kernel, by decide +kernel⟩
theorem ok_standing {sa : Addr} (hSh : ShapesAt K w sa) (hmg : mg "SHAPES" = some (.ref sa)) (F : Df K mg "standing" s_standing) (zip : mg "zip" = none) : Use P w K mg base "standing" ["thing", "place"] 1 spStanding := by
  refine F.use scStanding (fun _ _ _ _ _ _ us hl => match us, hl with | [_, _], _ => rfl) (fun vs H Q E h => ?_) (fun cdv f A outer s H vs Q E hr h => ?_)
  · obtain ⟨t, e, S, xs, p, rfl, _⟩ := h
    rfl
  · obtain ⟨t, e, S, xs, p, rfl, hv, hg, ht, h4, q⟩ := h
    refine ⟨_, pss_one (ps_ret (pe_lc (own := [("kind", 2), ("held", 3)]) (g := gTup K 2 (gCons (gName 2) (gCons (gName 3) gNil))) (by rfl) scStanding.nd
      (pi_zipS (by rfl) zip (pa_cons (pe_ix ix_kdict (pe_glob (v := .ref sa) (by rfl) hmg rfl) (pe_ix ix_tup (pv 0) pe_int (fun _ _ => rfl)) (fun _ _ => rfl)) (pa_cons (pe_slice sl_tup (pv 0) (po_some pe_int) po_none) pa_nil)))
      (blkOk_by (own := [("kind", 2), ("held", 3)]) (N := ["thing", "place", "kind", "held"]) (sc := defScope s_standing) (by decide +kernel))
      (fun _ _ _ _ _ => pg_tup rfl (pgs_cons (pg_name (i := 2) scStanding.nd rfl (Or.inl rfl)) (pgs_cons (pg_name (i := 3) scStanding.nd rfl (Or.inl rfl)) pgs_nil)))
      (fun _ _ _ _ _ => pts_one (pt_cmpR op_eq (pv 2) (pv 1) (nomark _))) (fun _ _ _ _ _ => pv 3))), ?_⟩
    refine ⟨_, rfl, t, _, _, .str e.word, rfl, rfl, SqT.of ht, atI_nat (j := 0) rfl, sa, e.word, .str e.shape, rfl, rfl, hSh S e hg, _, rfl, 1, rfl, t, _, rfl, SqT.of ht, cut1_no _ _ _, fun p2 np2 => ?_⟩
    rw [cut1]
    have sm1 := Same.new np2 (.tup xs)
    have hp2 : upd H p2 (.tup xs) p2 = some (.tup xs) := upd_same
    generalize upd H p2 (.tup xs) = H1 at sm1 hp2 ⊢
    refine ⟨e.shape, p2, xs, rfl, SqT.of hp2, fun D nD => ?_⟩
    have hsz := shape_len hv ht
    have hlen : e.shape.cps.toList.length = xs.length := by rw [Array.length_toList]; exact hsz
    refine lc_zipS (K := K) (x := e.shape) (b := p2) (ys := xs) hsz (fun i H2 => Same H1 H2 ∧ i ≤ xs.length ∧ H2 D = some (.lst (stand p (e.shape.cps.toList.take i) (xs.take i)))) ⟨Same.new nD _, Nat.zero_le _, upd_same⟩ (fun i H2 _ h => SqT.of (h.1 _ _ hp2)) ?_ ?_
    · rintro i c y T H2 hc hy ⟨sm, hi, hD⟩ nT
      have hi2 : i < xs.length := (List.getElem?_eq_some_iff.mp hy).1
      have hc' : e.shape.cps.toList[i]? = some c := by rw [Array.getElem?_toList]; exact hc
      have hsn : stand p (e.shape.cps.toList.take (i + 1)) (xs.take (i + 1)) = stand p (e.shape.cps.toList.take i) (xs.take i) ++ (if (⟨#[c]⟩ : Str) = p then [y] else []) := by
        rw [take_snoc hc', take_snoc hy]
        exact stand_snoc _ _ _ _ _ (by rw [List.length_take, List.length_take, hlen])
      refine ⟨T, _, rfl, SqT.of upd_same, rfl, _, _, rfl, _, _, rfl, rfl, rfl, ?_⟩
      refine ⟨_, rfl, _, rfl, rfl, _, rfl, ?_⟩
      have smT := Same.new nT (.tup [.str ⟨#[c]⟩, y])
      refine ite2 (fun h => ?_) (fun h => ?_)
      · have h := V.str.inj (of_decide_eq_true h)
        refine ⟨_, rfl, _, smT _ _ hD, ?_, ?_, hi2, ?_⟩
        · refine Nat.lt_of_le_of_lt (stand_len _ _ _) ?_
          rw [List.length_take]
          have : (5 : Nat) < sizeLine := by decide
          omega
        · exact fun b o hb => by
            rw [upd_ne (fun z => by rw [z, nD] at hb; cases hb)]
            exact smT _ _ (sm _ _ hb)
        · rw [upd_same, hsn, if_pos h]
      · refine ⟨sm.trans smT, hi2, ?_⟩
        rw [hsn, if_neg (fun z => h (decide_eq_true (congrArg V.str z))), List.append_nil]
        exact smT _ _ hD
    · rintro H2 ⟨sm, _, hD⟩
      rw [List.take_of_length_le (by omega), List.take_of_length_le (Nat.le_refl _)] at hD
      exact q D H2 (sm1.trans sm) (sm1.free nD) hD
end
end Wr
namespace Wr
open PySem PySem.Spec PyProof.Rows L2
/-- a text of one sign for a kind of place, and what stands there -/
def FitsV (c : Nat) (y : V) : Prop := ((⟨#[c]⟩ : Str) = "n" ∧ ∃ i, y = .int i) ∨ ((⟨#[c]⟩ : Str) = "x" ∧ ∃ s, y = .str s) ∨ (⟨#[c]⟩ : Str) = "e"
theorem fit_n (i : Int) : FitsV 110 (.int i) := .inl ⟨by decide +kernel, i, rfl⟩
theorem fit_x (s : Str) : FitsV 120 (.str s) := .inr (.inl ⟨by decide +kernel, s, rfl⟩)
theorem fit_e (y : V) : FitsV 101 y := .inr (.inr (by decide +kernel))
theorem sh_n : ("n" : Str).cps = #[110] ∧ ("x" : Str).cps = #[120] ∧ ("" : Str).cps = #[] ∧ ("e" : Str).cps = #[101] ∧ ("ee" : Str).cps = #[101, 101] ∧ ("eee" : Str).cps = #[101, 101, 101] ∧ ("xee" : Str).cps = #[120, 101, 101] ∧ ("xe" : Str).cps = #[120, 101] ∧ ("exxe" : Str).cps = #[101, 120, 120, 101] := by decide +kernel
inductive FitsL : List Nat → List V → Prop where
  | nil : FitsL [] []
  | cons {c : Nat} {y : V} {cs : List Nat} {ys : List V} : FitsV c y → FitsL cs ys → FitsL (c :: cs) (y :: ys)
theorem all_fit {cs : List Nat} {xs : List V} (h : FitsL cs xs) : ∀ {i : Nat} {c : Nat} {y : V}, cs[i]? = some c → xs[i]? = some y → FitsV c y := by
  induction h with
  | nil => intro i c y h; simp at h
  | cons a t ih =>
    intro i c y h1 h2
    cases i with
    | zero => cases h1; cases h2; exact a
    | succ i => exact ih h1 h2
theorem shape_fits {H : Hp} {t : Addr} {e : Ex} {w : Str} {xs : List V} (h : AtE H (.ref t) e) (ht : H t = some (.tup (.str w :: xs))) : FitsL e.shape.cps.toList xs := by
  obtain ⟨s1, s2, s3, s4, s5, s6, s7, s8, s9⟩ := sh_n
  cases e with
  | num n => obtain ⟨_, e, h⟩ := h; cases e; rw [h] at ht; cases ht; show FitsL ("n" : Str).cps.toList _; rw [s1]; exact .cons (fit_n _) .nil
  | name n => obtain ⟨_, e, h⟩ := h; cases e; rw [h] at ht; cases ht; show FitsL ("x" : Str).cps.toList _; rw [s2]; exact .cons (fit_x _) .nil
  | fault => obtain ⟨_, e, h⟩ := h; cases e; rw [h] at ht; cases ht; show FitsL ("" : Str).cps.toList _; rw [s3]; exact .nil
  | one w a => obtain ⟨_, _, e, h, _⟩ := h; cases e; rw [h] at ht; cases ht; show FitsL ("e" : Str).cps.toList _; rw [s4]; exact .cons (fit_e _) .nil
  | two w a b => obtain ⟨_, _, _, e, h, _⟩ := h; cases e; rw [h] at ht; cases ht; show FitsL ("ee" : Str).cps.toList _; rw [s5]; exact .cons (fit_e _) (.cons (fit_e _) .nil)
  | ite a b c => obtain ⟨_, _, _, _, e, h, _⟩ := h; cases e; rw [h] at ht; cases ht; show FitsL ("eee" : Str).cps.toList _; rw [s6]; exact .cons (fit_e _) (.cons (fit_e _) (.cons (fit_e _) .nil))
  | lt n a b => obtain ⟨_, _, _, e, h, _⟩ := h; cases e; rw [h] at ht; cases ht; show FitsL ("xee" : Str).cps.toList _; rw [s7]; exact .cons (fit_x _) (.cons (fit_e _) (.cons (fit_e _) .nil))
  | fn n a => obtain ⟨_, _, e, h, _⟩ := h; cases e; rw [h] at ht; cases ht; show FitsL ("xe" : Str).cps.toList _; rw [s8]; exact .cons (fit_x _) (.cons (fit_e _) .nil)
  | ct a n k b => obtain ⟨_, _, _, e, h, _⟩ := h; cases e; rw [h] at ht; cases ht; show FitsL ("exxe" : Str).cps.toList _; rw [s9]; exact .cons (fit_e _) (.cons (fit_x _) (.cons (fit_x _) (.cons (fit_e _) .nil)))
section
variable {P : Program} {w : World} {K : PySem.W.Frag} {mg : Str → Option Value} {base : Heap}
def spShape : Sp := fun vs H Q _ => ∃ (t : Addr) (e : Ex) (S : List Str) (xs : List V), vs = [.ref t] ∧ AtE H (.ref t) e ∧ Good S e ∧ H t = some (.tup (.str e.word :: xs)) ∧ xs.length ≤ 4 ∧ ∀ H', Same H H' → Q (.bl true) H'
theorem scHas_shape : FnScope ["thing", "word", "shape", "place", "held"] ["thing"] (defScope s_has_shape) := ⟨rfl, rfl, rfl, by decide +kernel, rfl, by decide +kernel, by decide +kernel⟩
theorem ok_has_shape {sa : Addr} {es : Array DictEntry} {n : Nat} (hKD : KDict K w sa es n) (hSh : ShapesAt K w sa) (hmg : mg "SHAPES" = some (.ref sa)) (F : Df K mg "has_shape" s_has_shape) (zip : mg "zip" = none) (isi : mg "isinstance" = none) (tup : mg "tuple" = none) (st : mg "str" = none) (len : mg "len" = none) (all' : mg "all" = none)
    (U : Use P w K mg base "fits" ["place", "held"] 2 spFits) : Use P w K mg base "has_shape" ["thing"] 3 spShape := by
  refine F.use scHas_shape (fun _ _ _ _ _ _ us hl => match us, hl with | [_], _ => rfl) (fun vs H Q E h => ?_) (fun cdv f A outer s H vs Q E hr h => ?_)
  · obtain ⟨t, e, S, xs, rfl, _⟩ := h
    rfl
  · obtain ⟨t, e, S, xs, rfl, hv, hg, ht, h4, q⟩ := h
    refine ⟨_, pss_cons (ps_if (PW.pt (pw_or (pt_not (pt_val (pe_callB (r := rIsi K) call_isi (by rfl) isi (by decide +kernel) (pa_cons (pv 0) (pa_cons (pe_bltn (v := .ty "tuple") (u := .type "tuple") (by rfl) tup (by decide +kernel) rfl) pa_nil))))) (pw_or1 (pt_cmpR op_eq (pe_callB call_len_seq (by rfl) len PySem.boot_len (pa_cons (pv 0) pa_nil)) pe_int (nomark _))))) (pss_one (ps_ret pe_bl)) pss_nil)
      (pss_cons (ps_set (i := 1) scHas_shape.nd rfl (Or.inl rfl) (pe_ix ix_tup (pv 0) pe_int (fun _ _ => rfl)))
      (pss_cons (ps_if (PW.pt (pw_or (pt_not (pt_val (pe_callB (r := rIsi K) call_isi (by rfl) isi (by decide +kernel) (pa_cons (pv 1) (pa_cons (pe_bltn (v := .ty "str") (u := .type "str") (by rfl) st (by decide +kernel) rfl) pa_nil))))) (pw_or1 (pt_cmpR (op_notIn_kd hKD) (pv 1) (pe_glob (v := .ref sa) (by rfl) hmg rfl) rfl)))) (pss_one (ps_ret pe_bl)) pss_nil)
      (pss_cons (ps_set (i := 2) scHas_shape.nd rfl (Or.inl rfl) (pe_ix ix_kdict (pe_glob (v := .ref sa) (by rfl) hmg rfl) (pv 1) (fun _ _ => rfl)))
      (pss_cons (ps_if (pt_cmpR op_ne (pe_callB call_len_seq (by rfl) len PySem.boot_len (pa_cons (pv 0) pa_nil)) (pe_op op_add (pe_callB call_len_str (by rfl) len PySem.boot_len (pa_cons (pv 2) pa_nil)) pe_int) (nomark _)) (pss_one (ps_ret pe_bl)) pss_nil)
      (pss_one (ps_ret (pe_callB (cr_all rfl) (by rfl) all' (by decide +kernel) (pa_cons
        (pe_lc (own := [("place", 3), ("held", 4)]) (g := gTup K 2 (gCons (gName 3) (gCons (gName 4) gNil))) (tt := tYes) (by rfl) scHas_shape.nd
          (pi_zipS (by rfl) zip (pa_cons (pv 2) (pa_cons (pe_slice sl_tup (pv 0) (po_some pe_int) po_none) pa_nil)))
          (blkOk_by (own := [("place", 3), ("held", 4)]) (N := ["thing", "word", "shape", "place", "held"]) (sc := defScope s_has_shape) (by decide +kernel))
          (fun _ _ _ _ _ => pg_tup rfl (pgs_cons (pg_name (i := 3) scHas_shape.nd rfl (Or.inl rfl)) (pgs_cons (pg_name (i := 4) scHas_shape.nd rfl (Or.inl rfl)) pgs_nil)))
          (fun _ _ _ _ _ => pts_nil) (fun _ _ _ _ _ => pe_use U hr (pa_cons (pv 3) (pa_cons (pv 4) pa_nil)))) pa_nil)))))))), ?_⟩
    have hsz := shape_len hv ht
    have hfit := shape_fits hv ht
    refine ⟨_, rfl, .ref t, .ty "tuple", _, .type "tuple", true, rfl, .ty _, .base (.tup ht), kit_ty (by decide +kernel), true, rfl, ?_⟩
    refine iteF ?_
    refine ⟨_, rfl, t, _, rfl, .inr (SqT.of ht), rfl, _, rfl, ?_⟩
    rw [show decide (V.int ((V.str e.word :: xs).length : Int) = V.int 0) = false from decide_eq_false (fun z => by have := V.int.inj z; rw [List.length_cons] at this; omega)]
    refine iteF ?_
    refine ⟨_, rfl, t, _, _, .str e.word, rfl, rfl, SqT.of ht, atI_nat (j := 0) rfl, ?_⟩
    refine ⟨_, rfl, .str e.word, .ty "str", _, .type "str", true, rfl, .ty _, .base (.str _), kit_ty (by decide +kernel), true, rfl, iteF ?_⟩
    obtain ⟨es', n', u', _, _, hns, _⟩ := hSh S e hg
    refine ⟨_, rfl, e.word, some u', rfl, rfl, hns, _, rfl, iteF ?_⟩
    refine ⟨_, rfl, sa, e.word, .str e.shape, rfl, rfl, hSh S e hg, ?_⟩
    refine ⟨_, rfl, t, _, rfl, .inr (SqT.of ht), _, rfl, e.shape, rfl, ?_, _, _, rfl, rfl, rfl, _, rfl, ?_⟩
    · have hh : e.shape.length = xs.length := hsz
      have : (4 : Nat) ≤ sizeLine := by decide
      omega
    rw [show (!decide (V.int ((V.str e.word :: xs).length : Int) = V.int ((e.shape.length : Int) + 1))) = false from by
      have hh : e.shape.length = xs.length := hsz
      rw [hh, List.length_cons, decide_eq_true (by push_cast; rfl)]; rfl]
    refine iteF ?_
    refine ⟨_, rfl, _, rfl, 1, rfl, t, _, rfl, SqT.of ht, cut1_no _ _ _, fun p2 np2 => ?_⟩
    rw [cut1]
    have sm1 := Same.new np2 (.tup xs)
    have hp2 : upd H p2 (.tup xs) p2 = some (.tup xs) := upd_same
    generalize upd H p2 (.tup xs) = H1 at sm1 hp2 ⊢
    refine ⟨e.shape, p2, xs, rfl, SqT.of hp2, fun D nD => ?_⟩
    refine lc_zipS (K := K) (x := e.shape) (b := p2) (ys := xs) hsz (fun i H2 => Same H1 H2 ∧ i ≤ xs.length ∧ H2 D = some (.lst ((List.replicate i true).map V.bl))) ⟨Same.new nD _, Nat.zero_le _, upd_same⟩ (fun i H2 _ h => SqT.of (h.1 _ _ hp2)) ?_ ?_
    · rintro i c y T H2 hc hy ⟨sm, hi, hD⟩ nT
      have hi2 : i < xs.length := (List.getElem?_eq_some_iff.mp hy).1
      have hc' : e.shape.cps.toList[i]? = some c := by rw [Array.getElem?_toList]; exact hc
      refine ⟨T, _, rfl, SqT.of upd_same, rfl, _, _, rfl, _, _, rfl, rfl, rfl, tYes_if ?_⟩
      have smT := Same.new nT (.tup [.str ⟨#[c]⟩, y])
      refine ⟨_, rfl, _, rfl, ⟨#[c]⟩, y, rfl, all_fit hfit hc' hy, _, smT _ _ hD, ?_, ?_, hi2, ?_⟩
      · rw [List.length_map, List.length_replicate]
        have : (4 : Nat) ≤ sizeLine := by decide
        omega
      · exact fun b o hb => by
          rw [upd_ne (fun z => by rw [z, nD] at hb; cases hb)]
          exact smT _ _ (sm _ _ hb)
      · rw [upd_same, List.replicate_succ', List.map_append]; rfl
    · rintro H2 ⟨sm, _, hD⟩
      refine ⟨D, List.replicate xs.length true, rfl, SqL.of hD, ?_⟩
      rw [show (List.replicate xs.length true).all id = true from by simp]
      exact q H2 (sm1.trans sm)
end
end Wr
/-! len(set(a list of few texts)) -/
namespace Wr
open PySem PySem.Spec PyProof.Rows L2
/-- how many unlike texts the first i are -/
def unl (xs : List Str) : Nat → Nat
  | 0 => 0
  | i + 1 => if (xs.take i).any (· == xs.getD i Str.empty) = true then unl xs i else unl xs i + 1
theorem unl_le (xs : List Str) : ∀ i, unl xs i ≤ i
  | 0 => Nat.le_refl _
  | i + 1 => by
    have := unl_le xs i
    simp only [unl]
    split <;> omega
section
variable {prog : Program} {w : World} {A : Around} {R : Result → Shared → Prop} {I : Addr} {fp wr : List Addr} {G : Array GenState → Array GenState → Prop} {n : Nat} {P : Nat → Value → Prop} {St : Nat → Shared → Prop}
theorem fillT (W : WalksS prog w A.in1 I fp wr G n P St) (D : Addr) (nf : D ∉ fp) (xs : List Str) (hn : xs.length = n) (hb : n + 1 < scanBound) (hv : ∀ i v, P i v → ∃ t, v = .str (xs.getD i Str.empty) t) :
    ∀ (k i : Nat) (s : Shared), n - i = k → i ≤ n → St i s → s.heap.SetOf (PySem.strKind prog w) D (fun z => (xs.take i).any (· == z)) (unl xs i) →
      (∀ s', Moved (D :: wr) G s s' → s'.heap.SetOf (PySem.strKind prog w) D (fun z => (xs.take n).any (· == z)) (unl xs n) → R (.ok (.ret .none)) s') →
      codeAny (model prog w) A (.builtin "set.update.loop" ⟨[.ref D, .ref I], []⟩) R s := by
  have nw : D ∉ wr := fun h => nf (W.sub _ h)
  have up : ∀ b ∈ wr, b ∈ D :: wr := fun b hb => List.mem_cons_of_mem _ hb
  intro k
  induction k with
  | zero =>
    intro i s hk hi hst hS hR
    obtain rfl : i = n := by omega
    refine codeAny_builtin PyProof.Rows.F.entry_set_update_loop (by
      rw [Around.under_plainId PyProof.Rows.F.plain_set_update_loop _]
      show wpAny _ A.in1 (pyNext (.ref I) >>= _) _ _ s
      exact wpAny_bind (W.done s _ _ hst fun s' hm => wpAny_pure (hR s' (hm.mono up) (by
        obtain ⟨o, es, ep, t, ho, rest⟩ := hS
        exact ⟨o, es, ep, t, hm.heap D _ nw ho, rest⟩))))
  | succ k ih =>
    intro i s hk hi hst hS hR
    have hlt : i < n := by omega
    refine codeAny_builtin PyProof.Rows.F.entry_set_update_loop (by
      rw [Around.under_plainId PyProof.Rows.F.plain_set_update_loop _]
      show wpAny _ A.in1 (pyNext (.ref I) >>= _) _ _ s
      refine wpAny_bind (W.item i s _ _ hlt hst fun v s' hP hst' hm => ?_)
      obtain ⟨t, rfl⟩ := hv i v hP
      have hS' : s'.heap.SetOf (PySem.strKind prog w) D (fun z => (xs.take i).any (· == z)) (unl xs i) := by
        obtain ⟨o, es, ep, tb, ho, rest⟩ := hS
        exact ⟨o, es, ep, tb, hm.heap D _ nw ho, rest⟩
      show wpAny _ A.in1 (holding [Value.str (xs.getD i Str.empty) t] (setAdd D (.str (xs.getD i Str.empty) t)) >>= _) _ _ s'
      have hu := unl_le xs i
      refine wpAny_bind (wpAny_holding (by
        unfold setAdd
        refine wpAny_holding (wpAny_bind ((PySem.strKind prog w).pyHash (k := xs.getD i Str.empty) (strKind_is _ _ _ _) ?_))
        refine wpAny_setAddHashed_of (knd := PySem.strKind prog w) (s := { s' with toks := s'.toks + 1 }) (strKind_is _ _ _ _) rfl hS' (by omega) fun h' hsb hS2 => ?_
        have hSi : h'.SetOf (PySem.strKind prog w) D (fun z => (xs.take (i + 1)).any (· == z)) (unl xs (i + 1)) := by
          have hx : xs[i]? = some (xs.getD i Str.empty) := by
            rw [List.getD_eq_getElem?_getD, List.getElem?_eq_getElem (by omega)]; rfl
          refine SetOf_congr hS2 (fun z => ?_) rfl
          rw [List.take_add_one, hx, List.any_append]
          show ((xs.take i).any (· == z) || decide (z = xs.getD i Str.empty)) = ((xs.take i).any (· == z) || ((xs.getD i Str.empty == z) || false))
          rw [Bool.or_false]
          congr 1
          by_cases e : z = xs.getD i Str.empty
          · rw [← e]; simp
          · rw [decide_eq_false e]
            exact (beq_eq_false_iff_ne.mpr fun q => e q.symm).symm
        refine wpAny_pure ⟨plainId_quiet PyProof.Rows.F.plain_set_update_loop _, ih (i + 1) _ (by omega) hlt (W.frame _ s' _ _ hst' (Nat.le_succ _) fun b hb o e => ?_) hSi fun s2 hm2 hS3 => ?_⟩
        · rw [hsb.2 b (fun h : b = D => nf (h ▸ hb))]; exact e
        · exact hR s2 (Moved.trans W.gtrans ((hm.mono up).then_heap (Nat.le_succ _) fun b o hb e => by
            rw [hsb.2 b (fun h : b = D => hb (by rw [h]; exact List.mem_cons_self))]; exact e) hm2) hS3)))
end
section
variable {prog : Program} {w : World} {A : Around} {E : Value → Shared → Prop} {s : Shared}
theorem call_setT {l : Addr} {items : Array Value} {xs : List Str} {Q : Value → Shared → Prop} (hh : A.handled = none) (hl : s.heap.IsList l items) (hi : PyProof.Rows.StrsAre items.toList xs) (hn : items.size + 1 < scanBound)
    (h : ∀ (h' : Heap) (tk : Nat), h'.SetOf (PySem.strKind prog w) s.heap.objs.size (fun z => (xs.take items.size).any (· == z)) (unl xs items.size) → (∀ b o, b < s.heap.objs.size → s.heap.get? b = some o → h'.get? b = some o) → Q (.ref s.heap.objs.size) { s with heap := h', toks := tk }) :
    wpAny (model prog w) A (call (.type "set") [.ref l]) Q E s := by
  obtain ⟨c, tl, hmro⟩ := PySem.F.called_set.mro
  have hmade := PySem.F.called_set.made; have hsub := PySem.F.called_set.sub
  refine wpAny_call (codeAny_of_tree (show wpAny _ _ (callAny (.type "set") _) _ _ _ from ?_))
  refine wpAny_pure ⟨Code.quiet_builtin _ (by decide +kernel), codeAny_builtin PySem.F.entry_type_call (by
    rw [Around.under_plain (weight_type_call_type "set" [.ref l] []) rfl]
    have h1 := PySem.F.called_set.notType; have h2 := PySem.F.called_set.canCreate; have hct := PySem.F.typeCall_set_1 (.ref l)
    repeat (any_goals (first | assumption | wp_step))
    refine codeAny_mono (code_set_new_1 (.ref l) (E := E) (Q₁ := fun obj t => ∃ led : Bool, obj = .ref s.heap.objs.size ∧ t = { s with heap := s.heap.push { cls := .type "set", dict := none, data := .set #[] 0 (.fresh 0 0 led) } }) fun led => ⟨led, rfl, rfl⟩) fun r t hr => ?_
    cases r with
    | error e => exact hr
    | ok fl =>
      cases fl with
      | ret obj =>
        obtain ⟨led, rfl, rfl⟩ := hr
        generalize eS : ({ cls := .type "set", dict := none, data := .set #[] 0 (.fresh 0 0 led) } : Obj) = oS
        have hS : (s.heap.push oS).get? s.heap.objs.size = some oS := Heap.get?_push_size _ (by rw [← eS]; rfl)
        have hT : Shared.TypeIs { s with heap := s.heap.push oS } (.ref s.heap.objs.size) "set" := ⟨_, hS, by rw [← eS]⟩
        have hli := PySem.F.called_set.init.lookup; have hbi := PySem.F.called_set.init.bind (.ref s.heap.objs.size)
        repeat (any_goals (first | assumption | wp_step))
        refine codeAny_mono (codeAny_call_builtin (R := wants (fun r u => r = .none ∧ ∃ h' tk, u = { s with heap := h', toks := tk } ∧ h'.SetOf (PySem.strKind prog w) s.heap.objs.size (fun z => (xs.take items.size).any (· == z)) (unl xs items.size) ∧ (∀ b o, b < s.heap.objs.size → s.heap.get? b = some o → h'.get? b = some o)) E)
          PySem.F.called_set.init.plain PySem.F.entry_set_init (check_set_init_1 hT ?_)) fun r u hr => ?_
        · obtain ⟨⟨ocls, odict, odata, oslots⟩, hol, hcl, nl, hdl⟩ := hl
          simp only at hcl hdl
          subst hcl hdl
          have hol' : (s.heap.push oS).get? l = some { cls := .type "list", dict := odict, data := .seq items nl, slots := oslots } := Heap.get?_push_of_some _ hol
          have hsls := PySem.F.sub_list_set; have hslf := PySem.F.sub_list_frozenset; have hne : (Value.type "list" == Value.type "dict") = false := by decide
          have hl1 : (s.heap.push oS).IsList l items := ⟨_, hol', rfl, nl, rfl⟩
          have hlS : l < s.heap.objs.size := Heap.lt_size hol
          have sz : (s.heap.push oS).objs.size = s.heap.objs.size + 1 := Heap.size_push _ _
          have hneI : l ≠ (s.heap.push oS).objs.size := by rw [sz]; exact Nat.ne_of_lt (Nat.lt_succ_of_lt hlS)
          have nf : s.heap.objs.size ∉ [(s.heap.push oS).objs.size, l] := by
            rw [sz]; intro q; simp only [List.mem_cons, List.not_mem_nil, or_false] at q
            rcases q with q | q
            · exact Nat.succ_ne_self _ q.symm
            · exact absurd q (Nat.ne_of_gt hlS)
          have hget : ((s.heap.push oS).push { cls := .type "list_iterator", data := .fields #[.ref l, .int 0 0] }).get? s.heap.objs.size = some oS := Heap.get?_push_of_some _ hS
          subst eS
          unfold Builtin.«set.__init__» noKeywords Builtin.Frozenset.updateFrom
          generalize hPI : pyIter = PI
          wp_walk
          subst hPI
          refine wpAny_pyIter_list hl1 ?_; refine wpAny_bind (wpAny_runValue ?_)
          have hsz : xs.length = items.size := by rw [← StrsAre.len_eq hi, Array.length_toList]
          refine fillT ((Walks.list (show A.in1.in1.in1.handled = none by simp [hh]) _ l hneI items).toS) s.heap.objs.size nf xs hsz hn (fun i v hv => SS.strs_at hi i v (by rw [Array.getElem?_toList]; exact hv)) (items.size - 0) 0 _ (by omega) (Nat.zero_le _)
            ⟨⟨_, Heap.get?_push_size _ rfl, rfl, rfl⟩, (hl1.push _)⟩ ?hS0 ?hR
          case hS0 =>
            exact PyProof.Rows.SetOf_congr ((PyProof.Rows.setObjOf_fresh (knd := PySem.strKind prog w) led).setOf hget (by unfold scanBound; omega)) (fun _ => rfl) rfl
          case hR =>
            intro s' hm hS'
            obtain ⟨h', g', d', tk', os'⟩ := s'
            obtain rfl : g' = s.gens := hm.gens
            obtain rfl : d' = s.drawn := hm.drawn
            obtain rfl : os' = s.os := hm.os
            refine wpAny_pure (show wpAny _ _ (ret Value.none) _ _ _ from wpAny_pure ⟨rfl, h', tk', rfl, hS', fun b o hb e => ?_⟩)
            refine hm.heap b o (fun q => ?_) (Heap.get?_push_of_some _ (Heap.get?_push_of_some _ e))
            simp only [List.mem_cons, List.not_mem_nil, or_false] at q
            rcases q with q | q
            · exact absurd q (Nat.ne_of_lt hb)
            · exact absurd q (Nat.ne_of_lt (by rw [sz]; exact Nat.lt_succ_of_lt hb))
        · cases r with
          | error e => exact hr
          | ok fl =>
            cases fl with
            | ret r =>
              obtain ⟨rfl, h', tk, rfl, hS', hk'⟩ := hr
              repeat (any_goals (first | assumption | wp_step))
              exact h _ _ hS' hk'
            | _ => exact hr.elim
      | _ => exact hr.elim)⟩
end
/-- len(set(xs)) of a list of few texts -/
def tLenSetT (K : PySem.W.Frag) (ta : TE) : TE := fun σ H Q => ta σ H fun x H1 => ∃ (l : Addr) (xs : List Str), x = .ref l ∧ SqL K H1 l (xs.map V.str) ∧ xs.length ≤ 1000 ∧ Q (.int (unl xs xs.length : Nat)) H1
theorem pe_lenSetT {X : Cx} {a : Expr} {ta : TE} {p p2 q pos : Pos} (hg : Gl X "len") (hm : X.mg "len" = none) (hg2 : Gl X "set") (hm2 : X.mg "set" = none) (ha : PE X a ta) (hc : X.calm = true := by rfl)
    (na : starEach [a] X.env = (false, eval a X.env) :: starEach [] X.env := by rfl) : PE X (.Call (.Name "len" p) [.Call (.Name "set" p2) [a] [] q] [] pos) (tLenSetT X.K ta) := by
  refine ⟨fun pins s σ H Q I h => ?_⟩
  refine Call_ (ld_blt I hg hm boot_len (PyProof.Rows.callWith_builtin1 (PyProof.Rows.args_cons (Call_ (ld_blt I hg2 hm2 boot_set (PyProof.Rows.callWith_type1 (PyProof.Rows.args_cons (thn (ha.run pins s σ H _ I h) fun v s1 ⟨x, H1, I1, r1, q1⟩ => PyProof.Rows.args_nil ?_) na) na rfl))) rfl) rfl rfl))
  obtain ⟨l, xs, rfl, hq, hl, q1⟩ := q1
  cases r1
  obtain ⟨its, r, pl, hz⟩ := I1.list hq
  have hlen : its.toArray.size = xs.length := by rw [List.size_toArray, ← r.length, List.length_map]
  refine call_setT (I1.ok.hd hc) pl.isList (by simpa using strsAre_of r) (by rw [hlen]; unfold scanBound; omega) fun h' tk hS hk => PyProof.Rows.args_nil ?_
  rw [hlen] at hS
  have hu := unl_le xs xs.length
  obtain ⟨o, es, ep, t, ho, hex, hd, _, _, _, hf, hn⟩ := hS
  have I2 : Inv X pins σ H1 { s1 with heap := h', toks := tk } := I1.kept fun b o e => hk b o (Heap.lt_size e) e
  exact call_len_set ho hex hd hf (by rw [hn] <;> omega) ⟨.int (unl xs xs.length : Nat), H1, I2.tok _, ⟨_, by rw [hn]⟩, q1⟩
end Wr
/-! get of a written dict -/
namespace Wr
open PySem PySem.Spec PyProof.Rows L2
/-- what the written dict at a holds at the key k -/
def KLook (K : PySem.W.Frag) (w : World) (a : Addr) (k : Str) (o : Option V) : Prop := ∃ es n r, KDict K w a es n ∧ PySem.W.nsIn K a k = some r ∧ RelO o r
theorem KLook.dct {K : PySem.W.Frag} {w : World} {a : Addr} {k : Str} {v : V} (h : KDct K w a k v) (low : (a == sysModules) = false) : KLook K w a k (some v) := by
  obtain ⟨es, n, u, hl, hk, e, r⟩ := h
  exact ⟨es, n, some u, ⟨hl, hk, low⟩, e, r⟩
section
variable {X : Cx} {pins : List (Addr × Obj)} {σ : L2.St} {H : Hp} {s : Shared} {a : Addr} {k : Str} {d : V} {u r : Value} {o : Option V} {A : Around} {E : Value → Shared → Prop}
theorem kd_get2 {Q : Value → Shared → Prop} (I : Inv X pins σ H s) (g : KLook X.K X.w a k o) (ry : RelV (.str k) u) (rd : RelV d r) (h : ∀ w' s', Inv X pins σ H s' → RelV (o.getD d) w' → Q w' s') :
    wpAny (model X.prog X.w) A (call (.builtin "dict.get") [.ref a, u, r]) Q E s := by
  obtain ⟨es, n, ro, D, e, hr⟩ := g
  obtain ⟨t, rfl⟩ := ry
  have hm := PySem.W.mapOf_K (prog := X.prog) (w := X.w) I.kIn D.at_ D.lit
  refine call_meetsIn PySem.F.slot_dict_get hm.typeIs PySem.F.entry_dict_get (PySem.F.args_dict_get_3 _ _ _) (meets_dict_get_default (strKind X.prog X.w) a (PySem.strKind_is X.prog X.w k t) D.low r) ⟨_, hm, h _ _ (I.tok _) ?_⟩
  rw [PySem.W.find_K D.at_ e]
  exact hr.getD rd
theorem kd_get1 {Q : Value → Shared → Prop} (I : Inv X pins σ H s) (g : KLook X.K X.w a k o) (ry : RelV (.str k) u) (h : ∀ w' s', Inv X pins σ H s' → RelV (o.getD .non) w' → Q w' s') :
    wpAny (model X.prog X.w) A (call (.builtin "dict.get") [.ref a, u]) Q E s := by
  obtain ⟨es, n, ro, D, e, hr⟩ := g
  obtain ⟨t, rfl⟩ := ry
  have hm := PySem.W.mapOf_K (prog := X.prog) (w := X.w) I.kIn D.at_ D.lit
  refine call_meetsIn PySem.F.slot_dict_get hm.typeIs PySem.F.entry_dict_get (PySem.F.args_dict_get_2 _ _) (meets_dict_get (strKind X.prog X.w) a (PySem.strKind_is X.prog X.w k t) D.low) ⟨_, hm, h _ _ (I.tok _) ?_⟩
  rw [PySem.W.find_K D.at_ e]
  exact hr.getD rfl
end
def tKGet2 (K : PySem.W.Frag) (w : World) (td ty tx : TE) : TE := fun σ H Q => td σ H fun x H1 => ∃ a, x = .ref a ∧ (∃ es n, KDict K w a es n) ∧ ty σ H1 fun y H2 => tx σ H2 fun z H3 => ∃ k o, y = .str k ∧ KLook K w a k o ∧ Q (o.getD z) H3
def tKGet1 (K : PySem.W.Frag) (w : World) (td ty : TE) : TE := fun σ H Q => td σ H fun x H1 => ∃ a, x = .ref a ∧ (∃ es n, KDict K w a es n) ∧ ty σ H1 fun y H2 => ∃ k o, y = .str k ∧ KLook K w a k o ∧ Q (o.getD .non) H2
section
variable {X : Cx} {o e f : Expr} {apos cpos : Pos} {td ty tx : TE}
theorem kd_at {pins : List (Addr × Obj)} {σ : L2.St} {H : Hp} {s : Shared} {a : Addr} {es : Array DictEntry} {n : Nat} (I : Inv X pins σ H s) (D : KDict X.K X.w a es n) : s.TypeIs (.ref a) "dict" ∧ ∀ b, Value.ref a = .ref b → ∃ ob, s.heap.get? b = some ob ∧ ob.dict = none := by
  refine ⟨kd_type D I, fun b q => ?_⟩
  cases q
  exact ⟨_, I.kIn _ _ D.at_, rfl⟩
theorem pe_kget2 (ho : PE X o td) (he : PE X e ty) (hf : PE X f tx) (m : M2 X o "get" apos e f cpos) : PE X (.Call (.Attribute o "get" apos) [e, f] [] cpos) (tKGet2 X.K X.w td ty tx) := by
  refine ⟨fun pins s σ H Q I h => wpAny_Call_method m.base m.few m.line PySem.F.plainAttrs_dict PySem.F.slot_dict_get PySem.F.type_dict_get (thn (ho.run pins s σ H _ I h) fun u s1 ⟨x, H1, I1, rx, a, ex, ⟨es, n, D⟩, q1⟩ => ?_)⟩
  subst ex
  cases rx
  obtain ⟨t1, t2⟩ := kd_at I1 D
  refine ⟨t1, t2, ?_⟩
  rw [m.trees]
  refine Calls.callWith_builtin rfl (Calls.evalArgs_plain (Calls.spliced_cons (thn (he.run pins s1 σ H1 _ I1 q1) fun iv s2 ⟨y, H2, I2, ry, q2⟩ => Calls.spliced_cons (thn (hf.run pins s2 σ H2 _ I2 q2) fun fv s3 ⟨z, H3, I3, rz, k, ov, ey, g, q3⟩ => Calls.spliced_nil ?_))))
  subst ey
  exact kd_get2 I3 g ry rz fun w' s4 I4 rw' => ⟨_, H3, I4, rw', q3⟩
theorem pe_kget1 (ho : PE X o td) (he : PE X e ty) (m : M1 X o "get" apos e cpos) : PE X (.Call (.Attribute o "get" apos) [e] [] cpos) (tKGet1 X.K X.w td ty) := by
  refine ⟨fun pins s σ H Q I h => wpAny_Call_method m.base m.few m.line PySem.F.plainAttrs_dict PySem.F.slot_dict_get PySem.F.type_dict_get (thn (ho.run pins s σ H _ I h) fun u s1 ⟨x, H1, I1, rx, a, ex, ⟨es, n, D⟩, q1⟩ => ?_)⟩
  subst ex
  cases rx
  obtain ⟨t1, t2⟩ := kd_at I1 D
  refine ⟨t1, t2, ?_⟩
  rw [m.trees]
  refine Calls.callWith_builtin rfl (Calls.evalArgs_plain (Calls.spliced_cons (thn (he.run pins s1 σ H1 _ I1 q1) fun iv s2 ⟨y, H2, I2, ry, k, ov, ey, g, q2⟩ => Calls.spliced_nil ?_)))
  subst ey
  exact kd_get1 I2 g ry fun w' s3 I3 rw' => ⟨_, H2, I3, rw', q2⟩
end
end Wr
namespace Wr
open PySem PySem.Spec PyProof.Rows L2
/-! ### methods by their name -/
/-- the method m of the class at C stands as the text st says -/
def DfM (K : PySem.W.Frag) (C : Addr) (c m : Str) (st : Stmt) : Prop :=
  ∃ f fd, FunD K m c (defArgs st) (defBody st) (defScope st) [] [] f fd ∧ Meth K C m f
/-- it may be called, by its promise -/
def UseM (P : Program) (w : World) (K : PySem.W.Frag) (mg : Str → Option Value) (base : Heap) (C : Addr) (m : Str) (ps : List Str) (k : Nat) (sp : Sp) : Prop :=
  ∃ f fd, FnOk P w K mg base CX0 k f fd ps sp ∧ Meth K C m f ∧ Binds K fd ps []
/-- the class x at C, its __init__ as the text st says -/
def DfC (K : PySem.W.Frag) (mg : Str → Option Value) (C : Addr) (x c : Str) (st : Stmt) : Prop :=
  ∃ f fd, FunD K "__init__" c (defArgs st) (defBody st) (defScope st) [] [] f fd ∧ Mk K C f ∧ mg x = some (.ref C)
def UseC (P : Program) (w : World) (K : PySem.W.Frag) (mg : Str → Option Value) (base : Heap) (C : Addr) (x : Str) (ps : List Str) (k : Nat) (sp : Sp) : Prop :=
  ∃ f fd, FnOk P w K mg base CX0 k f fd ps sp ∧ Mk K C f ∧ mg x = some (.ref C) ∧ Binds K fd ps []
abbrev BindM (m c : Str) (st : Stmt) (ps : List Str) : Prop := ∀ (kV doc pm : Value) (an : Option Addr) (cdv ct : Value) (us : List Value), us.length = ps.length →
  bindArgs (PySem.W.fnOf m c (defArgs st) (defBody st) (defScope st) .none kV doc pm an cdv ct) ⟨us, []⟩ = pure (ps.zip us)
section
variable {P : Program} {w : World} {K : PySem.W.Frag} {mg : Str → Option Value} {base : Heap} {C : Addr}
theorem DfM.use {c m : Str} {st : Stmt} {N ps : List Str} {k : Nat} {sp : Sp} (D : DfM K C c m st) (S : FnScope N ps (defScope st)) (b : BindM m c st ps) (len : ∀ vs H Q E, sp vs H Q E → vs.length = ps.length)
    (hbody : ∀ (cdv : Value) (f : Addr) (A : Around) (outer : List Env) (s : Shared) (H : Hp) (vs : List V) (Q : VK) (E : XK), Room k (A.deeper (envOfC c (defScope st) s.heap.objs.size f cdv)) → sp vs H Q E →
      ∃ t, PSs (cxOf CX0 P w K mg base N c (defScope st) f cdv A outer s H E).nox (defBody st) t ∧ t { nx := fun _ H' => Q .non H', rt := Q } (start N vs) H) : UseM P w K mg base C m ps (k + 1) sp := by
  obtain ⟨f, fd, F, M⟩ := D
  refine ⟨f, fd, F.ok S len fun cdv A outer s H vs Q E hr h => ?_, M, F.bindsN b⟩
  obtain ⟨t, h1, h2⟩ := hbody cdv f A outer s H vs Q E hr h
  exact ⟨t, h1.nox, h2⟩
theorem DfC.use {x c : Str} {st : Stmt} {N ps : List Str} {k : Nat} {sp : Sp} (D : DfC K mg C x c st) (S : FnScope N ps (defScope st)) (b : BindM "__init__" c st ps) (len : ∀ vs H Q E, sp vs H Q E → vs.length = ps.length)
    (hbody : ∀ (cdv : Value) (f : Addr) (A : Around) (outer : List Env) (s : Shared) (H : Hp) (vs : List V) (Q : VK) (E : XK), Room k (A.deeper (envOfC c (defScope st) s.heap.objs.size f cdv)) → sp vs H Q E →
      ∃ t, PSs (cxOf CX0 P w K mg base N c (defScope st) f cdv A outer s H E).nox (defBody st) t ∧ t { nx := fun _ H' => Q .non H', rt := Q } (start N vs) H) : UseC P w K mg base C x ps (k + 1) sp := by
  obtain ⟨f, fd, F, M, m⟩ := D
  refine ⟨f, fd, F.ok S len fun cdv A outer s H vs Q E hr h => ?_, M, m, F.bindsN b⟩
  obtain ⟨t, h1, h2⟩ := hbody cdv f A outer s H vs Q E hr h
  exact ⟨t, h1.nox, h2⟩
theorem UseM.mono {m : Str} {ps : List Str} {k j : Nat} {sp : Sp} (U : UseM P w K mg base C m ps k sp) (h : k ≤ j) : UseM P w K mg base C m ps j sp := by
  obtain ⟨f, fd, F, r⟩ := U
  exact ⟨f, fd, F.mono h, r⟩
end
section
variable {X : Cx} {C : Addr} {x m : Str} {ps : List Str} {k : Nat} {sp : Sp} {o e : Expr} {es : List Expr} {ta : TE} {t : TA} {p pos apos : Pos}
/-- a call of a method with arguments -/
theorem pe_useM {pl : Sem Bool} (c : Cls X.K C) (U : UseM X.prog X.w X.K X.mg X.base C m ps k sp) (hr : Room k X.A) (he : PE X o ta) (ha : PA X (e :: es) t)
    (hst : starEach (e :: es) X.env = (false, eval e X.env) :: starEach es X.env := by rfl) (hpl : (backTo pos (starEach es X.env)).any (·.1) = false := by rfl)
    (ht : eval (.Call (.Attribute o m apos) (e :: es) [] pos) X.env = (do
      let ov ← eval o X.env; standAt apos.atName
      let (f, first) ← holding [ov] (getMethod ov m pl)
      callWith pos f first (backTo pos (starEach (e :: es) X.env)) (backToKw pos (keywordEach [] X.env))) := by rfl) :
    PE X (.Call (.Attribute o m apos) (e :: es) [] pos) (tMeth C m sp [] E0 ta t) := by
  obtain ⟨f, fd, F, M, b⟩ := U
  exact pe_meth he c M F hr b .nil pass0 ha hst hpl ht
/-- .. without -/
theorem pe_useM0 {pl : Sem Bool} (c : Cls X.K C) (U : UseM X.prog X.w X.K X.mg X.base C m ps k sp) (hr : Room k X.A) (he : PE X o ta)
    (ht : eval (.Call (.Attribute o m apos) [] [] pos) X.env = (do
      let ov ← eval o X.env; standAt apos.atName
      let (f, first) ← holding [ov] (getMethod ov m pl)
      callWith pos f first (backTo pos (starEach [] X.env)) (backToKw pos (keywordEach [] X.env))) := by rfl) :
    PE X (.Call (.Attribute o m apos) [] [] pos) (tMeth C m sp [] E0 ta tNil) := by
  obtain ⟨f, fd, F, M, b⟩ := U
  exact pe_meth0 he c M F hr b .nil pass0 ht
/-- a new instance -/
theorem pe_useC (U : UseC X.prog X.w X.K X.mg X.base C x ps k sp) (hr : Room (k + 1) X.A) (ha : PA X (e :: es) t) (hg : Gl X x := by rfl)
    (hdb : (x == ("__debug__" : Str)) = false := by decide) (he : starEach (e :: es) X.env = (false, eval e X.env) :: starEach es X.env := by rfl) (hpl : (backTo pos (starEach es X.env)).any (·.1) = false := by rfl) :
    PE X (.Call (.Name x p) (e :: es) [] pos) (tMake C sp [] E0 t) := by
  obtain ⟨f, fd, F, M, m, b⟩ := U
  exact pe_make M F hr hg m b .nil pass0 ha hdb he hpl
theorem pe_useC0 (U : UseC X.prog X.w X.K X.mg X.base C x ps k sp) (hr : Room (k + 1) X.A) (hg : Gl X x := by rfl) (hdb : (x == ("__debug__" : Str)) = false := by decide) :
    PE X (.Call (.Name x p) [] [] pos) (tMake C sp [] E0 tNil) := by
  obtain ⟨f, fd, F, M, m, b⟩ := U
  exact pe_make0 M F hr hg m b .nil pass0 hdb
end
/-! ### what stands in a part -/
def Ex.ns : Ex → List Str
  | .name x => [x]
  | .lt x _ _ => [x]
  | .fn x _ => [x]
  | .ct _ x k _ => [x, k]
  | _ => []
def Ex.nv : Ex → V
  | .num n => .int n
  | _ => .non
theorem AtL.val {H : Hp} : ∀ {vs : List V} {es : List Ex} {i : Nat} {v : V}, AtL H vs es → vs[i]? = some v → ∃ e, es[i]? = some e ∧ AtE H v e
  | _, _, _, _, .nil, h => by simp at h
  | _, _, 0, _, .cons (e := e) a _, h => by cases h; exact ⟨e, rfl, a⟩
  | _, _, i + 1, _, .cons _ t, h => t.val (i := i) h
theorem word_num {S : List Str} {e : Ex} (g : Good S e) (h : e.word = "num") : ∃ n, e = .num n := by
  cases e with
  | num n => exact ⟨n, rfl⟩
  | name x => exact absurd h (by show ¬ ("name" : Str) = "num"; decide +kernel)
  | fault => exact absurd h (by show ¬ ("fault" : Str) = "num"; decide +kernel)
  | one w a => exact absurd h (ones_ne w g.1).2.1
  | two w a b => exact absurd h (twos_ne w g.1).2.1
  | ite a b c => exact absurd h (by show ¬ ("if" : Str) = "num"; decide +kernel)
  | lt n a b => exact absurd h (by show ¬ ("let" : Str) = "num"; decide +kernel)
  | fn n a => exact absurd h (by show ¬ ("fun" : Str) = "num"; decide +kernel)
  | ct a n k b => exact absurd h (by show ¬ ("catch" : Str) = "num"; decide +kernel)
theorem word_nm {S : List Str} {e : Ex} (g : Good S e) (h : e.word = "name") : ∃ n, e = .name n := by
  cases e with
  | name n => exact ⟨n, rfl⟩
  | num x => exact absurd h (by show ¬ ("num" : Str) = "name"; decide +kernel)
  | fault => exact absurd h (by show ¬ ("fault" : Str) = "name"; decide +kernel)
  | one w a => exact absurd h (ones_ne w g.1).2.2.2.1
  | two w a b => exact absurd h (twos_ne w g.1).2.2.2.1
  | ite a b c => exact absurd h (by show ¬ ("if" : Str) = "name"; decide +kernel)
  | lt n a b => exact absurd h (by show ¬ ("let" : Str) = "name"; decide +kernel)
  | fn n a => exact absurd h (by show ¬ ("fun" : Str) = "name"; decide +kernel)
  | ct a n k b => exact absurd h (by show ¬ ("catch" : Str) = "name"; decide +kernel)
theorem flat_str (ys : List Str) : (ys.map V.str).all flatV = true := flat_strs ys
theorem sg_n : (⟨#[110]⟩ : Str) = "n" ∧ (⟨#[120]⟩ : Str) = "x" ∧ (⟨#[101]⟩ : Str) = "e" ∧ ("n" : Str) ≠ "x" ∧ ("n" : Str) ≠ "e" ∧ ("x" : Str) ≠ "e" := by decide +kernel
theorem stand_ns {H : Hp} {t : Addr} {e : Ex} {w : Str} {xs : List V} (h : AtE H (.ref t) e) (ht : H t = some (.tup (.str w :: xs))) :
    stand "x" e.shape.cps.toList xs = e.ns.map V.str ∧ AtL H (stand "e" e.shape.cps.toList xs) e.kids := by
  obtain ⟨s1, s2, s3, s4, s5, s6, s7, s8, s9⟩ := sh_n
  obtain ⟨g1, g2, g3, d1, d2, d3⟩ := sg_n
  have xe := d3; have ex := d3.symm; have nx := d1; have ne := d2
  cases e with
  | num n => obtain ⟨_, e, h⟩ := h; cases e; rw [h] at ht; cases ht; show stand "x" ("n" : Str).cps.toList _ = _ ∧ AtL H (stand "e" ("n" : Str).cps.toList _) _; rw [s1]; simp only [stand, g1, if_neg nx, if_neg ne]; exact ⟨rfl, .nil⟩
  | name n => obtain ⟨_, e, h⟩ := h; cases e; rw [h] at ht; cases ht; show stand "x" ("x" : Str).cps.toList _ = _ ∧ AtL H (stand "e" ("x" : Str).cps.toList _) _; rw [s2]; simp only [stand, g2, if_neg xe, if_true]; exact ⟨rfl, .nil⟩
  | fault => obtain ⟨_, e, h⟩ := h; cases e; rw [h] at ht; cases ht; show stand "x" ("" : Str).cps.toList _ = _ ∧ AtL H (stand "e" ("" : Str).cps.toList _) _; rw [s3]; exact ⟨rfl, .nil⟩
  | one w a => obtain ⟨_, _, e, h, ha⟩ := h; cases e; rw [h] at ht; cases ht; show stand "x" ("e" : Str).cps.toList _ = _ ∧ AtL H (stand "e" ("e" : Str).cps.toList _) _; rw [s4]; simp only [stand, g3, if_neg ex, if_true]; exact ⟨rfl, .cons ha .nil⟩
  | two w a b => obtain ⟨_, _, _, e, h, ha, hb⟩ := h; cases e; rw [h] at ht; cases ht; show stand "x" ("ee" : Str).cps.toList _ = _ ∧ AtL H (stand "e" ("ee" : Str).cps.toList _) _; rw [s5]; simp only [stand, g3, if_neg ex, if_true]; exact ⟨rfl, .cons ha (.cons hb .nil)⟩
  | ite a b c => obtain ⟨_, _, _, _, e, h, ha, hb, hc⟩ := h; cases e; rw [h] at ht; cases ht; show stand "x" ("eee" : Str).cps.toList _ = _ ∧ AtL H (stand "e" ("eee" : Str).cps.toList _) _; rw [s6]; simp only [stand, g3, if_neg ex, if_true]; exact ⟨rfl, .cons ha (.cons hb (.cons hc .nil))⟩
  | lt n a b => obtain ⟨_, _, _, e, h, ha, hb⟩ := h; cases e; rw [h] at ht; cases ht; show stand "x" ("xee" : Str).cps.toList _ = _ ∧ AtL H (stand "e" ("xee" : Str).cps.toList _) _; rw [s7]; simp only [stand, g2, g3, if_neg ex, if_neg xe, if_true]; exact ⟨rfl, .cons ha (.cons hb .nil)⟩
  | fn n a => obtain ⟨_, _, e, h, ha⟩ := h; cases e; rw [h] at ht; cases ht; show stand "x" ("xe" : Str).cps.toList _ = _ ∧ AtL H (stand "e" ("xe" : Str).cps.toList _) _; rw [s8]; simp only [stand, g2, g3, if_neg ex, if_neg xe, if_true]; exact ⟨rfl, .cons ha .nil⟩
  | ct a n k b => obtain ⟨_, _, _, e, h, ha, hb⟩ := h; cases e; rw [h] at ht; cases ht; show stand "x" ("exxe" : Str).cps.toList _ = _ ∧ AtL H (stand "e" ("exxe" : Str).cps.toList _) _; rw [s9]; simp only [stand, g2, g3, if_neg ex, if_neg xe, if_true]; exact ⟨rfl, .cons ha (.cons hb .nil)⟩
theorem Ex.ns_len (e : Ex) : e.ns.length ≤ 2 := by cases e <;> simp [Ex.ns]
theorem Good.ns_letters {S : List Str} {e : Ex} (hS : ∀ x ∈ S, x ∈ letters) (g : Good S e) : ∀ x ∈ e.ns, x ∈ letters := by
  intro x hx
  cases e with
  | name n => rw [List.mem_singleton.mp hx]; exact hS _ g
  | lt n a b => rw [List.mem_singleton.mp hx]; exact g.1
  | fn n a => rw [List.mem_singleton.mp hx]; exact g.1
  | ct a n k b =>
    rcases List.mem_cons.mp hx with rfl | h
    · exact g.1
    · rw [List.mem_singleton.mp h]; exact g.2.1
  | _ => simp [Ex.ns] at hx
theorem Good.unl {S : List Str} {e : Ex} (g : Good S e) : unl e.ns e.ns.length = e.ns.length := by
  cases e with
  | ct a n k b =>
    have h : n ≠ k := g.2.2.1
    show (if ([n] : List Str).any (· == k) = true then _ else _) = 2
    rw [if_neg (by simp [h])]
    rfl
  | _ => rfl
section
variable {P : Program} {w : World} {K : PySem.W.Frag} {mg : Str → Option Value} {base : Heap}
/-- a constant of the module that is an int -/
def GInt (mg : Str → Option Value) (x : Str) (i : Int) : Prop := ∃ t, mg x = some (.int i t)
/-- a good part is not refused -/
def spWhy : Sp := fun vs H Q _ => ∃ (t b : Addr) (e : Ex) (S bs : List Str) (a r : Nat), vs = [.ref t, .int a, .int r, .ref b] ∧ AtE H (.ref t) e ∧ Good S e ∧ (∀ x ∈ S, x ∈ letters) ∧ a < 200 ∧ r ≤ 40 ∧ H b = some (.tup (bs.map V.str)) ∧ (∀ x ∈ S, x ∈ bs) ∧
  ∀ H', Same H H' → Q .non H'
theorem scWhy_not : FnScope ["thing", "at", "around", "bound", "word", "names", "name"] ["thing", "at", "around", "bound"] (defScope s_why_not) := ⟨rfl, rfl, rfl, by decide +kernel, rfl, by decide +kernel, by decide +kernel⟩
/-- a written tuple -/
def TupK (K : PySem.W.Frag) (a : Addr) (xs : List V) : Prop := ∃ (o : Obj) (its : Array Value) (n : Nat), K.lookup a = some o ∧ o.cls = .type "tuple" ∧ o.data = .seq its n ∧ its.size ≤ sizeLine ∧ Vals xs its.toList
theorem TupK.seq {a : Addr} {xs : List V} (h : TupK K a xs) (H : Hp) : SqT K H a xs := .inr h
theorem inV_str (x : Str) (ys : List Str) : inV (.str x) (ys.map V.str) = decide (x ∈ ys) := by
  induction ys with
  | nil => rfl
  | cons y ys ih =>
    show (eqV (.str y) (.str x) || inV (.str x) (ys.map V.str)) = _
    rw [ih]
    show (decide (y = x) || decide (x ∈ ys)) = _
    by_cases h : y = x
    · subst h; simp
    · have : x ≠ y := fun z => h z.symm
      simp [h, this]
theorem ok_why_not {na : Addr} (F : Df K mg "why_not" s_why_not) (mP : GInt mg "MOST_PARTS" 200) (mA : GInt mg "MOST_AROUND" 40) (mN : GInt mg "MOST_NUMBER" 1000000) (mNm : mg "NAMES" = some (.ref na)) (hNm : TupK K na (letters.map V.str))
    (abs' : mg "abs" = none) (all' : mg "all" = none) (len : mg "len" = none) (set' : mg "set" = none) (U_shape : Use P w K mg base "has_shape" ["thing"] 3 spShape) (U_stand : Use P w K mg base "standing" ["thing", "place"] 1 spStanding) : Use P w K mg base "why_not" ["thing", "at", "around", "bound"] 4 spWhy := by
  refine F.use scWhy_not (fun _ _ _ _ _ _ us hl => match us, hl with | [_, _, _, _], _ => rfl) (fun vs H Q E h => ?_) (fun cdv f A outer s H vs Q E hr h => ?_)
  · obtain ⟨t, b, e, S, bs, a, r, rfl, _⟩ := h
    rfl
  · obtain ⟨t, b, e, S, bs, a, r, rfl, hv, hg, hS, ha, hr4, hb, hSb, q⟩ := h
    have hr1 : Room 1 _ := hr.mono (by decide)
    obtain ⟨tP, mP⟩ := mP
    obtain ⟨tA, mA⟩ := mA
    obtain ⟨tN, mN⟩ := mN
    refine ⟨_, pss_cons (ps_if (pt_cmpR op_ge (pv 1) (pe_glob (v := .int 200) (by rfl) mP ⟨_, rfl⟩) (nomark _)) (pss_one (ps_ret pe_str)) pss_nil)
      (pss_cons (ps_if (pt_cmpR op_gt (pv 2) (pe_glob (v := .int 40) (by rfl) mA ⟨_, rfl⟩) (nomark _)) (pss_one (ps_ret pe_str)) pss_nil)
      (pss_cons (ps_if (pt_not (pt_val (pe_use U_shape hr (pa_cons (pv 0) pa_nil)))) (pss_one (ps_ret pe_str)) pss_nil)
      (pss_cons (ps_set (i := 4) scWhy_not.nd rfl (Or.inl rfl) (pe_ix ix_tup (pv 0) pe_int (fun _ _ => rfl)))
      (pss_cons (ps_set (i := 5) scWhy_not.nd rfl (Or.inl rfl) (pe_use U_stand hr1 (pa_cons (pv 0) (pa_cons pe_str pa_nil))))
      (pss_cons (ps_if (PW.pt (pw_and (pt_cmpR op_eq (pv 4) pe_str (nomark _)) (pw_and1 (pt_cmpR op_gt (pe_callB call_abs (by rfl) abs' (by decide +kernel) (pa_cons (pe_ix ix_tup (pv 0) pe_int (fun _ _ => rfl)) pa_nil)) (pe_glob (v := .int 1000000) (by rfl) mN ⟨_, rfl⟩) (nomark _))))) (pss_one (ps_ret pe_str)) pss_nil)
      (pss_cons (ps_if (PW.pt (pw_or (pt_not (pt_val (pe_callB (cr_all rfl) (by rfl) all' (by decide +kernel) (pa_cons
          (pe_lc (own := [("name", 6)]) (g := gName 6) (tt := tYes) (by rfl) scWhy_not.nd (pi_list (pv 5)) (blkOk_by (own := [("name", 6)]) (N := ["thing", "at", "around", "bound", "word", "names", "name"]) (sc := defScope s_why_not) (by decide +kernel))
            (fun _ _ _ _ _ => pg_name (i := 6) scWhy_not.nd rfl (Or.inl rfl)) (fun _ _ _ _ _ => pts_nil) (fun _ _ _ _ _ => pe_cmpR (r := rIn K false) op_in_seq (pv 6) (pe_glob (v := .ref na) (by rfl) mNm rfl) rfl)) pa_nil))))
          (pw_or1 (pt_cmpR op_lt (pe_lenSetT (by rfl) len (by rfl) set' (pv 5)) (pe_callB call_len_seq (by rfl) len PySem.boot_len (pa_cons (pv 5) pa_nil)) (nomark _))))) (pss_one (ps_ret pe_str)) pss_nil)
      (pss_cons (ps_if (PW.pt (pw_and (pt_cmpR op_eq (pv 4) pe_str (nomark _)) (pw_and1 (pt_cmpR (r := rIn K true) op_notIn_seq (pe_ix ix_list (pv 5) pe_int (fun _ _ => rfl)) (pv 3) rfl)))) (pss_one (ps_ret pe_str)) pss_nil)
      (pss_one (ps_ret pe_non))))))))), ?_⟩
    obtain ⟨t', xs, et, ht, _, h5⟩ := hv.words
    cases et
    have h4 : xs.length ≤ 4 := by rw [List.length_cons] at h5; omega
    refine ⟨_, rfl, _, _, rfl, rfl, _, rfl, ?_⟩
    rw [decide_eq_false (by omega)]
    refine iteF ⟨_, rfl, _, _, rfl, rfl, _, rfl, ?_⟩
    rw [decide_eq_false (by omega)]
    refine iteF ⟨_, rfl, t, e, S, xs, rfl, hv, hg, ht, h4, fun H1 sm1 => ⟨true, rfl, iteF ?_⟩⟩
    have ht1 := sm1 _ _ ht
    refine ⟨_, rfl, t, _, _, .str e.word, rfl, rfl, SqT.of ht1, atI_nat (j := 0) rfl, ?_⟩
    refine ⟨_, rfl, t, e, S, xs, "x", rfl, hv.same sm1, hg, ht1, h4, fun nl H2 sm2 nn hn2 => ?_⟩
    obtain ⟨en, _⟩ := stand_ns hv ht
    rw [en] at hn2
    have ht2 := sm2 _ _ ht1
    have hb2 := sm2 _ _ (sm1 _ _ hb)
    have step3 : ∀ (u : TS) (D : Ends), u D [some (.ref t), some (.int a), some (.int r), some (.ref b), some (.str e.word), some (.ref nl), none] H2 →
        tSeq (tIfS (tAnd (tTest (tOp rEq (tVar 4) (tC (.str "num")))) (tTest (tOp (rI0 fun i j => V.bl (decide (j < i))) (tCB (fun xs H Q => ∃ i, xs = [.int i] ∧ Q (.int (if i < 0 then -i else i)) H) (tCons (tOp (rIxT K) (tVar 0) (tC (.int 1))) tNil)) (tC (.int 1000000)))))
          (tRet (tC (.str "number"))) tNext) u D [some (.ref t), some (.int a), some (.int r), some (.ref b), some (.str e.word), some (.ref nl), none] H2 := by
      intro u D hu
      refine ⟨_, rfl, rfl, _, rfl, ?_⟩
      refine ite2 (fun hw => ?_) (fun _ => iteF hu)
      obtain ⟨n, rfl⟩ := word_num hg (V.str.inj (of_decide_eq_true hw))
      obtain ⟨_, e1, h1⟩ := hv
      cases e1
      rw [h1] at ht
      cases ht
      refine ⟨_, rfl, t, _, _, .int n, rfl, rfl, SqT.of ht2, atI_nat (j := 1) rfl, n, rfl, _, _, rfl, rfl, _, rfl, ?_⟩
      obtain ⟨g1, g2⟩ : -1000000 ≤ n ∧ n ≤ 1000000 := hg
      rw [decide_eq_false (by split <;> omega)]
      exact iteF hu
    refine step3 _ _ ?_
    refine ⟨_, rfl, nl, rfl, ⟨_, SqL.of hn2⟩, fun D nD => ?_⟩
    have hnl : e.ns.length ≤ 2 := e.ns_len
    refine lc_list (K := K) (a := nl) (xs := e.ns.map V.str) (fun i H3 => Same H2 H3 ∧ i ≤ e.ns.length ∧ H3 D = some (.lst ((List.replicate i true).map V.bl))) ⟨Same.new nD _, Nat.zero_le _, upd_same⟩ (fun i H3 _ h => SqL.of (h.1 _ _ hn2)) ?_ ?_
    · rintro i x H3 hx ⟨sm, hi, hD⟩
      obtain ⟨y, hy, rfl⟩ : ∃ y, e.ns[i]? = some y ∧ V.str y = x := by
        rw [List.getElem?_map] at hx
        cases hq : e.ns[i]? with
        | none => rw [hq] at hx; cases hx
        | some y => rw [hq] at hx; exact ⟨y, rfl, Option.some.inj hx⟩
      have hi2 : i < e.ns.length := (List.getElem?_eq_some_iff.mp hy).1
      have hmem := hg.ns_letters hS y (List.mem_of_getElem? hy)
      refine ⟨rfl, tYes_if ?_⟩
      refine ⟨_, rfl, na, _, rfl, .inr (hNm.seq _), rfl, flat_strs _, _, hD, ?_, ?_, hi2, ?_⟩
      · rw [List.length_map, List.length_replicate]
        have : (4 : Nat) ≤ sizeLine := by decide
        omega
      · exact fun c o hc => by
          rw [upd_ne (fun z => by rw [z, nD] at hc; cases hc)]
          exact sm _ _ hc
      · rw [upd_same, List.replicate_succ', List.map_append]
        show some (HO.lst (_ ++ [V.bl (inV (.str y) (letters.map V.str))])) = _
        rw [inV_str, decide_eq_true hmem]
        rfl
    · rintro H3 ⟨sm, _, hD⟩
      refine ⟨D, _, rfl, SqL.of hD, ?_⟩
      rw [show (List.replicate (e.ns.map V.str).length true).all id = true from by simp]
      refine ⟨true, rfl, iteF ?_⟩
      have hn3 := sm _ _ hn2
      have hb3 := sm _ _ hb2
      refine ⟨_, rfl, nl, e.ns, rfl, SqL.of hn3, by omega, ?_⟩
      refine ⟨_, rfl, nl, _, rfl, .inl (SqL.of hn3), _, _, rfl, rfl, _, rfl, ?_⟩
      rw [hg.unl, List.length_map, decide_eq_false (by omega)]
      refine iteF ⟨_, rfl, rfl, _, rfl, ?_⟩
      have fin : Q .non H3 := q H3 (fun c o hc => sm _ _ (sm2 _ _ (sm1 _ _ hc)))
      refine ite2 (fun hw => ?_) (fun _ => iteF fin)
      obtain ⟨n, rfl⟩ := word_nm hg (V.str.inj (of_decide_eq_true hw))
      refine ⟨_, rfl, nl, _, _, .str n, rfl, rfl, SqL.of hn3, atI_nat (j := 0) rfl, _, rfl, b, _, rfl, .inr (SqT.of hb3), rfl, flat_strs _, _, rfl, ?_⟩
      rw [show (if true = true then !inV (.str n) (bs.map V.str) else inV (.str n) (bs.map V.str)) = false from by
        rw [if_pos rfl, inV_str, decide_eq_true (hSb n hg)]; rfl]
      exact iteF fin
end
end Wr
namespace Wr
open PySem PySem.Spec PyProof.Rows L2
/-! ### the tree of parts -/
def partF (w : Str) (t : Nat) (num : V) (nl wl : Addr) : List (Str × V) := [("word", .str w), ("turn", .int t), ("number", num), ("names", .ref nl), ("within", .ref wl)]
theorem partF_look (w : Str) (t : Nat) (num : V) (nl wl : Addr) : (partF w t num nl wl).lookup ("word" : Str) = some (V.str w) ∧ (partF w t num nl wl).lookup ("turn" : Str) = some (V.int t) ∧ (partF w t num nl wl).lookup ("number" : Str) = some num ∧
    (partF w t num nl wl).lookup ("names" : Str) = some (V.ref nl) ∧ (partF w t num nl wl).lookup ("within" : Str) = some (V.ref wl) := ⟨by kernel_rfl, by kernel_rfl, by kernel_rfl, by kernel_rfl, by kernel_rfl⟩
theorem partF_put (a b c d e : V) : putF "within" e (putF "names" d (putF "number" c (putF "turn" b (putF "word" a [])))) = ([("word", a), ("turn", b), ("number", c), ("names", d), ("within", e)] : List (Str × V)) := by kernel_rfl
theorem partF_lens (a b c d : V) : (putF "word" a []).length = 1 ∧ (putF "turn" b (putF "word" a [])).length = 2 ∧ (putF "number" c (putF "turn" b (putF "word" a []))).length = 3 ∧ (putF "names" d (putF "number" c (putF "turn" b (putF "word" a [])))).length = 4 :=
  ⟨by kernel_rfl, by kernel_rfl, by kernel_rfl, by kernel_rfl⟩
def bump (ts : Str → Nat) (w : Str) : Str → Nat := fun z => if z = w then ts z + 1 else ts z
def Ex.cnt : Ex → Str → Nat
  | .num _, z => if z = "num" then 1 else 0
  | .name _, z => if z = "name" then 1 else 0
  | .fault, z => if z = "fault" then 1 else 0
  | .one w a, z => (if z = w then 1 else 0) + a.cnt z
  | .two w a b, z => (if z = w then 1 else 0) + (a.cnt z + b.cnt z)
  | .ite a b c, z => (if z = "if" then 1 else 0) + (a.cnt z + (b.cnt z + c.cnt z))
  | .lt _ a b, z => (if z = "let" then 1 else 0) + (a.cnt z + b.cnt z)
  | .fn _ a, z => (if z = "fun" then 1 else 0) + a.cnt z
  | .ct a _ _ b, z => (if z = "catch" then 1 else 0) + (a.cnt z + b.cnt z)
def adv (ts : Str → Nat) (e : Ex) : Str → Nat := fun z => ts z + e.cnt z
def advL (ts : Str → Nat) : List Ex → Str → Nat
  | [] => ts
  | e :: es => advL (adv ts e) es
theorem advL_snoc (ts : Str → Nat) : ∀ (es : List Ex) (e : Ex), advL ts (es ++ [e]) = adv (advL ts es) e
  | [], _ => rfl
  | x :: es, e => advL_snoc (adv ts x) es e
theorem adv_kids (ts : Str → Nat) (e : Ex) : advL (bump ts e.word) e.kids = adv ts e := by
  funext z
  cases e <;> simp only [Ex.kids, Ex.word, advL, adv, bump, Ex.cnt] <;> split <;> omega
/-- v is a part, xs the parts within -/
def PHd (C : Addr) (H : Hp) (v : V) (w : Str) (t : Nat) (num : V) (ns : List Str) (xs : List V) : Prop :=
  ∃ p dx nl wl, v = .ref p ∧ H p = some (.ins C dx (partF w t num nl wl)) ∧ H nl = some (.lst (ns.map V.str)) ∧ H wl = some (.lst xs)
theorem PHd.same {C : Addr} {H H' : Hp} (s : Same H H') {v : V} {w : Str} {t : Nat} {num : V} {ns : List Str} {xs : List V} : PHd C H v w t num ns xs → PHd C H' v w t num ns xs :=
  fun ⟨p, dx, nl, wl, e, h1, h2, h3⟩ => ⟨p, dx, nl, wl, e, s _ _ h1, s _ _ h2, s _ _ h3⟩
/-- v is the tree of e, ts being how many of each word were ahead -/
def PartAt (C : Addr) (H : Hp) : V → Ex → (Str → Nat) → Prop
  | v, .num n, ts => PHd C H v "num" (ts "num") (.int n) [] []
  | v, .name x, ts => PHd C H v "name" (ts "name") .non [x] []
  | v, .fault, ts => PHd C H v "fault" (ts "fault") .non [] []
  | v, .one w a, ts => ∃ x, PHd C H v w (ts w) .non [] [x] ∧ PartAt C H x a (bump ts w)
  | v, .two w a b, ts => ∃ x y, PHd C H v w (ts w) .non [] [x, y] ∧ PartAt C H x a (bump ts w) ∧ PartAt C H y b (adv (bump ts w) a)
  | v, .ite a b c, ts => ∃ x y z, PHd C H v "if" (ts "if") .non [] [x, y, z] ∧ PartAt C H x a (bump ts "if") ∧ PartAt C H y b (adv (bump ts "if") a) ∧ PartAt C H z c (adv (adv (bump ts "if") a) b)
  | v, .lt n a b, ts => ∃ x y, PHd C H v "let" (ts "let") .non [n] [x, y] ∧ PartAt C H x a (bump ts "let") ∧ PartAt C H y b (adv (bump ts "let") a)
  | v, .fn n a, ts => ∃ x, PHd C H v "fun" (ts "fun") .non [n] [x] ∧ PartAt C H x a (bump ts "fun")
  | v, .ct a n k b, ts => ∃ x y, PHd C H v "catch" (ts "catch") .non [n, k] [x, y] ∧ PartAt C H x a (bump ts "catch") ∧ PartAt C H y b (adv (bump ts "catch") a)
theorem PartAt.same {C : Addr} {H H' : Hp} (s : Same H H') : ∀ {e : Ex} {v : V} {ts : Str → Nat}, PartAt C H v e ts → PartAt C H' v e ts := by
  intro e
  induction e with
  | num n => exact fun {v ts} h => PHd.same s h
  | name n => exact fun {v ts} h => PHd.same s h
  | fault => exact fun {v ts} h => PHd.same s h
  | one w a ia => exact fun {v ts} ⟨x, h, ha⟩ => ⟨x, h.same s, ia ha⟩
  | two w a b ia ib => exact fun {v ts} ⟨x, y, h, ha, hb⟩ => ⟨x, y, h.same s, ia ha, ib hb⟩
  | ite a b c ia ib ic => exact fun {v ts} ⟨x, y, z, h, ha, hb, hc⟩ => ⟨x, y, z, h.same s, ia ha, ib hb, ic hc⟩
  | lt n a b ia ib => exact fun {v ts} ⟨x, y, h, ha, hb⟩ => ⟨x, y, h.same s, ia ha, ib hb⟩
  | fn n a ia => exact fun {v ts} ⟨x, h, ha⟩ => ⟨x, h.same s, ia ha⟩
  | ct a n k b ia ib => exact fun {v ts} ⟨x, y, h, ha, hb⟩ => ⟨x, y, h.same s, ia ha, ib hb⟩
/-- parts one behind the other -/
inductive PartL (C : Addr) (H : Hp) : List V → List Ex → (Str → Nat) → Prop where
  | nil {ts : Str → Nat} : PartL C H [] [] ts
  | cons {v : V} {e : Ex} {vs : List V} {es : List Ex} {ts : Str → Nat} : PartAt C H v e ts → PartL C H vs es (adv ts e) → PartL C H (v :: vs) (e :: es) ts
theorem PartL.same {C : Addr} {H H' : Hp} (s : Same H H') : ∀ {vs : List V} {es : List Ex} {ts : Str → Nat}, PartL C H vs es ts → PartL C H' vs es ts
  | _, _, _, .nil => .nil
  | _, _, _, .cons a t => .cons (a.same s) (PartL.same s t)
theorem PartL.snoc {C : Addr} {H : Hp} : ∀ {vs : List V} {es : List Ex} {ts : Str → Nat} {v : V} {e : Ex}, PartL C H vs es ts → PartAt C H v e (advL ts es) → PartL C H (vs ++ [v]) (es ++ [e]) ts
  | _, _, _, _, _, .nil, g => .cons g .nil
  | _, _, _, _, _, .cons a t, g => .cons a (t.snoc g)
theorem PartL.length {C : Addr} {H : Hp} : ∀ {vs : List V} {es : List Ex} {ts : Str → Nat}, PartL C H vs es ts → vs.length = es.length
  | _, _, _, .nil => rfl
  | _, _, _, .cons _ t => by rw [List.length_cons, List.length_cons, t.length]
theorem PartL.at_ {C : Addr} {H : Hp} : ∀ {vs : List V} {es : List Ex} {ts : Str → Nat} {i : Nat} {v : V}, PartL C H vs es ts → vs[i]? = some v → ∃ e, es[i]? = some e ∧ PartAt C H v e (advL ts (es.take i))
  | _, _, _, _, _, .nil, h => by simp at h
  | _, _, _, 0, _, .cons (e := e) a _, h => by cases h; exact ⟨e, rfl, a⟩
  | _, _, _, i + 1, _, .cons _ t, h => t.at_ (i := i) h
theorem PartAt.mk_ {C : Addr} {H : Hp} {e : Ex} {ts : Str → Nat} {v : V} {xs : List V} (h : PHd C H v e.word (ts e.word) e.nv e.ns xs) (l : PartL C H xs e.kids (bump ts e.word)) : PartAt C H v e ts := by
  cases e with
  | num n => cases l; exact h
  | name x => cases l; exact h
  | fault => cases l; exact h
  | one w a => cases l with | cons ha l => cases l; exact ⟨_, h, ha⟩
  | two w a b => cases l with | cons ha l => cases l with | cons hb l => cases l; exact ⟨_, _, h, ha, hb⟩
  | ite a b c => cases l with | cons ha l => cases l with | cons hb l => cases l with | cons hc l => cases l; exact ⟨_, _, _, h, ha, hb, hc⟩
  | lt n a b => cases l with | cons ha l => cases l with | cons hb l => cases l; exact ⟨_, _, h, ha, hb⟩
  | fn n a => cases l with | cons ha l => cases l; exact ⟨_, h, ha⟩
  | ct a n k b => cases l with | cons ha l => cases l with | cons hb l => cases l; exact ⟨_, _, h, ha, hb⟩
theorem PartAt.open_ {C : Addr} {H : Hp} {e : Ex} {ts : Str → Nat} {v : V} (h : PartAt C H v e ts) : ∃ xs, PHd C H v e.word (ts e.word) e.nv e.ns xs ∧ PartL C H xs e.kids (bump ts e.word) := by
  cases e with
  | num n => exact ⟨_, h, .nil⟩
  | name n => exact ⟨_, h, .nil⟩
  | fault => exact ⟨_, h, .nil⟩
  | one w a => obtain ⟨x, h, ha⟩ := h; exact ⟨_, h, .cons ha .nil⟩
  | two w a b => obtain ⟨x, y, h, ha, hb⟩ := h; exact ⟨_, h, .cons ha (.cons hb .nil)⟩
  | ite a b c => obtain ⟨x, y, z, h, ha, hb, hc⟩ := h; exact ⟨_, h, .cons ha (.cons hb (.cons hc .nil))⟩
  | lt n a b => obtain ⟨x, y, h, ha, hb⟩ := h; exact ⟨_, h, .cons ha (.cons hb .nil)⟩
  | fn n a => obtain ⟨x, h, ha⟩ := h; exact ⟨_, h, .cons ha .nil⟩
  | ct a n k b => obtain ⟨x, y, h, ha, hb⟩ := h; exact ⟨_, h, .cons ha (.cons hb .nil)⟩
section
variable {P : Program} {w : World} {K : PySem.W.Frag} {mg : Str → Option Value} {base : Heap}
/-! ### the classes -/
/-- the names of the attributes of a class are no attributes of it -/
def NoAts (K : PySem.W.Frag) (C : Addr) (fs : List Str) : Prop := ∀ f ∈ fs, NoAttr K C f
def partNs : List Str := ["word", "turn", "number", "names", "within"]
def treeNs : List Str := ["top", "size", "turns"]
def readNs : List Str := ["size", "turns"]
/-- self and the attributes in turn, a new instance -/
def spPartInit (C : Addr) : Sp := fun vs H Q _ => ∃ (p dx : Addr) (a b c d e : V), vs = [.ref p, a, b, c, d, e] ∧ H p = some (.ins C dx []) ∧ Q .non (upd H p (.ins C dx [("word", a), ("turn", b), ("number", c), ("names", d), ("within", e)]))
theorem scPartI : FnScope ["self", "word", "turn", "number", "names", "within"] ["self", "word", "turn", "number", "names", "within"] (defScope s_Part_init) := ⟨rfl, rfl, rfl, by decide +kernel, rfl, by decide +kernel, by decide +kernel⟩
theorem upd_upd {H : Hp} {p : Addr} {a b : HO} : upd (upd H p a) p b = upd H p b := by
  funext q
  by_cases h : q = p
  · subst h; rw [upd_same, upd_same]
  · rw [upd_ne h, upd_ne h, upd_ne h]
theorem ok_partI {C : Addr} (F : DfC K mg C "Part" "Part.__init__" s_Part_init) (c : Cls K C) (na : NoAts K C partNs) : UseC P w K mg base C "Part" ["self", "word", "turn", "number", "names", "within"] 1 (spPartInit C) := by
  refine F.use scPartI (fun _ _ _ _ _ _ us hl => match us, hl with | [_, _, _, _, _, _], _ => rfl) (fun vs H Q E h => ?_) (fun cdv f A outer s H vs Q E hr h => ?_)
  · obtain ⟨p, dx, a, b, c, d, e, rfl, _⟩ := h
    rfl
  · obtain ⟨p, dx, a, b, c', d, e, rfl, hp, q⟩ := h
    obtain ⟨l1, l2, l3, l4⟩ := partF_lens a b c' d
    refine ⟨_, pss_cons (ps_fld (pv 0) (pv 1) rfl) (pss_cons (ps_fld (pv 0) (pv 2) rfl) (pss_cons (ps_fld (pv 0) (pv 3) rfl) (pss_cons (ps_fld (pv 0) (pv 4) rfl) (pss_one (ps_fld (pv 0) (pv 5) rfl))))), ?_⟩
    refine ⟨_, rfl, _, rfl, p, C, dx, _, rfl, hp, c, na _ (by decide +kernel), by show 0 < 1000; decide, ?_⟩
    refine ⟨_, rfl, _, rfl, p, C, dx, _, rfl, upd_same, c, na _ (by decide +kernel), by rw [l1]; decide, ?_⟩
    refine ⟨_, rfl, _, rfl, p, C, dx, _, rfl, upd_same, c, na _ (by decide +kernel), by rw [l2]; decide, ?_⟩
    refine ⟨_, rfl, _, rfl, p, C, dx, _, rfl, upd_same, c, na _ (by decide +kernel), by rw [l3]; decide, ?_⟩
    refine ⟨_, rfl, _, rfl, p, C, dx, _, rfl, upd_same, c, na _ (by decide +kernel), by rw [l4]; decide, ?_⟩
    rw [partF_put, upd_upd, upd_upd, upd_upd, upd_upd]
    exact q
def spTreeInit (C : Addr) : Sp := fun vs H Q _ => ∃ (p dx : Addr) (a b c : V), vs = [.ref p, a, b, c] ∧ H p = some (.ins C dx []) ∧ Q .non (upd H p (.ins C dx [("top", a), ("size", b), ("turns", c)]))
theorem scTreeI : FnScope ["self", "top", "size", "turns"] ["self", "top", "size", "turns"] (defScope s_Tree_init) := ⟨rfl, rfl, rfl, by decide +kernel, rfl, by decide +kernel, by decide +kernel⟩
theorem treeF_put (a b c : V) : putF "turns" c (putF "size" b (putF "top" a [])) = ([("top", a), ("size", b), ("turns", c)] : List (Str × V)) ∧ (putF "top" a []).length = 1 ∧ (putF "size" b (putF "top" a [])).length = 2 := ⟨by kernel_rfl, by kernel_rfl, by kernel_rfl⟩
theorem ok_treeI {C : Addr} (F : DfC K mg C "Tree" "Tree.__init__" s_Tree_init) (c : Cls K C) (na : NoAts K C treeNs) : UseC P w K mg base C "Tree" ["self", "top", "size", "turns"] 1 (spTreeInit C) := by
  refine F.use scTreeI (fun _ _ _ _ _ _ us hl => match us, hl with | [_, _, _, _], _ => rfl) (fun vs H Q E h => ?_) (fun cdv f A outer s H vs Q E hr h => ?_)
  · obtain ⟨p, dx, a, b, c, rfl, _⟩ := h
    rfl
  · obtain ⟨p, dx, a, b, c', rfl, hp, q⟩ := h
    obtain ⟨e0, l1, l2⟩ := treeF_put a b c'
    refine ⟨_, pss_cons (ps_fld (pv 0) (pv 1) rfl) (pss_cons (ps_fld (pv 0) (pv 2) rfl) (pss_one (ps_fld (pv 0) (pv 3) rfl))), ?_⟩
    refine ⟨_, rfl, _, rfl, p, C, dx, _, rfl, hp, c, na _ (by decide +kernel), by show 0 < 1000; decide, ?_⟩
    refine ⟨_, rfl, _, rfl, p, C, dx, _, rfl, upd_same, c, na _ (by decide +kernel), by rw [l1]; decide, ?_⟩
    refine ⟨_, rfl, _, rfl, p, C, dx, _, rfl, upd_same, c, na _ (by decide +kernel), by rw [l2]; decide, ?_⟩
    rw [e0, upd_upd, upd_upd]
    exact q
/-- a reader at r: how many parts it has seen, of each word -/
structure RdrAt (C : Addr) (H : Hp) (r td : Addr) (size : Nat) (ts : Str → Nat) : Prop where
  ob : ∃ dx, H r = some (.ins C dx [("size", .int size), ("turns", .ref td)])
  tb : ∃ kvs : List (Key × V), H td = some (.dK kvs) ∧ kvs.length ≤ size ∧ ∀ z : Str, (valV kvs (Sum.inr z)).getD (.int 0) = .int (ts z)
theorem RdrAt.ne {C : Addr} {H : Hp} {r td : Addr} {size : Nat} {ts : Str → Nat} (h : RdrAt C H r td size ts) : r ≠ td := fun e => by
  obtain ⟨dx, h1⟩ := h.ob
  obtain ⟨kvs, h2, _⟩ := h.tb
  rw [e, h2] at h1
  cases h1
theorem RdrAt.step {C : Addr} {H H' : Hp} {r td : Addr} {size : Nat} {ts : Str → Nat} (h : RdrAt C H r td size ts) (s : Same H H') : RdrAt C H' r td size ts := by
  obtain ⟨dx, h1⟩ := h.ob
  obtain ⟨kvs, h2, g⟩ := h.tb
  exact ⟨⟨dx, s _ _ h1⟩, ⟨kvs, s _ _ h2, g⟩⟩
theorem rdrF (a b c : V) : putF "turns" b (putF "size" a []) = ([("size", a), ("turns", b)] : List (Str × V)) ∧ (putF "size" a []).length = 1 ∧ ([("size", a), ("turns", b)] : List (Str × V)).lookup ("size" : Str) = some a ∧ ([("size", a), ("turns", b)] : List (Str × V)).lookup ("turns" : Str) = some b ∧
    putF "size" c ([("size", a), ("turns", b)] : List (Str × V)) = ([("size", c), ("turns", b)] : List (Str × V)) ∧ ([("size", a), ("turns", b)] : List (Str × V)).lookup ("part_of" : Str) = none ∧ ([("size", a), ("turns", b)] : List (Str × V)).lookup ("parts_of" : Str) = none := ⟨by kernel_rfl, by kernel_rfl, by kernel_rfl, by kernel_rfl, by kernel_rfl, by kernel_rfl, by kernel_rfl⟩
def spReadInit (C : Addr) : Sp := fun vs H Q _ => ∃ (p dx : Addr), vs = [.ref p] ∧ H p = some (.ins C dx []) ∧ ∀ (td : Addr) (H' : Hp), H td = none → RdrAt C H' p td 0 (fun _ => 0) → (∀ b o, H b = some o → b ≠ p → H' b = some o) → Q .non H'
theorem scReadI : FnScope ["self"] ["self"] (defScope s_Reader_init) := ⟨rfl, rfl, rfl, by decide +kernel, rfl, by decide +kernel, by decide +kernel⟩
theorem ok_readI {C : Addr} (F : DfC K mg C "Reader" "Reader.__init__" s_Reader_init) (c : Cls K C) (na : NoAts K C readNs) : UseC P w K mg base C "Reader" ["self"] 1 (spReadInit C) := by
  refine F.use scReadI (fun _ _ _ _ _ _ us hl => match us, hl with | [_], _ => rfl) (fun vs H Q E h => ?_) (fun cdv f A outer s H vs Q E hr h => ?_)
  · obtain ⟨p, dx, rfl, _⟩ := h
    rfl
  · obtain ⟨p, dx, rfl, hp, q⟩ := h
    refine ⟨_, pss_cons (ps_fld (pv 0) pe_int rfl) (pss_one (ps_fld (pv 0) pe_dnewK rfl)), ?_⟩
    refine ⟨_, rfl, p, C, dx, _, rfl, hp, c, na _ (by decide +kernel), by show 0 < 1000; decide, ?_⟩
    intro td ntd
    have ne : p ≠ td := fun e => by rw [← e, upd_same] at ntd; cases ntd
    obtain ⟨e0, l1, _⟩ := rdrF (.int 0) (.ref td) .non
    refine ⟨_, rfl, p, C, dx, _, rfl, by rw [upd_ne ne]; exact upd_same, c, na _ (by decide +kernel), by rw [l1]; decide, ?_⟩
    rw [e0]
    have htd : H td = none := by rw [upd_ne ne.symm] at ntd; exact ntd
    refine q td _ htd ⟨⟨dx, upd_same⟩, ⟨[], by rw [upd_ne ne.symm, upd_same], Nat.le_refl _, fun z => rfl⟩⟩ fun b o hb hne => ?_
    rw [upd_ne hne, upd_ne (ne_of_none hb htd), upd_ne hne]
    exact hb
end
end Wr
namespace Wr
open PySem PySem.Spec PyProof.Rows L2
/-! ### what is new -/
/-- the things of H' that are none of H -/
def nw (H H' : Hp) : Hp := fun a => if (H a).isSome = true then none else H' a
theorem nw_at {H H' : Hp} {a : Addr} (h : H a = none) : nw H H' a = H' a := by
  show (if (H a).isSome = true then none else H' a) = H' a
  rw [h]; rfl
theorem nw_of {H H' : Hp} {a : Addr} {o : HO} (h : nw H H' a = some o) : H a = none ∧ H' a = some o := by
  have h : (if (H a).isSome = true then none else H' a) = some o := h
  cases e : H a with
  | none => rw [e] at h; exact ⟨rfl, h⟩
  | some u => rw [e] at h; cases h
theorem nw_same (H H' : Hp) : Same (nw H H') H' := fun _ _ h => (nw_of h).2
theorem nw_mono {H0 H H' H'' : Hp} (h : ∀ a, H a = none → H0 a = none) (k : ∀ b o, H b = none → H' b = some o → H'' b = some o) : Same (nw H H') (nw H0 H'') := fun b o q => by
  obtain ⟨q1, q2⟩ := nw_of q
  rw [nw_at (h b q1)]
  exact k b o q1 q2
theorem Stp.old {D : List Addr} {H H' : Hp} (s : Stp D H H') (hD : ∀ b ∈ D, H b ≠ none → H' b ≠ none) {a : Addr} (h : H' a = none) : H a = none := by
  cases e : H a with
  | none => rfl
  | some o =>
    by_cases m : a ∈ D
    · exact absurd h (hD a m (by rw [e]; exact fun z => nomatch z))
    · rw [s.keep a o m e] at h; cases h
/-! ### sizes -/
def szL : List Ex → Nat
  | [] => 0
  | e :: es => e.size + szL es
theorem szL_snoc (es : List Ex) (e : Ex) : szL (es ++ [e]) = szL es + e.size := by
  induction es with
  | nil => simp [szL]
  | cons a es ih => simp only [List.cons_append, szL, ih]; omega
theorem szL_take {es : List Ex} {i : Nat} {e : Ex} (h : es[i]? = some e) : szL (es.take i) + e.size ≤ szL es := by
  induction es generalizing i with
  | nil => simp at h
  | cons a es ih =>
    cases i with
    | zero => cases h; simp only [List.take_zero, szL]; omega
    | succ i => have := ih (i := i) h; simp only [List.take_succ_cons, szL]; omega
theorem Ex.size_kd (e : Ex) : e.size = 1 + szL e.kids := by
  cases e <;> simp only [Ex.size, Ex.kids, szL] <;> omega
/-- the parts within, the last with the names -/
def KG (S ns : List Str) (es : List Ex) : Prop := ∀ i e, es[i]? = some e → Good (if i + 1 = es.length then ns ++ S else S) e
theorem Good.kg {S : List Str} {e : Ex} (g : Good S e) : KG S e.ns e.kids := by
  intro i k h
  cases e with
  | num n => simp [Ex.kids] at h
  | name n => simp [Ex.kids] at h
  | fault => simp [Ex.kids] at h
  | one w a =>
    match i, h with
    | 0, h => cases h; exact g.2
  | two w a b =>
    match i, h with
    | 0, h => cases h; exact g.2.1
    | 1, h => cases h; exact g.2.2
  | ite a b c =>
    match i, h with
    | 0, h => cases h; exact g.1
    | 1, h => cases h; exact g.2.1
    | 2, h => cases h; exact g.2.2
  | lt n a b =>
    match i, h with
    | 0, h => cases h; exact g.2.1
    | 1, h => cases h; exact g.2.2
  | fn n a =>
    match i, h with
    | 0, h => cases h; exact g.2
  | ct a n k' b =>
    match i, h with
    | 0, h => cases h; exact g.2.2.2.1
    | 1, h => cases h; exact g.2.2.2.2
section
variable {P : Program} {w : World} {K : PySem.W.Frag} {mg : Str → Option Value} {base : Heap}
/-- a good part is read: its tree, all new -/
def spPartOf (RC PC : Addr) (n : Nat) : Sp := fun vs H Q _ => ∃ (r td t b : Addr) (sz a : Nat) (ts : Str → Nat) (e : Ex) (S bs : List Str), vs = [.ref r, .ref t, .int a, .ref b] ∧ RdrAt RC H r td sz ts ∧ AtE H (.ref t) e ∧ Good S e ∧ (∀ x ∈ S, x ∈ letters) ∧
  H b = some (.tup (bs.map V.str)) ∧ (∀ x ∈ S, x ∈ bs) ∧ bs.length ≤ 2 * a ∧ a + e.deep ≤ 41 ∧ sz + e.size ≤ 200 ∧ e.deep ≤ n ∧
  ∀ v H', Stp [r, td] H H' → RdrAt RC H' r td (sz + e.size) (adv ts e) → PartAt PC (nw H H') v e ts → Q v H'
/-- parts are read, one behind the other -/
def spPartsOf (RC PC : Addr) (n : Nat) : Sp := fun vs H Q _ => ∃ (r td l b nl : Addr) (sz a : Nat) (ts : Str → Nat) (es : List Ex) (S bs ns : List Str) (xs : List V), vs = [.ref r, .ref l, .int a, .ref b, .ref nl] ∧ RdrAt RC H r td sz ts ∧ H l = some (.lst xs) ∧ AtL H xs es ∧ KG S ns es ∧
  (∀ x ∈ S, x ∈ letters) ∧ (∀ x ∈ ns, x ∈ letters) ∧ H b = some (.tup (bs.map V.str)) ∧ (∀ x ∈ S, x ∈ bs) ∧ H nl = some (.lst (ns.map V.str)) ∧ bs.length + 2 ≤ 2 * a ∧ ns.length ≤ 2 ∧ (∀ e ∈ es, a + e.deep ≤ 41 ∧ e.deep ≤ n) ∧ sz + szL es ≤ 200 ∧ es.length ≤ 3 ∧
  ∀ wl ys H', Stp [r, td] H H' → H wl = none → H' wl = some (.lst ys) → RdrAt RC H' r td (sz + szL es) (advL ts es) → PartL PC (nw H H') ys es ts → Q (.ref wl) H'
theorem scParts_of : FnScope ["self", "things", "around", "bound", "names", "found", "k", "thing", "here"] ["self", "things", "around", "bound", "names"] (defScope s_Reader_parts_of) := ⟨rfl, rfl, rfl, by decide +kernel, rfl, by decide +kernel, by decide +kernel⟩
theorem ok_parts_of {RC PC : Addr} {n k : Nat} (F : DfM K RC "Reader.parts_of" "parts_of" s_Reader_parts_of) (c : Cls K RC) (enum : mg "enumerate" = none) (len : mg "len" = none) (U : UseM P w K mg base RC "part_of" ["self", "thing", "around", "bound"] k (spPartOf RC PC n)) :
    UseM P w K mg base RC "parts_of" ["self", "things", "around", "bound", "names"] (k + 1) (spPartsOf RC PC n) := by
  refine F.use scParts_of (fun _ _ _ _ _ _ us hl => match us, hl with | [_, _, _, _, _], _ => rfl) (fun vs H Q E h => ?_) (fun cdv f A outer s H vs Q E hr h => ?_)
  · obtain ⟨r, td, l, b, nl, sz, a, ts, es, S, bs, ns, xs, rfl, _⟩ := h
    rfl
  · obtain ⟨r, td, l, b, nl, sz, a, ts, es, S, bs, ns, xs, rfl, hR, hl, hx, hk, hS, hns, hb, hSb, hnl, hbl, hnn, hd, hz, he3, q⟩ := h
    refine ⟨_, pss_cons (ps_set (i := 5) scParts_of.nd rfl (Or.inl rfl) (pe_lst pa_nil))
      (pss_cons (ps_for PassesOwn.never rfl (pi_enum (by rfl) enum (pa_cons (pv 1) pa_nil)) (pg_tup rfl (pgs_cons (pg_name (i := 6) scParts_of.nd rfl (Or.inl rfl)) (pgs_cons (pg_name (i := 7) scParts_of.nd rfl (Or.inl rfl)) pgs_nil)))
        (pss_cons (ps_set (i := 8) scParts_of.nd rfl (Or.inl rfl) (pe_ifExp (pt_cmpR op_eq (pv 6) (pe_op op_sub (pe_callB call_len_seq (by rfl) len PySem.boot_len (pa_cons (pv 1) pa_nil)) pe_int) (nomark _)) (pe_tup (StX.pa_star (pv 3) (StX.pa_star (pv 4) pa_nil))) (pv 3)))
        (pss_one (ps_expr (pe_bm PySem.F.plainAttrs_list PySem.F.slot_list_append PySem.F.type_list_append mt_append (pv 5) (pa_cons (pe_useM c U hr (pv 0) (pa_cons (pv 7) (pa_cons (pv 2) (pa_cons (pv 8) pa_nil)))) pa_nil))))))
      (pss_one (ps_ret (pv 5)))), ?_⟩
    refine ⟨by show 0 ≤ sizeLine; decide, fun D nD => ?_⟩
    have hxl := hx.length
    have sD := Same.new nD (.lst [])
    have ne1 : ∀ {q o}, H q = some o → q ≠ D := fun h => ne_of_none h nD
    obtain ⟨dx0, hr0⟩ := id hR.ob
    obtain ⟨kv0, ht0, _⟩ := id hR.tb
    have up : ∀ {a}, upd H D (.lst []) a = none → H a = none := fun {a} h => by
      by_cases e : a = D
      · rw [e]; exact nD
      · rw [upd_ne e] at h; exact h
    refine ⟨_, rfl, l, xs, rfl, SqL.of (sD _ _ hl), ?_⟩
    refine for_it (walk_enum (K := K) (a := l) (xs := xs)) (fun i σ H2 => ∃ (ys : List V) (s6 s7 s8 : Option V), σ = [some (.ref r), some (.ref l), some (.int a), some (.ref b), some (.ref nl), some (.ref D), s6, s7, s8] ∧ Stp [r, td] H H2 ∧ H2 D = some (.lst ys) ∧
      RdrAt RC H2 r td (sz + szL (es.take i)) (advL ts (es.take i)) ∧ PartL PC (nw (upd H D (.lst [])) H2) ys (es.take i) ts) ⟨[], none, none, none, rfl, Stp.same sD, upd_same, hR.step sD, .nil⟩
      (fun i σ H2 hi h => ?_) ?_ ?_
    · obtain ⟨ys, s6, s7, s8, rfl, s2, _⟩ := h
      exact SqL.of (s2.keep _ _ (fun z => by
        rcases List.mem_cons.mp z with z | z
        · rw [z, hr0] at hl; cases hl
        · rw [List.mem_singleton.mp z, ht0] at hl; cases hl) hl)
    · rintro i v σ H2 H2' hi ⟨ys, s6, s7, s8, rfl, s2, hD2, R2, L2'⟩ ⟨T, x, y, rfl, nT, rfl, ex, hy⟩
      cases ex
      obtain ⟨e, hee, hae⟩ := hx.val hy
      have hie : i < es.length := by omega
      have hmem : e ∈ es := List.mem_of_getElem? hee
      obtain ⟨hd1, hd2⟩ := hd e hmem
      have hg := hk i e hee
      have hsz := szL_take hee
      have sT := Same.new nT (.tup [.int (i : Nat), y])
      have s2' : Stp [r, td] H (upd H2 T (.tup [.int (i : Nat), y])) := s2.trans (Stp.same sT)
      have noD : ∀ {q o}, H q = some o → (∀ z, o ≠ .ins RC dx0 z) → (∀ z, o ≠ .dK z) → q ∉ [r, td] := fun {q o} h n1 n2 z => by
        rcases List.mem_cons.mp z with z | z
        · rw [z, hr0] at h; cases h; exact n1 _ rfl
        · rw [List.mem_singleton.mp z, ht0] at h; cases h; exact n2 _ rfl
      have hl2 := s2'.keep _ _ (noD hl (fun _ z => nomatch z) (fun _ z => nomatch z)) hl
      have hb2 := s2'.tups _ _ hb
      have hnl2 := s2'.keep _ _ (noD hnl (fun _ z => nomatch z) (fun _ z => nomatch z)) hnl
      have R2' := R2.step sT
      have hD2' := sT _ _ hD2
      have ha2 := hae.tups s2'.tups
      obtain ⟨t, _, et, _⟩ := ha2.words
      subst et
      refine ⟨T, _, rfl, SqT.of upd_same, rfl, _, _, rfl, _, _, rfl, rfl, ?_⟩
      have lenx : xs.length = es.length := hxl
      -- here
      have fin : ∀ (hb' : Addr) (bs' : List Str) (H3 : Hp), Same (upd H2 T (.tup [.int (i : Nat), .ref t])) H3 → H3 hb' = some (.tup (bs'.map V.str)) → (∀ x ∈ (if i + 1 = es.length then ns ++ S else S), x ∈ bs') → bs'.length ≤ 2 * a →
          (∀ x ∈ (if i + 1 = es.length then ns ++ S else S), x ∈ letters) ∧ RdrAt RC H3 r td (sz + szL (es.take i)) (advL ts (es.take i)) ∧ AtE H3 (.ref t) e ∧ ∀ v H4, Stp [r, td] H3 H4 → RdrAt RC H4 r td (sz + szL (es.take i) + e.size) (adv (advL ts (es.take i)) e) → PartAt PC (nw H3 H4) v e (advL ts (es.take i)) →
            H4 D = some (.lst ys) ∧ ys.length < sizeLine ∧ Stp [r, td] H (upd H4 D (.lst (ys ++ [v]))) ∧ RdrAt RC (upd H4 D (.lst (ys ++ [v]))) r td (sz + szL (es.take (i + 1))) (advL ts (es.take (i + 1))) ∧ PartL PC (nw (upd H D (.lst [])) (upd H4 D (.lst (ys ++ [v])))) (ys ++ [v]) (es.take (i + 1)) ts := by
        intro hb' bs' H3 sm3 hb3 hsub hbl'
        refine ⟨?_, R2'.step sm3, ha2.same sm3, fun v H4 s4 R4 P4 => ?_⟩
        · intro x hx
          by_cases c1 : i + 1 = es.length
          · rw [if_pos c1] at hx
            rcases List.mem_append.mp hx with h | h
            · exact hns x h
            · exact hS x h
          · rw [if_neg c1] at hx; exact hS x hx
        have hD3 := sm3 _ _ hD2'
        obtain ⟨dx1, hr1⟩ := id R2.ob
        obtain ⟨kv1, ht1, _⟩ := id R2.tb
        have hDn : D ∉ [r, td] := fun z => by
          rcases List.mem_cons.mp z with z | z
          · exact absurd z.symm (ne1 hr0)
          · exact absurd (List.mem_singleton.mp z).symm (ne1 ht0)
        have hD4 := s4.keep _ _ hDn hD3
        have n3 : ∀ {q}, H3 q = none → upd H D (.lst []) q = none := fun {q} h => by
          by_cases e : q = D
          · rw [e, hD3] at h; cases h
          · rw [upd_ne e]
            have h2 : H2 q = none := sT.free (sm3.free h)
            cases hq : H q with
            | none => rfl
            | some o =>
              by_cases m : q ∈ [r, td]
              · rcases List.mem_cons.mp m with m | m
                · rw [m, hr1] at h2; cases h2
                · rw [List.mem_singleton.mp m, ht1] at h2; cases h2
              · rw [s2.keep _ _ m hq] at h2; cases h2
        have hyl : ys.length = (es.take i).length := L2'.length
        refine ⟨hD4, ?_, ?_, ?_, ?_⟩
        · have : (3 : Nat) < sizeLine := by decide
          rw [List.length_take] at hyl
          omega
        · refine ⟨fun q o m h => ?_, fun q z h => ?_⟩
          · rw [upd_ne (ne1 h)]
            exact s4.keep _ _ m (sm3 _ _ (s2'.keep _ _ m h))
          · rw [upd_ne (ne1 h)]
            exact s4.tups _ _ (sm3 _ _ (s2'.tups _ _ h))
        · rw [take_snoc hee, szL_snoc, advL_snoc, ← Nat.add_assoc]
          obtain ⟨dx4, hr4⟩ := R4.ob
          obtain ⟨kv4, ht4, g4⟩ := R4.tb
          exact ⟨⟨dx4, by rw [upd_ne (ne1 hr0)]; exact hr4⟩, ⟨kv4, by rw [upd_ne (ne1 ht0)]; exact ht4, g4⟩⟩
        · rw [take_snoc hee]
          refine (L2'.same (nw_mono (fun _ h => h) fun q o h1 h2 => ?_)).snoc (P4.same (nw_mono (fun _ h => n3 h) fun q o h1 h2 => ?_))
          · have hqD : q ≠ D := fun e => by rw [e, upd_same] at h1; cases h1
            rw [upd_ne hqD] at h1 ⊢
            refine s4.keep _ _ (fun m => ?_) (sm3 _ _ (sT _ _ h2))
            rcases List.mem_cons.mp m with m | m
            · rw [m, hr0] at h1; cases h1
            · rw [List.mem_singleton.mp m, ht0] at h1; cases h1
          · have hqD : q ≠ D := fun e => by rw [e, hD3] at h1; cases h1
            rw [upd_ne hqD]
            exact h2
      refine ⟨_, rfl, _, rfl, l, _, rfl, .inl (SqL.of hl2), _, _, rfl, rfl, rfl, _, rfl, ?_⟩
      refine ite2 (fun hlast => ?_) (fun hlast => ?_)
      · have hlast := V.int.inj (of_decide_eq_true hlast)
        have c1 : i + 1 = es.length := by omega
        refine ⟨_, rfl, b, _, rfl, .inl (SqT.of hb2), _, rfl, nl, _, rfl, .inr (SqL.of hnl2), ?_, fun hb' nb' => ?_⟩
        · have : (100 : Nat) ≤ sizeLine := by decide
          have : a ≤ 41 := by omega
          simp only [List.length_append, List.length_map, List.append_nil]
          omega
        · refine ⟨_, rfl, .inl ⟨rfl, _, SqL.of (Same.new nb' _ _ _ hD2')⟩, ?_⟩
          obtain ⟨dx2, hr2⟩ := R2'.ob
          have hr3 := Same.new nb' (.tup (bs.map V.str ++ (ns.map V.str ++ []))) _ _ hr2
          obtain ⟨_, _, _, _, _, lk, _⟩ := rdrF (.int (sz + szL (es.take i) : Nat)) (.ref td) .non
          refine ⟨_, rfl, r, dx2, _, rfl, hr3, lk, ?_⟩
          refine ⟨_, rfl, _, rfl, ?_⟩
          obtain ⟨f1, f2, f3, f4⟩ := fin hb' (bs ++ ns) (upd (upd H2 T (.tup [.int (i : Nat), .ref t])) hb' (.tup (bs.map V.str ++ (ns.map V.str ++ [])))) (Same.new nb' _) (by rw [upd_same, List.map_append, List.append_nil]) (fun x hx => by
            rw [if_pos c1] at hx
            rcases List.mem_append.mp hx with h | h
            · exact List.mem_append.mpr (.inr h)
            · exact List.mem_append.mpr (.inl (hSb x h))) (by rw [List.length_append]; omega)
          refine ⟨_, rfl, r, td, t, hb', sz + szL (es.take i), a, advL ts (es.take i), e, _, bs ++ ns, rfl, f2, f3, hg, f1, by rw [upd_same, List.map_append, List.append_nil], fun x hx => by
            rw [if_pos c1] at hx
            rcases List.mem_append.mp hx with h | h
            · exact List.mem_append.mpr (.inr h)
            · exact List.mem_append.mpr (.inl (hSb x h)), by rw [List.length_append]; omega, hd1, by omega, hd2, fun v H4 s4 R4 P4 => ?_⟩
          obtain ⟨g1, g2, g3, g4, g5⟩ := f4 v H4 s4 R4 P4
          exact ⟨D, ys, v, rfl, rfl, g1, g2, _, _, _, _, rfl, g3, upd_same, g4, g5⟩
      · have c1 : i + 1 ≠ es.length := fun z => by
          refine hlast (decide_eq_true (congrArg V.int ?_))
          show ((i : Nat) : Int) = ((xs.length : Nat) : Int) - 1
          omega
        refine ⟨_, rfl, ?_⟩
        refine ⟨_, rfl, .inl ⟨rfl, _, SqL.of hD2'⟩, ?_⟩
        obtain ⟨dx2, hr2⟩ := R2'.ob
        obtain ⟨_, _, _, _, _, lk, _⟩ := rdrF (.int (sz + szL (es.take i) : Nat)) (.ref td) .non
        refine ⟨_, rfl, r, dx2, _, rfl, hr2, lk, ?_⟩
        refine ⟨_, rfl, _, rfl, ?_⟩
        obtain ⟨f1, f2, f3, f4⟩ := fin b bs _ (Same.refl _) hb2 (fun x hx => by rw [if_neg c1] at hx; exact hSb x hx) (by omega)
        refine ⟨_, rfl, r, td, t, b, sz + szL (es.take i), a, advL ts (es.take i), e, _, bs, rfl, f2, f3, hg, f1, hb2, fun x hx => by rw [if_neg c1] at hx; exact hSb x hx, by omega, hd1, by omega, hd2, fun v H4 s4 R4 P4 => ?_⟩
        obtain ⟨g1, g2, g3, g4, g5⟩ := f4 v H4 s4 R4 P4
        exact ⟨D, ys, v, rfl, rfl, g1, g2, _, _, _, _, rfl, g3, upd_same, g4, g5⟩
    · rintro σ H2 ⟨ys, s6, s7, s8, rfl, s2, hD2, R2, L2'⟩
      rw [hxl, List.take_of_length_le (Nat.le_refl _)] at R2 L2'
      exact ⟨_, rfl, q D ys H2 s2 nD hD2 R2 (L2'.same (nw_mono (fun _ h => up h) fun _ _ _ h => h))⟩
end
end Wr
namespace Wr
open PySem PySem.Spec PyProof.Rows L2
section
variable {P : Program} {w : World} {K : PySem.W.Frag} {mg : Str → Option Value} {base : Heap}
theorem putK_more (kvs : List (Key × V)) (k : Key) (v : V) : (putK kvs k v).length ≤ kvs.length + 1 := by
  unfold putK
  split
  · rw [List.length_map]; exact Nat.le_succ _
  · rw [List.length_append]; exact Nat.le_refl _
theorem scPart_of : FnScope ["self", "thing", "around", "bound", "at", "why", "word", "turn", "number", "names", "within"] ["self", "thing", "around", "bound"] (defScope s_Reader_part_of) := ⟨rfl, rfl, rfl, by decide +kernel, rfl, by decide +kernel, by decide +kernel⟩
theorem ok_part_of {RC PC : Addr} {n k : Nat} (hk4 : 4 ≤ k) (F : DfM K RC "Reader.part_of" "part_of" s_Reader_part_of) (c : Cls K RC) (na : NoAts K RC readNs) (U_why : Use P w K mg base "why_not" ["thing", "at", "around", "bound"] 4 spWhy) (U_stand : Use P w K mg base "standing" ["thing", "place"] 1 spStanding)
    (U_parts : UseM P w K mg base RC "parts_of" ["self", "things", "around", "bound", "names"] k (spPartsOf RC PC n)) (U_Part : UseC P w K mg base PC "Part" ["self", "word", "turn", "number", "names", "within"] 1 (spPartInit PC)) :
    UseM P w K mg base RC "part_of" ["self", "thing", "around", "bound"] (k + 1) (spPartOf RC PC (n + 1)) := by
  refine F.use scPart_of (fun _ _ _ _ _ _ us hl => match us, hl with | [_, _, _, _], _ => rfl) (fun vs H Q E h => ?_) (fun cdv f A outer s H vs Q E hr h => ?_)
  · obtain ⟨r, td, t, b, sz, a, ts, e, S, bs, rfl, _⟩ := h
    rfl
  · obtain ⟨r, td, t, b, sz, a, ts, e, S, bs, rfl, hR, hv, hg, hS, hb, hSb, hbl, hd, hz, hn, q⟩ := h
    have hu := hu_of hr
    have hr1 : Room 1 _ := hr.mono (by omega)
    have hr2 : Room 2 _ := hr.mono (by omega)
    have hr4 : Room 4 _ := hr.mono (by omega)
    refine ⟨_, pss_cons (ps_set (i := 4) scPart_of.nd rfl (Or.inl rfl) (pe_fld (pv 0) rfl))
      (pss_cons (ps_set (i := 5) scPart_of.nd rfl (Or.inl rfl) (pe_use U_why hr4 (pa_cons (pv 1) (pa_cons (pv 4) (pa_cons (pv 2) (pa_cons (pv 3) pa_nil))))))
      (pss_cons (ps_if (pt_cmpR op_notN (pv 5) pe_non (nomark _)) (pss_one ps_never) pss_nil)
      (pss_cons (ps_fld (pv 0) (pe_op op_add (pv 4) pe_int) rfl)
      (pss_cons (ps_set (i := 6) scPart_of.nd rfl (Or.inl rfl) (pe_ix ix_tup (pv 1) pe_int (fun _ _ => rfl)))
      (pss_cons (ps_set (i := 7) scPart_of.nd rfl (Or.inl rfl) (pe_dget2 hu (pe_fld (pv 0) rfl) (pv 6) pe_int ⟨rfl, rfl, rfl, rfl⟩))
      (pss_cons (ps_dput hu (pe_fld (pv 0) rfl) (pv 6) (pe_op op_add (pv 7) pe_int) rfl)
      (pss_cons (ps_set (i := 8) scPart_of.nd rfl (Or.inl rfl) (pe_ifExp (pt_cmpR op_eq (pv 6) pe_str (nomark _)) (pe_ix ix_tup (pv 1) pe_int (fun _ _ => rfl)) pe_non))
      (pss_cons (ps_set (i := 9) scPart_of.nd rfl (Or.inl rfl) (pe_use U_stand hr1 (pa_cons (pv 1) (pa_cons pe_str pa_nil))))
      (pss_cons (ps_set (i := 10) scPart_of.nd rfl (Or.inl rfl) (pe_useM c U_parts hr (pv 0) (pa_cons (pe_use U_stand hr1 (pa_cons (pv 1) (pa_cons pe_str pa_nil))) (pa_cons (pe_op op_add (pv 2) pe_int) (pa_cons (pv 3) (pa_cons (pv 9) pa_nil))))))
      (pss_one (ps_ret (pe_useC U_Part hr2 (pa_cons (pv 6) (pa_cons (pv 7) (pa_cons (pv 8) (pa_cons (pv 9) (pa_cons (pv 10) pa_nil))))))))))))))))), ?_⟩
    obtain ⟨t', xs, et, ht, _, h5⟩ := hv.words
    cases et
    have h4 : xs.length ≤ 4 := by rw [List.length_cons] at h5; omega
    obtain ⟨dx, hro⟩ := hR.ob
    obtain ⟨kvs, htd, hkl, hts⟩ := hR.tb
    have hrt := hR.ne
    obtain ⟨_, _, lk1, lk2, pt, _, lk3⟩ := rdrF (.int sz) (.ref td) (.int (sz + 1 : Nat))
    obtain ⟨_, _, _, lk2', _, _, lk3'⟩ := rdrF (.int (sz + 1 : Nat)) (.ref td) .non
    have hsp := e.size_pos
    have hdp := e.deep_pos
    -- at, why
    refine ⟨_, rfl, r, RC, dx, _, _, rfl, hro, c, na _ (by decide +kernel), lk1, ?_⟩
    refine ⟨_, rfl, _, rfl, _, rfl, _, rfl, t, b, e, S, bs, sz, a, rfl, hv, hg, hS, by omega, by omega, hb, hSb, fun H1 sm1 => ?_⟩
    refine ⟨_, rfl, rfl, _, rfl, iteF ?_⟩
    have hro1 := sm1 _ _ hro
    have htd1 := sm1 _ _ htd
    -- size
    refine ⟨_, rfl, _, _, rfl, rfl, _, rfl, r, RC, dx, _, rfl, hro1, c, na _ (by decide +kernel), by show 2 < 1000; decide, ?_⟩
    have e1 : putF "size" (V.int ((sz : Int) + 1)) ([("size", V.int sz), ("turns", V.ref td)] : List (Str × V)) = ([("size", V.int (sz + 1 : Nat)), ("turns", V.ref td)] : List (Str × V)) := pt
    rw [e1]
    have ntr : t ≠ r := fun z => by rw [z, hro] at ht; cases ht
    have ntt : t ≠ td := fun z => by rw [z, htd] at ht; cases ht
    have ht2 : upd H1 r (.ins RC dx [("size", .int (sz + 1 : Nat)), ("turns", .ref td)]) t = some (.tup (.str e.word :: xs)) := by rw [upd_ne ntr]; exact sm1 _ _ ht
    have htd2 : upd H1 r (.ins RC dx [("size", .int (sz + 1 : Nat)), ("turns", .ref td)]) td = some (.dK kvs) := by rw [upd_ne hrt.symm]; exact htd1
    refine ⟨_, rfl, t, _, _, .str e.word, rfl, rfl, SqT.of ht2, atI_nat (j := 0) rfl, ?_⟩
    refine ⟨_, rfl, r, RC, dx, _, _, rfl, upd_same, c, na _ (by decide +kernel), lk2', td, rfl, .inl ⟨kvs, .inl htd2⟩, _, rfl, _, DGet.k (k := Sum.inr e.word) htd2, ?_⟩
    rw [hts]
    refine ⟨_, rfl, _, _, rfl, rfl, _, rfl, r, RC, dx, _, _, rfl, upd_same, c, na _ (by decide +kernel), lk2', _, rfl, td, _, rfl, DPut.k (k := Sum.inr e.word) htd2 (by have h9 : (200 : Nat) < sizeLine := (by decide); omega), ?_⟩
    -- the heap behind it
    generalize eH3 : upd (upd H1 r (.ins RC dx [("size", .int (sz + 1 : Nat)), ("turns", .ref td)])) td (.dK (putK kvs (Sum.inr e.word) (V.int ((ts e.word : Int) + 1)))) = H3
    have hro3 : H3 r = some (.ins RC dx [("size", .int (sz + 1 : Nat)), ("turns", .ref td)]) := by rw [← eH3, upd_ne hrt]; exact upd_same
    have R3 : RdrAt RC H3 r td (sz + 1) (bump ts e.word) := by
      refine ⟨⟨dx, hro3⟩, ⟨_, by rw [← eH3]; exact upd_same, ?_, fun z => ?_⟩⟩
      · exact Nat.le_trans (putK_more _ _ _) (by omega)
      · rw [valV_put]
        by_cases hz : z = e.word
        · subst hz
          rw [if_pos rfl]
          show V.int _ = V.int ((if e.word = e.word then ts e.word + 1 else ts e.word : Nat) : Int)
          rw [if_pos rfl]; rfl
        · rw [if_neg (fun q => hz (Sum.inr.inj q)), hts]
          show V.int _ = V.int ((if z = e.word then ts z + 1 else ts z : Nat) : Int)
          rw [if_neg hz]
    have s3 : Stp [r, td] H H3 := by
      refine ⟨fun q o m h => ?_, fun q z h => ?_⟩
      · have m1 : q ≠ r := fun z => m (by rw [z]; exact List.mem_cons_self)
        have m2 : q ≠ td := fun z => m (by rw [z]; simp)
        rw [← eH3, upd_ne m2, upd_ne m1]
        exact sm1 _ _ h
      · have m1 : q ≠ r := fun e => by rw [e, hro] at h; cases h
        have m2 : q ≠ td := fun e => by rw [e, htd] at h; cases h
        rw [← eH3, upd_ne m2, upd_ne m1]
        exact sm1 _ _ h
    have ht3 := s3.tups _ _ ht
    have hv3 := hv.tups s3.tups
    have stepN : ∀ (u : TS) (D : Ends) (σ : L2.St), σ[6]? = some (some (.str e.word)) → σ[1]? = some (some (.ref t)) → u D (σ.set 8 (some e.nv)) H3 → tSeq (tAsg (tIf (tTest (tOp rEq (tVar 6) (tC (.str "num")))) (tOp (rIxT K) (tVar 1) (tC (.int 1))) (tC .non)) (gName 8)) u D σ H3 := by
      intro u D σ h6 h1 hu
      refine ⟨_, h6, rfl, _, rfl, ?_⟩
      refine ite2 (fun hw => ?_) (fun hw => ?_)
      · obtain ⟨n, rfl⟩ := word_num hg (V.str.inj (of_decide_eq_true hw))
        obtain ⟨_, e1, h2⟩ := hv3
        cases e1
        exact ⟨_, h1, t, _, _, .int n, rfl, rfl, SqT.of h2, atI_nat (j := 1) rfl, hu⟩
      · have : e.nv = .non := by
          cases e with
          | num n => exact absurd (decide_eq_true rfl) hw
          | _ => rfl
        rw [this] at hu
        exact hu
    refine stepN _ _ _ rfl rfl ?_
    refine ⟨_, rfl, t, e, S, xs, "x", rfl, hv3, hg, ht3, h4, fun nl H4 sm4 nn4 hn4 => ?_⟩
    obtain ⟨en, el⟩ := stand_ns hv3 ht3
    rw [en] at hn4
    have ht4 := sm4 _ _ ht3
    have hv4 := hv3.same sm4
    refine ⟨_, rfl, r, dx, _, rfl, sm4 _ _ hro3, lk3', _, rfl, t, e, S, xs, "e", rfl, hv4, hg, ht4, h4, fun l H5 sm5 nn5 hl5 => ?_⟩
    have sm35 : Same H3 H5 := sm4.trans sm5
    have kdd : ∀ k ∈ e.kids, a + 1 + k.deep ≤ 41 ∧ k.deep ≤ n := fun k hk => by
      have := kid_deep hk
      omega
    have hsk := e.size_kd
    refine ⟨_, rfl, _, _, rfl, rfl, _, rfl, _, rfl, r, td, l, b, nl, sz + 1, a + 1, bump ts e.word, e.kids, S, bs, e.ns, _, rfl, R3.step sm35, hl5, el.tups (fun q z h => sm35 _ _ h), hg.kg, hS, hg.ns_letters hS, sm35 _ _ (s3.tups _ _ hb), hSb, sm5 _ _ hn4, by omega, e.ns_len, kdd, by omega, e.kids_len,
      fun wl ys H6 s6 nw6 hwl6 R6 L6 => ?_⟩
    refine ⟨_, rfl, _, rfl, _, rfl, _, rfl, _, rfl, fun x dx' nx ndx nxd => ?_⟩
    refine ⟨x, dx', _, _, _, _, _, rfl, upd_same, rfl, ?_⟩
    rw [upd_upd]
    have s06 : Stp [r, td] H H6 := (s3.trans (Stp.same sm35)).trans s6
    have gone : ∀ {G : Hp} {z : Nat} {us : Str → Nat}, Stp [r, td] H G → RdrAt RC G r td z us → ∀ {q}, G q = none → H q = none := fun {G z us} s R {q} h => by
      obtain ⟨d1, g1⟩ := R.ob
      obtain ⟨kv1, g2, _⟩ := R.tb
      refine s.old (fun b hb _ => ?_) h
      rcases List.mem_cons.mp hb with hb | hb
      · rw [hb, g1]; exact fun z => nomatch z
      · rw [List.mem_singleton.mp hb, g2]; exact fun z => nomatch z
    have s05 : Stp [r, td] H H5 := s3.trans (Stp.same sm35)
    have nx0 := gone s06 R6 nx
    have ndx0 := gone s06 R6 ndx
    have nl0 := gone s3 R3 nn4
    have wl0 := gone s05 (R3.step sm35) nw6
    have up6 : ∀ {q o}, H6 q = some o → upd (upd H6 dx' (.own x)) x (.ins PC dx' (partF e.word (ts e.word) e.nv nl wl)) q = some o := fun {q o} h => by
      rw [upd_ne (ne_of_none h nx), upd_ne (ne_of_none h ndx)]
      exact h
    refine q (.ref x) (upd (upd H6 dx' (.own x)) x (.ins PC dx' (partF e.word (ts e.word) e.nv nl wl))) ⟨fun q o m h => up6 (s06.keep _ _ m h), fun q z h => up6 (s06.tups _ _ h)⟩ ?_ (PartAt.mk_ (xs := ys) ⟨x, dx', nl, wl, rfl, ?_, ?_, ?_⟩ ?_)
    · have e2 : sz + e.size = sz + 1 + szL e.kids := by omega
      rw [e2, ← adv_kids]
      exact R6.step fun _ _ h => up6 h
    · rw [nw_at nx0]; exact upd_same
    · rw [nw_at nl0]; exact up6 (s6.keep _ _ (fun m => by
        rcases List.mem_cons.mp m with m | m
        · rw [m, hro] at nl0; cases nl0
        · rw [List.mem_singleton.mp m, htd] at nl0; cases nl0) (sm5 _ _ hn4))
    · rw [nw_at wl0]; exact up6 hwl6
    · exact L6.same (nw_mono (fun _ h => gone s05 (R3.step sm35) h) fun _ _ _ h => up6 h)
end
section
variable {P : Program} {w : World} {K : PySem.W.Frag} {mg : Str → Option Value} {base : Heap}
theorem ok_part {RC PC : Addr} (F : DfM K RC "Reader.part_of" "part_of" s_Reader_part_of) (F' : DfM K RC "Reader.parts_of" "parts_of" s_Reader_parts_of) (c : Cls K RC) (na : NoAts K RC readNs) (enum : mg "enumerate" = none) (len : mg "len" = none)
    (U_why : Use P w K mg base "why_not" ["thing", "at", "around", "bound"] 4 spWhy) (U_stand : Use P w K mg base "standing" ["thing", "place"] 1 spStanding) (U_Part : UseC P w K mg base PC "Part" ["self", "word", "turn", "number", "names", "within"] 1 (spPartInit PC)) :
    ∀ n, UseM P w K mg base RC "part_of" ["self", "thing", "around", "bound"] (2 * n + 5) (spPartOf RC PC n)
  | 0 => F.use scPart_of (fun _ _ _ _ _ _ us hl => match us, hl with | [_, _, _, _], _ => rfl) (fun vs H Q E h => by
      obtain ⟨r, td, t, b, sz, a, ts, e, S, bs, rfl, _⟩ := h
      rfl) (fun cdv f A outer s H vs Q E hr h => by
      obtain ⟨r, td, t, b, sz, a, ts, e, S, bs, rfl, _, _, _, _, _, _, _, _, _, hn, _⟩ := h
      have := e.deep_pos
      omega)
  | n + 1 => ok_part_of (k := 2 * n + 6) (by omega) F c na U_why U_stand (ok_parts_of F' c enum len (ok_part F F' c na enum len U_why U_stand U_Part n)) U_Part
/-- a tree stands at p -/
def TreeAt (TC PC : Addr) (H : Hp) (p : Addr) (e : Ex) : Prop := ∃ dx td top kvs, H p = some (.ins TC dx [("top", top), ("size", .int e.size), ("turns", .ref td)]) ∧ PartAt PC H top e (fun _ => 0) ∧ H td = some (.dK kvs) ∧ ∀ z : Str, (valV kvs (Sum.inr z : Key)).getD (.int 0) = .int (e.cnt z)
def spTree (TC PC : Addr) : Sp := fun vs H Q _ => ∃ (v : V) (e : Ex), vs = [v] ∧ AtE H v e ∧ Good [] e ∧ e.deep ≤ 41 ∧ e.size ≤ 200 ∧ ∀ p H', Same H H' → TreeAt TC PC (nw H H') p e → Q (.ref p) H'
theorem scTree_of : FnScope ["program", "reader", "top"] ["program"] (defScope s_tree_of) := ⟨rfl, rfl, rfl, by decide +kernel, rfl, by decide +kernel, by decide +kernel⟩
theorem ok_tree_of {RC PC TC : Addr} (F : Df K mg "tree_of" s_tree_of) (c : Cls K RC) (na : NoAts K RC readNs) (U_part : UseM P w K mg base RC "part_of" ["self", "thing", "around", "bound"] 87 (spPartOf RC PC 41)) (U_Reader : UseC P w K mg base RC "Reader" ["self"] 1 (spReadInit RC))
    (U_Tree : UseC P w K mg base TC "Tree" ["self", "top", "size", "turns"] 1 (spTreeInit TC)) : Use P w K mg base "tree_of" ["program"] 88 (spTree TC PC) := by
  refine F.use scTree_of (fun _ _ _ _ _ _ us hl => match us, hl with | [_], _ => rfl) (fun vs H Q E h => ?_) (fun cdv f A outer s H vs Q E hr h => ?_)
  · obtain ⟨v, e, rfl, _⟩ := h
    rfl
  · obtain ⟨v, e, rfl, hv, hg, hd, hz, q⟩ := h
    have hr2 : Room 2 _ := hr.mono (by decide)
    refine ⟨_, pss_cons (ps_set (i := 1) scTree_of.nd rfl (Or.inl rfl) (pe_useC0 U_Reader hr2))
      (pss_cons (ps_set (i := 2) scTree_of.nd rfl (Or.inl rfl) (pe_useM c U_part hr (pv 1) (pa_cons (pv 0) (pa_cons pe_int (pa_cons (pe_tup pa_nil) pa_nil)))))
      (pss_one (ps_ret (pe_useC U_Tree hr2 (pa_cons (pv 2) (pa_cons (pe_fld (pv 1) rfl) (pa_cons (pe_fld (pv 1) rfl) pa_nil))))))), ?_⟩
    refine fun x dx nx ndx nxd => ⟨x, dx, rfl, upd_same, fun td H1 ntd R1 k1 => ⟨rfl, ?_⟩⟩
    have a0 : ∀ {q o}, H q = some o → H1 q = some o := fun {q o} h => k1 q o (by rw [upd_ne (ne_of_none h nx), upd_ne (ne_of_none h ndx)]; exact h) (ne_of_none h nx)
    have sm1 : Same H H1 := fun _ _ h => a0 h
    obtain ⟨dx1, hx1⟩ := R1.ob
    obtain ⟨_, _, lk1, lk2, _, lk3, _⟩ := rdrF (.int 0) (.ref td) .non
    have td0 : H td = none := by
      cases e : H td with
      | none => rfl
      | some o =>
        rw [upd_ne (ne_of_none e nx), upd_ne (ne_of_none e ndx), e] at ntd
        cases ntd
    refine ⟨_, rfl, x, dx1, _, rfl, hx1, lk3, _, rfl, by show 0 ≤ sizeLine; decide, fun b nb => ?_⟩
    obtain ⟨t, _, et, _⟩ := (hv.same sm1).words
    subst et
    have smb := Same.new nb (.tup [])
    refine ⟨x, td, t, b, 0, 0, fun _ => 0, e, [], [], rfl, R1.step smb, (hv.same sm1).same smb, hg, (by simp), upd_same, (by simp), (by simp), by omega, by omega, hd, fun top H3 s3 R3 P3 => ?_⟩
    obtain ⟨dx3, hx3⟩ := R3.ob
    obtain ⟨kv3, ht3, _, hv3⟩ := R3.tb
    obtain ⟨_, _, mk1, mk2, _⟩ := rdrF (.int (0 + e.size : Nat)) (.ref td) .non
    refine ⟨_, rfl, _, rfl, x, RC, dx3, _, _, rfl, hx3, c, na _ (by decide +kernel), mk1, _, rfl, x, RC, dx3, _, _, rfl, hx3, c, na _ (by decide +kernel), mk2, ?_⟩
    refine fun y dy ny ndy nyd => ⟨y, dy, _, _, _, rfl, upd_same, rfl, ?_⟩
    rw [upd_upd]
    have s13 : Same H H3 := fun q o h => s3.keep q o (fun m => by
      rcases List.mem_cons.mp m with m | m
      · rw [m, nx] at h; cases h
      · rw [List.mem_singleton.mp m, td0] at h; cases h) (smb _ _ (sm1 _ _ h))
    have up3 : ∀ {q o z}, H3 q = some o → upd (upd H3 dy (.own y)) y z q = some o := fun {q o z} h => by
      rw [upd_ne (ne_of_none h ny), upd_ne (ne_of_none h ndy)]
      exact h
    refine q y _ (fun q o h => up3 (s13 _ _ h)) ⟨dy, td, top, kv3, ?_, ?_, ?_, fun z => ?_⟩
    · rw [nw_at (s13.free ny), upd_same, Nat.zero_add]
    · refine P3.same (nw_mono (fun q h => sm1.free (smb.free h)) fun q o _ h => up3 h)
    · rw [nw_at td0]; exact up3 ht3
    · rw [hv3 z]
      show V.int ((0 + e.cnt z : Nat) : Int) = _
      rw [Nat.zero_add]
end
end Wr
namespace Wr
open PySem PySem.Spec PyProof.Rows L2
theorem joinS_none (ws : List (Option Wd)) : ws.foldl joinS none = none := by
  induction ws with
  | nil => rfl
  | cons w r ih => exact ih
theorem joinW_take {ws : List (Option Wd)} {i : Nat} {w : Option Wd} (h : ws[i]? = some w) : joinW (ws.take (i + 1)) = joinS (joinW (ws.take i)) w := by
  unfold joinW
  rw [List.take_add_one, List.foldl_append, h]
  rfl
theorem joinW_stop {ws : List (Option Wd)} {i : Nat} (h : joinW (ws.take i) = none) : joinW ws = none := by
  have e : ws = ws.take i ++ ws.drop i := (List.take_append_drop i ws).symm
  unfold joinW at h ⊢
  rw [e, List.foldl_append, h, joinS_none]
theorem woV_none {w : Option Wd} : (decide (woV w = .non)) = w.isNone := by
  cases w with
  | none => rfl
  | some w => rfl
theorem woV_eq {w u : Option Wd} : (decide (woV w = woV u)) = decide (w = u) := by
  cases w with
  | none => cases u with
    | none => rfl
    | some u => rfl
  | some w => cases u with
    | none => rfl
    | some u => cases w <;> cases u <;> decide +kernel
section
variable {P : Program} {w : World} {K : PySem.W.Frag} {mg : Str → Option Value} {base : Heap}
def spJoin (K : PySem.W.Frag) : Sp := fun vs H Q _ => ∃ (l : Addr) (ws : List (Option Wd)), vs = [.ref l] ∧ H l = some (.lst (ws.map woV)) ∧ Q (woV (joinW ws)) H
theorem scJoin : FnScope ["_law_words", "_law_found", "_law_word"] ["_law_words"] (defScope s_L_join) := ⟨rfl, rfl, rfl, by decide +kernel, rfl, by decide +kernel, by decide +kernel⟩
theorem ok_join (F : Df K mg "_law_join" s_L_join) : Use P w K mg base "_law_join" ["_law_words"] 1 (spJoin K) := by
  refine F.use scJoin (fun _ _ _ _ _ _ us hl => match us, hl with | [_], _ => rfl) (fun vs H Q E h => ?_) (fun cdv f A outer s H vs Q E hr h => ?_)
  · obtain ⟨l, ws, rfl, _⟩ := h
    rfl
  · obtain ⟨l, ws, rfl, hl, q⟩ := h
    refine ⟨_, pss_cons (ps_set (i := 1) scJoin.nd rfl (Or.inl rfl) pe_str)
      (pss_cons (ps_for PassesOwn.never rfl (pi_list (pv 0)) (pg_name (i := 2) scJoin.nd rfl (Or.inl rfl))
        (pss_cons (ps_if (PW.pt (pw_or (pt_cmpR op_isN (pv 1) pe_non (nomark _)) (pw_or (pt_cmpR op_isN (pv 2) pe_non (nomark _)) (pw_or1 (PW.pt (pw_and (pt_cmpR op_ne (pv 1) pe_str (nomark _)) (pw_and1 (pt_cmpR op_eq (pv 2) pe_str (nomark _)))))))))
            (pss_one (ps_ret pe_non)) pss_nil)
        (pss_one (ps_if (pt_cmpR op_eq (pv 1) pe_str (nomark _)) (pss_one (ps_set (i := 1) scJoin.nd rfl (Or.inl rfl) (pv 2))) pss_nil))))
      (pss_one (ps_ret (pv 1)))), ?_⟩
    refine ⟨_, rfl, l, rfl, ⟨_, SqL.of hl⟩, for_list (K := K) (a := l) (xs := ws.map woV) (fun i σ H' => H' = H ∧ ∃ (f : Wd) (v : Option V), joinW (ws.take i) = some f ∧ σ = [some (.ref l), some (woV (some f)), v])
      ⟨rfl, .quiet, none, rfl, rfl⟩ (fun i σ H' _ h => by rw [h.1]; exact SqL.of hl) ?_ ?_⟩
    · rintro i y σ H' hi ⟨rfl, f, v, hf, rfl⟩
      obtain ⟨x, rfl, hx⟩ : ∃ x, y = woV x ∧ ws[i]? = some x := by
        rw [List.getElem?_map] at hi
        cases e : ws[i]? with
        | none => rw [e] at hi; cases hi
        | some u => rw [e] at hi; exact ⟨u, (Option.some.inj hi).symm, rfl⟩
      have ht := joinW_take hx
      rw [hf] at ht
      have stop : joinS (some f) x = none → Q .non H' := fun h => by
        have z := joinW_stop (ht.trans h)
        rw [z] at q
        exact q
      have go : ∀ f', joinS (some f) x = some f' → ∃ (f2 : Wd) (v : Option V), joinW (ws.take (i + 1)) = some f2 ∧ ([some (.ref l), some (woV (some f')), some (woV x)] : L2.St) = [some (.ref l), some (woV (some f2)), v] := fun f' h => ⟨f', some (woV x), ht.trans h, rfl⟩
      refine ⟨_, rfl, rfl, _, rfl, ?_⟩
      refine iteF ?_
      refine ⟨_, rfl, rfl, _, rfl, ?_⟩
      cases x with
      | none =>
        refine iteT ?_
        refine iteT ?_
        exact stop rfl
      | some x =>
        refine iteF ?_
        refine ⟨_, rfl, rfl, _, rfl, ?_⟩
        cases f with
        | quiet =>
          refine iteF ?_
          refine iteF ?_
          refine ⟨_, rfl, rfl, _, rfl, ?_⟩
          refine iteT ?_
          exact ⟨_, rfl, rfl, go x rfl⟩
        | free =>
          refine iteT ?_
          refine ⟨_, rfl, rfl, _, rfl, ?_⟩
          cases x with
          | used =>
            refine iteT ?_
            exact stop rfl
          | quiet =>
            refine iteF ?_
            refine ⟨_, rfl, rfl, _, rfl, ?_⟩
            refine iteF ?_
            exact ⟨rfl, go _ rfl⟩
          | free =>
            refine iteF ?_
            refine ⟨_, rfl, rfl, _, rfl, ?_⟩
            refine iteF ?_
            exact ⟨rfl, go _ rfl⟩
        | used =>
          refine iteT ?_
          refine ⟨_, rfl, rfl, _, rfl, ?_⟩
          cases x with
          | used =>
            refine iteT ?_
            exact stop rfl
          | quiet =>
            refine iteF ?_
            refine ⟨_, rfl, rfl, _, rfl, ?_⟩
            refine iteF ?_
            exact ⟨rfl, go _ rfl⟩
          | free =>
            refine iteF ?_
            refine ⟨_, rfl, rfl, _, rfl, ?_⟩
            refine iteF ?_
            exact ⟨rfl, go _ rfl⟩
    · rintro σ H' ⟨rfl, f, v, hf, rfl⟩
      refine ⟨_, rfl, ?_⟩
      rw [List.length_map, List.take_length] at hf
      rw [hf] at q
      exact q
end
end Wr
namespace Wr
open PySem PySem.Spec PyProof.Rows L2
theorem okV_dp {K : PySem.W.Frag} {H : Hp} : ∀ k : Option Str, Dp K H (okV k) (okD k)
  | none => .non
  | some x => .str x
theorem name_shaped {k : Option Str} (hk : ∀ x, k = some x → x ∈ letters) : SeqAt.shaped (.tuple [.str "name", okD k]) = true := by
  have w2 := words_lay.2.1
  have h : PyData.canLay0 (.tuple [.str "name", okD k]) = true := by
    cases k with
    | none => simp only [PyData.canLay0, PyData.canLayAll0, okD, Bool.and_true, Bool.and_eq_true] at *; exact w2
    | some x =>
      have := lets_lay x (hk x rfl)
      simp only [PyData.canLay0, PyData.canLayAll0, okD, Bool.and_true, Bool.and_eq_true] at *
      exact ⟨w2, this⟩
  unfold SeqAt.shaped
  rw [h]
  cases k <;> rfl
def softs : List Str := ["go", "drop", "call", "throw"]
theorem wd_len : (2 : Nat) ≤ sizeLine ∧ (4 : Nat) ≤ sizeLine := by decide
theorem woV_quiet (w : Option Wd) : decide (woV w = .str "quiet") = decide (w = some .quiet) := woV_eq (u := some .quiet)
theorem scal_woV (w : Option Wd) (x : Str) : scal (woV w) (.str x) = true := by cases w <;> rfl
theorem flat_woV (w : Option Wd) : flatV (woV w) = true := by cases w <;> rfl
theorem in_qf (w : Option Wd) : inV (woV w) [.str "quiet", .str "free"] = decide (w = some .quiet ∨ w = some .free) := by
  cases w with
  | none => rfl
  | some w => cases w <;> decide +kernel
section
variable {K : PySem.W.Frag} {D : Ends} {H : Hp} {a0 a4 a5 a8 a9 a10 : Option V} {S : List Str} {e : Ex} {k : Option Str} {l w : Addr} {us : List V}
abbrev stF (a0 : Option V) (k : Option Str) (x : Str) (l : Addr) (a4 a5 : Option V) (w : Addr) (r : Option Wd) (a8 a9 a10 : Option V) : L2.St := [a0, some (okV k), some (.str x), some (.ref l), a4, a5, some (.ref w), some (woV r), a8, a9, a10]
abbrev tFound (K : PySem.W.Frag) : TS := (tIfS (tAnd (tTest (tOp (rIn K false) (tVar 2) (tTup (tCons (tC (V.str ("go"))) (tCons (tC (V.str ("drop"))) tNil))))) (tTest (tOp (rEqD K) (tOp (rIxL K) (tVar 3) (tC (V.int 0))) (tTup (tCons (tC (V.str ("name"))) (tCons (tVar 1) tNil)))))) (tAsg (tIf (tOr (tTest (tOp rEq (tVar 2) (tC (V.str ("drop"))))) (tTest (tOp rEq (tOp (rIxL K) (tVar 6) (tC (V.int 1))) (tC (V.str ("quiet")))))) (tC (V.str ("used"))) (tC V.non)) (gName 7)) (tIfS (tTest (tOp (rIn K false) (tVar 2) (tTup (tCons (tC (V.str ("go"))) (tCons (tC (V.str ("drop"))) (tCons (tC (V.str ("call"))) (tCons (tC (V.str ("throw"))) tNil))))))) (tAsg (tIf (tTest (tOp rEq (tVar 7) (tC (V.str ("quiet"))))) (tC (V.str ("free"))) (tVar 7)) (gName 7)) (tIfS (tTest (tOp rEq (tVar 2) (tC (V.str ("fun"))))) (tAsg (tIf (tTest (tOp (rIn K false) (tOp (rIxL K) (tVar 6) (tC (V.int 0))) (tTup (tCons (tC (V.str ("quiet"))) (tCons (tC (V.str ("free"))) tNil))))) (tC (V.str ("quiet"))) (tC V.non)) (gName 7)) (tIfS (tTest (tOp rEq (tVar 2) (tC (V.str ("if"))))) (tSeq (tAsg (tLc (iList K (tSl (rSlL K) (tVar 6) (tPart (tC (V.int 1))) tNoPart)) (gName 9) tYes (tBM K "list" (rIndex K) (tLst (tCons (tC (V.str ("quiet"))) (tCons (tC (V.str ("free"))) (tCons (tC (V.str ("used"))) (tCons (tC V.non) tNil))))) (tCons (tVar 9) tNil)) (List.map (fun x => x.snd) [(("_law_one" : Str), 9)])) (gName 8)) (tAsg (tCall (spJoin K) [] E0 (tCons (tLst (tCons (tOp (rIxL K) (tVar 6) (tC (V.int 0))) (tCons (tOp (rIxL K) (tLst (tCons (tC (V.str ("quiet"))) (tCons (tC (V.str ("free"))) (tCons (tC (V.str ("used"))) (tCons (tC V.non) tNil))))) (tCB (rMax K) (tCons (tVar 8) tNil))) tNil))) tNil)) (gName 7))) (tIfS (tTest (tOp rEq (tVar 2) (tC (V.str ("catch"))))) (tSeq (tAsg (tC V.non) (gName 7)) (tIfS (tAnd (tTest (tOp (rIn K false) (tOp (rIxL K) (tVar 6) (tC (V.int 1))) (tTup (tCons (tC (V.str ("quiet"))) (tCons (tC (V.str ("free"))) tNil))))) (tTest (tOp (fun x y H Q => y = V.non ∧ Q (V.bl !decide (x = V.non)) H) (tOp (rIxL K) (tVar 6) (tC (V.int 0))) (tC V.non)))) (tAsg (tIf (tTest (tOp rNe (tOp (rIxL K) (tVar 6) (tC (V.int 0))) (tC (V.str ("quiet"))))) (tOp (rIxL K) (tVar 6) (tC (V.int 0))) (tC (V.str ("free")))) (gName 7)) tNext)) tNext)))))
theorem ones_gd : ∀ w ∈ ones, inV (V.str w) [.str "go", .str "drop"] = true → w = "drop" := by decide +kernel
theorem twos_gd : ∀ w ∈ twos, inV (V.str w) [.str "go", .str "drop"] = true → w = "go" := by decide +kernel
theorem ones_so : ∀ w ∈ ones, inV (V.str w) [.str "go", .str "drop", .str "call", .str "throw"] = true → w = "drop" ∨ w = "throw" := by decide +kernel
theorem twos_so : ∀ w ∈ twos, inV (V.str w) [.str "go", .str "drop", .str "call", .str "throw"] = true → w = "go" ∨ w = "call" := by decide +kernel
theorem ones_ns : ∀ w ∈ ones, ¬ inV (V.str w) [.str "go", .str "drop", .str "call", .str "throw"] = true → w ≠ "drop" ∧ w ≠ "throw" := by decide +kernel
theorem twos_ns : ∀ w ∈ twos, ¬ inV (V.str w) [.str "go", .str "drop", .str "call", .str "throw"] = true → w ≠ "go" ∧ w ≠ "call" := by decide +kernel
theorem rest_no : ∀ w ∈ (["num", "name", "fault", "if", "let", "fun", "catch"] : List Str), ¬ inV (V.str w) [.str "go", .str "drop"] = true ∧ ¬ inV (V.str w) [.str "go", .str "drop", .str "call", .str "throw"] = true := by decide +kernel
theorem word_gd (hg : Good S e) (h : inV (V.str e.word) [.str "go", .str "drop"] = true) : (∃ a b, e = .two "go" a b) ∨ ∃ a, e = .one "drop" a := by
  cases e with
  | one w a => exact .inr ⟨a, by rw [ones_gd w hg.1 h]⟩
  | two w a b => exact .inl ⟨a, b, by rw [twos_gd w hg.1 h]⟩
  | num n => exact absurd h (rest_no "num" (by decide +kernel)).1
  | name n => exact absurd h (rest_no "name" (by decide +kernel)).1
  | fault => exact absurd h (rest_no "fault" (by decide +kernel)).1
  | ite a b c => exact absurd h (rest_no "if" (by decide +kernel)).1
  | lt a b c => exact absurd h (rest_no "let" (by decide +kernel)).1
  | fn a b => exact absurd h (rest_no "fun" (by decide +kernel)).1
  | ct a x y b => exact absurd h (rest_no "catch" (by decide +kernel)).1
/-- what is within isn't the rest -/
def nK (e : Ex) (k : Option Str) : Prop := (∀ a b, e = .two "go" a b → isK a k = false) ∧ ∀ a, e = .one "drop" a → isK a k = false
theorem word_so (hg : Good S e) (hn : nK e k) (h : inV (V.str e.word) [.str "go", .str "drop", .str "call", .str "throw"] = true) : e.wd k = soft (joinW (e.ws k)) := by
  cases e with
  | one w a =>
    show (if w = "drop" then (if isK a k = true then some .used else soft (joinW [a.wd k])) else if w = "throw" then soft (joinW [a.wd k]) else joinW [a.wd k]) = soft (joinW [a.wd k])
    rcases ones_so w hg.1 h with rfl | rfl
    · rw [if_pos rfl, hn.2 a rfl]; rfl
    · rw [if_neg (by decide +kernel), if_pos rfl]
  | two w a b =>
    show (if w = "go" then (if isK a k = true then (if b.wd k = some .quiet then some .used else none) else soft (joinW [a.wd k, b.wd k])) else if w = "call" then soft (joinW [a.wd k, b.wd k]) else joinW [a.wd k, b.wd k]) = soft (joinW [a.wd k, b.wd k])
    rcases twos_so w hg.1 h with rfl | rfl
    · rw [if_pos rfl, hn.1 a b rfl]; rfl
    · rw [if_neg (by decide +kernel), if_pos rfl]
  | num n => exact absurd h (rest_no "num" (by decide +kernel)).2
  | name n => exact absurd h (rest_no "name" (by decide +kernel)).2
  | fault => exact absurd h (rest_no "fault" (by decide +kernel)).2
  | ite a b c => exact absurd h (rest_no "if" (by decide +kernel)).2
  | lt a b c => exact absurd h (rest_no "let" (by decide +kernel)).2
  | fn a b => exact absurd h (rest_no "fun" (by decide +kernel)).2
  | ct a x y b => exact absurd h (rest_no "catch" (by decide +kernel)).2
theorem word_fn (hg : Good S e) (h : decide (V.str e.word = V.str "fun") = true) : ∃ x a, e = .fn x a := by
  have h := V.str.inj (of_decide_eq_true h)
  cases e with
  | num n => exact absurd h (by show ¬ (("num" : Str) = "fun"); decide +kernel)
  | name n => exact absurd h (by show ¬ (("name" : Str) = "fun"); decide +kernel)
  | fault => exact absurd h (by show ¬ (("fault" : Str) = "fun"); decide +kernel)
  | one w a => exact absurd h (ones_ne w hg.1).2.2.2.2.2.1
  | two w a b => exact absurd h (twos_ne w hg.1).2.2.2.2.2.1
  | ite a b c => exact absurd h (by show ¬ (("if" : Str) = "fun"); decide +kernel)
  | lt a b c => exact absurd h (by show ¬ (("let" : Str) = "fun"); decide +kernel)
  | fn a b => exact ⟨a, b, rfl⟩
  | ct a x y b => exact absurd h (by show ¬ (("catch" : Str) = "fun"); decide +kernel)
theorem word_if (hg : Good S e) (h : decide (V.str e.word = V.str "if") = true) : ∃ a b c, e = .ite a b c := by
  have h := V.str.inj (of_decide_eq_true h)
  cases e with
  | num n => exact absurd h (by show ¬ (("num" : Str) = "if"); decide +kernel)
  | name n => exact absurd h (by show ¬ (("name" : Str) = "if"); decide +kernel)
  | fault => exact absurd h (by show ¬ (("fault" : Str) = "if"); decide +kernel)
  | one w a => exact absurd h (ones_ne w hg.1).2.2.2.2.2.2.1
  | two w a b => exact absurd h (twos_ne w hg.1).2.2.2.2.2.2.1
  | ite a b c => exact ⟨a, b, c, rfl⟩
  | lt a b c => exact absurd h (by show ¬ (("let" : Str) = "if"); decide +kernel)
  | fn a b => exact absurd h (by show ¬ (("fun" : Str) = "if"); decide +kernel)
  | ct a x y b => exact absurd h (by show ¬ (("catch" : Str) = "if"); decide +kernel)
theorem word_el (hg : Good S e) (hs : ¬ inV (V.str e.word) [.str "go", .str "drop", .str "call", .str "throw"] = true) (hf : ¬ decide (V.str e.word = V.str "fun") = true) (hi : ¬ decide (V.str e.word = V.str "if") = true) (hc : ¬ e.isCt = true)
    (hnf : ¬ inV (V.str e.word) [.str "num", .str "fault"] = true) (hnn : ¬ decide (V.str e.word = V.str "name") = true) : e.wd k = joinW (e.ws k) := by
  cases e with
  | one w a =>
    show (if w = "drop" then (if isK a k = true then some .used else soft (joinW [a.wd k])) else if w = "throw" then soft (joinW [a.wd k]) else joinW [a.wd k]) = joinW [a.wd k]
    obtain ⟨h1, h2⟩ := ones_ns w hg.1 hs
    rw [if_neg h1, if_neg h2]
  | two w a b =>
    show (if w = "go" then (if isK a k = true then (if b.wd k = some .quiet then some .used else none) else soft (joinW [a.wd k, b.wd k])) else if w = "call" then soft (joinW [a.wd k, b.wd k]) else joinW [a.wd k, b.wd k]) = joinW [a.wd k, b.wd k]
    obtain ⟨h1, h2⟩ := twos_ns w hg.1 hs
    rw [if_neg h1, if_neg h2]
  | num n => exact absurd (by show inV (V.str "num") [.str "num", .str "fault"] = true; decide +kernel) hnf
  | name n => exact absurd (decide_eq_true rfl) hnn
  | fault => exact absurd (by show inV (V.str "fault") [.str "num", .str "fault"] = true; decide +kernel) hnf
  | ite a b c => exact absurd (decide_eq_true rfl) hi
  | lt a b c => rfl
  | fn a b => exact absurd (decide_eq_true rfl) hf
  | ct a x y b => exact absurd rfl hc
end
end Wr
namespace Wr
open PySem PySem.Spec PyProof.Rows L2
def ixW : Option Wd → Int
  | some .quiet => 0
  | some .free => 1
  | some .used => 2
  | none => 3
abbrev allW : List V := [.str "quiet", .str "free", .str "used", .non]
theorem ixW_at (r : Option Wd) : ∃ j : Nat, (j : Int) = ixW r ∧ allW[j]? = some (woV r) ∧ eqV (woV r) (woV r) = true ∧ ∀ (m : Nat) (z : V), m < j → allW[m]? = some z → eqV z (woV r) = false := by
  have low : ∀ {j : Nat} {x : V}, (∀ m, m < j → ∃ z, allW[m]? = some z ∧ eqV z x = false) → ∀ (m : Nat) (z : V), m < j → allW[m]? = some z → eqV z x = false := fun h m z hm hz => by
    obtain ⟨y, e, q⟩ := h m hm
    rw [e] at hz
    cases hz
    exact q
  cases r with
  | none => exact ⟨3, rfl, rfl, rfl, low fun m hm => match m, hm with | 0, _ => ⟨_, rfl, rfl⟩ | 1, _ => ⟨_, rfl, rfl⟩ | 2, _ => ⟨_, rfl, rfl⟩⟩
  | some w => cases w with
    | quiet => exact ⟨0, rfl, rfl, by decide +kernel, fun m z hm => absurd hm (Nat.not_lt_zero m)⟩
    | free => exact ⟨1, rfl, rfl, by decide +kernel, low fun m hm => match m, hm with | 0, _ => ⟨_, rfl, by decide +kernel⟩⟩
    | used => exact ⟨2, rfl, rfl, by decide +kernel, low fun m hm => match m, hm with | 0, _ => ⟨_, rfl, by decide +kernel⟩ | 1, _ => ⟨_, rfl, by decide +kernel⟩⟩
theorem mxW_ix (r s : Option Wd) (m : Int) (hm : m ∈ [ixW r, ixW s]) (hle : ∀ y, y ∈ [ixW r, ixW s] → y ≤ m) : m = ixW (mxW r s) := by
  have h1 := hle (ixW r) List.mem_cons_self
  have h2 := hle (ixW s) (List.mem_cons_of_mem _ List.mem_cons_self)
  simp only [List.mem_cons, List.not_mem_nil, or_false] at hm
  cases r with
  | none => cases s with
    | none => simp only [ixW, mxW] at *; omega
    | some s => cases s <;> simp only [ixW, mxW] at * <;> omega
  | some r => cases s with
    | none => cases r <;> simp only [ixW, mxW] at * <;> omega
    | some s => cases r <;> cases s <;> simp only [ixW, mxW] at * <;> omega
section
variable {K : PySem.W.Frag} {D : Ends} {H : Hp} {a0 a4 a5 a8 a9 a10 : Option V} {S : List Str} {e : Ex} {k : Option Str} {l w : Addr} {us : List V}
abbrev tRest (K : PySem.W.Frag) : TS := (tIfS (tTest (tOp (rIn K false) (tVar 2) (tTup (tCons (tC (V.str ("go"))) (tCons (tC (V.str ("drop"))) (tCons (tC (V.str ("call"))) (tCons (tC (V.str ("throw"))) tNil))))))) (tAsg (tIf (tTest (tOp rEq (tVar 7) (tC (V.str ("quiet"))))) (tC (V.str ("free"))) (tVar 7)) (gName 7)) (tIfS (tTest (tOp rEq (tVar 2) (tC (V.str ("fun"))))) (tAsg (tIf (tTest (tOp (rIn K false) (tOp (rIxL K) (tVar 6) (tC (V.int 0))) (tTup (tCons (tC (V.str ("quiet"))) (tCons (tC (V.str ("free"))) tNil))))) (tC (V.str ("quiet"))) (tC V.non)) (gName 7)) (tIfS (tTest (tOp rEq (tVar 2) (tC (V.str ("if"))))) (tSeq (tAsg (tLc (iList K (tSl (rSlL K) (tVar 6) (tPart (tC (V.int 1))) tNoPart)) (gName 9) tYes (tBM K "list" (rIndex K) (tLst (tCons (tC (V.str ("quiet"))) (tCons (tC (V.str ("free"))) (tCons (tC (V.str ("used"))) (tCons (tC V.non) tNil))))) (tCons (tVar 9) tNil)) (List.map (fun x => x.snd) [(("_law_one" : Str), 9)])) (gName 8)) (tAsg (tCall (spJoin K) [] E0 (tCons (tLst (tCons (tOp (rIxL K) (tVar 6) (tC (V.int 0))) (tCons (tOp (rIxL K) (tLst (tCons (tC (V.str ("quiet"))) (tCons (tC (V.str ("free"))) (tCons (tC (V.str ("used"))) (tCons (tC V.non) tNil))))) (tCB (rMax K) (tCons (tVar 8) tNil))) tNil))) tNil)) (gName 7))) (tIfS (tTest (tOp rEq (tVar 2) (tC (V.str ("catch"))))) (tSeq (tAsg (tC V.non) (gName 7)) (tIfS (tAnd (tTest (tOp (rIn K false) (tOp (rIxL K) (tVar 6) (tC (V.int 1))) (tTup (tCons (tC (V.str ("quiet"))) (tCons (tC (V.str ("free"))) tNil))))) (tTest (tOp (fun x y H Q => y = V.non ∧ Q (V.bl !decide (x = V.non)) H) (tOp (rIxL K) (tVar 6) (tC (V.int 0))) (tC V.non)))) (tAsg (tIf (tTest (tOp rNe (tOp (rIxL K) (tVar 6) (tC (V.int 0))) (tC (V.str ("quiet"))))) (tOp (rIxL K) (tVar 6) (tC (V.int 0))) (tC (V.str ("free")))) (gName 7)) tNext)) tNext))))
theorem rd_rest (hg : Good S e) (hw : H w = some (.lst ((e.ws k).map woV))) (hn : nK e k)
    (hnf : ¬ inV (V.str e.word) [.str "num", .str "fault"] = true) (hnn : ¬ decide (V.str e.word = V.str "name") = true)
    (q : ∀ b8 H', Same H H' → D.nx (stF a0 k e.word l a4 a5 w (e.wd k) b8 a9 a10) H') : tRest K D (stF a0 k e.word l a4 a5 w (joinW (e.ws k)) a8 a9 a10) H := by
  have fin : ∀ (r : Option Wd) (b8 : Option V) (H' : Hp), e.wd k = r → Same H H' → D.nx (stF a0 k e.word l a4 a5 w r b8 a9 a10) H' := fun r b8 H' h s => by rw [← h]; exact q b8 H' s
  refine ⟨_, rfl, wd_len.2, fun p2 np2 => ⟨p2, _, rfl, .inr (SqT.of upd_same), rfl, rfl, _, rfl, ?_⟩⟩
  have sm2 := Same.new np2 (.tup [V.str "go", V.str "drop", V.str "call", V.str "throw"])
  generalize upd H p2 (.tup [V.str "go", V.str "drop", V.str "call", V.str "throw"]) = H2 at sm2 ⊢
  have hw2 := sm2 _ _ hw
  show ite (inV (V.str e.word) [V.str "go", V.str "drop", V.str "call", V.str "throw"] = true) _ _
  refine ite2 (fun hc => ?_) (fun hs => ?_)
  · have hwd := word_so hg hn hc
    refine ⟨_, rfl, scal_woV _ _, _, rfl, ?_⟩
    rw [woV_quiet]
    refine ite2 (fun hd => ?_) (fun hd => ?_)
    · exact fin (some .free) a8 H2 (by rw [hwd, of_decide_eq_true hd]; rfl) sm2
    · exact ⟨_, rfl, fin (joinW (e.ws k)) a8 H2 (by rw [hwd]; exact if_neg (by simpa using hd)) sm2⟩
  refine ⟨_, rfl, rfl, _, rfl, ?_⟩
  refine ite2 (fun hc => ?_) (fun hf => ?_)
  · obtain ⟨x, a, rfl⟩ := word_fn hg hc
    refine ⟨_, rfl, w, _, 0, woV (a.wd (hid k x)), rfl, rfl, SqL.of hw2, rfl, wd_len.1, fun p np => ⟨p, _, rfl, .inr (SqT.of upd_same), flat_woV _, rfl, _, rfl, ?_⟩⟩
    show ite (inV (woV (a.wd (hid k x))) [V.str "quiet", V.str "free"] = true) _ _
    rw [in_qf]
    refine ite2 (fun hd => ?_) (fun hd => ?_)
    · exact fin (some .quiet) a8 _ (if_pos (of_decide_eq_true hd)) (sm2.trans (Same.new np _))
    · exact fin none a8 _ (if_neg (by simpa using hd)) (sm2.trans (Same.new np _))
  refine ⟨_, rfl, rfl, _, rfl, ?_⟩
  refine ite2 (fun hc => ?_) (fun hi => ?_)
  · obtain ⟨a, b, c, rfl⟩ := word_if hg hc
    refine ⟨_, rfl, 1, rfl, w, _, rfl, SqL.of hw2, fun p np => ⟨p, rfl, ⟨_, SqL.of upd_same⟩, fun R nR => ?_⟩⟩
    have ecut : cutV (List.map woV ((Ex.ite a b c).ws k)) (some 1) none = [woV (b.wd k), woV (c.wd k)] := cut1 (woV (a.wd k)) [woV (b.wd k), woV (c.wd k)]
    rw [ecut] at nR ⊢
    have sm3 := sm2.trans (Same.new np (.lst [woV (b.wd k), woV (c.wd k)]))
    have hw3 := Same.new np (.lst [woV (b.wd k), woV (c.wd k)]) _ _ hw2
    have hp3 : upd H2 p (.lst [woV (b.wd k), woV (c.wd k)]) p = some (.lst [woV (b.wd k), woV (c.wd k)]) := upd_same
    generalize upd H2 p (.lst [woV (b.wd k), woV (c.wd k)]) = H3 at nR sm3 hw3 hp3 ⊢
    refine lc_list (K := K) (a := p) (xs := [woV (b.wd k), woV (c.wd k)]) (fun i H4 => Same H3 H4 ∧ H4 R = some (.lst (([b.wd k, c.wd k].take i).map fun r => V.int (ixW r)))) ⟨Same.new nR _, upd_same⟩ (fun i H4 _ h => SqL.of (h.1 _ _ hp3)) ?_ ?_
    · rintro i x H4 hx ⟨sm, hR⟩
      obtain ⟨r, hr, rfl⟩ : ∃ r, [b.wd k, c.wd k][i]? = some r ∧ x = woV r := by
        rw [show [woV (b.wd k), woV (c.wd k)] = [b.wd k, c.wd k].map woV from rfl, List.getElem?_map] at hx
        cases c2 : [b.wd k, c.wd k][i]? with
        | none => rw [c2] at hx; cases hx
        | some u => rw [c2] at hx; exact ⟨u, rfl, (Option.some.inj hx).symm⟩
      refine ⟨rfl, tYes_if ?_⟩
      refine ⟨wd_len.2, fun p5 np5 => ⟨.inl ⟨rfl, _, SqL.of upd_same⟩, _, rfl, ?_⟩⟩
      obtain ⟨j, hj, hja, heq, hlow⟩ := ixW_at r
      refine ⟨p5, allW, woV r, j, woV r, rfl, rfl, SqL.of upd_same, flat_woV r, rfl, hja, heq, hlow, ?_⟩
      have sm5 := sm.trans (Same.new np5 (.lst allW))
      refine ⟨_, Same.new np5 _ _ _ hR, ?_, ?_, ?_⟩
      · rw [List.length_map, List.length_take]
        have : (5 : Nat) < sizeLine := by decide
        have : [b.wd k, c.wd k].length = 2 := rfl
        omega
      · exact fun o u ho => by
          rw [upd_ne (fun z => by rw [z, nR] at ho; cases ho)]
          exact sm5 _ _ ho
      · rw [upd_same, take_snoc hr, List.map_append, hj]; rfl
    rintro H4 ⟨sm4, hR⟩
    have hw4 := sm4 _ _ hw3
    refine ⟨_, rfl, w, _, 0, woV (a.wd k), rfl, rfl, SqL.of hw4, rfl, wd_len.2, fun p5 np5 => ⟨_, rfl, R, [ixW (b.wd k), ixW (c.wd k)], rfl, SqL.of (Same.new np5 _ _ _ hR), by show 0 < 2; decide, fun m hm hle => ?_⟩⟩
    have em := mxW_ix _ _ m hm hle
    refine ⟨p5, allW, m, woV (mxW (b.wd k) (c.wd k)), rfl, rfl, SqL.of upd_same, ?_, wd_len.1, fun p6 np6 => ⟨p6, [a.wd k, mxW (b.wd k) (c.wd k)], rfl, upd_same, ?_⟩⟩
    · obtain ⟨j, hj, hja, _⟩ := ixW_at (mxW (b.wd k) (c.wd k))
      rw [em, ← hj]
      exact atI_nat hja
    · exact fin _ _ _ rfl (((sm3.trans sm4).trans (Same.new np5 _)).trans (Same.new np6 _))
  refine ⟨_, rfl, rfl, _, rfl, ?_⟩
  rw [word_ct hg]
  refine ite2 (fun hc => ?_) (fun hct => ?_)
  · cases e with
    | ct a x k' b =>
      refine ⟨_, rfl, w, _, 1, woV (b.wd (hid (hid k x) k')), rfl, rfl, SqL.of hw2, rfl, wd_len.1, fun p np => ⟨p, _, rfl, .inr (SqT.of upd_same), flat_woV _, rfl, _, rfl, ?_⟩⟩
      have sm3 := sm2.trans (Same.new np (.tup [V.str "quiet", V.str "free"]))
      have hw3 := Same.new np (.tup [V.str "quiet", V.str "free"]) _ _ hw2
      generalize upd H2 p (.tup [V.str "quiet", V.str "free"]) = H3 at sm3 hw3 ⊢
      show ite (inV (woV (b.wd (hid (hid k x) k'))) [V.str "quiet", V.str "free"] = true) _ _
      rw [in_qf]
      have wde : ∀ {r : Option Wd}, (if (b.wd (hid (hid k x) k') = some .quiet ∨ b.wd (hid (hid k x) k') = some .free) ∧ a.wd k ≠ none then (if a.wd k = some .quiet then some .free else a.wd k) else none) = r → (Ex.ct a x k' b).wd k = r := fun h => h
      refine ite2 (fun hd => ?_) (fun hd => ?_)
      · have hd := of_decide_eq_true hd
        refine ⟨_, rfl, w, _, 0, woV (a.wd k), rfl, rfl, SqL.of hw3, rfl, rfl, _, rfl, ?_⟩
        rw [woV_none]
        refine ite2 (fun h0 => ?_) (fun h0 => ?_)
        · have hne : a.wd k ≠ none := fun z => by rw [z] at h0; cases h0
          refine ⟨_, rfl, w, _, 0, woV (a.wd k), rfl, rfl, SqL.of hw3, rfl, scal_woV _ _, _, rfl, ?_⟩
          rw [woV_quiet]
          refine ite2 (fun h1 => ?_) (fun h1 => ?_)
          · refine ⟨_, rfl, w, _, 0, woV (a.wd k), rfl, rfl, SqL.of hw3, rfl, fin _ a8 _ (wde ?_) sm3⟩
            rw [if_pos ⟨hd, hne⟩, if_neg (by simpa using h1)]
          · refine fin (some .free) a8 _ (wde ?_) sm3
            rw [if_pos ⟨hd, hne⟩, if_pos (by simpa using h1)]
        · refine fin none a8 _ (wde ?_) sm3
          have hne : a.wd k = none := by
            cases c : a.wd k with
            | none => rfl
            | some u => rw [c] at h0; exact absurd rfl h0
          exact if_neg fun z => z.2 hne
      · refine iteF ?_
        refine fin none a8 _ (wde ?_) sm3
        exact if_neg fun z => by simp [z.1] at hd
    | _ => cases hc
  · exact fin _ a8 _ (word_el hg hs hf hi hct hnf hnn) sm2
/-- what the words go, drop and the rest make of it -/
theorem rd_found (hg : Good S e) (hS : ∀ x ∈ S, x ∈ letters) (hk : ∀ x, k = some x → x ∈ letters) (hz : e.deep ≤ 41) (hl : H l = some (.lst us)) (al : AtL H us e.kids) (hw : H w = some (.lst ((e.ws k).map woV)))
    (hnf : ¬ inV (V.str e.word) [.str "num", .str "fault"] = true) (hnn : ¬ decide (V.str e.word = V.str "name") = true)
    (q : ∀ b8 H', Same H H' → D.nx (stF a0 k e.word l a4 a5 w (e.wd k) b8 a9 a10) H') : tFound K D (stF a0 k e.word l a4 a5 w (joinW (e.ws k)) a8 a9 a10) H := by
  have fin : ∀ (r : Option Wd) (b8 : Option V) (H' : Hp), e.wd k = r → Same H H' → D.nx (stF a0 k e.word l a4 a5 w r b8 a9 a10) H' := fun r b8 H' h s => by rw [← h]; exact q b8 H' s
  refine ⟨_, rfl, wd_len.1, fun p1 np1 => ⟨p1, _, rfl, .inr (SqT.of upd_same), rfl, rfl, _, rfl, ?_⟩⟩
  have sm1 := Same.new np1 (.tup [V.str "go", V.str "drop"])
  generalize upd H p1 (.tup [V.str "go", V.str "drop"]) = H1 at sm1 ⊢
  have hw1 := sm1 _ _ hw
  show ite (inV (V.str e.word) [V.str "go", V.str "drop"] = true) _ _
  refine ite2 (fun hc => ?_) (fun hc => ?_)
  · rcases word_gd hg hc with ⟨a, b, rfl⟩ | ⟨a, rfl⟩
    · have al0 := al
      cases al with
      | cons ha al =>
      refine ⟨_, rfl, l, _, 0, _, rfl, rfl, SqL.of (sm1 _ _ hl), atI_nat (j := 0) rfl, _, rfl, wd_len.1, fun p2 np2 => ⟨a.dat, .tuple [.str "name", okD k], ((ha.same sm1).same (Same.new np2 _)).dp, .tup (SqT.of upd_same) (.cons (.str _) (.cons (okV_dp k) .nil)),
        Good.shaped hS hg.2.1 (by simp only [Ex.deep] at hz; omega), name_shaped hk, _, rfl, ?_⟩⟩
      have sm2 := sm1.trans (Same.new np2 (.tup [V.str "name", okV k]))
      have hw2 := Same.new np2 (.tup [V.str "name", okV k]) _ _ hw1
      generalize upd H1 p2 (.tup [V.str "name", okV k]) = H2 at sm2 hw2 ⊢
      rw [eqv_name hg.2.1]
      refine ite2 (fun hd => ?_) (fun hd => ?_)
      · refine ⟨_, rfl, rfl, _, rfl, iteF ?_⟩
        refine ⟨_, rfl, w, _, 1, woV (b.wd k), rfl, rfl, SqL.of hw2, rfl, scal_woV _ _, _, rfl, ?_⟩
        rw [woV_quiet]
        have wde : ∀ {r : Option Wd}, (if b.wd k = some .quiet then some Wd.used else none) = r → (Ex.two "go" a b).wd k = r := fun h => by
          rw [← h]
          show (if ("go" : Str) = "go" then (if isK a k = true then (if b.wd k = some Wd.quiet then some Wd.used else none) else _) else _) = _
          rw [if_pos rfl, if_pos hd]
        refine ite2 (fun h1 => ?_) (fun h1 => ?_)
        · exact fin (some .used) a8 _ (wde (if_pos (of_decide_eq_true h1))) sm2
        · exact fin none a8 _ (wde (if_neg (by simpa using h1))) sm2
      · exact rd_rest hg hw2 ⟨fun a' b' h => (by cases h; simpa using hd), fun a' h => (by cases h)⟩ hnf hnn fun b8 H' s => q b8 H' (sm2.trans s)
    · have al0 := al
      cases al with
      | cons ha al =>
      refine ⟨_, rfl, l, _, 0, _, rfl, rfl, SqL.of (sm1 _ _ hl), atI_nat (j := 0) rfl, _, rfl, wd_len.1, fun p2 np2 => ⟨a.dat, .tuple [.str "name", okD k], ((ha.same sm1).same (Same.new np2 _)).dp, .tup (SqT.of upd_same) (.cons (.str _) (.cons (okV_dp k) .nil)),
        Good.shaped hS hg.2 (by simp only [Ex.deep] at hz; omega), name_shaped hk, _, rfl, ?_⟩⟩
      have sm2 := sm1.trans (Same.new np2 (.tup [V.str "name", okV k]))
      have hw2 := Same.new np2 (.tup [V.str "name", okV k]) _ _ hw1
      generalize upd H1 p2 (.tup [V.str "name", okV k]) = H2 at sm2 hw2 ⊢
      rw [eqv_name hg.2]
      refine ite2 (fun hd => ?_) (fun hd => ?_)
      · refine ⟨_, rfl, rfl, _, rfl, iteT ?_⟩
        refine fin (some .used) a8 _ ?_ sm2
        show (if ("drop" : Str) = "drop" then (if isK a k = true then some Wd.used else _) else _) = _
        rw [if_pos rfl, if_pos hd]
      · exact rd_rest hg hw2 ⟨fun a' b' h => (by cases h), fun a' h => (by cases h; simpa using hd)⟩ hnf hnn fun b8 H' s => q b8 H' (sm2.trans s)
  · refine iteF ?_
    exact rd_rest hg hw1 ⟨fun a b h => absurd (by rw [h]; show inV (V.str "go") [V.str "go", V.str "drop"] = true; decide +kernel) hc, fun a h => absurd (by rw [h]; show inV (V.str "drop") [V.str "go", V.str "drop"] = true; decide +kernel) hc⟩ hnf hnn fun b8 H' s => q b8 H' (sm1.trans s)
end
end Wr
namespace Wr
open PySem PySem.Spec PyProof.Rows L2
section
variable {P : Program} {w : World} {K : PySem.W.Frag} {mg : Str → Option Value} {base : Heap}
def spCatches (n : Nat) : Sp := fun vs H Q _ => ∃ (v : V) (e : Ex) (S : List Str), vs = [v] ∧ AtE H v e ∧ Good S e ∧ e.deep ≤ n ∧ e.size ≤ 200 ∧
  ∀ (p : Addr) (us : List V) (H' : Hp), Same H H' → H p = none → H' p = some (.lst us) → AtL H' us e.cts → Q (.ref p) H'
theorem scCatches : FnScope ["_law_part", "_law_found", "_law_one"] ["_law_part"] (defScope s_L_catches) := ⟨rfl, rfl, rfl, by decide +kernel, rfl, by decide +kernel, by decide +kernel⟩
theorem ok_catches (n : Nat) (F : Df K mg "_law_catches" s_L_catches) (isi : mg "isinstance" = none) (tup : mg "tuple" = none) (U : Use P w K mg base "_law_catches" ["_law_part"] n (spCatches n)) : Use P w K mg base "_law_catches" ["_law_part"] (n + 1) (spCatches (n + 1)) := by
  refine F.use scCatches (fun _ _ _ _ _ _ us hl => match us, hl with | [_], _ => rfl) (fun vs H Q E h => ?_) (fun cdv f A outer s H vs Q E hr h => ?_)
  · obtain ⟨v, e, S, rfl, _⟩ := h
    rfl
  · obtain ⟨v, e, S, rfl, hv, hg, hd, hz, q⟩ := h
    refine ⟨_, pss_cons (ps_set (i := 1) scCatches.nd rfl (Or.inl rfl) (pe_ifExp (pt_cmpR op_eq (pe_ix ix_tup (pv 0) pe_int (fun _ _ => rfl)) pe_str (nomark _)) (pe_lst (pa_cons (pv 0) pa_nil)) (pe_lst pa_nil)))
      (pss_cons (ps_for PassesOwn.never rfl (pi_tup (pv 0)) (pg_name (i := 2) scCatches.nd rfl (Or.inl rfl))
        (pss_one (ps_if (pt_val (pe_callB (r := rIsi K) call_isi (by rfl) isi (by decide +kernel) (pa_cons (pv 2) (pa_cons (pe_bltn (v := .ty "tuple") (u := .type "tuple") (by rfl) tup (by decide +kernel) rfl) pa_nil))))
          (pss_one (ps_set (i := 1) scCatches.nd rfl (Or.inl rfl) (pe_op op_cat (pv 1) (pe_use U hr (pa_cons (pv 2) pa_nil))))) pss_nil)))
      (pss_one (ps_ret (pv 1)))), ?_⟩
    obtain ⟨t, xs, rfl, ht, hI, h5⟩ := hv.words
    refine ⟨_, rfl, t, _, _, .str e.word, rfl, rfl, SqT.of ht, atI_nat (j := 0) rfl, rfl, _, rfl, ?_⟩
    rw [word_ct hg]
    refine ite2 (fun hc => ?_) (fun hc => ?_)
    case' refine_1 =>
      refine ⟨_, rfl, (by show 1 ≤ sizeLine; decide), fun p np => ?_⟩
      have a0 : AtL (upd H p (.lst [V.ref t])) [V.ref t] (if e.isCt = true then [e] else []) := by rw [if_pos hc]; exact .cons (hv.up np _) .nil
      have s0 : Same H (upd H p (.lst [V.ref t])) := Stp.nil (.new np _)
      have e0 : upd H p (.lst [V.ref t]) p = some (.lst [V.ref t]) := upd_same
      generalize upd H p (.lst [V.ref t]) = H1 at a0 s0 e0 ⊢
      obtain ⟨us, a0, e0⟩ : ∃ us, AtL H1 us (if e.isCt = true then [e] else []) ∧ H1 p = some (.lst us) := ⟨_, a0, e0⟩
    case' refine_2 =>
      refine ⟨Nat.zero_le _, fun p np => ?_⟩
      have a0 : AtL (upd H p (.lst [])) [] (if e.isCt = true then [e] else []) := by rw [if_neg hc]; exact .nil
      have s0 : Same H (upd H p (.lst [])) := Stp.nil (.new np _)
      have e0 : upd H p (.lst []) p = some (.lst []) := upd_same
      generalize upd H p (.lst []) = H1 at a0 s0 e0 ⊢
      obtain ⟨us, a0, e0⟩ : ∃ us, AtL H1 us (if e.isCt = true then [e] else []) ∧ H1 p = some (.lst us) := ⟨_, a0, e0⟩
    all_goals (
      refine ⟨_, rfl, t, rfl, ⟨_, SqT.of (s0 _ _ ht)⟩, for_tup (K := K) (a := t) (xs := .str e.word :: xs) (fun i σ H2 => Same H H2 ∧ ∃ (p2 : Addr) (us : List V) (v : Option V) (es1 es2 : List Ex), σ = [some (.ref t), some (.ref p2), v] ∧ H p2 = none ∧ H2 p2 = some (.lst us) ∧
          e.kids = es1 ++ es2 ∧ Its H ((V.str e.word :: xs).drop i) es2 ∧ AtL H2 us ((if e.isCt = true then [e] else []) ++ (es1.map Ex.cts).flatten))
        ⟨s0, p, us, none, [], e.kids, rfl, np, e0, rfl, hI, by simpa using a0⟩ (fun i σ H2 _ h => SqT.of (h.1 _ _ ht)) ?_ ?_⟩
      · rintro i x σ H2 hi ⟨sm, p2, us, v, es1, es2, rfl, np2, hp2, ek, hI2, al⟩
        rcases hI2.step hi with ⟨hlf, hI3⟩ | ⟨e1, es3, rfl, hx, hI3⟩
        · obtain ⟨ty, h1, h2⟩ := isi_tuple_leaf (K := K) (H := H2) hlf
          refine ⟨_, rfl, x, .ty "tuple", ty, .type "tuple", false, rfl, .ty _, h1, h2, false, rfl, ?_⟩
          exact iteF ⟨sm, p2, us, _, es1, es2, rfl, np2, hp2, ek, hI3, al⟩
        · have hx2 : AtE H2 x e1 := hx.step (D := []) (Stp.same sm)
          obtain ⟨ty, h1, h2⟩ := isi_tuple_kid (K := K) hx2
          refine ⟨_, rfl, x, .ty "tuple", ty, .type "tuple", true, rfl, .ty _, h1, h2, true, rfl, ?_⟩
          refine iteT ?_
          have hk : e1 ∈ e.kids := by rw [ek]; simp
          obtain ⟨S', gk⟩ := hg.kid hk
          refine ⟨_, rfl, _, rfl, x, e1, S', rfl, hx2, gk, by have := kid_deep hk; omega, by have := kid_size hk; omega, fun p3 us3 H3 sm3 np3 hp3 al3 => ?_⟩
          have hp23 := sm3 _ _ hp2
          refine ⟨p2, p3, _, _, rfl, rfl, hp23, hp3, ?_, fun p4 np4 => ?_⟩
          · rw [al.length, al3.length]
            have c1 := e1.cts_size
            have c2 := kid_size hk
            have c3 : ((if e.isCt = true then [e] else []) ++ (es1.map Ex.cts).flatten).length ≤ e.cts.length := by
              rw [e.cts_kids, ek, List.map_append, List.flatten_append, ← List.append_assoc]
              exact (List.sublist_append_left _ _).length_le
            have c4 := e.cts_size
            have : (400 : Nat) ≤ sizeLine := by decide
            omega
          have sm4 : Same H (upd H3 p4 (.lst (us ++ us3))) := (sm.trans sm3).trans (Stp.nil (.new np4 _))
          refine ⟨sm4, p4, us ++ us3, _, es1 ++ [e1], es3, rfl, ((sm.trans sm3)).free np4, upd_same, by rw [ek]; simp, hI3, ?_⟩
          rw [List.map_append, List.flatten_append, ← List.append_assoc]
          refine ((al.step (D := []) (Stp.same sm3)).append ?_).step (D := []) (.new np4 _)
          simpa using al3
      · rintro σ H2 ⟨sm, p2, us, v, es1, es2, rfl, np2, hp2, ek, hI2, al⟩
        rw [List.drop_length] at hI2
        cases hI2
        rw [List.append_nil] at ek
        rw [← ek, ← e.cts_kids] at al
        exact ⟨_, rfl, q p2 us H2 sm np2 hp2 al⟩)
theorem catches_all (F : Df K mg "_law_catches" s_L_catches) (isi : mg "isinstance" = none) (tup : mg "tuple" = none) : ∀ n : Nat, Use P w K mg base "_law_catches" ["_law_part"] n (spCatches n)
  | 0 => use_no F (fun _ _ _ _ _ _ us hl => match us, hl with | [_], _ => rfl) 0 fun vs H Q E ⟨v, e, _, _, _, _, hd, _⟩ => by have := e.deep_pos; omega
  | n + 1 => ok_catches n F isi tup (catches_all F isi tup n)
end
end Wr
namespace Wr
open PySem PySem.Spec PyProof.Rows L2
section
variable {P : Program} {w : World} {K : PySem.W.Frag} {mg : Str → Option Value} {base : Heap}
def spPaper (n : Nat) : Sp := fun vs H Q _ => ∃ (v : V) (e : Ex) (k : Option Str) (S : List Str), vs = [v, okV k] ∧ AtE H v e ∧ Good S e ∧ (∀ x ∈ S, x ∈ letters) ∧ (∀ x, k = some x → x ∈ letters) ∧ e.deep ≤ n ∧ e.deep ≤ 41 ∧
  ∀ (r : V) (H' : Hp), Same H H' → PapAt H' r e k → Q r H'
theorem scPaper : FnScope ["_law_part", "_law_k", "_law_word", "_law_inside", "_law_names", "_law_some", "_law_words", "_law_found", "_law_both", "_law_one", "_law_name_here"] ["_law_part", "_law_k"] (defScope s_L_paper) := ⟨rfl, rfl, rfl, by decide +kernel, rfl, by decide +kernel, by decide +kernel⟩
abbrev paperN : List Str := ["_law_part", "_law_k", "_law_word", "_law_inside", "_law_names", "_law_some", "_law_words", "_law_found", "_law_both", "_law_one", "_law_name_here"]
theorem ok_paper (n : Nat) (F : Df K mg "_law_paper" s_L_paper) (isi : mg "isinstance" = none) (tup : mg "tuple" = none) (len : mg "len" = none) (zip : mg "zip" = none) (max' : mg "max" = none)
    (UJ : Use P w K mg base "_law_join" ["_law_words"] 1 (spJoin K)) (U : Use P w K mg base "_law_paper" ["_law_part", "_law_k"] (n + 1) (spPaper n)) : Use P w K mg base "_law_paper" ["_law_part", "_law_k"] (n + 2) (spPaper (n + 1)) := by
  refine F.use scPaper (fun _ _ _ _ _ _ us hl => match us, hl with | [_, _], _ => rfl) (fun vs H Q E h => ?_) (fun cdv f A outer s H vs Q E hr h => ?_)
  · obtain ⟨v, e, k, S, rfl, _⟩ := h
    rfl
  · obtain ⟨v, e, k, S, rfl, hv, hg, hS, hkl, hd, h41, q⟩ := h
    have hr1 : Room 1 _ := hr.mono (by omega)
    refine ⟨_, pss_cons (ps_set (i := 2) scPaper.nd rfl (Or.inl rfl) (pe_ix ix_tup (pv 0) pe_int (fun _ _ => rfl)))
      (pss_cons (ps_if (pt_cmpR (r := rIn K false) op_in_seq (pv 2) (pe_tup (pa_cons pe_str (pa_cons pe_str pa_nil))) rfl) (pss_one (ps_ret (pe_tup (pa_cons pe_str (pa_cons (pe_tup pa_nil) pa_nil))))) pss_nil)
      (pss_cons (ps_if (pt_cmpR op_eq (pv 2) pe_str (nomark _)) (pss_one (ps_ret (pe_tup (pa_cons (pe_ifExp (pt_cmpR op_eq (pe_ix ix_tup (pv 0) pe_int (fun _ _ => rfl)) (pv 1) (nomark _)) pe_non pe_str) (pa_cons (pe_tup pa_nil) pa_nil))))) pss_nil)
      (pss_cons (ps_setLc (i := 3) (own := [("_law_one", 9)]) (g := gName 9) (by rfl) scPaper.nd rfl rfl (sw_true rfl rfl rfl (by decide +kernel)) (pi_tup (pe_slice sl_tup (pv 0) (po_some pe_int) po_none)) (blkOk_by (own := [("_law_one", 9)]) (N := paperN) (sc := defScope s_L_paper) (by decide +kernel))
          (fun _ _ _ _ _ => pg_name (i := 9) scPaper.nd rfl (Or.inl rfl))
          (fun _ _ _ _ _ => pts_one (pt_val (pe_callB (r := rIsi K) call_isi (by rfl) isi (by decide +kernel) (pa_cons (pv 9) (pa_cons (pe_bltn (v := .ty "tuple") (u := .type "tuple") (by rfl) tup (by decide +kernel) rfl) pa_nil))))) (fun _ _ _ _ _ => pv 9))
      (pss_cons (ps_set (i := 4) scPaper.nd rfl (Or.inl rfl) (pe_op op_rep (pe_lst (pa_cons (pv 1) pa_nil)) (pe_callB call_len_seq (by rfl) len PySem.boot_len (pa_cons (pv 3) pa_nil))))
      (pss_cons (ps_if (PW.pt (pw_or (PW.pt (pw_and (pt_cmpR (r := rIn K false) op_in_seq (pv 2) (pe_tup (pa_cons pe_str (pa_cons pe_str pa_nil))) rfl) (pw_and1 (pt_cmpR op_eq (pe_ix ix_tup (pv 0) pe_int (fun _ _ => rfl)) (pv 1) (nomark _)))))
            (pw_or1 (PW.pt (pw_and (pt_cmpR op_eq (pv 2) pe_str (nomark _)) (pw_and1 (pt_cmpR (r := rIn K false) op_in_seq (pv 1) (pe_slice sl_tup (pv 0) (po_some pe_int) (po_some pe_int)) rfl)))))))
          (pss_one (ps_asg pe_non (pg_sub (pv 4) (pe_un un_neg pe_int) set_list))) pss_nil)
      (pss_cons (ps_setLc (i := 5) (own := [("_law_one", 9), ("_law_name_here", 10)]) (g := gTup K 2 (gCons (gName 9) (gCons (gName 10) gNil))) (tt := tYes) (by rfl) scPaper.nd rfl rfl (sw_true rfl rfl rfl (by decide +kernel)) (pi_zip (by rfl) zip (pa_cons (pv 3) (pa_cons (pv 4) pa_nil))) (blkOk_by (own := [("_law_one", 9), ("_law_name_here", 10)]) (N := paperN) (sc := defScope s_L_paper) (by decide +kernel))
          (fun _ _ _ _ _ => pg_tup rfl (pgs_cons (pg_name (i := 9) scPaper.nd rfl (Or.inl rfl)) (pgs_cons (pg_name (i := 10) scPaper.nd rfl (Or.inl rfl)) pgs_nil))) (fun _ _ _ _ _ => pts_nil) (fun _ _ _ _ _ => pe_use U hr (pa_cons (pv 9) (pa_cons (pv 10) pa_nil))))
      (pss_cons (ps_setLc (i := 6) (own := [("_law_one", 9)]) (g := gName 9) (tt := tYes) (by rfl) scPaper.nd rfl rfl (sw_true rfl rfl rfl (by decide +kernel)) (pi_list (pv 5)) (blkOk_by (own := [("_law_one", 9)]) (N := paperN) (sc := defScope s_L_paper) (by decide +kernel))
          (fun _ _ _ _ _ => pg_name (i := 9) scPaper.nd rfl (Or.inl rfl)) (fun _ _ _ _ _ => pts_nil) (fun _ _ _ _ _ => pe_ix (r := rIxT K) ix_tup (pv 9) pe_int (fun _ _ => rfl)))
      (pss_cons (ps_set (i := 7) scPaper.nd rfl (Or.inl rfl) (pe_use UJ hr1 (pa_cons (pv 6) pa_nil)))
      (pss_cons (ps_if (PW.pt (pw_and (pt_cmpR (r := rIn K false) op_in_seq (pv 2) (pe_tup (pa_cons pe_str (pa_cons pe_str pa_nil))) rfl) (pw_and1 (pt_cmpR (op_eqD hr.units) (pe_ix ix_list (pv 3) pe_int (fun _ _ => rfl)) (pe_tup (pa_cons pe_str (pa_cons (pv 1) pa_nil))) (nomark _)))))
          (pss_one (ps_set (i := 7) scPaper.nd rfl (Or.inl rfl) (pe_ifExp (PW.pt (pw_or (pt_cmpR op_eq (pv 2) pe_str (nomark _)) (pw_or1 (pt_cmpR op_eq (pe_ix ix_list (pv 6) pe_int (fun _ _ => rfl)) pe_str (nomark _))))) pe_str pe_non)))
          (pss_one (ps_if (pt_cmpR (r := rIn K false) op_in_seq (pv 2) (pe_tup (pa_cons pe_str (pa_cons pe_str (pa_cons pe_str (pa_cons pe_str pa_nil))))) rfl)
            (pss_one (ps_set (i := 7) scPaper.nd rfl (Or.inl rfl) (pe_ifExp (pt_cmpR op_eq (pv 7) pe_str (nomark _)) pe_str (pv 7))))
            (pss_one (ps_if (pt_cmpR op_eq (pv 2) pe_str (nomark _))
              (pss_one (ps_set (i := 7) scPaper.nd rfl (Or.inl rfl) (pe_ifExp (pt_cmpR (r := rIn K false) op_in_seq (pe_ix ix_list (pv 6) pe_int (fun _ _ => rfl)) (pe_tup (pa_cons pe_str (pa_cons pe_str pa_nil))) rfl) pe_str pe_non)))
              (pss_one (ps_if (pt_cmpR op_eq (pv 2) pe_str (nomark _))
                (pss_cons (ps_setLc (i := 8) (own := [("_law_one", 9)]) (g := gName 9) (tt := tYes) (te := tBM K "list" (rIndex K) _ _) (by rfl) scPaper.nd rfl rfl (sw_true rfl rfl rfl (by decide +kernel)) (pi_list (pe_slice sl_list (pv 6) (po_some pe_int) po_none)) (blkOk_by (own := [("_law_one", 9)]) (N := paperN) (sc := defScope s_L_paper) (by decide +kernel))
                    (fun _ _ _ _ _ => pg_name (i := 9) scPaper.nd rfl (Or.inl rfl)) (fun _ _ _ _ _ => pts_nil)
                    (fun _ _ _ _ _ => pe_bm (r := rIndex K) PySem.F.plainAttrs_list PySem.F.slot_list_index PySem.F.type_list_index mt_index (pe_lst (pa_cons pe_str (pa_cons pe_str (pa_cons pe_str (pa_cons pe_non pa_nil))))) (pa_cons (pv 9) pa_nil)))
                (pss_one (ps_set (i := 7) scPaper.nd rfl (Or.inl rfl) (pe_use UJ hr1 (pa_cons (pe_lst (pa_cons (pe_ix ix_list (pv 6) pe_int (fun _ _ => rfl)) (pa_cons (pe_ix ix_list (pe_lst (pa_cons pe_str (pa_cons pe_str (pa_cons pe_str (pa_cons pe_non pa_nil)))))
                    (pe_callB (cr_max rfl) (by rfl) max' (by decide +kernel) (pa_cons (pv 8) pa_nil)) (fun _ _ => rfl)) pa_nil))) pa_nil)))))
                (pss_one (ps_if (pt_cmpR op_eq (pv 2) pe_str (nomark _))
                  (pss_cons (ps_set (i := 7) scPaper.nd rfl (Or.inl rfl) pe_non)
                  (pss_one (ps_if (PW.pt (pw_and (pt_cmpR (r := rIn K false) op_in_seq (pe_ix ix_list (pv 6) pe_int (fun _ _ => rfl)) (pe_tup (pa_cons pe_str (pa_cons pe_str pa_nil))) rfl) (pw_and1 (pt_cmpR op_notN (pe_ix ix_list (pv 6) pe_int (fun _ _ => rfl)) pe_non (nomark _)))))
                    (pss_one (ps_set (i := 7) scPaper.nd rfl (Or.inl rfl) (pe_ifExp (pt_cmpR op_ne (pe_ix ix_list (pv 6) pe_int (fun _ _ => rfl)) pe_str (nomark _)) (pe_ix ix_list (pv 6) pe_int (fun _ _ => rfl)) pe_str))) pss_nil)))
                  pss_nil)))))))))
      (pss_one (ps_ret (pe_tup (pa_cons (pv 7) (pa_cons (pe_callTy call_tuple_of (by rfl) tup (by decide +kernel) (pa_cons (pv 5) pa_nil)) pa_nil)))))))))))))), ?_⟩
    obtain ⟨t, xs, rfl, ht, hI, h5⟩ := hv.words
    refine ⟨_, rfl, t, _, _, .str e.word, rfl, rfl, SqT.of ht, atI_nat (j := 0) rfl, ?_⟩
    refine ⟨_, rfl, (by show 2 ≤ sizeLine; decide), fun p1 np1 => ⟨p1, _, rfl, .inr (SqT.of upd_same), rfl, rfl, _, rfl, ?_⟩⟩
    have sm1 := Same.new np1 (.tup [V.str "num", V.str "fault"])
    generalize upd H p1 (.tup [V.str "num", V.str "fault"]) = H1 at sm1 ⊢
    refine ite2 (fun hc => ?_) (fun hnf => ?_)
    · obtain ⟨hk, hks, hw⟩ := word_nf hg hc
      refine ⟨Nat.zero_le _, fun u nu => ⟨(by show 2 ≤ sizeLine; decide), fun r nr => q _ _ ((sm1.trans (Same.new nu _)).trans (Same.new nr _)) (PapAt.mk_ (e := e) (k := k) (t := r) (u := u) (vs := []) ?_ ?_ ?_)⟩⟩
      · rw [hw]; exact upd_same
      · exact Same.new nr _ _ _ upd_same
      · rw [hk, hks]; exact .nil
    refine ⟨_, rfl, rfl, _, rfl, ?_⟩
    refine ite2 (fun hc => ?_) (fun hnn => ?_)
    · obtain ⟨x, rfl⟩ := word_name hg hc
      obtain ⟨t2, e2, hx⟩ := hv
      cases e2
      refine ⟨_, rfl, t, _, _, .str x, rfl, rfl, SqT.of (sm1 _ _ hx), atI_nat (j := 1) rfl, ?_⟩
      refine ⟨_, rfl, scal_okV x k, _, rfl, ?_⟩
      have fin : ∀ w : Option Wd, (Ex.name x).wd k = w → ∀ u, H1 u = none → (2 : Nat) ≤ sizeLine ∧ ∀ r, upd H1 u (.tup []) r = none → Q (.ref r) (upd (upd H1 u (.tup [])) r (.tup [woV w, .ref u])) := fun w hw u nu =>
        ⟨(by decide), fun r nr => q _ _ ((sm1.trans (Same.new nu _)).trans (Same.new nr _)) (PapAt.mk_ (e := .name x) (k := k) (t := r) (u := u) (vs := []) (by rw [hw]; exact upd_same) (Same.new nr _ _ _ upd_same) .nil)⟩
      refine ite2 (fun hd2 => ?_) (fun hd2 => ?_)
      · rw [dec_okV] at hd2
        exact ⟨Nat.zero_le _, fin none (if_pos (of_decide_eq_true hd2))⟩
      · rw [dec_okV] at hd2
        exact ⟨Nat.zero_le _, fin (some .quiet) (if_neg (of_decide_eq_false (by simpa using hd2)))⟩
    refine ⟨_, rfl, _, rfl, t, _, rfl, SqT.of (sm1 _ _ ht), cut1_no _ _ _, fun p2 np2 => ?_⟩
    rw [cut1]
    refine ⟨p2, rfl, ⟨_, SqT.of upd_same⟩, fun D nD => ?_⟩
    have sm2 := sm1.trans (Same.new np2 (.tup xs))
    have hp2 : upd H1 p2 (.tup xs) p2 = some (.tup xs) := upd_same
    generalize upd H1 p2 (.tup xs) = H2 at sm2 hp2 nD ⊢
    have sm3 := sm2.trans (Same.new nD (.lst []))
    refine lc_tup (K := K) (a := p2) (xs := xs) (fun i H3 => Same H H3 ∧ H3 p2 = some (.tup xs) ∧ ∃ us es1 es2, e.kids = es1 ++ es2 ∧ Its H (xs.drop i) es2 ∧ H3 D = some (.lst us) ∧ AtL H us es1 ∧ us.length ≤ i)
      ⟨sm3, Same.new nD _ _ _ hp2, [], [], e.kids, rfl, hI.tail, upd_same, .nil, Nat.zero_le _⟩ (fun i H3 _ h => SqT.of h.2.1) ?_ ?_
    · rintro i x H3 hi ⟨sm, hp, us, es1, es2, ek, hI2, hD, al, hl⟩
      have hix : i < xs.length := (List.getElem?_eq_some_iff.mp hi).1
      rcases hI2.step hi with ⟨hlf, hI3⟩ | ⟨e1, es3, rfl, hx, hI3⟩
      · obtain ⟨ty, h1, h2⟩ := isi_tuple_leaf (K := K) (H := H3) hlf
        refine ⟨rfl, _, rfl, x, .ty "tuple", ty, .type "tuple", false, rfl, .ty _, h1, h2, false, rfl, ?_⟩
        exact iteF ⟨sm, hp, us, es1, es2, ek, hI3, hD, al, by omega⟩
      · have hx2 : AtE H3 x e1 := hx.same sm
        obtain ⟨ty, h1, h2⟩ := isi_tuple_kid (K := K) hx2
        refine ⟨rfl, _, rfl, x, .ty "tuple", ty, .type "tuple", true, rfl, .ty _, h1, h2, true, rfl, ?_⟩
        refine iteT ?_
        refine ⟨_, rfl, us, hD, ?_, ?_, ?_, us ++ [x], es1 ++ [e1], es3, by rw [ek]; simp, hI3, upd_same, al.snoc hx, by rw [List.length_append, List.length_singleton]; omega⟩
        · have : (5 : Nat) < sizeLine := by decide
          have := h5
          rw [List.length_cons] at this
          omega
        · exact fun b o hb => by
            rw [upd_ne (fun z => by rw [z, sm2.free nD] at hb; cases hb)]
            exact sm _ _ hb
        · rw [upd_ne (fun z => by rw [z, hD] at hp; cases hp)]
          exact hp
    rintro H3 ⟨sm3', _, us, es1, es2, ek, hI2, hD, al, hul⟩
    clear sm3
    rw [List.drop_length] at hI2
    cases hI2
    rw [List.append_nil] at ek
    rw [← ek] at al
    clear ek
    refine ⟨_, rfl, (by show 1 ≤ sizeLine; decide), fun p3 np3 => ?_⟩
    have hD := Same.new np3 (.lst [okV k]) _ _ hD
    have sm4 := sm3'.trans (Same.new np3 (.lst [okV k]))
    have e3 : upd H3 p3 (.lst [okV k]) p3 = some (.lst [okV k]) := upd_same
    generalize upd H3 p3 (.lst [okV k]) = H4 at hD sm4 e3 ⊢
    have al := al.same sm4
    refine ⟨_, rfl, D, us, rfl, .inl (SqL.of hD), p3, us.length, [okV k], rfl, rfl, e3, by omega, ?_, ?_, fun p4 np4 => ?_⟩
    · have := h5
      rw [List.length_cons] at this
      omega
    · have : (5 : Nat) < sizeLine := by decide
      have := h5
      rw [List.length_cons] at this
      rw [Int.toNat_natCast, List.length_singleton]
      omega
    rw [rep_one]
    have sm5 := sm4
    have hl : us.length = e.kids.length := al.length
    rw [hl]
    have hD5 := Same.new np4 (.lst (List.replicate e.kids.length (okV k))) _ _ hD
    have al5 := al.same (Same.new np4 (.lst (List.replicate e.kids.length (okV k))))
    refine rd_names (K := K) (σ := [some (.ref t), some (okV k), some (.str e.word), some (.ref D), some (.ref p4), none, none, none, none, none, none]) hg (hv.same (sm4.trans (Same.new np4 _))) rfl rfl rfl rfl upd_same fun H6 st6 hp6 => ?_
    have dne : D ≠ p4 := fun z => by rw [z, np4] at hD; cases hD
    have hD6 := st6.keep _ _ (by simpa using dne) hD5
    have sm6 := sm4.trans (st6.drop1 np4)
    have al6 := al.same (st6.drop1 np4)
    clear st6 al5 hD5 dne sm5 hv
    refine ⟨_, rfl, _, rfl, D, p4, us, _, rfl, SqL.of hD6, SqL.of hp6, fun R nR => ?_⟩
    have kl := e.kids_len
    refine lc_zipL (K := K) (a := D) (b := p4) (xs := us) (ys := (e.ks k).map okV) (by rw [List.length_map, e.ks_len, hl]) (fun i H7 => Same H6 H7 ∧ ∃ ps, H7 R = some (.lst ps) ∧ ps.length = i ∧ PapL H7 ps (e.kids.take i) ((e.ks k).take i))
      ⟨Same.new nR _, [], upd_same, rfl, .nil⟩ (fun i H7 _ h => ⟨SqL.of (h.1 _ _ hD6), SqL.of (h.1 _ _ hp6)⟩) ?_ ?_
    · rintro i x y T H7 hx hy ⟨smb, ps, hR, hpl, pl⟩ nT
      have hi : i < us.length := (List.getElem?_eq_some_iff.mp hx).1
      obtain ⟨v, e1, g1, g2, hk, ha⟩ := al6.at_ i (by omega)
      rw [g1] at hx
      cases hx
      obtain ⟨j, hj, rfl⟩ : ∃ j, (e.ks k)[i]? = some j ∧ y = okV j := by
        rw [List.getElem?_map] at hy
        cases c : (e.ks k)[i]? with
        | none => rw [c] at hy; cases hy
        | some u => rw [c] at hy; exact ⟨u, rfl, (Option.some.inj hy).symm⟩
      obtain ⟨S', hS', gk⟩ := hg.kid2 hS hk
      have hde := kid_deep hk
      refine ⟨T, _, rfl, SqT.of upd_same, rfl, _, _, rfl, _, _, rfl, rfl, rfl, ?_⟩
      refine tYes_if ?_
      refine ⟨_, rfl, _, rfl, x, e1, j, S', rfl, ha.same (smb.trans (Same.new nT _)), gk, hS', ks_lets hkl (List.mem_of_getElem? hj), by omega, by omega, fun r H8 sm8 pap => ?_⟩
      have sm78 := (Same.new nT (.tup [x, okV j])).trans sm8
      have hR8 := sm78 _ _ hR
      have hup : Same H6 (upd H8 R (.lst (ps ++ [r]))) := fun b o hb => by
        rw [upd_ne (fun z => by rw [z, nR] at hb; cases hb)]
        exact sm78 _ _ (smb _ _ hb)
      have htp : ∀ (t : Addr) (xs : List V), H8 t = some (.tup xs) → upd H8 R (.lst (ps ++ [r])) t = some (.tup xs) := fun t xs h => by
        rw [upd_ne (fun z => by rw [z, hR8] at h; cases h)]
        exact h
      refine ⟨ps, hR8, ?_, hup, ps ++ [r], upd_same, by rw [List.length_append, List.length_singleton, hpl], ?_⟩
      · have : (5 : Nat) < sizeLine := by decide
        omega
      · rw [take_snoc g2, take_snoc hj]
        exact ((pl.same sm78).snoc pap).tups htp
    rintro H7 ⟨sm7, ps, hR, hpl, pl⟩
    rw [List.take_of_length_le (by omega), List.take_of_length_le (by rw [e.ks_len]; omega)] at pl
    refine ⟨_, rfl, R, rfl, ⟨_, SqL.of hR⟩, fun W nW => ?_⟩
    have hws : ∀ {i : Nat} {v : V}, ps[i]? = some v → ∃ e1 k1, (e.ws k)[i]? = some (e1.wd k1) ∧ PapAt H7 v e1 k1 := fun h => pl.at_ h
    refine lc_list (K := K) (a := R) (xs := ps) (fun i H8 => Same H7 H8 ∧ H8 W = some (.lst (((e.ws k).take i).map woV)) ∧ i ≤ ps.length) ⟨Same.new nW _, upd_same, Nat.zero_le _⟩ (fun i H8 _ h => SqL.of (h.1 _ _ hR)) ?_ ?_
    · rintro i x H8 hx ⟨sm8, hW, hip⟩
      obtain ⟨e1, k1, hw, pap⟩ := hws hx
      obtain ⟨t1, u1, vs1, rfl, ht1, _, _⟩ := pap.open_
      refine ⟨rfl, ?_⟩
      refine tYes_if ?_
      refine ⟨_, rfl, t1, _, _, woV (e1.wd k1), rfl, rfl, SqT.of (sm8 _ _ ht1), atI_nat (j := 0) rfl, _, hW, ?_, ?_, ?_, ?_⟩
      · have : (5 : Nat) < sizeLine := by decide
        rw [List.length_map, List.length_take]
        omega
      · exact fun b o hb => by
          rw [upd_ne (fun z => by rw [z, nW] at hb; cases hb)]
          exact sm8 _ _ hb
      · rw [upd_same, take_snoc hw, List.map_append]; rfl
      · have := (List.getElem?_eq_some_iff.mp hx).1
        omega
    rintro H8 ⟨sm8, hW, _⟩
    rw [List.take_of_length_le (by rw [e.ws_len]; omega)] at hW
    refine ⟨_, rfl, W, e.ws k, rfl, hW, ?_⟩
    have sm8' := sm6.trans (sm7.trans sm8)
    have hnf' : ¬ inV (V.str e.word) [.str "num", .str "fault"] = true := hnf
    refine rd_found (K := K) (a0 := some (.ref t)) (a4 := some (.ref p4)) (a5 := some (.ref R)) (a8 := none) (a9 := none) (a10 := none) (S := S) (e := e) (k := k) (l := D) (w := W) (us := us) hg hS hkl h41 (sm8 _ _ (sm7 _ _ hD6)) (al6.same (sm7.trans sm8)) hW hnf' hnn fun b8 H9 sm9 => ?_
    refine ⟨_, rfl, _, rfl, R, ps, rfl, .inl ⟨SqL.of (sm9 _ _ (sm8 _ _ hR)), fun u nu => ⟨(by show 2 ≤ sizeLine; decide), fun r nr => ?_⟩⟩⟩
    have smE := (sm9.trans (Same.new nu (.tup ps))).trans (Same.new nr (.tup [woV (e.wd k), .ref u]))
    exact q _ _ (sm8'.trans smE) (PapAt.mk_ (e := e) (k := k) (t := r) (u := u) (vs := ps) upd_same (Same.new nr _ _ _ upd_same) (pl.same (sm8.trans smE)))
end
end Wr
namespace Wr
open PySem PySem.Spec PyProof.Rows L2
/-- what is due for a catch: its handler's paper, or None -/
def PapO (H : Hp) (v : V) : Ex → Prop
  | .ct _ _ k b => if b.wd (some k) = none then v = .non else PapAt H v b (some k)
  | _ => False
inductive PoL (H : Hp) : List V → List Ex → Prop where
  | nil : PoL H [] []
  | cons {v : V} {e : Ex} {vs : List V} {es : List Ex} : PapO H v e → PoL H vs es → PoL H (v :: vs) (e :: es)
theorem PapO.tups {H H' : Hp} (s : ∀ t xs, H t = some (.tup xs) → H' t = some (.tup xs)) {v : V} {e : Ex} (h : PapO H v e) : PapO H' v e := by
  cases e with
  | ct a x k b =>
    show if b.wd (some k) = none then v = .non else PapAt H' v b (some k)
    have h : if b.wd (some k) = none then v = .non else PapAt H v b (some k) := h
    by_cases c : b.wd (some k) = none
    · rw [if_pos c] at h ⊢; exact h
    · rw [if_neg c] at h ⊢; exact h.tups s
  | _ => exact h
theorem PoL.tups {H H' : Hp} (s : ∀ t xs, H t = some (.tup xs) → H' t = some (.tup xs)) : ∀ {vs : List V} {es : List Ex}, PoL H vs es → PoL H' vs es
  | _, _, .nil => .nil
  | _, _, .cons a t => .cons (a.tups s) (t.tups s)
theorem PoL.snoc {H : Hp} : ∀ {vs : List V} {es : List Ex} {v : V} {e : Ex}, PoL H vs es → PapO H v e → PoL H (vs ++ [v]) (es ++ [e])
  | _, _, _, _, .nil, g => .cons g .nil
  | _, _, _, _, .cons a t, g => .cons a (t.snoc g)
theorem PoL.length {H : Hp} : ∀ {vs : List V} {es : List Ex}, PoL H vs es → vs.length = es.length
  | _, _, .nil => rfl
  | _, _, .cons _ t => by simp [t.length]
theorem cts_good {e : Ex} : ∀ {S : List Str}, (∀ x ∈ S, x ∈ letters) → Good S e → ∀ c ∈ e.cts, ∃ S' a x k b, c = .ct a x k b ∧ (∀ y ∈ S', y ∈ letters) ∧ k ∈ letters ∧ Good S' b ∧ 1 + b.deep ≤ e.deep := by
  induction e with
  | num n => intro S hS g c hc; cases hc
  | name x => intro S hS g c hc; cases hc
  | fault => intro S hS g c hc; cases hc
  | one w a ia =>
    intro S hS g c hc
    obtain ⟨S', a', x, k, b', r1, r2, r3, r4, r5⟩ := ia hS g.2 c hc
    exact ⟨S', a', x, k, b', r1, r2, r3, r4, by simp only [Ex.deep]; omega⟩
  | two w a b ia ib =>
    intro S hS g c hc
    rcases List.mem_append.mp hc with hc | hc
    · obtain ⟨S', a', x, k, b', r1, r2, r3, r4, r5⟩ := ia hS g.2.1 c hc
      exact ⟨S', a', x, k, b', r1, r2, r3, r4, by simp only [Ex.deep]; omega⟩
    · obtain ⟨S', a', x, k, b', r1, r2, r3, r4, r5⟩ := ib hS g.2.2 c hc
      exact ⟨S', a', x, k, b', r1, r2, r3, r4, by simp only [Ex.deep]; omega⟩
  | ite a b d ia ib id =>
    intro S hS g c hc
    rcases List.mem_append.mp hc with hc | hc
    · obtain ⟨S', a', x, k, b', r1, r2, r3, r4, r5⟩ := ia hS g.1 c hc
      exact ⟨S', a', x, k, b', r1, r2, r3, r4, by simp only [Ex.deep]; omega⟩
    · rcases List.mem_append.mp hc with hc | hc
      · obtain ⟨S', a', x, k, b', r1, r2, r3, r4, r5⟩ := ib hS g.2.1 c hc
        exact ⟨S', a', x, k, b', r1, r2, r3, r4, by simp only [Ex.deep]; omega⟩
      · obtain ⟨S', a', x, k, b', r1, r2, r3, r4, r5⟩ := id hS g.2.2 c hc
        exact ⟨S', a', x, k, b', r1, r2, r3, r4, by simp only [Ex.deep]; omega⟩
  | lt n a b ia ib =>
    intro S hS g c hc
    rcases List.mem_append.mp hc with hc | hc
    · obtain ⟨S', a', x, k, b', r1, r2, r3, r4, r5⟩ := ia hS g.2.1 c hc
      exact ⟨S', a', x, k, b', r1, r2, r3, r4, by simp only [Ex.deep]; omega⟩
    · obtain ⟨S', a', x, k, b', r1, r2, r3, r4, r5⟩ := ib (consL hS g.1) g.2.2 c hc
      exact ⟨S', a', x, k, b', r1, r2, r3, r4, by simp only [Ex.deep]; omega⟩
  | fn n a ia =>
    intro S hS g c hc
    obtain ⟨S', a', x, k, b', r1, r2, r3, r4, r5⟩ := ia (consL hS g.1) g.2 c hc
    exact ⟨S', a', x, k, b', r1, r2, r3, r4, by simp only [Ex.deep]; omega⟩
  | ct a n k b ia ib =>
    intro S hS g c hc
    rcases List.mem_cons.mp hc with rfl | hc
    · exact ⟨_, a, n, k, b, rfl, consL (consL hS g.2.1) g.1, g.2.1, g.2.2.2.2, by simp only [Ex.deep]; omega⟩
    rcases List.mem_append.mp hc with hc | hc
    · obtain ⟨S', a', x, k, b', r1, r2, r3, r4, r5⟩ := ia hS g.2.2.2.1 c hc
      exact ⟨S', a', x, k, b', r1, r2, r3, r4, by simp only [Ex.deep]; omega⟩
    · obtain ⟨S', a', x, k, b', r1, r2, r3, r4, r5⟩ := ib (consL (consL hS g.2.1) g.1) g.2.2.2.2 c hc
      exact ⟨S', a', x, k, b', r1, r2, r3, r4, by simp only [Ex.deep]; omega⟩
theorem Same.putnew {H0 H : Hp} {l : Addr} (s : Same H0 H) (n : H0 l = none) (o : HO) : Same H0 (upd H l o) := fun b u hb => by
  rw [upd_ne (fun z => by rw [z, n] at hb; cases hb)]
  exact s _ _ hb
section
variable {P : Program} {w : World} {K : PySem.W.Frag} {mg : Str → Option Value} {base : Heap}
theorem paper_all (F : Df K mg "_law_paper" s_L_paper) (isi : mg "isinstance" = none) (tup : mg "tuple" = none) (len : mg "len" = none) (zip : mg "zip" = none) (max' : mg "max" = none) (UJ : Use P w K mg base "_law_join" ["_law_words"] 1 (spJoin K)) :
    ∀ n : Nat, Use P w K mg base "_law_paper" ["_law_part", "_law_k"] (n + 1) (spPaper n)
  | 0 => use_no F (fun _ _ _ _ _ _ us hl => match us, hl with | [_, _], _ => rfl) 1 fun vs H Q E ⟨v, e, _, _, _, _, _, _, _, hd, _⟩ => by have := e.deep_pos; omega
  | n + 1 => ok_paper n F isi tup len zip max' UJ (paper_all F isi tup len zip max' UJ n)
def spPapers : Sp := fun vs H Q _ => ∃ (v : V) (e : Ex) (S : List Str), vs = [v] ∧ AtE H v e ∧ Good S e ∧ (∀ x ∈ S, x ∈ letters) ∧ e.deep ≤ 41 ∧ e.size ≤ 200 ∧
  ∀ (l : Addr) (us : List V) (H' : Hp), Same H H' → H l = none → H' l = some (.lst us) → PoL H' us e.cts → Q (.ref l) H'
theorem scPapers : FnScope ["_law_program_here", "_law_found", "_law_part", "_law_paper_here"] ["_law_program_here"] (defScope s_L_papers) := ⟨rfl, rfl, rfl, by decide +kernel, rfl, by decide +kernel, by decide +kernel⟩
theorem ok_papers (F : Df K mg "_law_papers" s_L_papers) (UC : Use P w K mg base "_law_catches" ["_law_part"] 41 (spCatches 41)) (UP : Use P w K mg base "_law_paper" ["_law_part", "_law_k"] 42 (spPaper 41)) : Use P w K mg base "_law_papers" ["_law_program_here"] 43 spPapers := by
  refine F.use scPapers (fun _ _ _ _ _ _ us hl => match us, hl with | [_], _ => rfl) (fun vs H Q E h => ?_) (fun cdv f A outer s H vs Q E hr h => ?_)
  · obtain ⟨v, e, S, rfl, _⟩ := h
    rfl
  · obtain ⟨v, e, S, rfl, hv, hg, hS, hd, hz, q⟩ := h
    have hr1 : Room 41 _ := hr.mono (by omega)
    refine ⟨_, pss_cons (ps_set (i := 1) scPapers.nd rfl (Or.inl rfl) (pe_lst pa_nil))
      (pss_cons (ps_for PassesOwn.never rfl (pi_list (pe_use UC hr1 (pa_cons (pv 0) pa_nil))) (pg_name (i := 2) scPapers.nd rfl (Or.inl rfl))
        (pss_cons (ps_set (i := 3) scPapers.nd rfl (Or.inl rfl) (pe_use UP hr (pa_cons (pe_ix ix_tup (pv 2) pe_int (fun _ _ => rfl)) (pa_cons (pe_ix ix_tup (pv 2) pe_int (fun _ _ => rfl)) pa_nil))))
        (pss_one (ps_expr (pe_bm PySem.F.plainAttrs_list PySem.F.slot_list_append PySem.F.type_list_append mt_append (pv 1) (pa_cons (pe_ifExp (pt_cmpR op_isN (pe_ix ix_tup (pv 3) pe_int (fun _ _ => rfl)) pe_non (nomark _)) pe_non (pv 3)) pa_nil))))))
      (pss_one (ps_ret (pv 1)))), ?_⟩
    refine ⟨Nat.zero_le _, fun l nl => ?_⟩
    have sm1 := Same.new nl (.lst [])
    have hl1 : upd H l (.lst []) l = some (.lst []) := upd_same
    generalize upd H l (.lst []) = H1 at sm1 hl1 ⊢
    refine ⟨_, rfl, v, e, S, rfl, hv.same sm1, hg, hd, hz, fun c cs H2 sm2 nc hc al => ?_⟩
    have sm12 := sm1.trans sm2
    have hcl : cs.length ≤ 200 := by rw [al.length]; exact Nat.le_trans e.cts_size hz
    refine ⟨c, rfl, ⟨_, SqL.of hc⟩, for_list (K := K) (a := c) (xs := cs) (fun i σ H3 => Same H H3 ∧ H3 c = some (.lst cs) ∧ ∃ us v2 v3, σ = [some v, some (.ref l), v2, v3] ∧ H3 l = some (.lst us) ∧ us.length = i ∧ PoL H3 us (e.cts.take i) ∧ AtL H3 cs e.cts)
      ⟨sm12, hc, [], none, none, rfl, sm2 _ _ hl1, rfl, .nil, al⟩ (fun i σ H3 _ h => SqL.of h.2.1) ?_ ?_⟩
    · rintro i x σ H3 hi ⟨sm, hc3, us, v2, v3, rfl, hl3, hul, pl, al3⟩
      have hic : i < cs.length := (List.getElem?_eq_some_iff.mp hi).1
      obtain ⟨x', c1, g1, g2, hmem, ha⟩ := al3.at_ i (by rw [← al3.length]; exact hic)
      rw [g1] at hi
      cases hi
      obtain ⟨S', a, y, k, b, rfl, hS', hkl, gb, hbd⟩ := cts_good hS hg c1 hmem
      obtain ⟨t, w1, w2, rfl, ht, ha1, hb1⟩ := ha
      refine ⟨_, rfl, t, _, 4, w2, rfl, rfl, SqT.of ht, rfl, _, rfl, t, _, 3, .str k, rfl, rfl, SqT.of ht, rfl, w2, b, some k, S', rfl, hb1, gb, hS', fun z hz => by cases hz; exact hkl, by omega, by omega, fun r H4 sm4 pap => ?_⟩
      obtain ⟨t4, u4, vs4, rfl, ht4, hu4, pl4⟩ := pap.open_
      have hl4 := sm4 _ _ hl3
      have nel : ∀ (t : Addr) (xs : List V), H4 t = some (.tup xs) → ∀ o, upd H4 l o t = some (.tup xs) := fun t xs h o => by
        rw [upd_ne (fun z => by rw [z, hl4] at h; cases h)]
        exact h
      have hcne : c ≠ l := fun z => by
        have := sm2 _ _ hl1
        rw [← z] at hl1
        rw [nc] at hl1
        cases hl1
      refine ⟨_, rfl, .inl ⟨rfl, _, SqL.of hl4⟩, _, rfl, t4, _, 0, woV (b.wd (some k)), rfl, rfl, SqT.of ht4, rfl, rfl, _, rfl, ?_⟩
      rw [woV_none]
      have fin : ∀ z : V, PapO H4 z (.ct a y k b) → Same H (upd H4 l (.lst (us ++ [z]))) ∧ upd H4 l (.lst (us ++ [z])) c = some (.lst cs) ∧ ∃ us' v2 v3, ([some v, some (.ref l), some (.ref t), some (.ref t4)] : L2.St) = [some v, some (.ref l), v2, v3] ∧ upd H4 l (.lst (us ++ [z])) l = some (.lst us') ∧ us'.length = i + 1 ∧ PoL (upd H4 l (.lst (us ++ [z]))) us' (e.cts.take (i + 1)) ∧ AtL (upd H4 l (.lst (us ++ [z]))) cs e.cts := fun z hz => by
        refine ⟨Same.putnew (sm.trans sm4) nl _, by rw [upd_ne hcne]; exact sm4 _ _ hc3, us ++ [z], _, _, rfl, upd_same, by rw [List.length_append, List.length_singleton, hul], ?_, al3.tups fun t xs h => nel _ _ (sm4 _ _ h) _⟩
        rw [take_snoc g2]
        exact ((pl.tups fun t xs h => sm4 _ _ h).snoc hz).tups fun t xs h => nel _ _ h _
      have hlt : us.length < sizeLine := by
        have : (200 : Nat) < sizeLine := by decide
        omega
      refine ite2 (fun hd0 => ?_) (fun hd0 => ?_)
      · refine ⟨l, us, .non, rfl, rfl, hl4, hlt, fin .non ?_⟩
        have hw0 : b.wd (some k) = none := by
          cases c0 : b.wd (some k) with
          | none => rfl
          | some u => rw [c0] at hd0; cases hd0
        show if b.wd (some k) = none then V.non = .non else _
        rw [if_pos hw0]
      · refine ⟨_, rfl, l, us, .ref t4, rfl, rfl, hl4, hlt, fin (.ref t4) ?_⟩
        have hw0 : ¬ b.wd (some k) = none := fun z => by rw [z] at hd0; exact hd0 rfl
        show if b.wd (some k) = none then V.ref t4 = .non else PapAt H4 (.ref t4) b (some k)
        rw [if_neg hw0]
        exact pap
    · rintro σ H3 ⟨sm, hc3, us, v2, v3, rfl, hl3, hul, pl, al3⟩
      refine ⟨_, rfl, q l us H3 sm nl hl3 ?_⟩
      rw [List.take_of_length_le (by rw [← al3.length]; exact Nat.le_refl _)] at pl
      exact pl
end
end Wr
namespace Wr
open PySem PySem.Spec PyProof.Rows L2
/-- data of so many floors at most, no row of more than a thousand -/
inductive Sm : Nat → PyData → Prop where
  | non {n : Nat} : Sm (n + 1) .none
  | bl {n : Nat} (b : Bool) : Sm (n + 1) (.bool b)
  | int {n : Nat} (i : Int) : Sm (n + 1) (.int i)
  | str {n : Nat} (x : Str) : Sm (n + 1) (.str x)
  | lst {n : Nat} {ds : List PyData} : ds.length ≤ 1000 → (∀ d ∈ ds, Sm n d) → Sm (n + 1) (.list ds)
  | tup {n : Nat} {ds : List PyData} : ds.length ≤ 1000 → (∀ d ∈ ds, Sm n d) → Sm (n + 1) (.tuple ds)
theorem dpAll_len {K : PySem.W.Frag} {H : Hp} : ∀ {vs : List V} {ds : List PyData}, DpAll K H vs ds → vs.length = ds.length
  | _, _, .nil => rfl
  | _, _, .cons _ t => by simp [dpAll_len t]
theorem dpAll_at {K : PySem.W.Frag} {H : Hp} : ∀ {vs : List V} {ds : List PyData} {i : Nat}, DpAll K H vs ds → i < ds.length → ∃ v d, vs[i]? = some v ∧ ds[i]? = some d ∧ Dp K H v d
  | _, _, _, .nil, h => by simp at h
  | _, _, 0, .cons (v := v) (d := d) a t, h => ⟨v, d, rfl, rfl, a⟩
  | _, _, i + 1, .cons a t, h => dpAll_at (i := i) t (by simpa using h)
def tnm : PyData → String
  | .none => "NoneType"
  | .bool _ => "bool"
  | .int _ => "int"
  | .str _ => "str"
  | .list _ => "list"
  | _ => "tuple"
theorem SqT.ty {K : PySem.W.Frag} {H : Hp} {a : Addr} {xs : List V} (h : SqT K H a xs) : TyX K H (.ref a) (.type "tuple") := by
  rcases h with (h | ⟨o, h⟩) | ⟨o, _, _, h, c, _⟩
  · exact .base (.tup h)
  · exact .fTuple h
  · exact .kTuple h c
theorem SqL.ty {K : PySem.W.Frag} {H : Hp} {a : Addr} {xs : List V} (h : SqL K H a xs) : TyX K H (.ref a) (.type "list") := by
  rcases h with (h | ⟨o, h⟩) | ⟨o, _, _, h, c, _⟩
  · exact .base (.lst h)
  · exact .base (.frz h)
  · exact .kList h c
theorem dp_ty {K : PySem.W.Frag} {H : Hp} {v : V} {d : PyData} (h : Dp K H v d) : TyX K H v (.type (tnm d)) := by
  cases h with
  | non => exact .base .non
  | bl b => exact .base (.bl b)
  | int i => exact .base (.int i)
  | str x => exact .base (.str x)
  | lst h _ => exact SqL.ty h
  | tup h _ => exact SqT.ty h
def rIxQ (K : PySem.W.Frag) : R2 := fun x y H Q => rIxL K x y H Q ∨ rIxT K x y H Q
theorem ix_seq {X : Cx} : IxR X (rIxQ X.K) := fun value slice pins s σ H x y v u Q I rx ry h hs =>
  h.elim (fun h => ix_list value slice pins s σ H x y v u Q I rx ry h hs) (fun h => ix_tup value slice pins s σ H x y v u Q I rx ry h hs)
section
variable {P : Program} {w : World} {K : PySem.W.Frag} {mg : Str → Option Value} {base : Heap}
/-- two forms of the same data -/
def spLike (K : PySem.W.Frag) (n : Nat) : Sp := fun vs H Q _ => ∃ (v u : V) (d : PyData), vs = [v, u] ∧ Dp K H v d ∧ Dp K H u d ∧ Sm n d ∧ Q (.bl true) H
theorem scLike : FnScope ["_law_found", "_law_due", "_law_k"] ["_law_found", "_law_due"] (defScope s_L_like) := ⟨rfl, rfl, rfl, by decide +kernel, rfl, by decide +kernel, by decide +kernel⟩
theorem ok_like (n : Nat) (F : Df K mg "_law_like" s_L_like) (isi : mg "isinstance" = none) (tup : mg "tuple" = none) (lis : mg "list" = none) (bo : mg "bool" = none) (st : mg "str" = none) (it : mg "int" = none) (len : mg "len" = none) (rng : mg "range" = none)
    (U : Use P w K mg base "_law_like" ["_law_found", "_law_due"] n (spLike K n)) : Use P w K mg base "_law_like" ["_law_found", "_law_due"] (n + 1) (spLike K (n + 1)) := by
  refine F.use scLike (fun _ _ _ _ _ _ us hl => match us, hl with | [_, _], _ => rfl) (fun vs H Q E h => ?_) (fun cdv f A outer s H vs Q E hr h => ?_)
  · obtain ⟨v, u, d, rfl, _⟩ := h
    rfl
  · obtain ⟨v, u, d, rfl, hv, hu, hs, q⟩ := h
    refine ⟨_, pss_cons (ps_if (pt_val (pe_callB (r := rIsi K) call_isi (by rfl) isi (by decide +kernel) (pa_cons (pv 1) (pa_cons (pe_bltn (v := .ty "bool") (u := .type "bool") (by rfl) bo (by decide +kernel) rfl) pa_nil)))) (pss_one (ps_ret (pe_and (pe_callB (r := rIsi K) call_isi (by rfl) isi (by decide +kernel) (pa_cons (pv 0) (pa_cons (pe_bltn (v := .ty "bool") (u := .type "bool") (by rfl) bo (by decide +kernel) rfl) pa_nil))) (pe_one (pe_cmpR op_eq (pv 0) (pv 1) (nomark _)))))) pss_nil)
      (pss_cons (ps_if (pt_val (pe_callB (r := rIsi K) call_isi (by rfl) isi (by decide +kernel) (pa_cons (pv 1) (pa_cons (pe_bltn (v := .ty "str") (u := .type "str") (by rfl) st (by decide +kernel) rfl) pa_nil)))) (pss_one (ps_ret (pe_and (pe_callB (r := rIsi K) call_isi (by rfl) isi (by decide +kernel) (pa_cons (pv 0) (pa_cons (pe_bltn (v := .ty "str") (u := .type "str") (by rfl) st (by decide +kernel) rfl) pa_nil))) (pe_one (pe_cmpR op_eq (pv 0) (pv 1) (nomark _)))))) pss_nil)
      (pss_cons (ps_if (pt_val (pe_callB (r := rIsi K) call_isi (by rfl) isi (by decide +kernel) (pa_cons (pv 1) (pa_cons (pe_bltn (v := .ty "int") (u := .type "int") (by rfl) it (by decide +kernel) rfl) pa_nil)))) (pss_one (ps_ret (pe_and (pe_callB (r := rIsi K) call_isi (by rfl) isi (by decide +kernel) (pa_cons (pv 0) (pa_cons (pe_bltn (v := .ty "int") (u := .type "int") (by rfl) it (by decide +kernel) rfl) pa_nil))) (pe_and (pe_not (pe_callB (r := rIsi K) call_isi (by rfl) isi (by decide +kernel) (pa_cons (pv 0) (pa_cons (pe_bltn (v := .ty "bool") (u := .type "bool") (by rfl) bo (by decide +kernel) rfl) pa_nil)))) (pe_one (pe_cmpR op_eq (pv 0) (pv 1) (nomark _))))))) pss_nil)
      (pss_cons (ps_if (pt_cmpR op_isN (pv 1) pe_non (nomark _)) (pss_one (ps_ret (pe_cmpR op_isN (pv 0) pe_non (nomark _)))) pss_nil)
      (pss_cons (ps_if (PW.pt (pw_or (pt_cmpR op_ne (pe_callB (r := rIsi K) call_isi (by rfl) isi (by decide +kernel) (pa_cons (pv 1) (pa_cons (pe_bltn (v := .ty "tuple") (u := .type "tuple") (by rfl) tup (by decide +kernel) rfl) pa_nil))) (pe_callB (r := rIsi K) call_isi (by rfl) isi (by decide +kernel) (pa_cons (pv 0) (pa_cons (pe_bltn (v := .ty "tuple") (u := .type "tuple") (by rfl) tup (by decide +kernel) rfl) pa_nil))) (nomark _)) (pw_or1 (pt_cmpR op_ne (pe_callB (r := rIsi K) call_isi (by rfl) isi (by decide +kernel) (pa_cons (pv 1) (pa_cons (pe_bltn (v := .ty "list") (u := .type "list") (by rfl) lis (by decide +kernel) rfl) pa_nil))) (pe_callB (r := rIsi K) call_isi (by rfl) isi (by decide +kernel) (pa_cons (pv 0) (pa_cons (pe_bltn (v := .ty "list") (u := .type "list") (by rfl) lis (by decide +kernel) rfl) pa_nil))) (nomark _))))) (pss_one (ps_ret pe_bl)) pss_nil)
      (pss_cons (ps_if (pt_cmpR op_ne (pe_callB call_len_seq (by rfl) len PySem.boot_len (pa_cons (pv 0) pa_nil)) (pe_callB call_len_seq (by rfl) len PySem.boot_len (pa_cons (pv 1) pa_nil)) (nomark _)) (pss_one (ps_ret pe_bl)) pss_nil)
      (pss_cons (ps_for PassesOwn.never rfl (pi_range1 (by rfl) rng (pa_cons (pe_callB call_len_seq (by rfl) len PySem.boot_len (pa_cons (pv 1) pa_nil)) pa_nil)) (pg_name (i := 2) scLike.nd rfl (Or.inl rfl))
        (pss_one (ps_if (pt_not (pt_val (pe_use U hr (pa_cons (pe_ix (r := rIxQ K) ix_seq (pv 0) (pv 2) (fun _ _ => rfl)) (pa_cons (pe_ix (r := rIxQ K) ix_seq (pv 1) (pv 2) (fun _ _ => rfl)) pa_nil))))) (pss_one (ps_ret pe_bl)) pss_nil)))
      (pss_one (ps_ret pe_bl)))))))), ?_⟩
    cases hs with
    | bl b =>
      have tv : TyX K H v (.type "bool") := dp_ty hv
      have tu : TyX K H u (.type "bool") := dp_ty hu
      refine ⟨_, rfl, u, .ty "bool", _, .type "bool", true, rfl, .ty _, tu, kit_ty (by decide +kernel), true, rfl, ?_⟩
      refine iteT ?_
      refine ⟨_, rfl, v, .ty "bool", _, .type "bool", true, rfl, .ty _, tv, kit_ty (by decide +kernel), true, rfl, ?_⟩
      refine iteT ?_
      cases hv
      cases hu
      refine ⟨_, rfl, _, rfl, rfl, ?_⟩
      rw [decide_eq_true rfl]
      exact q
    | str x =>
      have tv : TyX K H v (.type "str") := dp_ty hv
      have tu : TyX K H u (.type "str") := dp_ty hu
      refine ⟨_, rfl, u, .ty "bool", _, .type "bool", false, rfl, .ty _, tu, kit_ty (by decide +kernel), false, rfl, iteF ?_⟩
      refine ⟨_, rfl, u, .ty "str", _, .type "str", true, rfl, .ty _, tu, kit_ty (by decide +kernel), true, rfl, iteT ?_⟩
      refine ⟨_, rfl, v, .ty "str", _, .type "str", true, rfl, .ty _, tv, kit_ty (by decide +kernel), true, rfl, iteT ?_⟩
      cases hv
      cases hu
      refine ⟨_, rfl, _, rfl, rfl, ?_⟩
      rw [decide_eq_true rfl]
      exact q
    | int i =>
      have tv : TyX K H v (.type "int") := dp_ty hv
      have tu : TyX K H u (.type "int") := dp_ty hu
      refine ⟨_, rfl, u, .ty "bool", _, .type "bool", false, rfl, .ty _, tu, kit_ty (by decide +kernel), false, rfl, iteF ?_⟩
      refine ⟨_, rfl, u, .ty "str", _, .type "str", false, rfl, .ty _, tu, kit_ty (by decide +kernel), false, rfl, iteF ?_⟩
      refine ⟨_, rfl, u, .ty "int", _, .type "int", true, rfl, .ty _, tu, kit_ty (by decide +kernel), true, rfl, iteT ?_⟩
      refine ⟨_, rfl, v, .ty "int", _, .type "int", true, rfl, .ty _, tv, kit_ty (by decide +kernel), true, rfl, iteT ?_⟩
      refine ⟨_, rfl, v, .ty "bool", _, .type "bool", false, rfl, .ty _, tv, kit_ty (by decide +kernel), false, rfl, true, rfl, iteT ?_⟩
      cases hv
      cases hu
      refine ⟨_, rfl, _, rfl, rfl, ?_⟩
      rw [decide_eq_true rfl]
      exact q
    | non =>
      have tv : TyX K H v (.type "NoneType") := dp_ty hv
      have tu : TyX K H u (.type "NoneType") := dp_ty hu
      refine ⟨_, rfl, u, .ty "bool", _, .type "bool", false, rfl, .ty _, tu, kit_ty (by decide +kernel), false, rfl, iteF ?_⟩
      refine ⟨_, rfl, u, .ty "str", _, .type "str", false, rfl, .ty _, tu, kit_ty (by decide +kernel), false, rfl, iteF ?_⟩
      refine ⟨_, rfl, u, .ty "int", _, .type "int", false, rfl, .ty _, tu, kit_ty (by decide +kernel), false, rfl, iteF ?_⟩
      cases hv
      cases hu
      refine ⟨_, rfl, rfl, _, rfl, iteT ?_⟩
      exact ⟨_, rfl, rfl, q⟩
    | lst hl hm =>
      have tv : TyX K H v (.type "list") := dp_ty hv
      have tu : TyX K H u (.type "list") := dp_ty hu
      refine ⟨_, rfl, u, .ty "bool", _, .type "bool", false, rfl, .ty _, tu, kit_ty (by decide +kernel), false, rfl, iteF ?_⟩
      refine ⟨_, rfl, u, .ty "str", _, .type "str", false, rfl, .ty _, tu, kit_ty (by decide +kernel), false, rfl, iteF ?_⟩
      refine ⟨_, rfl, u, .ty "int", _, .type "int", false, rfl, .ty _, tu, kit_ty (by decide +kernel), false, rfl, iteF ?_⟩
      cases hv with
      | lst qv av =>
      cases hu with
      | lst qu au =>
      refine ⟨_, rfl, rfl, _, rfl, iteF ?_⟩
      refine ⟨_, rfl, _, .ty "tuple", _, .type "tuple", false, rfl, .ty _, tu, kit_ty (by decide +kernel), _, rfl, _, .ty "tuple", _, .type "tuple", false, rfl, .ty _, tv, kit_ty (by decide +kernel), rfl, _, rfl, iteF ?_⟩
      refine ⟨_, rfl, _, .ty "list", _, .type "list", true, rfl, .ty _, tu, kit_ty (by decide +kernel), _, rfl, _, .ty "list", _, .type "list", true, rfl, .ty _, tv, kit_ty (by decide +kernel), rfl, _, rfl, iteF ?_⟩
      refine ⟨_, rfl, _, _, rfl, .inl qv, _, rfl, _, _, rfl, .inl qu, rfl, _, rfl, ?_⟩
      rw [dpAll_len av, dpAll_len au, decide_eq_true rfl]
      refine iteF ?_
      refine ⟨_, rfl, _, _, rfl, .inl qu, _, rfl, ?_, ?_, ?_⟩
      · omega
      · rw [dpAll_len au]; omega
      rw [dpAll_len au]
      refine for_range (fun i σ H2 => H2 = H ∧ ∃ v3, σ = [some _, some _, v3]) ⟨rfl, none, rfl⟩ ?_ ?_
      · rintro i σ H2 hi ⟨rfl, v3, rfl⟩
        rw [Int.toNat_natCast] at hi
        obtain ⟨x, d1, x1, x2, x3⟩ := dpAll_at av hi
        obtain ⟨y, d2, y1, y2, y3⟩ := dpAll_at au hi
        rw [x2] at y2
        cases y2
        rw [Int.zero_add]
        refine ⟨_, rfl, _, rfl, .inl ⟨_, _, _, x, rfl, rfl, qv, atI_nat x1, _, rfl, _, rfl, .inl ⟨_, _, _, y, rfl, rfl, qu, atI_nat y1, x, y, d1, rfl, x3, y3, hm d1 (List.mem_of_getElem? x2), true, rfl, iteF ?_⟩⟩⟩
        exact ⟨rfl, _, rfl⟩
      · rintro σ H2 ⟨rfl, v3, rfl⟩
        exact q
    | tup hl hm =>
      have tv : TyX K H v (.type "tuple") := dp_ty hv
      have tu : TyX K H u (.type "tuple") := dp_ty hu
      refine ⟨_, rfl, u, .ty "bool", _, .type "bool", false, rfl, .ty _, tu, kit_ty (by decide +kernel), false, rfl, iteF ?_⟩
      refine ⟨_, rfl, u, .ty "str", _, .type "str", false, rfl, .ty _, tu, kit_ty (by decide +kernel), false, rfl, iteF ?_⟩
      refine ⟨_, rfl, u, .ty "int", _, .type "int", false, rfl, .ty _, tu, kit_ty (by decide +kernel), false, rfl, iteF ?_⟩
      cases hv with
      | tup qv av =>
      cases hu with
      | tup qu au =>
      refine ⟨_, rfl, rfl, _, rfl, iteF ?_⟩
      refine ⟨_, rfl, _, .ty "tuple", _, .type "tuple", true, rfl, .ty _, tu, kit_ty (by decide +kernel), _, rfl, _, .ty "tuple", _, .type "tuple", true, rfl, .ty _, tv, kit_ty (by decide +kernel), rfl, _, rfl, iteF ?_⟩
      refine ⟨_, rfl, _, .ty "list", _, .type "list", false, rfl, .ty _, tu, kit_ty (by decide +kernel), _, rfl, _, .ty "list", _, .type "list", false, rfl, .ty _, tv, kit_ty (by decide +kernel), rfl, _, rfl, iteF ?_⟩
      refine ⟨_, rfl, _, _, rfl, .inr qv, _, rfl, _, _, rfl, .inr qu, rfl, _, rfl, ?_⟩
      rw [dpAll_len av, dpAll_len au, decide_eq_true rfl]
      refine iteF ?_
      refine ⟨_, rfl, _, _, rfl, .inr qu, _, rfl, ?_, ?_, ?_⟩
      · omega
      · rw [dpAll_len au]; omega
      rw [dpAll_len au]
      refine for_range (fun i σ H2 => H2 = H ∧ ∃ v3, σ = [some _, some _, v3]) ⟨rfl, none, rfl⟩ ?_ ?_
      · rintro i σ H2 hi ⟨rfl, v3, rfl⟩
        rw [Int.toNat_natCast] at hi
        obtain ⟨x, d1, x1, x2, x3⟩ := dpAll_at av hi
        obtain ⟨y, d2, y1, y2, y3⟩ := dpAll_at au hi
        rw [x2] at y2
        cases y2
        rw [Int.zero_add]
        refine ⟨_, rfl, _, rfl, .inr ⟨_, _, _, x, rfl, rfl, qv, atI_nat x1, _, rfl, _, rfl, .inr ⟨_, _, _, y, rfl, rfl, qu, atI_nat y1, x, y, d1, rfl, x3, y3, hm d1 (List.mem_of_getElem? x2), true, rfl, iteF ?_⟩⟩⟩
        exact ⟨rfl, _, rfl⟩
      · rintro σ H2 ⟨rfl, v3, rfl⟩
        exact q
theorem like_all (F : Df K mg "_law_like" s_L_like) (isi : mg "isinstance" = none) (tup : mg "tuple" = none) (lis : mg "list" = none) (bo : mg "bool" = none) (st : mg "str" = none) (it : mg "int" = none) (len : mg "len" = none) (rng : mg "range" = none) :
    ∀ n : Nat, Use P w K mg base "_law_like" ["_law_found", "_law_due"] n (spLike K n)
  | 0 => use_no F (fun _ _ _ _ _ _ us hl => match us, hl with | [_, _], _ => rfl) 0 fun vs H Q E ⟨v, u, d, _, _, _, hs, _⟩ => by cases hs
  | n + 1 => ok_like n F isi tup lis bo st it len rng (like_all F isi tup lis bo st it len rng n)
end
end Wr
namespace Wr
open PySem PySem.Spec PyProof.Rows L2
def exGos : List Ex := [.two "go" (.name "b") (.num 1), .name "a", .one "drop" (.name "b"), .num 7, .fn "c" (.two "go" (.name "b") (.name "a"))]
theorem gos_good : ∀ e ∈ exGos, Good ["a", "b"] e ∧ e.deep ≤ 3 := by decide +kernel
/-- name = a list of displays[..] -/
theorem ixB {K : PySem.W.Frag} {ρ : Rho} {g : TG} {te : TE} {u : TS} {D : Ends} {σ : L2.St} {H : Hp} (bs : List Bx) (hl : bs.length ≤ 100) (hb : ∀ b ∈ bs, b.has ρ σ H) (q : ∀ p vs H1, Stp [] H H1 → AtL H1 vs (bs.map (Bx.ex ρ)) → H1 p = none → te σ (upd H1 p (.lst vs)) fun y H2 => rIxL K (.ref p) y H2 fun x H3 => g x σ H3 (u D)) : tSeq (tAsg (tOp (rIxL K) (tLst (bxs bs)) te) g) u D σ H :=
  bxs.read bs hb fun vs H1 s1 h1 => ⟨by rw [h1.length, List.length_map]; exact Nat.le_trans hl (by decide), fun p np => q p vs H1 s1 h1 np⟩
section
variable {P : Program} {w : World} {K : PySem.W.Frag} {mg : Str → Option Value} {base : Heap}
def spTall (K : PySem.W.Frag) : Sp := fun vs H Q _ => ∃ (D : List Addr) (d a : Addr) (ns : List Int), vs = [.ref d] ∧ Dice K H D d a ns ∧
  ∀ (v : V) (e : Ex) (H' : Hp), AtE H' v e → Good [] e → e.size ≤ 190 → e.deep ≤ 40 → Stp [d] H H' → Dice K H' D d a ns → Q v H'
theorem scTall : FnScope ["_law_d", "_law_found", "_law_gos", "_law_turn", "_law_body", "_law_handler", "_law_more"] ["_law_d"] (defScope s_L_tall) := ⟨rfl, rfl, rfl, by decide +kernel, rfl, by decide +kernel, by decide +kernel⟩
theorem ok_tall (F : Df K mg "_law_tall" s_L_tall) (rng : mg "range" = none) (U : Use P w K mg base "_law_next" ["_law_dice_here", "_law_many"] 1 (spNext K)) (UZ : Use P w K mg base "_law_size" ["_law_part"] 225 (spSize 225)) : Use P w K mg base "_law_tall" ["_law_d"] 226 (spTall K) := by
  refine F.use scTall (fun _ _ _ _ _ _ us hl => match us, hl with | [_], _ => rfl) (fun vs H Q E h => ?_) (fun cdv f A outer s H vs Q E hr h => ?_)
  · obtain ⟨D, d, a, ns, rfl, _⟩ := h
    rfl
  · obtain ⟨D, d, a, ns, rfl, hD, q⟩ := h
    have hr1 : Room 1 _ := hr.mono (by omega)
    refine ⟨_, pss_cons (ps_set (i := 1) scTall.nd rfl (Or.inl rfl) (pe_ix ix_list (pe_lst (pa_cons (pe_tup (pa_cons pe_str (pa_cons pe_int pa_nil))) (pa_cons (pe_tup (pa_cons pe_str (pa_cons (pe_tup (pa_cons pe_str (pa_cons pe_int pa_nil))) pa_nil))) (pa_cons (pe_tup (pa_cons pe_str (pa_cons pe_str pa_nil))) pa_nil)))) (pe_use U hr1 (pa_cons (pv 0) (pa_cons pe_int pa_nil))) (fun _ _ => rfl)))
      (pss_cons (ps_set (i := 2) scTall.nd rfl (Or.inl rfl) (pe_lst (pa_cons (pe_tup (pa_cons pe_str (pa_cons (pe_tup (pa_cons pe_str (pa_cons pe_str pa_nil))) (pa_cons (pe_tup (pa_cons pe_str (pa_cons pe_int pa_nil))) pa_nil)))) (pa_cons (pe_tup (pa_cons pe_str (pa_cons pe_str pa_nil))) (pa_cons (pe_tup (pa_cons pe_str (pa_cons (pe_tup (pa_cons pe_str (pa_cons pe_str pa_nil))) pa_nil))) (pa_cons (pe_tup (pa_cons pe_str (pa_cons pe_int pa_nil))) pa_nil))))))
      (pss_cons (ps_expr (pe_bm PySem.F.plainAttrs_list PySem.F.slot_list_append PySem.F.type_list_append mt_append (pv 2) (pa_cons (pe_tup (pa_cons pe_str (pa_cons pe_str (pa_cons (pe_tup (pa_cons pe_str (pa_cons (pe_tup (pa_cons pe_str (pa_cons pe_str pa_nil))) (pa_cons (pe_tup (pa_cons pe_str (pa_cons pe_str pa_nil))) pa_nil)))) pa_nil)))) pa_nil)))
      (pss_cons (ps_for PassesOwn.never rfl (pi_range1 (by rfl) rng (pa_cons (pe_op op_add pe_int (pe_use U hr1 (pa_cons (pv 0) (pa_cons (pe_ix ix_list (pe_lst (pa_cons pe_int (pa_cons pe_int pa_nil))) (pe_use U hr1 (pa_cons (pv 0) (pa_cons pe_int pa_nil))) (fun _ _ => rfl)) pa_nil)))) pa_nil)) (pg_name (i := 3) scTall.nd rfl (Or.inl rfl))
        (pss_cons (ps_set (i := 4) scTall.nd rfl (Or.inl rfl) (pe_ix ix_list (pe_lst (pa_cons (pv 1) (pa_cons (pe_tup (pa_cons pe_str (pa_cons (pe_tup (pa_cons pe_str (pa_cons (pv 3) pa_nil))) pa_nil))) pa_nil))) (pe_use U hr1 (pa_cons (pv 0) (pa_cons pe_int pa_nil))) (fun _ _ => rfl)))
        (pss_cons (ps_set (i := 5) scTall.nd rfl (Or.inl rfl) (pe_ifExp (pt_cmpR (op_eqD hr.units) (pv 4) (pv 1) (nomark _)) (pe_ix ix_list (pv 2) (pe_use U hr1 (pa_cons (pv 0) (pa_cons pe_int pa_nil))) (fun _ _ => rfl)) (pv 1)))
        (pss_cons (ps_set (i := 6) scTall.nd rfl (Or.inl rfl) (pe_tup (pa_cons pe_str (pa_cons (pv 4) (pa_cons pe_str (pa_cons pe_str (pa_cons (pv 5) pa_nil)))))))
        (pss_one (ps_set (i := 1) scTall.nd rfl (Or.inl rfl) (pe_ifExp (pt_cmpR op_le (pe_use UZ hr (pa_cons (pv 6) pa_nil)) pe_int (nomark _)) (pv 6) (pv 1))))))))
      (pss_one (ps_ret (pv 1)))))), ?_⟩
    let ρ : Rho := ⟨fun _ => .fault, fun _ => 0, fun _ => "a"⟩
    refine ixB (ρ := ρ) [.num 1, .one "throw" (.num 2), .nm "a"] (by decide) (by
      intro b hb
      simp only [List.mem_cons, List.not_mem_nil, or_false] at hb
      rcases hb with rfl | rfl | rfl <;> exact trivial) fun p1 vs1 H1 s1 al1 np1 => ?_
    have hD1 := (hD.step (D' := []) s1 (by simp) (by simp)).up (o := .lst vs1) np1
    refine ⟨_, rfl, D, d, a, ns, 2, rfl, hD1, by decide, by decide, fun x H2 x0 x1 st2 hD2 => ?_⟩
    have e2 : H2 p1 = some (.lst vs1) := st2.keep _ _ ((hD.step (D' := []) s1 (by simp) (by simp)).fresh np1) upd_same
    obtain ⟨v0, e0, i0, g0, hz0, hd0, a0⟩ : ∃ v0 e0, atI vs1 x = some v0 ∧ Good [] e0 ∧ e0.size ≤ 190 ∧ e0.deep ≤ 3 ∧ AtE H2 v0 e0 := by
      have al2 := (al1.step (D := []) (.new np1 (.lst vs1))).step st2
      cases al2 with
      | cons b0 al2 => cases al2 with
        | cons b1 al2 =>
          have hx : x = 0 ∨ x = 1 := by omega
          rcases hx with rfl | rfl
          · exact ⟨_, .num 1, atI_nat (j := 0) rfl, by decide +kernel, by decide, by decide, b0⟩
          · exact ⟨_, .one "throw" (.num 2), atI_nat (j := 1) rfl, by decide +kernel, by decide, by decide, b1⟩
    refine ⟨p1, _, _, _, rfl, rfl, SqL.of e2, i0, ?_⟩
    have s2 : Stp [d] H H2 := ((s1.trans (.new np1 _)).mono fun b hb => by cases hb).trans st2
    refine stL (ρ := ρ) [.two "go" (.nm "b") (.num 1), .nm "a", .one "drop" (.nm "b"), .num 7] (by decide) (by
      intro b hb
      simp only [List.mem_cons, List.not_mem_nil, or_false] at hb
      rcases hb with rfl | rfl | rfl | rfl
      · exact ⟨trivial, trivial⟩
      · exact trivial
      · exact trivial
      · exact trivial) fun p vs H3 s3 aL np => ?_
    have L3 := Lst.make s3 np aL
    refine apB (ρ := ρ) (.fn "c" (.two "go" (.nm "b") (.nm "a"))) rfl L3.at_ (by rw [L3.al.length]; decide) ⟨trivial, trivial⟩ fun v4 H4 s4 a4 => ?_
    have L4 := L3.app s4 a4
    generalize hH4 : upd H4 p (.lst (vs ++ [v4])) = H5 at L4 ⊢
    have hD5 := hD2.step (D' := []) L4.st (by simp) (by simp)
    have s5 : Stp [d] H H5 := s2.trans (L4.st.mono fun b hb => by cases hb)
    have a05 := a0.step L4.st
    have pd : p ∉ [d] := fun z => by
      obtain ⟨xs, ed⟩ := hD2.is_
      have := L4.n0
      rw [List.mem_singleton.mp z, ed] at this
      cases this
    refine ⟨_, rfl, (by show 2 ≤ sizeLine; decide), fun p6 np6 => ⟨_, rfl, D, d, a, ns, 2, rfl, hD5.up np6, by decide, by decide, fun y H6 y0 y1 st6 hD6 => ?_⟩⟩
    obtain ⟨m, em, m0, m1⟩ : ∃ m : Int, atI ([.int 6, .int 36] : List V) y = some (.int m) ∧ 0 < m ∧ m ≤ 36 := by
      have hy : y = 0 ∨ y = 1 := by omega
      rcases hy with rfl | rfl
      · exact ⟨6, rfl, by decide, by decide⟩
      · exact ⟨36, rfl, by decide, by decide⟩
    refine ⟨p6, _, y, _, rfl, rfl, SqL.of (st6.keep _ _ (hD5.fresh np6) upd_same), em, D, d, a, ns, m, rfl, hD6, m0, by omega, fun z H7 z0 z1 st7 hD7 => ?_⟩
    refine ⟨_, _, rfl, rfl, 1 + z, rfl, by omega, by omega, ?_⟩
    have st57 : Stp [d] H5 H7 := (((Stp.new (D := []) np6 _).mono fun b hb => by cases hb).trans st6).trans st7
    have s7 := s5.trans st57
    have a07 := a05.step st57
    have L7 : H7 p = some (.lst (vs ++ [v4])) := st57.keep _ _ pd L4.at_
    have al7 := L4.al.step st57
    generalize hvg : vs ++ [v4] = vg at L7 al7
    clear hH4 L4 L3
    have hj : (1 + z).toNat ≤ 36 := by omega
    refine for_range (fun i σ Hc => ∃ (v : V) (e : Ex) (b3 b4 b5 b6 : Option V), σ = [some (.ref d), some v, some (.ref p), b3, b4, b5, b6] ∧ AtE Hc v e ∧ Good [] e ∧ e.size ≤ 190 ∧ e.deep ≤ 3 + i ∧ Stp [d] H Hc ∧ Dice K Hc D d a ns ∧ Hc p = some (.lst vg) ∧ AtL Hc vg exGos)
      ⟨v0, e0, none, none, none, none, rfl, a07, g0, hz0, hd0, s7, hD7, L7, al7⟩ ?_ ?_
    · rintro i σ H8 hi ⟨v, e, b3, b4, b5, b6, rfl, av, ge, hze, hde, s8, hD8, L8, al8⟩
      let ρ2 : Rho := ⟨fun _ => e, fun _ => 0 + (i : Int), fun _ => "a"⟩
      refine ixB (ρ := ρ2) [.var 1, .one "throw" (.numv 3)] (by show 2 ≤ 100; decide) (by
        intro b hb
        simp only [List.mem_cons, List.not_mem_nil, or_false] at hb
        rcases hb with rfl | rfl
        · exact ⟨v, rfl, av⟩
        · exact (rfl : _ = _)) fun p9 vs9 H9 s9 al9 np9 => ?_
      have hD9 := (hD8.step (D' := []) s9 (by simp) (by simp)).up (o := .lst vs9) np9
      refine ⟨_, rfl, D, d, a, ns, 2, rfl, hD9, by decide, by decide, fun x H10 x0 x1 st10 hD10 => ?_⟩
      have e10 : H10 p9 = some (.lst vs9) := st10.keep _ _ ((hD8.step (D' := []) s9 (by simp) (by simp)).fresh np9) upd_same
      have s810 : Stp [d] H8 H10 := ((s9.trans (.new np9 _)).mono fun b hb => by cases hb).trans st10
      have al10 := (al9.step (D := []) (.new np9 (.lst vs9))).step st10
      obtain ⟨vb, eb, ib, gb, db, ab⟩ : ∃ vb eb, atI vs9 x = some vb ∧ Good [] eb ∧ eb.deep ≤ 3 + i ∧ AtE H10 vb eb := by
        cases al10 with
        | cons b0 al10 => cases al10 with
          | cons b1 al10 =>
            have hx : x = 0 ∨ x = 1 := by omega
            rcases hx with rfl | rfl
            · exact ⟨_, e, atI_nat (j := 0) rfl, ge, hde, b0⟩
            · exact ⟨_, .one "throw" (.num (0 + (i : Int))), atI_nat (j := 1) rfl, ⟨by decide +kernel, by omega, by omega⟩, by simp only [Ex.deep]; omega, b1⟩
      refine ⟨p9, _, _, _, rfl, rfl, SqL.of e10, ib, ?_⟩
      have av10 := av.step s810
      have L10 := s810.keep _ _ pd L8
      have al10' := al8.step s810
      refine ⟨_, rfl, _, rfl, eb.dat, e.dat, ab.dp, av10.dp, gb.shaped (by simp) (by omega), ge.shaped (by simp) (by omega), _, rfl, ?_⟩
      have s10 := s8.trans s810
      refine ite2 (fun _ => ?_) (fun _ => ?_)
      case' refine_1 =>
        refine ⟨_, rfl, _, rfl, D, d, a, ns, 5, rfl, hD10, by decide, by decide, fun x2 H11 x20 x21 st11 hD11 => ?_⟩
        obtain ⟨vh, eh, ih1, ih2, ih3⟩ := al10'.ix (x := x2) x20 x21
        obtain ⟨gh, dh0⟩ := gos_good eh ih2
        refine ⟨p, _, _, _, rfl, rfl, SqL.of (st11.keep _ _ pd L10), ih1, ?_⟩
        have ah := ih3.step st11
        have dh : eh.deep ≤ 3 + i := by omega
      case' refine_2 =>
        refine ⟨_, rfl, ?_⟩
        have st11 : Stp [d] H10 H10 := .refl _ _
        have hD11 := hD10
        have ah := av10
        have gh : Good ["a", "b"] e := ge.mono fun x hx => by cases hx
        have dh := hde
        generalize e = eh at ah gh dh
      all_goals (
        have s11 := s10.trans st11
        have L11 := st11.keep _ _ pd L10
        have al11 := al10'.step st11
        have av11 := av10.step st11
        refine ⟨_, rfl, _, rfl, (by show 5 ≤ sizeLine; decide), fun pm npm => ?_⟩
        refine ⟨_, rfl, .ref pm, .ct eb "a" "b" eh, rfl, ⟨pm, _, _, rfl, upd_same, (ab.step st11).step (D := []) (.new npm _), ah.step (D := []) (.new npm _)⟩, by simp only [Ex.deep]; omega, fun H13 sm13 => ⟨_, _, rfl, rfl, _, rfl, ?_⟩⟩
        have n2 := Stp.trans (Stp.new (D := []) npm _) (Stp.same sm13)
        have s13 := s11.trans (n2.mono fun b hb => by cases hb)
        have hD13 := hD11.step (D' := []) n2 (by simp) (by simp)
        have L13 := n2.keep _ _ (by simp) L11
        refine ite2 (fun hsz => ?_) (fun hsz => ?_)
        · have hsz := of_decide_eq_true hsz
          exact ⟨_, rfl, .ref pm, .ct eb "a" "b" eh, _, _, _, _, rfl, AtE.same sm13 ⟨pm, _, _, rfl, upd_same, (ab.step st11).step (D := []) (.new npm _), ah.step (D := []) (.new npm _)⟩, ⟨by decide +kernel, by decide +kernel, by decide +kernel, gb, gh⟩, by omega, by simp only [Ex.deep]; omega, s13, hD13, L13, al11.step n2⟩
        · exact ⟨_, rfl, v, e, _, _, _, _, rfl, av11.step n2, ge, hze, by omega, s13, hD13, L13, al11.step n2⟩)
    · rintro σ H8 ⟨v, e, b3, b4, b5, b6, rfl, av, ge, hze, hde, s8, hD8, L8, al8⟩
      exact ⟨_, rfl, q v e H8 av ge hze (by omega) s8 hD8⟩
end
end Wr
namespace Wr
open PySem PySem.Spec PyProof.Rows L2
section
variable {P : Program} {w : World} {K : PySem.W.Frag} {mg : Str → Option Value} {base : Heap}
theorem Stp.putn {D : List Addr} {H0 H : Hp} {l : Addr} (s : Stp D H0 H) (n : H0 l = none) (o : HO) : Stp D H0 (upd H l o) :=
  ⟨fun b x hb hx => by rw [upd_ne (fun z => by rw [z, n] at hx; cases hx)]; exact s.keep b x hb hx, fun t xs h => by rw [upd_ne (fun z => by rw [z, n] at h; cases h)]; exact s.tups t xs h⟩
/-- xs = xs + a list of displays -/
theorem catB {ρ : Rho} {i : Nat} {u : TS} {D : Ends} {σ : L2.St} {H : Hp} {l : Addr} {vs : List V} (bs : List Bx) (hl : bs.length ≤ 100) (hσ : σ[i]? = some (some (.ref l))) (hL : H l = some (.lst vs)) (hn : vs.length ≤ 1000) (hb : ∀ b ∈ bs, b.has ρ σ H)
    (q : ∀ p us H1, Stp [] H H1 → AtL H1 us (bs.map (Bx.ex ρ)) → H1 p = none → u D (σ.set i (some (.ref p))) (upd H1 p (.lst (vs ++ us)))) : tSeq (tAsg (tOp rCat (tVar i) (tLst (bxs bs))) (gName i)) u D σ H :=
  ⟨_, hσ, bxs.read bs hb fun us H1 s1 h1 => ⟨by rw [h1.length, List.length_map]; exact Nat.le_trans hl (by decide), fun b nb => ⟨l, b, vs, us, rfl, rfl, (s1.up nb _).keep _ _ (by simp) hL, upd_same, by
    have : us.length = bs.length := by rw [h1.length, List.length_map]
    have : (2000 : Nat) ≤ sizeLine := by decide
    omega, fun p np => q p us (upd H1 b (.lst us)) (s1.up nb _) (h1.step (D := []) (.new nb _)) np⟩⟩⟩
theorem seq_eq {t u : TS} {D : Ends} {σ σ' : L2.St} {H : Hp} (e : σ = σ') (h : tSeq t u D σ' H) : tSeq t u D σ H := by rw [e]; exact h
def spHandled (K : PySem.W.Frag) : Sp := spTall K
theorem scHandled : FnScope ["_law_d", "_law_names", "_law_room", "_law_go", "_law_some", "_law_one", "_law_two", "_law_three", "_law_shapes", "_law_handler", "_law_body", "_law_found", "_law_k"] ["_law_d"] (defScope s_L_handled) := ⟨rfl, rfl, rfl, by decide +kernel, rfl, by decide +kernel, by decide +kernel⟩
theorem ok_handled (F : Df K mg "_law_handled" s_L_handled) (rng : mg "range" = none) (U_next : Use P w K mg base "_law_next" ["_law_dice_here", "_law_many"] 1 (spNext K)) (U_leaf : Use P w K mg base "_law_leaf" ["_law_d", "_law_names"] 3 (spLeaf K))
    (U_expr : Use P w K mg base "_law_expr" ["_law_d", "_law_names", "_law_room"] 118 (spExpr K 56)) (U_use : Use P w K mg base "_law_use" ["_law_d", "_law_names", "_law_room"] 119 (spUse K 56))
    (U_size : Use P w K mg base "_law_size" ["_law_part"] 225 (spSize 225)) (U_deep : Use P w K mg base "_law_deep" ["_law_part"] 225 (spDeep 225)) : Use P w K mg base "_law_handled" ["_law_d"] 226 (spHandled K) := by
  refine F.use scHandled (fun _ _ _ _ _ _ us hl => match us, hl with | [_], _ => rfl) (fun vs H Q E h => ?_) (fun cdv f A outer s H vs Q E hr h => ?_)
  · obtain ⟨D, d, a, ns, rfl, _⟩ := h
    rfl
  · obtain ⟨D, d, a, ns, rfl, hD, q⟩ := h
    have hr_next : Room 1 _ := hr.mono (by omega)
    have hr_leaf : Room 3 _ := hr.mono (by omega)
    have hr_expr : Room 118 _ := hr.mono (by omega)
    have hr_use : Room 119 _ := hr.mono (by omega)
    have hr_size : Room 225 _ := hr
    have hr_deep : Room 225 _ := hr
    refine ⟨_, (pss_cons (ps_set (i := 1) scHandled.nd rfl (Or.inl rfl) (pe_disp (pps_cons pe_str pe_str (pps_cons pe_str pe_str pps_nil)) rfl rfl (by simp) (by decide)))
      (pss_cons (ps_set (i := 2) scHandled.nd rfl (Or.inl rfl) (pe_lst (pa_cons (pe_ix ix_list (pe_lst (pa_cons pe_int (pa_cons pe_int (pa_cons pe_int pa_nil)))) (pe_use U_next hr_next (pa_cons (pv 0) (pa_cons pe_int pa_nil))) (fun _ _ => rfl)) pa_nil)))
      (pss_cons (ps_set (i := 3) scHandled.nd rfl (Or.inl rfl) (pe_tup (pa_cons pe_str (pa_cons (pe_tup (pa_cons pe_str (pa_cons pe_str pa_nil))) (pa_cons (pe_use U_leaf hr_leaf (pa_cons (pv 0) (pa_cons (pe_disp (pps_cons pe_str pe_str pps_nil) rfl rfl (by simp) (by decide)) pa_nil))) pa_nil)))))
      (pss_cons (ps_set (i := 4) scHandled.nd rfl (Or.inr rfl) (pe_lst (pa_cons (pe_use U_expr hr_expr (pa_cons (pv 0) (pa_cons (pv 1) (pa_cons (pv 2) pa_nil)))) (pa_cons (pv 3) (pa_cons (pe_use U_use hr_use (pa_cons (pv 0) (pa_cons (pv 1) (pa_cons (pv 2) pa_nil)))) (pa_cons (pe_tup (pa_cons pe_str (pa_cons (pe_tup (pa_cons pe_str (pa_cons pe_str pa_nil))) pa_nil))) pa_nil))))))
      (pss_cons (ps_set (i := 4) scHandled.nd rfl (Or.inr rfl) (pe_op op_cat (pv 4) (pe_lst (pa_cons (pe_use U_leaf hr_leaf (pa_cons (pv 0) (pa_cons (pe_disp (pps_cons pe_str pe_str pps_nil) rfl rfl (by simp) (by decide)) pa_nil))) (pa_cons (pe_tup (pa_cons pe_str (pa_cons pe_str (pa_cons (pe_tup (pa_cons pe_str (pa_cons (pe_tup (pa_cons pe_str (pa_cons pe_str pa_nil))) (pa_cons (pe_tup (pa_cons pe_str (pa_cons pe_int pa_nil))) pa_nil)))) pa_nil)))) pa_nil)))))
      (pss_cons (ps_asg (pe_lc (own := [("_law_k", 12)]) (g := gName 12) (tt := tYes) (by rfl) scHandled.nd (pi_range1 (by rfl) rng (pa_cons pe_int pa_nil)) (blkOk_by (own := [("_law_k", 12)]) (N := ["_law_d", "_law_names", "_law_room", "_law_go", "_law_some", "_law_one", "_law_two", "_law_three", "_law_shapes", "_law_handler", "_law_body", "_law_found", "_law_k"]) (sc := defScope s_L_handled) (by decide +kernel)) (fun _ _ _ _ _ => (pg_name (i := 12) scHandled.nd rfl (Or.inl rfl))) (fun _ _ _ _ _ => pts_nil) (fun _ _ _ _ _ => (pe_ix (r := rIxL K) ix_list (pv 4) (pe_use U_next hr_next (pa_cons (pv 0) (pa_cons pe_int pa_nil))) (fun _ _ => rfl)))) (pg_lst rfl (pgs_cons (pg_name (i := 5) scHandled.nd rfl (Or.inl rfl)) (pgs_cons (pg_name (i := 6) scHandled.nd rfl (Or.inl rfl)) (pgs_cons (pg_name (i := 7) scHandled.nd rfl (Or.inl rfl)) pgs_nil)))))
      (pss_cons (ps_set (i := 8) scHandled.nd rfl (Or.inl rfl) (pe_lst (pa_cons (pv 5) (pa_cons (pe_tup (pa_cons pe_str (pa_cons (pv 5) (pa_cons (pv 6) pa_nil)))) (pa_cons (pe_tup (pa_cons pe_str (pa_cons (pv 7) (pa_cons (pv 5) (pa_cons (pv 6) pa_nil))))) (pa_cons (pe_tup (pa_cons pe_str (pa_cons pe_str (pa_cons (pv 5) (pa_cons (pv 6) pa_nil))))) (pa_cons (pe_tup (pa_cons pe_str (pa_cons (pv 5) (pa_cons (pv 6) pa_nil)))) pa_nil)))))))
      (pss_cons (ps_set (i := 8) scHandled.nd rfl (Or.inl rfl) (pe_op op_cat (pv 8) (pe_lst (pa_cons (pe_tup (pa_cons pe_str (pa_cons (pv 5) (pa_cons (pv 6) pa_nil)))) (pa_cons (pe_tup (pa_cons pe_str (pa_cons pe_str (pa_cons (pv 5) (pa_cons (pv 6) pa_nil))))) (pa_cons (pe_tup (pa_cons pe_str (pa_cons (pv 5) (pa_cons pe_str (pa_cons pe_str (pa_cons (pv 6) pa_nil)))))) pa_nil))))))
      (pss_cons (ps_expr (pe_bm PySem.F.plainAttrs_list PySem.F.slot_list_append PySem.F.type_list_append mt_append (pv 8) (pa_cons (pe_tup (pa_cons pe_str (pa_cons (pv 5) (pa_cons pe_str (pa_cons pe_str (pa_cons (pv 6) pa_nil)))))) pa_nil)))
      (pss_cons (ps_set (i := 8) scHandled.nd rfl (Or.inl rfl) (pe_op op_cat (pv 8) (pe_lst (pa_cons (pe_tup (pa_cons pe_str (pa_cons (pe_tup (pa_cons pe_str (pa_cons pe_str (pa_cons (pv 5) pa_nil)))) (pa_cons (pv 6) pa_nil)))) (pa_cons (pe_tup (pa_cons pe_str (pa_cons (pv 5) (pa_cons (pv 6) pa_nil)))) (pa_cons (pe_tup (pa_cons pe_str (pa_cons (pv 5) (pa_cons pe_str (pa_cons pe_str (pa_cons (pv 6) pa_nil)))))) pa_nil))))))
      (pss_cons (ps_expr (pe_bm PySem.F.plainAttrs_list PySem.F.slot_list_append PySem.F.type_list_append mt_append (pv 8) (pa_cons (pe_tup (pa_cons pe_str (pa_cons (pv 5) pa_nil))) pa_nil)))
      (pss_cons (ps_set (i := 9) scHandled.nd rfl (Or.inl rfl) (pe_ix ix_list (pv 8) (pe_use U_next hr_next (pa_cons (pv 0) (pa_cons pe_int pa_nil))) (fun _ _ => rfl)))
      (pss_cons (ps_if (pt_cmpR op_eq (pe_use U_next hr_next (pa_cons (pv 0) (pa_cons pe_int pa_nil))) pe_int (nomark _)) (pss_one (ps_set (i := 9) scHandled.nd rfl (Or.inl rfl) (pe_tup (pa_cons pe_str (pa_cons (pe_tup (pa_cons pe_str (pa_cons (pe_tup (pa_cons pe_str (pa_cons pe_str pa_nil))) pa_nil))) (pa_cons (pv 9) pa_nil)))))) pss_nil)
      (pss_cons (ps_set (i := 10) scHandled.nd rfl (Or.inl rfl) (pe_tup (pa_cons pe_str (pa_cons (pe_tup (pa_cons pe_str (pa_cons (pe_tup (pa_cons pe_str (pa_cons (pe_use U_leaf hr_leaf (pa_cons (pv 0) (pa_cons pe_dnewK pa_nil))) pa_nil))) (pa_cons (pe_use U_leaf hr_leaf (pa_cons (pv 0) (pa_cons pe_dnewK pa_nil))) pa_nil)))) (pa_cons (pe_tup (pa_cons pe_str (pa_cons (pe_tup (pa_cons pe_str (pa_cons pe_int pa_nil))) pa_nil))) pa_nil)))))
      (pss_cons (ps_set (i := 11) scHandled.nd rfl (Or.inl rfl) (pe_tup (pa_cons pe_str (pa_cons (pv 10) (pa_cons pe_str (pa_cons pe_str (pa_cons (pv 9) pa_nil)))))))
      (pss_one (ps_ret (pe_ifExp (PW.pt (pw_and (pt_cmpR op_le (pe_use U_size hr_size (pa_cons (pv 11) pa_nil)) pe_int (nomark _)) (pw_and1 (pt_cmpR op_le (pe_use U_deep hr_deep (pa_cons (pv 11) pa_nil)) pe_int (nomark _))))) (pv 11) (pe_tup (pa_cons pe_str (pa_cons (pv 10) (pa_cons pe_str (pa_cons pe_str (pa_cons (pe_tup (pa_cons pe_str (pa_cons pe_str pa_nil))) pa_nil)))))))))))))))))))))))), ?_⟩
    refine fun nm nnm => ⟨upd_same, [((Sum.inr "a" : Key), V.str "number"), (Sum.inr "b", V.str "rest")], rfl, (by show 2 ≤ 15; decide), ?_⟩
    rw [upd_upd]
    have na1 : NamesAt (upd H nm (.dK (mergeK [] [((Sum.inr "a" : Key), V.str "number"), (Sum.inr "b", V.str "rest")]))) nm ["a", "b"] := .two (by decide +kernel) (by decide +kernel) (by decide +kernel) upd_same
    have hD1 := hD.up (o := .dK (mergeK [] [((Sum.inr "a" : Key), V.str "number"), (Sum.inr "b", V.str "rest")])) nnm
    have s1 : Stp [d] H (upd H nm (.dK (mergeK [] [((Sum.inr "a" : Key), V.str "number"), (Sum.inr "b", V.str "rest")]))) := Stp.new nnm _
    generalize upd H nm (.dK (mergeK [] [((Sum.inr "a" : Key), V.str "number"), (Sum.inr "b", V.str "rest")])) = H1 at na1 hD1 s1 ⊢
    refine ⟨(by show 3 ≤ sizeLine; decide), fun l nl => ⟨_, rfl, D, d, a, ns, 3, rfl, hD1.up nl, by decide, by decide, fun x H2 x0 x1 st2 hD2 => ?_⟩⟩
    have el : H2 l = some (.lst [.int 4, .int 12, .int 30]) := st2.keep _ _ (hD1.fresh nl) upd_same
    obtain ⟨r, er, hr0⟩ : ∃ r : Int, atI ([.int 4, .int 12, .int 30] : List V) x = some (.int r) ∧ r ≤ 30 := by
      have hx : x = 0 ∨ x = 1 ∨ x = 2 := by omega
      rcases hx with rfl | rfl | rfl
      · exact ⟨4, rfl, by decide⟩
      · exact ⟨12, rfl, by decide⟩
      · exact ⟨30, rfl, by decide⟩
    refine ⟨l, _, _, _, rfl, rfl, SqL.of el, er, (by show 1 ≤ sizeLine; decide), fun rm nrm => ?_⟩
    have nd : rm ≠ d := fun z => hD2.fresh nrm (List.mem_singleton.mpr z)
    have na2 : NamesAt H2 nm ["a", "b"] := (na1.step (D := []) (.new nl (.lst [.int 4, .int 12, .int 30])) (by simp)).step st2 (na1.off hD1)
    have s2 : Stp [d] H H2 := (s1.up nl _).trans st2
    have g3 : Gen K (upd H2 rm (.lst [.int r])) (rm :: D) d a nm rm ns ["a", "b"] r := ⟨hD2.new nrm, na2.step (D := []) (.new nrm _) (by simp), upd_same, List.mem_cons_self, nd⟩
    have fin : ∀ (v : V) (e : Ex) (H' : Hp), AtE H' v e → Good [] e → e.size ≤ 190 → e.deep ≤ 40 → Stp [d, rm] (upd H2 rm (.lst [.int r])) H' → Dice K H' (rm :: D) d a ns → Q v H' := fun v e H' hv hg hz hd st hD' =>
      q v e H' hv hg hz hd (s2.trans (st.drop nrm)) (hD'.weak (fun b hb => List.mem_cons_of_mem _ hb) hD2.mem)
    generalize upd H2 rm (.lst [.int r]) = H3 at g3 fin ⊢
    -- go
    refine ⟨(by show 2 ≤ sizeLine; decide), fun t1 n1 => ⟨_, rfl, fun p4 np4 => ⟨upd_same, [((Sum.inr "a" : Key), V.str "number")], rfl, (by show 1 ≤ 15; decide), ?_⟩⟩⟩
    rw [upd_upd]
    have g4 := (g3.up n1 (.tup [.str "name", .str "b"])).up np4 (.dK (mergeK [] [((Sum.inr "a" : Key), V.str "number")]))
    have an1 : AtE (upd H3 t1 (.tup [.str "name", .str "b"])) (.ref t1) (.name "b") := ⟨t1, rfl, upd_same⟩
    refine ⟨rm :: D, d, a, p4, ns, ["a"], rfl, g4.di, .one (by decide +kernel) upd_same, fun v5 e5 H5 hv5 hg5 ⟨z5, d5⟩ st5 hD5 => ⟨(by show 3 ≤ sizeLine; decide), fun t6 n6 => ?_⟩⟩
    have s5 : Stp [d, rm] H3 H5 := ((Stp.new n1 _).up np4 _).trans (st5.mono g3.sub)
    have g5 := g4.nx st5 hD5
    have s6 := s5.up n6 (.tup [.str "go", .ref t1, v5])
    have g6 := g5.up n6 (.tup [.str "go", .ref t1, v5])
    have aGo : AtE (upd H5 t6 (.tup [.str "go", .ref t1, v5])) (.ref t6) (.two "go" (.name "b") e5) := ⟨t6, _, _, rfl, upd_same, ((an1.up np4 _).step st5).up n6 _, hv5.up n6 _⟩
    have gGo : Good ["a", "b"] (.two "go" (.name "b") e5) := ⟨by decide +kernel, by show ("b" : Str) ∈ (["a", "b"] : List Str); decide +kernel, hg5.mono fun y hy => by rw [List.mem_singleton.mp hy]; exact List.mem_cons_self⟩
    have dGo : (Ex.two "go" (.name "b") e5).deep ≤ 2 := by simp only [Ex.deep]; omega
    generalize upd H5 t6 (.tup [.str "go", .ref t1, v5]) = H6 at s6 g6 aGo ⊢
    generalize (Ex.two "go" (.name "b") e5) = eGo at aGo gGo dGo
    -- some
    refine ⟨_, rfl, _, rfl, _, rfl, rm :: D, d, a, nm, rm, ns, ["a", "b"], r, rfl, g6, by omega, fun v7 e7 H7 hv7 hg7 ⟨r7, hr7, hle7, hd7, hz7⟩ st7 hD7 => ?_⟩
    have g7 := g6.ex st7 hD7 hr7
    refine ⟨_, rfl, _, rfl, _, rfl, _, rfl, rm :: D, d, a, nm, rm, ns, ["a", "b"], r7, rfl, g7, by omega, fun v8 e8 H8 hv8 hg8 ⟨r8, hr8, hle8, hd8, hz8⟩ st8 hD8 => ?_⟩
    have g8 := g7.ex st8 hD8 hr8
    have dm7 : dm r ≤ 105 := by unfold dm mx; split <;> omega
    have dm8 : dm r7 ≤ 105 := by unfold dm mx; split <;> omega
    let ρ0 : Rho := ⟨fun _ => .fault, fun _ => 0, fun _ => "a"⟩
    refine Bx.read (ρ := ρ0) (.one "drop" (.nm "b")) trivial fun v10 H10 st10 hv10 => ⟨(by show 4 ≤ sizeLine; decide), fun l11 n11 => ?_⟩
    have st11 : Stp [] H8 (upd H10 l11 (.lst [v7, .ref t6, v8, v10])) := st10.up n11 _
    have e11 : upd H10 l11 (.lst [v7, .ref t6, v8, v10]) l11 = some (.lst [v7, .ref t6, v8, v10]) := upd_same
    have al11 : AtL (upd H10 l11 (.lst [v7, .ref t6, v8, v10])) [v7, .ref t6, v8, v10] [e7, eGo, e8, .one "drop" (.name "b")] := .cons ((hv7.step st8).step st11) (.cons (((aGo.step st7).step st8).step st11) (.cons (hv8.step st11) (.cons (hv10.up n11 _) .nil)))
    have s11 : Stp [d, rm] H3 (upd H10 l11 (.lst [v7, .ref t6, v8, v10])) := ((s6.trans st7).trans st8).trans (st11.mono fun b hb => by cases hb)
    have hD11 : Dice K (upd H10 l11 (.lst [v7, .ref t6, v8, v10])) (rm :: D) d a ns := g8.di.step st11 (by simp) (by simp)
    generalize upd H10 l11 (.lst [v7, .ref t6, v8, v10]) = H11 at e11 al11 s11 hD11 ⊢
    clear st11
    refine ⟨_, rfl, _, rfl, fun p12 np12 => ⟨upd_same, [((Sum.inr "a" : Key), V.str "number")], rfl, (by show 1 ≤ 15; decide), ?_⟩⟩
    rw [upd_upd]
    refine ⟨rm :: D, d, a, p12, ns, ["a"], rfl, hD11.up np12, .one (by decide +kernel) upd_same, fun v13 e13 H13 hv13 hg13 ⟨z13, d13⟩ st13 hD13 => ?_⟩
    refine Bx.read (ρ := ρ0) (.fn "b" (.two "go" (.nm "b") (.num 1))) ⟨trivial, trivial⟩ fun v14 H14 st14 hv14 => ⟨(by show 2 ≤ sizeLine; decide), fun l15 n15 => ?_⟩
    have st1115 : Stp [d] H11 (upd H14 l15 (.lst [v13, v14])) := ((((Stp.new np12 _).trans st13)).trans (st14.mono fun b hb => by cases hb)).up n15 _
    have l11d : l11 ∉ [d] := fun z => by
      obtain ⟨xs, ed⟩ := (hD11.step (D' := []) (.refl _ _) (by simp) (by simp)).is_
      have hh := g8.di.step st10 (by simp) (by simp)
      obtain ⟨ys, ed2⟩ := hh.is_
      rw [List.mem_singleton.mp z, ed2] at n11
      cases n11
    have e15 := st1115.keep _ _ l11d e11
    have al15 := al11.step st1115
    refine ⟨l11, l15, _, _, rfl, rfl, e15, upd_same, (by show 4 + 2 ≤ sizeLine; decide), fun l16 n16 => ?_⟩
    have st16 : Stp [d] H11 (upd (upd H14 l15 (.lst [v13, v14])) l16 (.lst ([v7, .ref t6, v8, v10] ++ [v13, v14]))) := st1115.up n16 _
    let exAll : List Ex := [e7, eGo, e8, .one "drop" (.name "b"), e13, .fn "b" (.two "go" (.name "b") (.num 1))]
    have alAll : AtL (upd (upd H14 l15 (.lst [v13, v14])) l16 (.lst ([v7, .ref t6, v8, v10] ++ [v13, v14]))) ([v7, .ref t6, v8, v10] ++ [v13, v14]) exAll := (al15.append (es := [e7, eGo, e8, .one "drop" (.name "b")]) (fs := [e13, .fn "b" (.two "go" (.name "b") (.num 1))]) (.cons ((hv13.step st14).up n15 _) (.cons (hv14.up n15 _) .nil))).step (D := []) (.new n16 _)
    have gAll : ∀ e ∈ exAll, Good ["a", "b"] e ∧ e.deep ≤ 110 := by
      intro e he
      simp only [exAll, List.mem_cons, List.not_mem_nil, or_false] at he
      rcases he with rfl | rfl | rfl | rfl | rfl | rfl
      · exact ⟨hg7, by omega⟩
      · exact ⟨gGo, by omega⟩
      · exact ⟨hg8, by omega⟩
      · decide +kernel
      · exact ⟨hg13.mono fun y hy => by rw [List.mem_singleton.mp hy]; exact List.mem_cons_self, by omega⟩
      · decide +kernel
    have eAll : upd (upd H14 l15 (.lst [v13, v14])) l16 (.lst ([v7, .ref t6, v8, v10] ++ [v13, v14])) l16 = some (.lst ([v7, .ref t6, v8, v10] ++ [v13, v14])) := upd_same
    have s16 := s11.trans (st16.mono g3.sub)
    have hD16 : Dice K (upd (upd H14 l15 (.lst [v13, v14])) l16 (.lst ([v7, .ref t6, v8, v10] ++ [v13, v14]))) (rm :: D) d a ns := ((hD13.step (D' := []) st14 (by simp) (by simp)).up n15).up n16
    have l16d : l16 ∉ [d] := ((hD13.step (D' := []) st14 (by simp) (by simp)).up n15).fresh n16
    generalize upd (upd H14 l15 (.lst [v13, v14])) l16 (.lst ([v7, .ref t6, v8, v10] ++ [v13, v14])) = H16 at alAll eAll s16 hD16 ⊢
    generalize hvA : ([v7, .ref t6, v8, v10] ++ [v13, v14] : List V) = vA at alAll eAll
    -- three
    refine ⟨3, rfl, by decide, by decide, fun G nG => ?_⟩
    have l16G : l16 ≠ G := fun z => by rw [z, nG] at eAll; cases eAll
    have Gd : G ∉ [d] := hD16.fresh nG
    refine lc_range (lo := 0) (n := 3) (fun i Hc => ∃ vs es, Hc G = some (.lst vs) ∧ vs.length = i ∧ AtL Hc vs es ∧ (∀ e ∈ es, e ∈ exAll) ∧ Stp [d] H16 Hc ∧ Dice K Hc (G :: rm :: D) d a ns ∧ Hc l16 = some (.lst vA) ∧ AtL Hc vA exAll)
      ⟨[], [], upd_same, rfl, .nil, by simp, .new nG _, hD16.new nG, by rw [upd_ne l16G]; exact eAll, alAll.step (D := []) (.new nG _)⟩ ?_ ?_
    · rintro i Hc hi ⟨vs, es, eG, hl, al, hin, sc, hDc, ec, ac⟩
      refine ⟨rfl, tYes_if ?_⟩
      refine ⟨_, rfl, _, rfl, G :: rm :: D, d, a, ns, 6, rfl, hDc, by decide, by decide, fun x Hn x0 x1 stn hDn => ?_⟩
      obtain ⟨vx, ex, ix1, ix2, ix3⟩ := ac.ix (x := x) x0 x1
      have eGn := stn.keep _ _ Gd eG
      have kt := Tk.put (us := vs ++ [vx]) eGn
      have hDn' : Dice K (upd Hn G (.lst (vs ++ [vx]))) (G :: rm :: D) d a ns := hDn.step (D' := [G]) (.put List.mem_cons_self (fun xs z => by rw [eGn] at z; cases z) _) (fun b hb => by rw [List.mem_singleton.mp hb]; exact List.mem_cons_self) (fun z => Gd (List.mem_singleton.mpr (List.mem_singleton.mp z).symm))
      refine ⟨l16, _, _, _, rfl, rfl, SqL.of (stn.keep _ _ l16d ec), ix1, vs, eGn, ?_, vs ++ [vx], es ++ [ex], upd_same, by rw [List.length_append, List.length_singleton, hl], ((al.step stn).tups kt).append (.cons ((ix3.step stn).tups kt) .nil), ?_, (sc.trans stn).putn nG _, hDn', ?_, (ac.step stn).tups kt⟩
      · have : (5 : Nat) < sizeLine := by decide
        omega
      · intro e he
        rcases List.mem_append.mp he with he | he
        · exact hin e he
        · rw [List.mem_singleton.mp he]; exact ix2
      · rw [upd_ne l16G]; exact stn.keep _ _ l16d ec
    rintro Hc ⟨vs, es, eG, hl, al, hin, sc, hDc, ec, ac⟩
    obtain ⟨x1, x2, x3, y1, y2, y3, rfl, rfl, b1, b2, b3⟩ : ∃ x1 x2 x3 y1 y2 y3, vs = [x1, x2, x3] ∧ es = [y1, y2, y3] ∧ AtE Hc x1 y1 ∧ AtE Hc x2 y2 ∧ AtE Hc x3 y3 := by
      cases al with
      | nil => cases hl
      | cons b1 al => cases al with
        | nil => cases hl
        | cons b2 al => cases al with
          | nil => cases hl
          | cons b3 al => cases al with
            | nil => exact ⟨_, _, _, _, _, _, rfl, rfl, b1, b2, b3⟩
            | cons b4 al => simp at hl
    obtain ⟨g1, d1⟩ := gAll y1 (hin y1 (by simp))
    obtain ⟨g2, d2⟩ := gAll y2 (hin y2 (by simp))
    obtain ⟨g3', d3⟩ := gAll y3 (hin y3 (by simp))
    have hDc' : Dice K Hc (rm :: D) d a ns := hDc.weak (fun b hb => List.mem_cons_of_mem _ hb) hD16.mem
    have sC : Stp [d, rm] H3 Hc := s16.trans (sc.mono g3.sub)
    refine ⟨G, _, rfl, SqL.of eG, rfl, _, _, rfl, _, _, rfl, _, _, rfl, rfl, ?_⟩
    refine seq_eq (σ' := [some (.ref d), some (.ref nm), some (.ref rm), some (.ref t6), some (.ref l16), some x1, some x2, some x3, none, none, none, none, none]) rfl ?_
    let ρ : Rho := ⟨fun i => if i = 5 then y1 else if i = 6 then y2 else y3, fun _ => 0, fun _ => "a"⟩
    have h5 : ∀ {σ : L2.St} {Hx : Hp}, σ[5]? = some (some x1) → Stp [] Hc Hx → (Bx.var 5).has ρ σ Hx := fun h s => ⟨x1, h, b1.step s⟩
    have h6 : ∀ {σ : L2.St} {Hx : Hp}, σ[6]? = some (some x2) → Stp [] Hc Hx → (Bx.var 6).has ρ σ Hx := fun h s => ⟨x2, h, b2.step s⟩
    have h7 : ∀ {σ : L2.St} {Hx : Hp}, σ[7]? = some (some x3) → Stp [] Hc Hx → (Bx.var 7).has ρ σ Hx := fun h s => ⟨x3, h, b3.step s⟩
    refine stL (ρ := ρ) [.var 5, .two "add" (.var 5) (.var 6), .ite (.var 7) (.var 5) (.var 6), .lt "c" (.var 5) (.var 6), .two "else" (.var 5) (.var 6)] (by show 5 ≤ 100; decide) (by
      intro b hb
      simp only [List.mem_cons, List.not_mem_nil, or_false] at hb
      rcases hb with rfl | rfl | rfl | rfl | rfl
      · exact h5 rfl (.refl _ _)
      · exact ⟨h5 rfl (.refl _ _), h6 rfl (.refl _ _)⟩
      · exact ⟨h7 rfl (.refl _ _), h5 rfl (.refl _ _), h6 rfl (.refl _ _)⟩
      · exact ⟨h5 rfl (.refl _ _), h6 rfl (.refl _ _)⟩
      · exact ⟨h5 rfl (.refl _ _), h6 rfl (.refl _ _)⟩) fun q1 w1 J1 sJ1 aJ1 nq1 => ?_
    have L1 := Lst.make sJ1 nq1 aJ1
    refine catB (ρ := ρ) [.two "last" (.var 5) (.var 6), .lt "b" (.var 5) (.var 6), .ct (.var 5) "c" "b" (.var 6)] (by show 3 ≤ 100; decide) rfl L1.at_ (by rw [L1.al.length]; show 5 ≤ 1000; decide) (by
      intro b hb
      simp only [List.mem_cons, List.not_mem_nil, or_false] at hb
      rcases hb with rfl | rfl | rfl
      all_goals exact ⟨h5 rfl L1.st, h6 rfl L1.st⟩) fun q2 w2 J2 sJ2 aJ2 nq2 => ?_
    have L2' := Lst.make (L1.st.trans sJ2) nq2 ((L1.al.step sJ2).append aJ2)
    refine apB (ρ := ρ) (.ct (.var 5) "b" "c" (.var 6)) rfl L2'.at_ (by rw [L2'.al.length]; show 8 ≤ 1000; decide) ⟨h5 rfl L2'.st, h6 rfl L2'.st⟩ fun w3 J3 sJ3 aJ3 => ?_
    have L3 := L2'.app sJ3 aJ3
    refine catB (ρ := ρ) [.two "call" (.fn "c" (.var 5)) (.var 6), .two "go" (.var 5) (.var 6), .ct (.var 5) "c" "d" (.var 6)] (by show 3 ≤ 100; decide) rfl L3.at_ (by rw [L3.al.length]; show 9 ≤ 1000; decide) (by
      intro b hb
      simp only [List.mem_cons, List.not_mem_nil, or_false] at hb
      rcases hb with rfl | rfl | rfl
      all_goals exact ⟨h5 rfl L3.st, h6 rfl L3.st⟩) fun q4 w4 J4 sJ4 aJ4 nq4 => ?_
    have L4 := Lst.make (L3.st.trans sJ4) nq4 ((L3.al.step sJ4).append aJ4)
    refine apB (ρ := ρ) (.one "throw" (.var 5)) rfl L4.at_ (by rw [L4.al.length]; show 12 ≤ 1000; decide) (h5 rfl L4.st) fun w5 J5 sJ5 aJ5 => ?_
    have L5 := L4.app sJ5 aJ5
    have up : ∀ {y : Ex} {c : Str} {T : List Str}, Good T y → Good (c :: T) y := fun h => h.mono fun x hx => List.mem_cons_of_mem _ hx
    have gSh : ∀ e ∈ [y1, .two "add" y1 y2, .ite y3 y1 y2, .lt "c" y1 y2, .two "else" y1 y2, .two "last" y1 y2, .lt "b" y1 y2, .ct y1 "c" "b" y2, .ct y1 "b" "c" y2, .two "call" (.fn "c" y1) y2, .two "go" y1 y2, .ct y1 "c" "d" y2, .one "throw" y1], Good ["a", "b"] e ∧ e.deep ≤ 112 := by
      intro e he
      simp only [List.mem_cons, List.not_mem_nil, or_false] at he
      rcases he with rfl | rfl | rfl | rfl | rfl | rfl | rfl | rfl | rfl | rfl | rfl | rfl | rfl
      · exact ⟨g1, by omega⟩
      · exact ⟨⟨by decide +kernel, g1, g2⟩, by simp only [Ex.deep]; omega⟩
      · exact ⟨⟨g3', g1, g2⟩, by simp only [Ex.deep]; omega⟩
      · exact ⟨⟨by decide +kernel, g1, up g2⟩, by simp only [Ex.deep]; omega⟩
      · exact ⟨⟨by decide +kernel, g1, g2⟩, by simp only [Ex.deep]; omega⟩
      · exact ⟨⟨by decide +kernel, g1, g2⟩, by simp only [Ex.deep]; omega⟩
      · exact ⟨⟨by decide +kernel, g1, up g2⟩, by simp only [Ex.deep]; omega⟩
      · exact ⟨⟨by decide +kernel, by decide +kernel, by decide +kernel, g1, up (up g2)⟩, by simp only [Ex.deep]; omega⟩
      · exact ⟨⟨by decide +kernel, by decide +kernel, by decide +kernel, g1, up (up g2)⟩, by simp only [Ex.deep]; omega⟩
      · exact ⟨⟨by decide +kernel, ⟨by decide +kernel, up g1⟩, g2⟩, by simp only [Ex.deep]; omega⟩
      · exact ⟨⟨by decide +kernel, g1, g2⟩, by simp only [Ex.deep]; omega⟩
      · exact ⟨⟨by decide +kernel, by decide +kernel, by decide +kernel, g1, up (up g2)⟩, by simp only [Ex.deep]; omega⟩
      · exact ⟨⟨by decide +kernel, g1⟩, by simp only [Ex.deep]; omega⟩
    have q4d : q4 ∉ [d] := fun z => by
      obtain ⟨xs, ed⟩ := hDc'.is_
      have := L5.n0
      rw [List.mem_singleton.mp z, ed] at this
      cases this
    have hD5' : Dice K _ (rm :: D) d a ns := hDc'.step (D' := []) L5.st (by simp) (by simp)
    refine ⟨_, rfl, _, rfl, rm :: D, d, a, ns, 13, rfl, hD5', by decide, by decide, fun x J6 x0 x1' st6 hD6 => ?_⟩
    obtain ⟨vh, eh, ih1, ih2, ih3⟩ := L5.al.ix (x := x) x0 x1'
    obtain ⟨gh, dh⟩ := gSh eh ih2
    refine ⟨q4, _, _, _, rfl, rfl, SqL.of (st6.keep _ _ q4d L5.at_), ih1, ?_⟩
    have ah := ih3.step st6
    have s6 : Stp [d, rm] H3 J6 := (sC.trans (L5.st.mono fun b hb => by cases hb)).trans (st6.mono g3.sub)
    refine seq_eq (σ' := [some (.ref d), some (.ref nm), some (.ref rm), some (.ref t6), some (.ref l16), some x1, some x2, some x3, some (.ref q4), some vh, none, none, none]) rfl ?_
    refine ⟨_, rfl, rm :: D, d, a, ns, 2, rfl, hD6, by decide, by decide, fun k J7 k0 k1 st7 hD7 => ⟨rfl, _, rfl, ?_⟩⟩
    refine ite2 (fun _ => ?_) (fun _ => ?_)
    case' refine_1 =>
      refine Bx.read (ρ := ⟨fun _ => eh, fun _ => 0, fun _ => "a"⟩) (.two "add" (.one "say" (.nm "a")) (.var 9)) ⟨trivial, vh, rfl, ah.step st7⟩ fun v8' J8 st8' ah8 => ?_
      have gh8 : Good ["a", "b"] (.two "add" (.one "say" (.name "a")) eh) := ⟨by decide +kernel, by decide +kernel, gh⟩
      have dh8 : (Ex.two "add" (.one "say" (.name "a")) eh).deep ≤ 113 := by simp only [Ex.deep]; omega
      have s8' : Stp [d, rm] H3 J8 := (s6.trans (st7.mono g3.sub)).trans (st8'.mono fun b hb => by cases hb)
      have hD8' : Dice K J8 (rm :: D) d a ns := hD7.step (D' := []) st8' (by simp) (by simp)
      have ah8 : AtE J8 v8' (.two "add" (.one "say" (.name "a")) eh) := ah8
      generalize (Ex.two "add" (.one "say" (.name "a")) eh) = eh8 at gh8 dh8 ah8
    case' refine_2 =>
      have gh8 := gh
      have dh8 : eh.deep ≤ 113 := by omega
      have s8' : Stp [d, rm] H3 J7 := s6.trans (st7.mono g3.sub)
      have hD8' := hD7
      have ah8 := ah.step st7
      generalize eh = eh8 at gh8 dh8 ah8
      generalize vh = v8' at ah8 ⊢
    all_goals (
      refine seq_eq (σ' := [some (.ref d), some (.ref nm), some (.ref rm), some (.ref t6), some (.ref l16), some x1, some x2, some x3, some (.ref q4), some v8', none, none, none]) rfl ?_
      refine ⟨_, rfl, fun p20 np20 => ?_⟩
      have hD20 := hD8'.up (o := .dK []) np20
      refine ⟨rm :: D, d, a, p20, ns, [], rfl, hD20, ⟨[], upd_same, by simp, by simp, by simp⟩, fun v21 e21 H21 hv21 hg21 ⟨z21, d21⟩ st21 hD21 => ⟨(by show 2 ≤ sizeLine; decide), fun t22 n22 => ⟨_, rfl, fun p23 np23 => ?_⟩⟩⟩
      have hD23 := (hD21.up (o := .tup [.str "throw", v21]) n22).up (o := .dK []) np23
      refine ⟨rm :: D, d, a, p23, ns, [], rfl, hD23, ⟨[], upd_same, by simp, by simp, by simp⟩, fun v24 e24 H24 hv24 hg24 ⟨z24, d24⟩ st24 hD24 => ⟨(by show 3 ≤ sizeLine; decide), fun t25 n25 => ?_⟩⟩
      have a22 : AtE (upd H21 t22 (.tup [.str "throw", v21])) (.ref t22) (.one "throw" e21) := ⟨t22, _, rfl, upd_same, hv21.up n22 _⟩
      have a25 : AtE (upd H24 t25 (.tup [.str "add", .ref t22, v24])) (.ref t25) (.two "add" (.one "throw" e21) e24) := ⟨t25, _, _, rfl, upd_same, ((a22.up np23 _).step st24).up n25 _, hv24.up n25 _⟩
      refine Bx.read (ρ := ρ0) (.one "say" (.num 3)) trivial fun v26 H26 st26 hv26 => ⟨(by show 3 ≤ sizeLine; decide), fun t27 n27 => ?_⟩
      have aB : AtE (upd H26 t27 (.tup [.str "last", .ref t25, v26])) (.ref t27) (.two "last" (.two "add" (.one "throw" e21) e24) (.one "say" (.num 3))) := ⟨t27, _, _, rfl, upd_same, (a25.step st26).up n27 _, hv26.up n27 _⟩
      have gB : Good [] (.two "last" (.two "add" (.one "throw" e21) e24) (.one "say" (.num 3))) := ⟨by decide +kernel, ⟨by decide +kernel, ⟨by decide +kernel, hg21⟩, hg24⟩, by decide +kernel⟩
      have zB : (Ex.two "last" (.two "add" (.one "throw" e21) e24) (.one "say" (.num 3))).size ≤ 10 := by simp only [Ex.size]; omega
      have dB : (Ex.two "last" (.two "add" (.one "throw" e21) e24) (.one "say" (.num 3))).deep ≤ 4 := by simp only [Ex.deep]; omega
      generalize (Ex.two "last" (.two "add" (.one "throw" e21) e24) (.one "say" (.num 3))) = eB at aB gB zB dB
      have st827 := ((((((Stp.new (D := [d]) np20 (.dK [])).trans st21).up n22 (.tup [.str "throw", v21])).up np23 (.dK [])).trans st24).up n25 (.tup [.str "add", .ref t22, v24])).trans ((st26.up n27 (.tup [.str "last", .ref t25, v26])).mono fun b hb => by cases hb)
      have hD27 : Dice K (upd H26 t27 (.tup [.str "last", .ref t25, v26])) (rm :: D) d a ns := ((hD24.up (o := .tup [.str "add", .ref t22, v24]) n25).step (D' := []) st26 (by simp) (by simp)).up n27
      have s27 := s8'.trans (st827.mono g3.sub)
      have ah27 := ah8.step st827
      clear st827
      generalize upd H26 t27 (.tup [.str "last", .ref t25, v26]) = H27 at aB hD27 s27 ah27 ⊢
      refine ⟨_, rfl, _, rfl, (by show 5 ≤ sizeLine; decide), fun t28 n28 => ?_⟩
      have aF : AtE (upd H27 t28 (.tup [.str "catch", .ref t27, .str "a", .str "b", v8'])) (.ref t28) (.ct eB "a" "b" eh8) := ⟨t28, _, _, rfl, upd_same, aB.up n28 _, ah27.up n28 _⟩
      have gF : Good [] (.ct eB "a" "b" eh8) := ⟨by decide +kernel, by decide +kernel, by decide +kernel, gB, gh8⟩
      have dF : (Ex.ct eB "a" "b" eh8).deep ≤ 225 := by simp only [Ex.deep]; omega
      have s28 := s27.up n28 (.tup [.str "catch", .ref t27, .str "a", .str "b", v8'])
      have aB28 := aB.up n28 (.tup [.str "catch", .ref t27, .str "a", .str "b", v8'])
      have hD28 := hD27.up (o := .tup [.str "catch", .ref t27, .str "a", .str "b", v8']) n28
      generalize upd H27 t28 (.tup [.str "catch", .ref t27, .str "a", .str "b", v8']) = H28 at aF s28 aB28 hD28 ⊢
      have last : ∀ (v31 : V) (H30 H31 : Hp), Same H28 H30 → Stp [] H30 H31 → AtE H31 v31 (.ct eB "a" "b" (.name "a")) → Q v31 H31 := fun v31 H30 H31 sm st31 a31 =>
        fin v31 _ H31 a31 ⟨by decide +kernel, by decide +kernel, by decide +kernel, gB, by show ("a" : Str) ∈ (["a", "b"] : List Str); decide +kernel⟩ (by simp only [Ex.size]; omega) (by simp only [Ex.deep]; omega) ((s28.trans (Stp.same sm)).trans (st31.mono fun b hb => by cases hb)) ((hD28.step (D' := []) (Stp.same sm) (by simp) (by simp)).step st31 (by simp) (by simp))
      refine ⟨_, rfl, .ref t28, _, rfl, aF, dF, fun H29 sm29 => ⟨_, _, rfl, rfl, _, rfl, ?_⟩⟩
      refine ite2 (fun hz => ?_) (fun hz => ?_)
      · refine ⟨_, rfl, .ref t28, _, rfl, aF.same sm29, dF, fun H30 sm30 => ⟨_, _, rfl, rfl, _, rfl, ?_⟩⟩
        have sm := Same.trans sm29 sm30
        refine ite2 (fun hz2 => ?_) (fun hz2 => ?_)
        · exact ⟨_, rfl, fin _ _ _ (aF.same sm) gF (by have := of_decide_eq_true hz; omega) (by have := of_decide_eq_true hz2; omega) (s28.trans (Stp.same sm)) (hD28.step (D' := []) (Stp.same sm) (by simp) (by simp))⟩
        · exact Bx.read (ρ := ⟨fun _ => eB, fun _ => 0, fun _ => "a"⟩) (.ct (.var 10) "a" "b" (.nm "a")) ⟨⟨_, rfl, aB28.same sm⟩, trivial⟩ fun v31 H31 st31 a31 => last v31 H30 H31 sm st31 a31
      · refine iteF ?_
        exact Bx.read (ρ := ⟨fun _ => eB, fun _ => 0, fun _ => "a"⟩) (.ct (.var 10) "a" "b" (.nm "a")) ⟨⟨_, rfl, aB28.same sm29⟩, trivial⟩ fun v31 H31 st31 a31 => last v31 H29 H31 sm29 st31 a31)
end
end Wr
namespace Wr
open PySem PySem.Spec PyProof.Rows L2
/-! ### papers as data -/
def wdD : Option Wd → PyData
  | none => .none
  | some w => .str w.s
def Ex.pap : Ex → Option Str → PyData
  | .num n, k => .tuple [wdD ((Ex.num n).wd k), .tuple []]
  | .name x, k => .tuple [wdD ((Ex.name x).wd k), .tuple []]
  | .fault, k => .tuple [wdD (Ex.fault.wd k), .tuple []]
  | .one w a, k => .tuple [wdD ((Ex.one w a).wd k), .tuple [a.pap k]]
  | .two w a b, k => .tuple [wdD ((Ex.two w a b).wd k), .tuple [a.pap k, b.pap k]]
  | .ite a b c, k => .tuple [wdD ((Ex.ite a b c).wd k), .tuple [a.pap k, b.pap k, c.pap k]]
  | .lt n a b, k => .tuple [wdD ((Ex.lt n a b).wd k), .tuple [a.pap k, b.pap (hid k n)]]
  | .fn n a, k => .tuple [wdD ((Ex.fn n a).wd k), .tuple [a.pap (hid k n)]]
  | .ct a n k' b, k => .tuple [wdD ((Ex.ct a n k' b).wd k), .tuple [a.pap k, b.pap (hid (hid k n) k')]]
theorem woV_dp {K : PySem.W.Frag} {H : Hp} (w : Option Wd) : Dp K H (woV w) (wdD w) := by
  cases w with
  | none => exact .non
  | some w => exact .str _
theorem papAt_dp {K : PySem.W.Frag} {H : Hp} {e : Ex} : ∀ {v : V} {k : Option Str}, PapAt H v e k → Dp K H v (e.pap k) := by
  have mk : ∀ {t u : Addr} {w : Option Wd} {vs : List V} {ds : List PyData}, H t = some (.tup [woV w, .ref u]) → H u = some (.tup vs) → DpAll K H vs ds → Dp K H (.ref t) (.tuple [wdD w, .tuple ds]) := fun h g d =>
    .tup (SqT.of h) (.cons (woV_dp _) (.cons (.tup (SqT.of g) d) .nil))
  induction e with
  | num n => rintro v k ⟨t, u, rfl, h, g⟩; exact mk h g .nil
  | name x => rintro v k ⟨t, u, rfl, h, g⟩; exact mk h g .nil
  | fault => rintro v k ⟨t, u, rfl, h, g⟩; exact mk h g .nil
  | one w a ia => rintro v k ⟨t, u, x, rfl, h, g, ha⟩; exact mk h g (.cons (ia ha) .nil)
  | two w a b ia ib => rintro v k ⟨t, u, x, y, rfl, h, g, ha, hb⟩; exact mk h g (.cons (ia ha) (.cons (ib hb) .nil))
  | ite a b c ia ib ic => rintro v k ⟨t, u, x, y, z, rfl, h, g, ha, hb, hc⟩; exact mk h g (.cons (ia ha) (.cons (ib hb) (.cons (ic hc) .nil)))
  | lt n a b ia ib => rintro v k ⟨t, u, x, y, rfl, h, g, ha, hb⟩; exact mk h g (.cons (ia ha) (.cons (ib hb) .nil))
  | fn n a ia => rintro v k ⟨t, u, x, rfl, h, g, ha⟩; exact mk h g (.cons (ia ha) .nil)
  | ct a n k' b ia ib => rintro v k ⟨t, u, x, y, rfl, h, g, ha, hb⟩; exact mk h g (.cons (ia ha) (.cons (ib hb) .nil))
theorem Sm.more {n : Nat} {d : PyData} (h : Sm n d) : ∀ {m : Nat}, n ≤ m → Sm m d := by
  induction h with
  | non => intro m hm; obtain ⟨k, rfl⟩ : ∃ k, m = k + 1 := ⟨m - 1, by omega⟩; exact .non
  | bl b => intro m hm; obtain ⟨k, rfl⟩ : ∃ k, m = k + 1 := ⟨m - 1, by omega⟩; exact .bl b
  | int i => intro m hm; obtain ⟨k, rfl⟩ : ∃ k, m = k + 1 := ⟨m - 1, by omega⟩; exact .int i
  | str x => intro m hm; obtain ⟨k, rfl⟩ : ∃ k, m = k + 1 := ⟨m - 1, by omega⟩; exact .str x
  | lst hl _ ih => intro m hm; obtain ⟨k, rfl⟩ : ∃ k, m = k + 1 := ⟨m - 1, by omega⟩; exact .lst hl fun d hd => ih d hd (by omega)
  | tup hl _ ih => intro m hm; obtain ⟨k, rfl⟩ : ∃ k, m = k + 1 := ⟨m - 1, by omega⟩; exact .tup hl fun d hd => ih d hd (by omega)
theorem pap_sm {e : Ex} : ∀ (k : Option Str) (n : Nat), 2 * e.deep ≤ n → Sm n (e.pap k) := by
  have mk : ∀ {w : Option Wd} {ds : List PyData} {n : Nat}, ds.length ≤ 1000 → (∀ d ∈ ds, Sm n d) → Sm (n + 2) (.tuple [wdD w, .tuple ds]) := fun {w} {ds} {n} hl h =>
    .tup (by show 2 ≤ 1000; decide) fun d hd => by
      simp only [List.mem_cons, List.not_mem_nil, or_false] at hd
      rcases hd with rfl | rfl
      · cases w with
        | none => exact .non
        | some w => exact .str _
      · exact .tup hl h
  induction e with
  | num x => intro k n hn; obtain ⟨m, rfl⟩ : ∃ m, n = m + 2 := ⟨n - 2, by simp only [Ex.deep] at hn; omega⟩; exact mk (by decide) (by simp)
  | name x => intro k n hn; obtain ⟨m, rfl⟩ : ∃ m, n = m + 2 := ⟨n - 2, by simp only [Ex.deep] at hn; omega⟩; exact mk (by decide) (by simp)
  | fault => intro k n hn; obtain ⟨m, rfl⟩ : ∃ m, n = m + 2 := ⟨n - 2, by simp only [Ex.deep] at hn; omega⟩; exact mk (by decide) (by simp)
  | one w a ia =>
    intro k n hn
    simp only [Ex.deep] at hn
    obtain ⟨m, rfl⟩ : ∃ m, n = m + 2 := ⟨n - 2, by omega⟩
    exact mk (by show 1 ≤ 1000; decide) fun d hd => by rw [List.mem_singleton.mp hd]; exact ia _ _ (by omega)
  | two w a b ia ib =>
    intro k n hn
    simp only [Ex.deep] at hn
    obtain ⟨m, rfl⟩ : ∃ m, n = m + 2 := ⟨n - 2, by omega⟩
    refine mk (by show 2 ≤ 1000; decide) fun d hd => ?_
    simp only [List.mem_cons, List.not_mem_nil, or_false] at hd
    rcases hd with rfl | rfl
    · exact ia _ _ (by omega)
    · exact ib _ _ (by omega)
  | ite a b c ia ib ic =>
    intro k n hn
    simp only [Ex.deep] at hn
    obtain ⟨m, rfl⟩ : ∃ m, n = m + 2 := ⟨n - 2, by omega⟩
    refine mk (by show 3 ≤ 1000; decide) fun d hd => ?_
    simp only [List.mem_cons, List.not_mem_nil, or_false] at hd
    rcases hd with rfl | rfl | rfl
    · exact ia _ _ (by omega)
    · exact ib _ _ (by omega)
    · exact ic _ _ (by omega)
  | lt x a b ia ib =>
    intro k n hn
    simp only [Ex.deep] at hn
    obtain ⟨m, rfl⟩ : ∃ m, n = m + 2 := ⟨n - 2, by omega⟩
    refine mk (by show 2 ≤ 1000; decide) fun d hd => ?_
    simp only [List.mem_cons, List.not_mem_nil, or_false] at hd
    rcases hd with rfl | rfl
    · exact ia _ _ (by omega)
    · exact ib _ _ (by omega)
  | fn x a ia =>
    intro k n hn
    simp only [Ex.deep] at hn
    obtain ⟨m, rfl⟩ : ∃ m, n = m + 2 := ⟨n - 2, by omega⟩
    exact mk (by show 1 ≤ 1000; decide) fun d hd => by rw [List.mem_singleton.mp hd]; exact ia _ _ (by omega)
  | ct a x k' b ia ib =>
    intro k n hn
    simp only [Ex.deep] at hn
    obtain ⟨m, rfl⟩ : ∃ m, n = m + 2 := ⟨n - 2, by omega⟩
    refine mk (by show 2 ≤ 1000; decide) fun d hd => ?_
    simp only [List.mem_cons, List.not_mem_nil, or_false] at hd
    rcases hd with rfl | rfl
    · exact ia _ _ (by omega)
    · exact ib _ _ (by omega)
/-- what is due for a catch, as data -/
def Ex.due : Ex → PyData
  | .ct _ _ k b => if b.wd (some k) = none then .none else b.pap (some k)
  | _ => .none
theorem poL_dp {K : PySem.W.Frag} {H : Hp} : ∀ {us : List V} {cs : List Ex}, PoL H us cs → DpAll K H us (cs.map Ex.due)
  | _, _, .nil => .nil
  | _, _, .cons (v := v) (e := e) h t => .cons (by
      cases e with
      | ct a x k b =>
        have h : if b.wd (some k) = none then v = .non else PapAt H v b (some k) := h
        show Dp K H v (if b.wd (some k) = none then .none else b.pap (some k))
        by_cases c : b.wd (some k) = none
        · rw [if_pos c] at h ⊢; rw [h]; exact .non
        · rw [if_neg c] at h ⊢; exact papAt_dp h
      | _ => exact h.elim) (poL_dp t)
theorem due_sm {S : List Str} {e : Ex} {n : Nat} (hS : ∀ x ∈ S, x ∈ letters) (g : Good S e) (hn : 2 * e.deep + 1 ≤ n) : ∀ d ∈ e.cts.map Ex.due, Sm n d := by
  intro d hd
  obtain ⟨c, hc, rfl⟩ := List.mem_map.mp hd
  obtain ⟨S', a, x, k, b, rfl, _, _, _, hb⟩ := cts_good hS g c hc
  show Sm n (if b.wd (some k) = none then .none else b.pap (some k))
  by_cases c0 : b.wd (some k) = none
  · rw [if_pos c0]
    obtain ⟨m, rfl⟩ : ∃ m, n = m + 1 := ⟨n - 1, by omega⟩
    exact .non
  · rw [if_neg c0]
    exact pap_sm _ _ (by omega)
end Wr
namespace Wr
open PySem PySem.Spec PyProof.Rows L2
section
variable {K : PySem.W.Frag} {u : TS} {D : Ends} {σ : L2.St} {H : Hp} {d a : Addr} {ns : List Int} {b0 b2 b4 b5 b6 b7 : Option V} {v : V} {e : Ex}
theorem rdA (h1 : σ[1]? = some (some (.ref d))) (hD : Dice K H [d] d a ns) (q : ∀ v e H', AtE H' v e → Good [] e → e.size ≤ 200 → e.deep ≤ 41 → Dice K H' [d] d a ns → u D (σ.set 3 (some v)) H') :
    tSeq (tAsg (tIf (tTest (tOp rEq (tCall (spNext K) [] E0 (tCons (tVar 1) (tCons (tC (.int 3)) tNil))) (tC (.int 0)))) (tCall (spProgram K) [] E0 (tCons (tVar 1) tNil)) (tCall (spHandled K) [] E0 (tCons (tVar 1) tNil))) (gName 3)) u D σ H := by
  refine ⟨_, h1, [d], d, a, ns, 3, rfl, hD, by decide, by decide, fun x H1 x0 x1 st hD1 => ⟨rfl, _, rfl, ?_⟩⟩
  refine ite2 (fun _ => ?_) (fun _ => ?_)
  · exact ⟨_, h1, [d], d, a, ns, rfl, hD1, fun v e H2 h1 h2 h3 h4 s2 hD2 => q v e H2 h1 h2 h3 h4 hD2⟩
  · exact ⟨_, h1, [d], d, a, ns, rfl, hD1, fun v e H2 h1 h2 h3 h4 s2 hD2 => q v e H2 h1 h2 (by omega) (by omega) hD2⟩
theorem rdB (av : AtE H v e) (g : Good [] e) (z : e.size ≤ 200) (dp : e.deep ≤ 41) (hD : Dice K H [d] d a ns) (q : ∀ v e H', AtE H' v e → Good [] e → e.size ≤ 200 → e.deep ≤ 41 → Dice K H' [d] d a ns → u D [b0, some (.ref d), b2, some v, b4, b5, b6, b7] H') :
    tSeq (tIfS (tTest (tOp rEq (tCall (spNext K) [] E0 (tCons (tVar 1) (tCons (tC (.int 4)) tNil))) (tC (.int 0)))) (tAsg (tCall (spTall K) [] E0 (tCons (tVar 1) tNil)) (gName 3)) tNext) u D [b0, some (.ref d), b2, some v, b4, b5, b6, b7] H := by
  refine ⟨_, rfl, [d], d, a, ns, 4, rfl, hD, by decide, by decide, fun x H1 x0 x1 st hD1 => ⟨rfl, _, rfl, ?_⟩⟩
  refine ite2 (fun _ => ?_) (fun _ => ?_)
  · exact ⟨_, rfl, [d], d, a, ns, rfl, hD1, fun v e H2 h1 h2 h3 h4 s2 hD2 => q v e H2 h1 h2 (by omega) (by omega) hD2⟩
  · exact q v e H1 (av.step st) g z dp hD1
theorem rdC (av : AtE H v e) (g : Good [] e) (z : e.size ≤ 200) (dp : e.deep ≤ 41) (hD : Dice K H [d] d a ns) (q : ∀ v e H', AtE H' v e → Good [] e → e.size ≤ 200 → e.deep ≤ 41 → Dice K H' [d] d a ns → u D [b0, some (.ref d), b2, some v, b4, b5, b6, b7] H') :
    tSeq (tIfS (tAnd (tTest (tOp rEq (tCall (spNext K) [] E0 (tCons (tVar 1) (tCons (tC (.int 4)) tNil))) (tC (.int 0)))) (tAnd (tTest (tOp (rI0 fun i j => V.bl (decide (i ≤ j))) (tCall (spSize 225) [] E0 (tCons (tVar 3) tNil)) (tC (.int 190)))) (tTest (tOp (rI0 fun i j => V.bl (decide (i ≤ j))) (tCall (spDeep 225) [] E0 (tCons (tVar 3) tNil)) (tC (.int 38))))))
      (tAsg (Bx.t (.ct (.two "add" (.var 3) (.one "throw" (.num 2))) "c" "b" (.two "go" (.nm "b") (.num 1)))) (gName 3)) tNext) u D [b0, some (.ref d), b2, some v, b4, b5, b6, b7] H := by
  refine ⟨_, rfl, [d], d, a, ns, 4, rfl, hD, by decide, by decide, fun x H1 x0 x1 st hD1 => ⟨rfl, _, rfl, ?_⟩⟩
  have a1 := av.step st
  refine ite2 (fun _ => ?_) (fun _ => ?_)
  · refine ⟨_, rfl, v, e, rfl, a1, by omega, fun H2 sm2 => ⟨_, _, rfl, rfl, _, rfl, ?_⟩⟩
    have hD2 := hD1.step (D' := []) (Stp.same sm2) (by simp) (by simp)
    have a2 := a1.same sm2
    refine ite2 (fun hz => ?_) (fun _ => ?_)
    · have hz := of_decide_eq_true hz
      refine ⟨_, rfl, v, e, rfl, a2, by omega, fun H3 sm3 => ⟨_, _, rfl, rfl, _, rfl, ?_⟩⟩
      have hD3 := hD2.step (D' := []) (Stp.same sm3) (by simp) (by simp)
      have a3 := a2.same sm3
      refine ite2 (fun hd => ?_) (fun _ => ?_)
      · have hd := of_decide_eq_true hd
        exact Bx.read (ρ := ⟨fun _ => e, fun _ => 0, fun _ => "a"⟩) (.ct (.two "add" (.var 3) (.one "throw" (.num 2))) "c" "b" (.two "go" (.nm "b") (.num 1))) ⟨⟨⟨v, rfl, a3⟩, trivial⟩, trivial, trivial⟩ fun v' H' st' a' =>
          q v' (.ct (.two "add" e (.one "throw" (.num 2))) "c" "b" (.two "go" (.name "b") (.num 1))) H' a' ⟨by decide +kernel, by decide +kernel, by decide +kernel, ⟨by decide +kernel, g, by decide +kernel⟩, by decide +kernel⟩ (by simp only [Ex.size]; omega) (by simp only [Ex.deep]; omega) (hD3.step (D' := []) st' (by simp) (by simp))
      · exact q v e H3 a3 g z dp hD3
    · refine iteF ?_
      exact q v e H2 a2 g z dp hD2
  · refine iteF ?_
    exact q v e H1 a1 g z dp hD1
end
section
variable {P : Program} {w : World} {K : PySem.W.Frag} {mg : Str → Option Value} {base : Heap}
/-- what the program's papers is to give -/
def spPaps (K : PySem.W.Frag) : Sp := fun vs H Q _ => ∃ (v : V) (e : Ex), vs = [v] ∧ AtE H v e ∧ Good [] e ∧ e.deep ≤ 41 ∧ e.size ≤ 200 ∧
  ∀ (l : Addr) (us : List V) (H' : Hp), Same H H' → H l = none → H' l = some (.lst us) → DpAll K H' us (e.cts.map Ex.due) → Q (.ref l) H'
/-- what the program's shows is to say of its own papers -/
def spShows (K : PySem.W.Frag) : Sp := fun vs H Q _ => ∃ (v u : V) (e : Ex) (i : Nat) (dd : PyData), vs = [v, .int i, u] ∧ AtE H v e ∧ Good [] e ∧ e.deep ≤ 41 ∧ e.size ≤ 200 ∧ (e.cts.map Ex.due)[i]? = some dd ∧ dd ≠ .none ∧ Dp K H u dd ∧
  ∀ H', Same H H' → Q (.bl true) H'
def spLaw (K : PySem.W.Frag) : Sp := fun vs H Q _ => ∃ (a : Addr) (ns : List Int), vs = [.ref a] ∧ SqL K H a (ns.map V.int) ∧ ns.length ≤ 63 ∧ ∀ H', Q (.bl true) H'
theorem scLaw : FnScope ["_law_script", "_law_d", "_law_turn", "_law_program_here", "_law_due", "_law_again_here", "_law_found", "_law_number"] ["_law_script"] (defScope s_law) := ⟨rfl, rfl, rfl, by decide +kernel, rfl, by decide +kernel, by decide +kernel⟩
/-- the promise of the very function that stands there -/
theorem fn_use {x : Str} {st : Stmt} {N ps : List Str} {k : Nat} {sp : Sp} {f : Addr} {fd : FuncData} (F : FunD K x x (defArgs st) (defBody st) (defScope st) [] [] f fd) (S : FnScope N ps (defScope st)) (len : ∀ vs H Q E, sp vs H Q E → vs.length = ps.length)
    (hbody : ∀ (cdv : Value) (f : Addr) (A : Around) (outer : List Env) (s : Shared) (H : Hp) (vs : List V) (Q : VK) (E : XK), Room k (A.deeper (envOfC x (defScope st) s.heap.objs.size f cdv)) → sp vs H Q E →
      ∃ t, PSs (cxOf CX0 P w K mg base N x (defScope st) f cdv A outer s H E).nox (defBody st) t ∧ t { nx := fun _ H' => Q .non H', rt := Q } (start N vs) H) : FnOk P w K mg base CX0 (k + 1) f fd ps sp :=
  F.ok S len fun cdv A outer s H vs Q E hr h => by
    obtain ⟨t, h1, h2⟩ := hbody cdv f A outer s H vs Q E hr h
    exact ⟨t, h1.nox, h2⟩
theorem ok_law {kp ks : Nat} {f0 : Addr} {fd0 : FuncData} (hkp : kp ≤ 227) (hks : ks ≤ 227) (F : FunD K "law" "law" (defArgs s_law) (defBody s_law) (defScope s_law) [] [] f0 fd0) (rng : mg "range" = none) (len : mg "len" = none) (U_dice : Use P w K mg base "_law_dice" ["_law_script"] 1 (spDice K)) (U_next : Use P w K mg base "_law_next" ["_law_dice_here", "_law_many"] 1 (spNext K))
    (U_any : Use P w K mg base "_law_any" ["_law_d"] 227 (spProgram K)) (U_handled : Use P w K mg base "_law_handled" ["_law_d"] 226 (spHandled K)) (U_tall : Use P w K mg base "_law_tall" ["_law_d"] 226 (spTall K))
    (U_size : Use P w K mg base "_law_size" ["_law_part"] 225 (spSize 225)) (U_deep : Use P w K mg base "_law_deep" ["_law_part"] 225 (spDeep 225)) (U_papers : Use P w K mg base "_law_papers" ["_law_program_here"] 43 spPapers)
    (U_like : Use P w K mg base "_law_like" ["_law_found", "_law_due"] 100 (spLike K 100)) (U_paps : Use P w K mg base "papers" ["program"] kp (spPaps K)) (U_shows : Use P w K mg base "shows" ["program", "number", "paper"] ks (spShows K)) :
    FnOk P w K mg base CX0 228 f0 fd0 ["_law_script"] (spLaw K) := by
  refine fn_use F scLaw (fun vs H Q E h => ?_) (fun cdv f A outer s H vs Q E hr h => ?_)
  · obtain ⟨a, ns, rfl, _⟩ := h
    rfl
  · obtain ⟨a, ns, rfl, hs, hn, q⟩ := h
    have hr_dice : Room 1 _ := hr.mono (by omega)
    have hr_next : Room 1 _ := hr.mono (by omega)
    have hr_any : Room 227 _ := hr.mono (by omega)
    have hr_handled : Room 226 _ := hr.mono (by omega)
    have hr_tall : Room 226 _ := hr.mono (by omega)
    have hr_size : Room 225 _ := hr.mono (by omega)
    have hr_deep : Room 225 _ := hr.mono (by omega)
    have hr_papers : Room 43 _ := hr.mono (by omega)
    have hr_like : Room 100 _ := hr.mono (by omega)
    have hr_paps : Room kp _ := hr.mono (by omega)
    have hr_shows : Room ks _ := hr.mono (by omega)
    refine ⟨_, (pss_cons (ps_set (i := 1) scLaw.nd rfl (Or.inl rfl) (pe_use U_dice hr_dice (pa_cons (pv 0) pa_nil)))
      (pss_cons (ps_for PassesOwn.never rfl (pi_range1 (by rfl) rng (pa_cons pe_int pa_nil)) (pg_name (i := 2) scLaw.nd rfl (Or.inl rfl)) (pss_cons (ps_set (i := 3) scLaw.nd rfl (Or.inl rfl) (pe_ifExp (pt_cmpR op_eq (pe_use U_next hr_next (pa_cons (pv 1) (pa_cons pe_int pa_nil))) pe_int (nomark _)) (pe_use U_any hr_any (pa_cons (pv 1) pa_nil)) (pe_use U_handled hr_handled (pa_cons (pv 1) pa_nil))))
      (pss_cons (ps_if (pt_cmpR op_eq (pe_use U_next hr_next (pa_cons (pv 1) (pa_cons pe_int pa_nil))) pe_int (nomark _)) (pss_one (ps_set (i := 3) scLaw.nd rfl (Or.inl rfl) (pe_use U_tall hr_tall (pa_cons (pv 1) pa_nil)))) pss_nil)
      (pss_cons (ps_if (PW.pt (pw_and (pt_cmpR op_eq (pe_use U_next hr_next (pa_cons (pv 1) (pa_cons pe_int pa_nil))) pe_int (nomark _)) (pw_and (pt_cmpR op_le (pe_use U_size hr_size (pa_cons (pv 3) pa_nil)) pe_int (nomark _)) (pw_and1 (pt_cmpR op_le (pe_use U_deep hr_deep (pa_cons (pv 3) pa_nil)) pe_int (nomark _)))))) (pss_one (ps_set (i := 3) scLaw.nd rfl (Or.inl rfl) (pe_tup (pa_cons pe_str (pa_cons (pe_tup (pa_cons pe_str (pa_cons (pv 3) (pa_cons (pe_tup (pa_cons pe_str (pa_cons (pe_tup (pa_cons pe_str (pa_cons pe_int pa_nil))) pa_nil))) pa_nil)))) (pa_cons pe_str (pa_cons pe_str (pa_cons (pe_tup (pa_cons pe_str (pa_cons (pe_tup (pa_cons pe_str (pa_cons pe_str pa_nil))) (pa_cons (pe_tup (pa_cons pe_str (pa_cons pe_int pa_nil))) pa_nil)))) pa_nil)))))))) pss_nil)
      (pss_cons (ps_set (i := 4) scLaw.nd rfl (Or.inl rfl) (pe_use U_papers hr_papers (pa_cons (pv 3) pa_nil)))
      (pss_cons (ps_for PassesOwn.never rfl (pi_range1 (by rfl) rng (pa_cons pe_int pa_nil)) (pg_name (i := 5) scLaw.nd rfl (Or.inl rfl)) (pss_cons (ps_set (i := 6) scLaw.nd rfl (Or.inl rfl) (pe_use U_paps hr_paps (pa_cons (pv 3) pa_nil)))
      (pss_cons (ps_if (pt_not (pt_val (pe_use U_like hr_like (pa_cons (pv 6) (pa_cons (pv 4) pa_nil))))) (pss_one (ps_ret pe_bl)) pss_nil)
      (pss_one (ps_expr (pe_bm PySem.F.plainAttrs_list PySem.F.slot_list_append PySem.F.type_list_append mt_append (pv 6) (pa_cons pe_non pa_nil)))))))
      (pss_one (ps_for PassesOwn.never rfl (pi_range1 (by rfl) rng (pa_cons (pe_callB call_len_seq (by rfl) len PySem.boot_len (pa_cons (pv 4) pa_nil)) pa_nil)) (pg_name (i := 7) scLaw.nd rfl (Or.inl rfl)) (pss_one (ps_if (PW.pt (pw_and (pt_cmpR op_notN (pe_ix ix_list (pv 4) (pv 7) (fun _ _ => rfl)) pe_non (nomark _)) (pw_and1 (pt_not (pt_val (pe_use U_like hr_like (pa_cons (pe_use U_shows hr_shows (pa_cons (pv 3) (pa_cons (pv 7) (pa_cons (pe_ix ix_list (pv 4) (pv 7) (fun _ _ => rfl)) pa_nil)))) (pa_cons pe_bl pa_nil)))))))) (pss_one (ps_ret pe_bl)) pss_nil))))))))))
      (pss_one (ps_ret pe_bl)))), ?_⟩
    refine ⟨_, rfl, a, ns, rfl, hs, hn, fun d H1 sm1 nd hD1 => ?_⟩
    refine ⟨6, rfl, by decide, by decide, ?_⟩
    refine for_range (fun i σ H2 => ∃ b2 b3 b4 b5 b6 b7, σ = [some (.ref a), some (.ref d), b2, b3, b4, b5, b6, b7] ∧ Dice K H2 [d] d a ns) ⟨none, none, none, none, none, none, rfl, hD1⟩ ?_ ?_
    · rintro i σ H2 hi ⟨b2, b3, b4, b5, b6, b7, rfl, hD2⟩
      refine rdA (d := d) (a := a) (ns := ns) rfl hD2 fun v e H3 av3 g3 z3 d3 hD3 => ?_
      refine rdB (v := v) (e := e) (a := a) (ns := ns) (b0 := some (.ref a)) (b2 := some (.int (0 + (i : Int)))) (b4 := b4) (b5 := b5) (b6 := b6) (b7 := b7) av3 g3 z3 d3 hD3 fun v e H4 av4 g4 z4 d4 hD4 => ?_
      refine rdC (v := v) (e := e) (a := a) (ns := ns) (b0 := some (.ref a)) (b2 := some (.int (0 + (i : Int)))) (b4 := b4) (b5 := b5) (b6 := b6) (b7 := b7) av4 g4 z4 d4 hD4 fun v e H5 av5 g5 z5 d5 hD5 => ?_
      refine ⟨_, rfl, v, e, [], rfl, av5, g5, by simp, d5, z5, fun l us H6 sm6 nl hl pl => ?_⟩
      have hus : us.length ≤ 200 := by rw [pl.length]; exact Nat.le_trans e.cts_size z5
      have sml : Sm 100 (.list (e.cts.map Ex.due)) := .lst (by rw [List.length_map, ← pl.length]; omega) (due_sm (by simp) g5 (by omega))
      refine ⟨2, rfl, by decide, by decide, ?_⟩
      refine for_range (fun j σ H7 => ∃ c5 c6, σ = [some (.ref a), some (.ref d), some (.int (0 + (i : Int))), some v, some (.ref l), c5, c6, b7] ∧ Same H6 H7) ⟨b5, b6, rfl, Same.refl _⟩ ?_ ?_
      · rintro j σ H7 hj ⟨c5, c6, rfl, sm7⟩
        refine ⟨_, rfl, v, e, rfl, av5.same (sm6.trans sm7), g5, d5, z5, fun l2 us2 H8 sm8 nl2 hl2 dp2 => ?_⟩
        have sm68 := sm7.trans sm8
        refine ⟨_, rfl, _, rfl, .ref l2, .ref l, .list (e.cts.map Ex.due), rfl, .lst (SqL.of hl2) dp2, .lst (SqL.of (sm68 _ _ hl)) (poL_dp (pl.tups fun t xs h => sm68 _ _ h)), sml, true, rfl, iteF ?_⟩
        have hl2' : us2.length < sizeLine := by
          have h1 := dpAll_len dp2
          rw [List.length_map, ← pl.length] at h1
          have : (200 : Nat) < sizeLine := by decide
          omega
        exact ⟨_, rfl, .inl ⟨rfl, _, SqL.of hl2⟩, l2, us2, .non, rfl, rfl, hl2, hl2', _, _, rfl, Same.putnew sm68 (sm7.free nl2) _⟩
      · rintro σ H7 ⟨c5, c6, rfl, sm7⟩
        refine ⟨_, rfl, l, us, rfl, .inl (SqL.of (sm7 _ _ hl)), _, rfl, by omega, by omega, ?_⟩
        refine for_range (fun j σ H8 => ∃ c7, σ = [some (.ref a), some (.ref d), some (.int (0 + (i : Int))), some v, some (.ref l), c5, c6, c7] ∧ Same H6 H8) ⟨b7, rfl, sm7⟩ ?_ ?_
        · rintro j σ H8 hj ⟨c7, rfl, sm8⟩
          rw [Int.toNat_natCast] at hj
          have dpA := poL_dp (K := K) (pl.tups fun t xs h => sm8 _ _ h)
          obtain ⟨u, dd, hu, hdd, du⟩ := dpAll_at dpA (i := j) (by rw [List.length_map, ← pl.length]; exact hj)
          have hl8 := sm8 _ _ hl
          rw [Int.zero_add]
          refine ⟨_, rfl, _, rfl, l, us, _, u, rfl, rfl, SqL.of hl8, atI_nat hu, rfl, _, rfl, ?_⟩
          refine ite2 (fun hne => ?_) (fun _ => ?_)
          · have hdn : dd ≠ .none := fun z => by
              rw [z] at du
              cases du
              cases hne
            refine ⟨_, rfl, _, rfl, _, rfl, _, rfl, l, us, _, u, rfl, rfl, SqL.of hl8, atI_nat hu, v, u, e, j, dd, rfl, av5.same (sm6.trans sm8), g5, d5, z5, hdd, hdn, du, fun H9 sm9 => ?_⟩
            exact ⟨.bl true, .bl true, .bool true, rfl, .bl _, .bl _, .bl _, true, rfl, iteF ⟨_, rfl, sm8.trans sm9⟩⟩
          · exact iteF ⟨_, rfl, sm8⟩
        · rintro σ H8 ⟨c7, rfl, sm8⟩
          exact ⟨_, _, _, _, _, _, rfl, hD5.step (D' := []) (Stp.same (sm6.trans sm8)) (by simp) (by simp)⟩
    · rintro σ H2 ⟨b2, b3, b4, b5, b6, b7, rfl, hD2⟩
      exact q H2
end
end Wr
namespace Wr
open PySem PySem.Spec PyProof.Rows L2
section
variable {P : Program} {w : World} {K : PySem.W.Frag} {mg : Str → Option Value} {base : Heap}
/-- a constant of the module that is a text -/
def GStr (mg : Str → Option Value) (x s : Str) : Prop := ∃ t, mg x = some (.str s t)
/-- a written tuple, of which methods are asked -/
def TupD (K : PySem.W.Frag) (a : Addr) (xs : List V) : Prop := ∃ (o : Obj) (its : Array Value) (n : Nat), K.lookup a = some o ∧ o.cls = .type "tuple" ∧ o.dict = none ∧ o.data = .seq its n ∧ its.size ≤ sizeLine ∧ Vals xs its.toList
theorem TupD.k {a : Addr} {xs : List V} (h : TupD K a xs) : TupK K a xs := by
  obtain ⟨o, its, n, h1, h2, _, h3⟩ := h
  exact ⟨o, its, n, h1, h2, h3⟩
theorem TupD.ty {a : Addr} {xs : List V} (h : TupD K a xs) (H : Hp) : tyV K "tuple" (.ref a) H := by
  obtain ⟨o, its, n, h1, h2, h3, _⟩ := h
  exact .inr (.inl ⟨rfl, o, h1, h2, h3⟩)
def spBehind : Sp := fun vs H Q _ => ∃ a b : Option Wd, vs = [woV a, woV b] ∧ ∀ H', Same H H' → Q (woV (joinS a b)) H'
theorem scBehind : FnScope ["word", "other"] ["word", "other"] (defScope s_behind) := ⟨rfl, rfl, rfl, by decide +kernel, rfl, by decide +kernel, by decide +kernel⟩
theorem ok_behind (F : Df K mg "behind" s_behind) (mQ : GStr mg "QUIET" "quiet") (mF : GStr mg "FREE" "free") : Use P w K mg base "behind" ["word", "other"] 1 spBehind := by
  refine F.use scBehind (fun _ _ _ _ _ _ us hl => match us, hl with | [_, _], _ => rfl) (fun vs H Q E h => ?_) (fun cdv f A outer s H vs Q E hr h => ?_)
  · obtain ⟨a, b, rfl, _⟩ := h
    rfl
  · obtain ⟨a, b, rfl, q⟩ := h
    obtain ⟨tQ, mQ⟩ := mQ
    obtain ⟨tF, mF⟩ := mF
    refine ⟨_, pss_cons (ps_if (pt_cmpR op_eq (pv 0) (pe_glob (v := .str "quiet") (by rfl) mQ ⟨_, rfl⟩) (nomark _)) (pss_one (ps_ret (pv 1))) pss_nil)
      (pss_one (ps_ret (pe_ifExp (pt_cmpR (r := rIn K false) op_in_seq (pv 1) (pe_tup (pa_cons (pe_glob (v := .str "quiet") (by rfl) mQ ⟨_, rfl⟩) (pa_cons (pe_glob (v := .str "free") (by rfl) mF ⟨_, rfl⟩) pa_nil))) rfl) (pv 0) pe_non))), ?_⟩
    refine ⟨_, rfl, scal_woV a _, _, rfl, ?_⟩
    rw [woV_quiet]
    refine ite2 (fun h => ?_) (fun h => ?_)
    · have h := of_decide_eq_true h
      subst h
      have e : joinS (some .quiet) b = b := by rcases b with _ | b <;> rfl
      have q := q H (Same.refl _)
      rw [e] at q
      exact ⟨_, rfl, q⟩
    · have h : a ≠ some .quiet := fun z => h (decide_eq_true z)
      refine ⟨_, rfl, (by show 2 ≤ sizeLine; decide), fun p np => ?_⟩
      have q := q _ (Same.new np (.tup [.str "quiet", .str "free"]))
      refine ⟨p, _, rfl, .inr (SqT.of upd_same), flat_woV b, rfl, _, rfl, ?_⟩
      rw [show (if false = true then !inV (woV b) [V.str "quiet", V.str "free"] else inV (woV b) [V.str "quiet", V.str "free"]) = decide (b = some .quiet ∨ b = some .free) from by rw [← in_qf]; rfl]
      refine ite2 (fun hb => ?_) (fun hb => ?_)
      · have hb := of_decide_eq_true hb
        have e : joinS a b = a := by
          rcases a with _ | a
          · rfl
          · cases a with
            | quiet => exact absurd rfl h
            | free => rcases hb with rfl | rfl <;> rfl
            | used => rcases hb with rfl | rfl <;> rfl
        rw [e] at q
        exact ⟨_, rfl, q⟩
      · have hb : ¬ (b = some .quiet ∨ b = some .free) := fun z => hb (decide_eq_true z)
        have e : joinS a b = none := by
          rcases a with _ | a
          · rfl
          · rcases b with _ | b
            · cases a <;> rfl
            · cases b with
              | quiet => exact absurd (.inl rfl) hb
              | free => exact absurd (.inr rfl) hb
              | used => cases a with
                | quiet => exact absurd rfl h
                | free => rfl
                | used => rfl
        rw [e] at q
        exact q
/-- a rule: of the words of the parts within, one word -/
def spRule (K : PySem.W.Frag) (g : List (Option Wd) → Prop) (f : List (Option Wd) → Option Wd) : Sp := fun vs H Q _ => ∃ (l : Addr) (ws : List (Option Wd)), vs = [.ref l] ∧ H l = some (.lst (ws.map woV)) ∧ g ws ∧ ∀ H', Same H H' → Q (woV (f ws)) H'
theorem scIn_turn : FnScope ["words", "found", "word"] ["words"] (defScope s_in_turn) := ⟨rfl, rfl, rfl, by decide +kernel, rfl, by decide +kernel, by decide +kernel⟩
theorem ok_in_turn (F : Df K mg "in_turn" s_in_turn) (mQ : GStr mg "QUIET" "quiet") (U : Use P w K mg base "behind" ["word", "other"] 1 spBehind) : Use P w K mg base "in_turn" ["words"] 2 (spRule K (fun _ => True) joinW) := by
  refine F.use scIn_turn (fun _ _ _ _ _ _ us hl => match us, hl with | [_], _ => rfl) (fun vs H Q E h => ?_) (fun cdv f A outer s H vs Q E hr h => ?_)
  · obtain ⟨l, ws, rfl, _⟩ := h
    rfl
  · obtain ⟨l, ws, rfl, hl, _, q⟩ := h
    obtain ⟨tQ, mQ⟩ := mQ
    refine ⟨_, pss_cons (ps_set (i := 1) scIn_turn.nd rfl (Or.inl rfl) (pe_glob (v := .str "quiet") (by rfl) mQ ⟨_, rfl⟩))
      (pss_cons (ps_for PassesOwn.never rfl (pi_list (pv 0)) (pg_name (i := 2) scIn_turn.nd rfl (Or.inl rfl)) (pss_one (ps_set (i := 1) scIn_turn.nd rfl (Or.inl rfl) (pe_use U hr (pa_cons (pv 1) (pa_cons (pv 2) pa_nil))))))
      (pss_one (ps_ret (pv 1)))), ?_⟩
    refine ⟨_, rfl, l, rfl, ⟨_, SqL.of hl⟩, for_list (K := K) (a := l) (xs := ws.map woV) (fun i σ H' => Same H H' ∧ ∃ (v : Option V), σ = [some (.ref l), some (woV (joinW (ws.take i))), v]) ⟨Same.refl _, none, rfl⟩ (fun i σ H' _ h => SqL.of (h.1 _ _ hl)) ?_ ?_⟩
    · rintro i y σ H' hi ⟨sm, v, rfl⟩
      obtain ⟨x, rfl, hx⟩ : ∃ x, y = woV x ∧ ws[i]? = some x := by
        rw [List.getElem?_map] at hi
        cases e : ws[i]? with
        | none => rw [e] at hi; cases hi
        | some u => rw [e] at hi; exact ⟨u, (Option.some.inj hi).symm, rfl⟩
      refine ⟨_, rfl, _, rfl, _, _, rfl, fun H2 sm2 => ⟨sm.trans sm2, some (woV x), ?_⟩⟩
      rw [joinW_take hx]
      rfl
    · rintro σ H' ⟨sm, v, rfl⟩
      refine ⟨_, rfl, ?_⟩
      rw [List.length_map, List.take_length]
      exact q H' sm
theorem scThrowing : FnScope ["words", "word"] ["words"] (defScope s_throwing) := ⟨rfl, rfl, rfl, by decide +kernel, rfl, by decide +kernel, by decide +kernel⟩
theorem ok_throwing (F : Df K mg "throwing" s_throwing) (mQ : GStr mg "QUIET" "quiet") (mF : GStr mg "FREE" "free") (U : Use P w K mg base "in_turn" ["words"] 2 (spRule K (fun _ => True) joinW)) : Use P w K mg base "throwing" ["words"] 3 (spRule K (fun _ => True) fun ws => soft (joinW ws)) := by
  refine F.use scThrowing (fun _ _ _ _ _ _ us hl => match us, hl with | [_], _ => rfl) (fun vs H Q E h => ?_) (fun cdv f A outer s H vs Q E hr h => ?_)
  · obtain ⟨l, ws, rfl, _⟩ := h
    rfl
  · obtain ⟨l, ws, rfl, hl, _, q⟩ := h
    obtain ⟨tQ, mQ⟩ := mQ
    obtain ⟨tF, mF⟩ := mF
    refine ⟨_, pss_cons (ps_set (i := 1) scThrowing.nd rfl (Or.inl rfl) (pe_use U hr (pa_cons (pv 0) pa_nil)))
      (pss_one (ps_ret (pe_ifExp (pt_cmpR op_eq (pv 1) (pe_glob (v := .str "quiet") (by rfl) mQ ⟨_, rfl⟩) (nomark _)) (pe_glob (v := .str "free") (by rfl) mF ⟨_, rfl⟩) (pv 1)))), ?_⟩
    refine ⟨_, rfl, l, ws, rfl, hl, trivial, fun H1 sm1 => ?_⟩
    have q : Q (woV (soft (joinW ws))) H1 := q H1 sm1
    refine ⟨_, rfl, scal_woV _ _, _, rfl, ?_⟩
    rw [woV_quiet]
    refine ite2 (fun h => ?_) (fun h => ?_)
    · have e : soft (joinW ws) = some .free := if_pos (of_decide_eq_true h)
      rw [e] at q
      exact q
    · have e : soft (joinW ws) = joinW ws := if_neg (fun z => h (decide_eq_true z))
      rw [e] at q
      exact ⟨_, rfl, q⟩
def funW (ws : List (Option Wd)) : Option Wd := match ws with
  | [a] => if a = some .quiet ∨ a = some .free then some .quiet else none
  | _ => none
theorem scOf_fun : FnScope ["words"] ["words"] (defScope s_of_fun) := ⟨rfl, rfl, rfl, by decide +kernel, rfl, by decide +kernel, by decide +kernel⟩
theorem ok_of_fun (F : Df K mg "of_fun" s_of_fun) (mQ : GStr mg "QUIET" "quiet") (mF : GStr mg "FREE" "free") : Use P w K mg base "of_fun" ["words"] 1 (spRule K (fun ws => ws.length = 1) funW) := by
  refine F.use scOf_fun (fun _ _ _ _ _ _ us hl => match us, hl with | [_], _ => rfl) (fun vs H Q E h => ?_) (fun cdv f A outer s H vs Q E hr h => ?_)
  · obtain ⟨l, ws, rfl, _⟩ := h
    rfl
  · obtain ⟨l, ws, rfl, hl, h1, q⟩ := h
    obtain ⟨a, rfl⟩ : ∃ a, ws = [a] := by
      match ws, h1 with
      | [a], _ => exact ⟨a, rfl⟩
    obtain ⟨tQ, mQ⟩ := mQ
    obtain ⟨tF, mF⟩ := mF
    refine ⟨_, pss_one (ps_ret (pe_ifExp (pt_cmpR (r := rIn K false) op_in_seq (pe_ix ix_list (pv 0) pe_int (fun _ _ => rfl)) (pe_tup (pa_cons (pe_glob (v := .str "quiet") (by rfl) mQ ⟨_, rfl⟩) (pa_cons (pe_glob (v := .str "free") (by rfl) mF ⟨_, rfl⟩) pa_nil))) rfl) (pe_glob (v := .str "quiet") (by rfl) mQ ⟨_, rfl⟩) pe_non)), ?_⟩
    refine ⟨_, rfl, l, _, _, woV a, rfl, rfl, SqL.of hl, atI_nat (j := 0) rfl, (by show 2 ≤ sizeLine; decide), fun p np => ?_⟩
    have q := q _ (Same.new np (.tup [.str "quiet", .str "free"]))
    refine ⟨p, _, rfl, .inr (SqT.of upd_same), flat_woV a, rfl, _, rfl, ?_⟩
    rw [show (if false = true then !inV (woV a) [V.str "quiet", V.str "free"] else inV (woV a) [V.str "quiet", V.str "free"]) = decide (a = some .quiet ∨ a = some .free) from by rw [← in_qf]; rfl]
    refine ite2 (fun hb => ?_) (fun hb => ?_)
    · have e : funW [a] = some .quiet := if_pos (of_decide_eq_true hb)
      rw [e] at q
      exact q
    · have e : funW [a] = none := if_neg (fun z => hb (decide_eq_true z))
      rw [e] at q
      exact q
def ifW (ws : List (Option Wd)) : Option Wd := match ws with
  | [a, b, c] => joinW [a, mxW b c]
  | _ => none
def Wd.ix : Wd → Nat
  | .quiet => 0
  | .free => 1
  | .used => 2
theorem wd_first (a : Wd) : (["quiet", "free", "used"] : List Str)[a.ix]? = some a.s ∧ ∀ m, m < a.ix → (["quiet", "free", "used"] : List Str)[m]? ≠ some a.s := by
  cases a with
  | quiet => exact ⟨rfl, fun m hm => absurd hm (by simp [Wd.ix])⟩
  | free => exact ⟨rfl, fun m hm => by
      have : m = 0 := by simp [Wd.ix] at hm; exact hm
      subst this; decide +kernel⟩
  | used => exact ⟨rfl, fun m hm => by
      have : m = 0 ∨ m = 1 := by simp [Wd.ix] at hm; omega
      rcases this with rfl | rfl <;> decide +kernel⟩
theorem wd_max (a b : Wd) : ∃ c, mxW (some a) (some b) = some c ∧ ((c.ix : Nat) : Int) = if ((b.ix : Nat) : Int) > ((a.ix : Nat) : Int) then ((b.ix : Nat) : Int) else ((a.ix : Nat) : Int) := by
  cases a <;> cases b <;> exact ⟨_, rfl, by decide⟩
theorem scOf_if : FnScope ["words"] ["words"] (defScope s_of_if) := ⟨rfl, rfl, rfl, by decide +kernel, rfl, by decide +kernel, by decide +kernel⟩
theorem ok_of_if {ra : Addr} (F : Df K mg "of_if" s_of_if) (mR : mg "RISING" = some (.ref ra)) (hR : TupD K ra ((["quiet", "free", "used"] : List Str).map V.str)) (max' : mg "max" = none) (U : Use P w K mg base "behind" ["word", "other"] 1 spBehind) : Use P w K mg base "of_if" ["words"] 2 (spRule K (fun ws => ws.length = 3) ifW) := by
  refine F.use scOf_if (fun _ _ _ _ _ _ us hl => match us, hl with | [_], _ => rfl) (fun vs H Q E h => ?_) (fun cdv f A outer s H vs Q E hr h => ?_)
  · obtain ⟨l, ws, rfl, _⟩ := h
    rfl
  · obtain ⟨l, ws, rfl, hl, h1, q⟩ := h
    obtain ⟨a, b, c, rfl⟩ : ∃ a b c, ws = [a, b, c] := by
      match ws, h1 with
      | [a, b, c], _ => exact ⟨a, b, c, rfl⟩
    refine ⟨_, pss_cons (ps_if (PW.pt (pw_or (pt_cmpR op_isN (pe_ix ix_list (pv 0) pe_int (fun _ _ => rfl)) pe_non (nomark _)) (pw_or1 (pt_cmpR op_isN (pe_ix ix_list (pv 0) pe_int (fun _ _ => rfl)) pe_non (nomark _))))) (pss_one (ps_ret pe_non)) pss_nil)
      (pss_one (ps_ret (pe_use U hr (pa_cons (pe_ix ix_list (pv 0) pe_int (fun _ _ => rfl)) (pa_cons (pe_ix ix_tup (pe_glob (v := .ref ra) (by rfl) mR rfl)
        (pe_callB (call_max2 rfl) (by rfl) max' (by decide +kernel) (pa_cons (pe_bm PySem.F.plainAttrs_tuple PySem.F.slot_tuple_index PySem.F.type_tuple_index mt_tup_index (pe_glob (v := .ref ra) (by rfl) mR rfl) (pa_cons (pe_ix ix_list (pv 0) pe_int (fun _ _ => rfl)) pa_nil))
          (pa_cons (pe_bm PySem.F.plainAttrs_tuple PySem.F.slot_tuple_index PySem.F.type_tuple_index mt_tup_index (pe_glob (v := .ref ra) (by rfl) mR rfl) (pa_cons (pe_ix ix_list (pv 0) pe_int (fun _ _ => rfl)) pa_nil)) pa_nil))) (fun _ _ => rfl)) pa_nil))))), ?_⟩
    have lk : ∀ (j : Nat) (x : Option Wd), ([a, b, c].map woV)[j]? = some (woV x) → atI ([a, b, c].map woV) (j : Int) = some (woV x) := fun j x h => atI_nat h
    have q0 := q H (Same.refl _)
    refine ⟨_, rfl, l, _, _, woV b, rfl, rfl, SqL.of hl, lk 1 b rfl, rfl, _, rfl, ?_⟩
    rw [woV_none]
    cases b with
    | none =>
      refine iteT (iteT ?_)
      have e : ifW [a, none, c] = none := by cases a with | none => rfl | some a => cases a <;> rfl
      rw [e] at q0
      exact q0
    | some b =>
      refine iteF ⟨_, rfl, l, _, _, woV c, rfl, rfl, SqL.of hl, lk 2 c rfl, rfl, _, rfl, ?_⟩
      rw [woV_none]
      cases c with
      | none =>
        refine iteT ?_
        have e : ifW [a, some b, none] = none := by cases a with | none => rfl | some a => cases a <;> cases b <;> rfl
        rw [e] at q0
        exact q0
      | some c =>
        refine iteF ?_
        obtain ⟨m, em, ei⟩ := wd_max b c
        obtain ⟨b1, b2⟩ := wd_first b
        obtain ⟨c1, c2⟩ := wd_first c
        obtain ⟨m1, m2⟩ := wd_first m
        refine ⟨_, rfl, l, _, _, woV a, rfl, rfl, SqL.of hl, lk 0 a rfl, hR.ty _, _, rfl, l, _, _, woV (some b), rfl, rfl, SqL.of hl, lk 1 _ rfl, ra, _, b.s, b.ix, rfl, rfl, hR.k.seq _, b1, b2, hR.ty _, _, rfl, l, _, _, woV (some c), rfl, rfl, SqL.of hl, lk 2 _ rfl, ra, _, c.s, c.ix, rfl, rfl, hR.k.seq _, c1, c2,
          _, _, rfl, ra, _, _, woV (some m), rfl, rfl, hR.k.seq _, ?_, a, some m, rfl, fun H1 sm1 => ?_⟩
        · rw [← ei]
          refine atI_nat ?_
          rw [List.getElem?_map, m1]
          rfl
        · have q1 := q H1 sm1
          have e : ifW [a, some b, some c] = joinS a (some m) := by
            show joinS (joinS (some .quiet) a) (mxW (some b) (some c)) = _
            rw [em]
            cases a <;> rfl
          rw [e] at q1
          exact q1
def catW (ws : List (Option Wd)) : Option Wd := match ws with
  | [a, b] => if (b = some .quiet ∨ b = some .free) ∧ a ≠ none then (if a = some .quiet then some .free else a) else none
  | _ => none
theorem scOf_catch : FnScope ["words", "body", "handler"] ["words"] (defScope s_of_catch) := ⟨rfl, rfl, rfl, by decide +kernel, rfl, by decide +kernel, by decide +kernel⟩
theorem ok_of_catch (F : Df K mg "of_catch" s_of_catch) (mQ : GStr mg "QUIET" "quiet") (mF : GStr mg "FREE" "free") : Use P w K mg base "of_catch" ["words"] 1 (spRule K (fun ws => ws.length = 2) catW) := by
  refine F.use scOf_catch (fun _ _ _ _ _ _ us hl => match us, hl with | [_], _ => rfl) (fun vs H Q E h => ?_) (fun cdv f A outer s H vs Q E hr h => ?_)
  · obtain ⟨l, ws, rfl, _⟩ := h
    rfl
  · obtain ⟨l, ws, rfl, hl, h1, q⟩ := h
    obtain ⟨a, b, rfl⟩ : ∃ a b, ws = [a, b] := by
      match ws, h1 with
      | [a, b], _ => exact ⟨a, b, rfl⟩
    obtain ⟨tQ, mQ⟩ := mQ
    obtain ⟨tF, mF⟩ := mF
    refine ⟨_, pss_cons (ps_asg (pv 0) (pg_lst rfl (pgs_cons (pg_name (i := 1) scOf_catch.nd rfl (Or.inl rfl)) (pgs_cons (pg_name (i := 2) scOf_catch.nd rfl (Or.inl rfl)) pgs_nil))))
      (pss_cons (ps_if (pt_cmpR (r := rIn K true) op_notIn_seq (pv 2) (pe_tup (pa_cons (pe_glob (v := .str "quiet") (by rfl) mQ ⟨_, rfl⟩) (pa_cons (pe_glob (v := .str "free") (by rfl) mF ⟨_, rfl⟩) pa_nil))) rfl) (pss_one (ps_ret pe_non)) pss_nil)
      (pss_one (ps_ret (pe_ifExp (pt_cmpR op_eq (pv 1) (pe_glob (v := .str "quiet") (by rfl) mQ ⟨_, rfl⟩) (nomark _)) (pe_glob (v := .str "free") (by rfl) mF ⟨_, rfl⟩) (pv 1))))), ?_⟩
    refine ⟨_, rfl, l, _, rfl, SqL.of hl, rfl, _, _, rfl, _, _, rfl, rfl, ?_⟩
    refine ⟨_, rfl, (by show 2 ≤ sizeLine; decide), fun p np => ?_⟩
    have q := q _ (Same.new np (.tup [.str "quiet", .str "free"]))
    refine ⟨p, _, rfl, .inr (SqT.of upd_same), flat_woV b, rfl, _, rfl, ?_⟩
    rw [show (if true = true then !inV (woV b) [V.str "quiet", V.str "free"] else inV (woV b) [V.str "quiet", V.str "free"]) = !decide (b = some .quiet ∨ b = some .free) from by rw [← in_qf]; rfl]
    by_cases hb : b = some .quiet ∨ b = some .free
    · rw [decide_eq_true hb]
      refine iteF ⟨_, rfl, scal_woV a _, _, rfl, ?_⟩
      rw [woV_quiet]
      refine ite2 (fun h => ?_) (fun h => ?_)
      · have h := of_decide_eq_true h
        subst h
        have e : catW [some .quiet, b] = some .free := by
          show (if (b = some .quiet ∨ b = some .free) ∧ (some Wd.quiet) ≠ none then (if (some Wd.quiet) = some Wd.quiet then some Wd.free else some .quiet) else none) = _
          rw [if_pos ⟨hb, fun z => nomatch z⟩, if_pos rfl]
        rw [e] at q
        exact q
      · have h : a ≠ some .quiet := fun z => h (decide_eq_true z)
        have e : catW [a, b] = a := by
          show (if (b = some .quiet ∨ b = some .free) ∧ a ≠ none then (if a = some Wd.quiet then some Wd.free else a) else none) = _
          by_cases ha : a = none
          · rw [if_neg (fun z => z.2 ha), ha]
          · rw [if_pos ⟨hb, ha⟩, if_neg h]
        rw [e] at q
        exact ⟨_, rfl, q⟩
    · rw [decide_eq_false hb]
      refine iteT ?_
      have e : catW [a, b] = none := if_neg (fun z => hb z.1)
      rw [e] at q
      exact q
end
end Wr
set_option maxHeartbeats 0
namespace H14
open PySem PySem.Spec PyProof.Rows L2 Wr
def adrs0 : List Addr := [mainGlobals, 6, 4, 24, 46, 67, 70, 71, 89, 110, 145, 154, 159, 166, 173, 178, 185, 186, 193, 200, 207, 214, 221, 228, 229, 236, 243, 248, 255, 262, 267, 274, 281, 288, 295, 302, 307, 314, 321, 328]
def adrs1 : List Addr := [335, 342, 349, 356, 361, 366, 373, 380, 387, 392, 399, 406, 411, 418, 425, 430, 437, 444, 0, 23, 45, 66, 88, 109, 144, 153, 158, 165, 172, 177, 184, 192, 199, 206, 213, 220, 227, 235, 242, 247]
def adrs2 : List Addr := [254, 261, 266, 273, 280, 287, 294, 301, 306, 313, 320, 327, 334, 341, 348, 355, 360, 365, 372, 379, 386, 391, 398, 405, 410, 417, 424, 429, 436, 443, 22, 25, 43, 44, 64, 65, 86, 87, 90, 91]
def adrs3 : List Addr := [107, 108, 111, 112, 128, 135, 142, 143, 146, 147, 150, 151, 152, 155, 156, 157, 160, 161, 162, 163, 164, 167, 168, 169, 170, 171, 174, 175, 176, 179, 180, 181, 182, 183, 187, 188, 189, 190, 191, 194]
def adrs4 : List Addr := [195, 196, 197, 198, 201, 202, 203, 204, 205, 208, 209, 210, 211, 212, 215, 216, 217, 218, 219, 222, 223, 224, 225, 226, 230, 231, 232, 233, 234, 237, 238, 239, 240, 241, 244, 245, 246, 249, 250, 251]
def adrs5 : List Addr := [252, 253, 256, 257, 258, 259, 260, 263, 264, 265, 268, 269, 270, 271, 272, 275, 276, 277, 278, 279, 282, 283, 284, 285, 286, 289, 290, 291, 292, 293, 296, 297, 298, 299, 300, 303, 304, 305, 308, 309]
def adrs6 : List Addr := [310, 311, 312, 315, 316, 317, 318, 319, 322, 323, 324, 325, 326, 329, 330, 331, 332, 333, 336, 337, 338, 339, 340, 343, 344, 345, 346, 347, 350, 351, 352, 353, 354, 357, 358, 359, 362, 363, 364, 367]
def adrs7 : List Addr := [368, 369, 370, 371, 374, 375, 376, 377, 378, 381, 382, 383, 384, 385, 388, 389, 390, 393, 394, 395, 396, 397, 400, 401, 402, 403, 404, 407, 408, 409, 412, 413, 414, 415, 416, 419, 420, 421, 422, 423]
def adrs8 : List Addr := [426, 427, 428, 431, 432, 433, 434, 435, 438, 439, 440, 441, 442, 42, 31, 63, 52, 85, 106, 127, 134, 141]
def adrs : List Addr := adrs0 ++ adrs1 ++ adrs2 ++ adrs3 ++ adrs4 ++ adrs5 ++ adrs6 ++ adrs7 ++ adrs8
def d_Part_init : He.DefD := ⟨("Part", some "__init__"), "__init__", "Part.__init__", defArgs s_Part_init, defBody s_Part_init, defScope s_Part_init, [], []⟩
def d_Tree_init : He.DefD := ⟨("Tree", some "__init__"), "__init__", "Tree.__init__", defArgs s_Tree_init, defBody s_Tree_init, defScope s_Tree_init, [], []⟩
def d_Reader_init : He.DefD := ⟨("Reader", some "__init__"), "__init__", "Reader.__init__", defArgs s_Reader_init, defBody s_Reader_init, defScope s_Reader_init, [], []⟩
def d_Reader_part_of : He.DefD := ⟨("Reader", some "part_of"), "part_of", "Reader.part_of", defArgs s_Reader_part_of, defBody s_Reader_part_of, defScope s_Reader_part_of, [], []⟩
def d_Reader_parts_of : He.DefD := ⟨("Reader", some "parts_of"), "parts_of", "Reader.parts_of", defArgs s_Reader_parts_of, defBody s_Reader_parts_of, defScope s_Reader_parts_of, [], []⟩
def d_why_not : He.DefD := ⟨("why_not", none), "why_not", "why_not", defArgs s_why_not, defBody s_why_not, defScope s_why_not, [], []⟩
def d_has_shape : He.DefD := ⟨("has_shape", none), "has_shape", "has_shape", defArgs s_has_shape, defBody s_has_shape, defScope s_has_shape, [], []⟩
def d_fits : He.DefD := ⟨("fits", none), "fits", "fits", defArgs s_fits, defBody s_fits, defScope s_fits, [], []⟩
def d_is_whole : He.DefD := ⟨("is_whole", none), "is_whole", "is_whole", defArgs s_is_whole, defBody s_is_whole, defScope s_is_whole, [], []⟩
def d_standing : He.DefD := ⟨("standing", none), "standing", "standing", defArgs s_standing, defBody s_standing, defScope s_standing, [], []⟩
def d_tree_of : He.DefD := ⟨("tree_of", none), "tree_of", "tree_of", defArgs s_tree_of, defBody s_tree_of, defScope s_tree_of, [], []⟩
def d_behind : He.DefD := ⟨("behind", none), "behind", "behind", defArgs s_behind, defBody s_behind, defScope s_behind, [], []⟩
def d_in_turn : He.DefD := ⟨("in_turn", none), "in_turn", "in_turn", defArgs s_in_turn, defBody s_in_turn, defScope s_in_turn, [], []⟩
def d_throwing : He.DefD := ⟨("throwing", none), "throwing", "throwing", defArgs s_throwing, defBody s_throwing, defScope s_throwing, [], []⟩
def d_of_fun : He.DefD := ⟨("of_fun", none), "of_fun", "of_fun", defArgs s_of_fun, defBody s_of_fun, defScope s_of_fun, [], []⟩
def d_of_if : He.DefD := ⟨("of_if", none), "of_if", "of_if", defArgs s_of_if, defBody s_of_if, defScope s_of_if, [], []⟩
def d_of_catch : He.DefD := ⟨("of_catch", none), "of_catch", "of_catch", defArgs s_of_catch, defBody s_of_catch, defScope s_of_catch, [], []⟩
def d_names_rest : He.DefD := ⟨("names_rest", none), "names_rest", "names_rest", defArgs s_names_rest, defBody s_names_rest, defScope s_names_rest, [], []⟩
def d_word_of : He.DefD := ⟨("word_of", none), "word_of", "word_of", defArgs s_word_of, defBody s_word_of, defScope s_word_of, [], []⟩
def d_paper_of : He.DefD := ⟨("paper_of", none), "paper_of", "paper_of", defArgs s_paper_of, defBody s_paper_of, defScope s_paper_of, [], []⟩
def d_catches_within : He.DefD := ⟨("catches_within", none), "catches_within", "catches_within", defArgs s_catches_within, defBody s_catches_within, defScope s_catches_within, [], []⟩
def d_handler_paper : He.DefD := ⟨("handler_paper", none), "handler_paper", "handler_paper", defArgs s_handler_paper, defBody s_handler_paper, defScope s_handler_paper, [], []⟩
def d_papers_of : He.DefD := ⟨("papers_of", none), "papers_of", "papers_of", defArgs s_papers_of, defBody s_papers_of, defScope s_papers_of, [], []⟩
def d_papers : He.DefD := ⟨("papers", none), "papers", "papers", defArgs s_papers, defBody s_papers, defScope s_papers, [], []⟩
def d_shows : He.DefD := ⟨("shows", none), "shows", "shows", defArgs s_shows, defBody s_shows, defScope s_shows, [], []⟩
def d_L_dice : He.DefD := ⟨("_law_dice", none), "_law_dice", "_law_dice", defArgs s_L_dice, defBody s_L_dice, defScope s_L_dice, [], []⟩
def d_L_next : He.DefD := ⟨("_law_next", none), "_law_next", "_law_next", defArgs s_L_next, defBody s_L_next, defScope s_L_next, [], []⟩
def d_L_like : He.DefD := ⟨("_law_like", none), "_law_like", "_law_like", defArgs s_L_like, defBody s_L_like, defScope s_L_like, [], []⟩
def d_L_name : He.DefD := ⟨("_law_name", none), "_law_name", "_law_name", defArgs s_L_name, defBody s_L_name, defScope s_L_name, [], []⟩
def d_L_leaf : He.DefD := ⟨("_law_leaf", none), "_law_leaf", "_law_leaf", defArgs s_L_leaf, defBody s_L_leaf, defScope s_L_leaf, [], []⟩
def d_L_with : He.DefD := ⟨("_law_with", none), "_law_with", "_law_with", defArgs s_L_with, defBody s_L_with, defScope s_L_with, [], []⟩
def d_L_free : He.DefD := ⟨("_law_free", none), "_law_free", "_law_free", defArgs s_L_free, defBody s_L_free, defScope s_L_free, [], []⟩
def d_L_expr : He.DefD := ⟨("_law_expr", none), "_law_expr", "_law_expr", defArgs s_L_expr, defBody s_L_expr, defScope s_L_expr, [], []⟩
def d_L_let : He.DefD := ⟨("_law_let", none), "_law_let", "_law_let", defArgs s_L_let, defBody s_L_let, defScope s_L_let, [], []⟩
def d_L_use : He.DefD := ⟨("_law_use", none), "_law_use", "_law_use", defArgs s_L_use, defBody s_L_use, defScope s_L_use, [], []⟩
def d_L_catch : He.DefD := ⟨("_law_catch", none), "_law_catch", "_law_catch", defArgs s_L_catch, defBody s_L_catch, defScope s_L_catch, [], []⟩
def d_L_size : He.DefD := ⟨("_law_size", none), "_law_size", "_law_size", defArgs s_L_size, defBody s_L_size, defScope s_L_size, [], []⟩
def d_L_deep : He.DefD := ⟨("_law_deep", none), "_law_deep", "_law_deep", defArgs s_L_deep, defBody s_L_deep, defScope s_L_deep, [], []⟩
def d_L_program : He.DefD := ⟨("_law_program", none), "_law_program", "_law_program", defArgs s_L_program, defBody s_L_program, defScope s_L_program, [], []⟩
def d_L_loop : He.DefD := ⟨("_law_loop", none), "_law_loop", "_law_loop", defArgs s_L_loop, defBody s_L_loop, defScope s_L_loop, [], []⟩
def d_L_again : He.DefD := ⟨("_law_again", none), "_law_again", "_law_again", defArgs s_L_again, defBody s_L_again, defScope s_L_again, [], []⟩
def d_L_long : He.DefD := ⟨("_law_long", none), "_law_long", "_law_long", defArgs s_L_long, defBody s_L_long, defScope s_L_long, [], []⟩
def d_L_any : He.DefD := ⟨("_law_any", none), "_law_any", "_law_any", defArgs s_L_any, defBody s_L_any, defScope s_L_any, [], []⟩
def d_L_join : He.DefD := ⟨("_law_join", none), "_law_join", "_law_join", defArgs s_L_join, defBody s_L_join, defScope s_L_join, [], []⟩
def d_L_paper : He.DefD := ⟨("_law_paper", none), "_law_paper", "_law_paper", defArgs s_L_paper, defBody s_L_paper, defScope s_L_paper, [], []⟩
def d_L_catches : He.DefD := ⟨("_law_catches", none), "_law_catches", "_law_catches", defArgs s_L_catches, defBody s_L_catches, defScope s_L_catches, [], []⟩
def d_L_papers : He.DefD := ⟨("_law_papers", none), "_law_papers", "_law_papers", defArgs s_L_papers, defBody s_L_papers, defScope s_L_papers, [], []⟩
def d_L_handled : He.DefD := ⟨("_law_handled", none), "_law_handled", "_law_handled", defArgs s_L_handled, defBody s_L_handled, defScope s_L_handled, [], []⟩
def d_L_tall : He.DefD := ⟨("_law_tall", none), "_law_tall", "_law_tall", defArgs s_L_tall, defBody s_L_tall, defScope s_L_tall, [], []⟩
def d_law : He.DefD := ⟨("law", none), "law", "law", defArgs s_law, defBody s_law, defScope s_law, [], []⟩
def fn0 : List He.DefD := [d_Part_init, d_Tree_init, d_Reader_init, d_Reader_part_of, d_Reader_parts_of, d_why_not, d_has_shape, d_fits, d_is_whole, d_standing, d_tree_of, d_behind, d_in_turn, d_throwing, d_of_fun, d_of_if, d_of_catch, d_names_rest, d_word_of, d_paper_of, d_catches_within, d_handler_paper, d_papers_of, d_papers, d_shows, d_L_dice, d_L_next, d_L_like, d_L_name, d_L_leaf]
def fn1 : List He.DefD := [d_L_with, d_L_free, d_L_expr, d_L_let, d_L_use, d_L_catch, d_L_size, d_L_deep, d_L_program, d_L_loop, d_L_again, d_L_long, d_L_any, d_L_join, d_L_paper, d_L_catches, d_L_papers, d_L_handled, d_L_tall, d_law]
def fn : List He.DefD := fn0 ++ fn1
def kv_SHAPES : List (Str × He.Dv) := [("num", .str "n"), ("name", .str "x"), ("add", .str "ee"), ("take", .str "ee"), ("less", .str "ee"), ("if", .str "eee"), ("let", .str "xee"), ("fun", .str "xe"), ("call", .str "ee"), ("say", .str "e"), ("box", .str "e"), ("look", .str "e"), ("put", .str "ee"), ("catch", .str "exxe"), ("throw", .str "e"), ("go", .str "ee"), ("drop", .str "e"), ("last", .str "ee"), ("else", .str "ee"), ("fault", .str "")]
def kv_RULES : List (Str × He.Dv) := [("call", .glo "throwing"), ("throw", .glo "throwing"), ("go", .glo "throwing"), ("drop", .glo "throwing"), ("fun", .glo "of_fun"), ("if", .glo "of_if"), ("catch", .glo "of_catch")]
def fa0 : List He.Fa := [.mkr "Part", .glo "Part", .mkr "Tree", .glo "Tree", .mkr "Reader", .glo "Reader", .meth "Reader" "part_of", .meth "Reader" "parts_of", .glo "why_not", .glo "has_shape", .glo "fits", .glo "is_whole", .glo "standing", .glo "tree_of", .glo "behind", .glo "in_turn", .glo "throwing", .glo "of_fun", .glo "of_if", .glo "of_catch", .glo "names_rest", .glo "word_of", .glo "paper_of", .glo "catches_within", .glo "handler_paper", .glo "papers_of", .glo "papers", .glo "shows", .glo "_law_dice", .glo "_law_next"]
def fa1 : List He.Fa := [.glo "_law_like", .glo "_law_name", .glo "_law_leaf", .glo "_law_with", .glo "_law_free", .glo "_law_expr", .glo "_law_let", .glo "_law_use", .glo "_law_catch", .glo "_law_size", .glo "_law_deep", .glo "_law_program", .glo "_law_loop", .glo "_law_again", .glo "_law_long", .glo "_law_any", .glo "_law_join", .glo "_law_paper", .glo "_law_catches", .glo "_law_papers", .glo "_law_handled", .glo "_law_tall", .glo "law", .free "ValueError", .free "abs", .free "all", .free "bool", .free "dict", .free "enumerate", .free "int"]
def fa2 : List He.Fa := [.free "isinstance", .free "len", .free "list", .free "max", .free "min", .free "range", .free "set", .free "sorted", .free "str", .free "sum", .free "super", .free "tuple", .free "zip", .cls "Part", .noat "Part" "word", .noat "Part" "turn", .noat "Part" "number", .noat "Part" "names", .noat "Part" "within", .cls "Tree", .noat "Tree" "top", .noat "Tree" "size", .noat "Tree" "turns", .cls "Reader", .noat "Reader" "size", .noat "Reader" "turns", .int "MOST_PARTS" 200, .int "MOST_AROUND" 40, .int "MOST_NUMBER" 1000000, .glo "NAMES"]
def fa3 : List He.Fa := [.glo "SHAPES", .str "QUIET" "quiet", .str "FREE" "free", .str "USED" "used", .glo "RISING", .glo "RULES"]
def fa : List He.Fa := fa0 ++ fa1 ++ fa2 ++ fa3
def ex0 : List (PySem.W.Frag → Bool) := [(fun K => tupDB K "NAMES" [.str "a", .str "b", .str "c", .str "d", .str "e", .str "f", .str "g", .str "h"]), (fun K => He.valsB K (He.ga K "SHAPES") kv_SHAPES), (fun K => tupDB K "RISING" [.str "quiet", .str "free", .str "used"]), (fun K => He.valsB K (He.ga K "RULES") kv_RULES), (fun K => noneB K "RULES" ["num", "name", "add", "take", "less", "let", "say", "box", "look", "put", "last", "else", "fault"])]
def ex : List (PySem.W.Frag → Bool) := ex0
def ts0 : List He.Tab := [(fun K => He.ga K "SHAPES", ["num", "name", "add", "take", "less", "if", "let", "fun", "call", "say", "box", "look", "put", "catch", "throw", "go", "drop", "last", "else", "fault"]), (fun K => He.ga K "RULES", ["call", "throw", "go", "drop", "fun", "if", "catch"])]
def ts : List He.Tab := ts0
def names0 : List PySem.Str := ["RestError", "BadProgram", "BadPapers", "MOST_PARTS", "MOST_AROUND", "MOST_NUMBER", "NAMES", "SHAPES", "Part", "Tree", "Reader", "why_not", "has_shape", "fits", "is_whole", "standing", "tree_of", "QUIET", "FREE", "USED", "RISING", "behind", "in_turn", "throwing", "of_fun", "of_if", "of_catch", "RULES", "names_rest", "word_of"]
def names1 : List PySem.Str := ["paper_of", "catches_within", "handler_paper", "papers_of", "papers", "shows", "_law_dice", "_law_next", "_law_like", "_law_name", "_law_leaf", "_law_with", "_law_free", "_law_expr", "_law_let", "_law_use", "_law_catch", "_law_size", "_law_deep", "_law_program", "_law_loop", "_law_again", "_law_long", "_law_any", "_law_join", "_law_paper", "_law_catches", "_law_papers", "_law_handled", "_law_tall"]
def names : List PySem.Str := names0 ++ names1
abbrev R : PySem.W.OpenRow := PySem.W.OpenLaw.row PySem.Challenge.rw_whatremains_k14_papers
def hk : PySem.W.Hook := hookX adrs fa fn ex ts
def ob (s : PySem.W.SharedT) : AlX := obsX fa fn ex ts (He.frG (HandSHeadRun.getT s) adrs)
theorem ob_eq (s : PySem.W.SharedT) : ob s = hk.obs s.abs := by
  have e : HandSHeadRun.getT s = s.abs.heap.get? := funext (HandSHeadRun.getT_eq s)
  show obsX fa fn ex ts (He.frG (HandSHeadRun.getT s) adrs) = obsX fa fn ex ts (He.frG s.abs.heap.get? adrs)
  rw [e]
theorem runF (w : World) : HandSHeadRun.RunEq R (PySem.W.view R.prog [64]) hk ob 20000 names (w.withFollow "special-get-raises" false) := by
  intro os
  kernel_rfl
theorem runT (w : World) : HandSHeadRun.RunEq R (PySem.W.view R.prog [64]) hk ob 20000 names (w.withFollow "special-get-raises" true) := by
  intro os
  kernel_rfl
theorem run (w : World) : HandSHeadRun.RunEq R (PySem.W.view R.prog [64]) hk ob 20000 names w := PySem.W.byRow2 "special-get-raises" runF runT w
section
variable {w : World} {K : PySem.W.Frag} {h : Heap} {mg : Str → Option Value}
theorem f_Part_init (X : K.In h) (G : h.Ns mainGlobals mg) (c : SaysX fa fn ex ts w K) : DfC K mg (He.ga K "Part") "Part" "Part.__init__" s_Part_init := by
  obtain ⟨fd, F⟩ := c.d.def_ 0 (d := d_Part_init) rfl
  exact ⟨_, fd, F, He.mkr_ok (c.d.fact 0 (f := .mkr "Part") rfl), He.glo_ok X G (c.d.fact 1 (f := .glo "Part") rfl)⟩
theorem f_Tree_init (X : K.In h) (G : h.Ns mainGlobals mg) (c : SaysX fa fn ex ts w K) : DfC K mg (He.ga K "Tree") "Tree" "Tree.__init__" s_Tree_init := by
  obtain ⟨fd, F⟩ := c.d.def_ 1 (d := d_Tree_init) rfl
  exact ⟨_, fd, F, He.mkr_ok (c.d.fact 2 (f := .mkr "Tree") rfl), He.glo_ok X G (c.d.fact 3 (f := .glo "Tree") rfl)⟩
theorem f_Reader_init (X : K.In h) (G : h.Ns mainGlobals mg) (c : SaysX fa fn ex ts w K) : DfC K mg (He.ga K "Reader") "Reader" "Reader.__init__" s_Reader_init := by
  obtain ⟨fd, F⟩ := c.d.def_ 2 (d := d_Reader_init) rfl
  exact ⟨_, fd, F, He.mkr_ok (c.d.fact 4 (f := .mkr "Reader") rfl), He.glo_ok X G (c.d.fact 5 (f := .glo "Reader") rfl)⟩
theorem f_Reader_part_of (X : K.In h) (G : h.Ns mainGlobals mg) (c : SaysX fa fn ex ts w K) : DfM K (He.ga K "Reader") "Reader.part_of" "part_of" s_Reader_part_of := by
  obtain ⟨fd, F⟩ := c.d.def_ 3 (d := d_Reader_part_of) rfl
  exact ⟨_, fd, F, He.meth_ok (c.d.fact 6 (f := .meth "Reader" "part_of") rfl)⟩
theorem f_Reader_parts_of (X : K.In h) (G : h.Ns mainGlobals mg) (c : SaysX fa fn ex ts w K) : DfM K (He.ga K "Reader") "Reader.parts_of" "parts_of" s_Reader_parts_of := by
  obtain ⟨fd, F⟩ := c.d.def_ 4 (d := d_Reader_parts_of) rfl
  exact ⟨_, fd, F, He.meth_ok (c.d.fact 7 (f := .meth "Reader" "parts_of") rfl)⟩
theorem f_why_not (X : K.In h) (G : h.Ns mainGlobals mg) (c : SaysX fa fn ex ts w K) : Df K mg "why_not" s_why_not := by
  obtain ⟨fd, F⟩ := c.d.def_ 5 (d := d_why_not) rfl
  exact ⟨_, fd, F, He.glo_ok X G (c.d.fact 8 (f := .glo "why_not") rfl)⟩
theorem ga_why_not (X : K.In h) (G : h.Ns mainGlobals mg) (c : SaysX fa fn ex ts w K) : mg "why_not" = some (.ref (He.ga K "why_not")) := He.glo_ok X G (c.d.fact 8 (f := .glo "why_not") rfl)
theorem f_has_shape (X : K.In h) (G : h.Ns mainGlobals mg) (c : SaysX fa fn ex ts w K) : Df K mg "has_shape" s_has_shape := by
  obtain ⟨fd, F⟩ := c.d.def_ 6 (d := d_has_shape) rfl
  exact ⟨_, fd, F, He.glo_ok X G (c.d.fact 9 (f := .glo "has_shape") rfl)⟩
theorem ga_has_shape (X : K.In h) (G : h.Ns mainGlobals mg) (c : SaysX fa fn ex ts w K) : mg "has_shape" = some (.ref (He.ga K "has_shape")) := He.glo_ok X G (c.d.fact 9 (f := .glo "has_shape") rfl)
theorem f_fits (X : K.In h) (G : h.Ns mainGlobals mg) (c : SaysX fa fn ex ts w K) : Df K mg "fits" s_fits := by
  obtain ⟨fd, F⟩ := c.d.def_ 7 (d := d_fits) rfl
  exact ⟨_, fd, F, He.glo_ok X G (c.d.fact 10 (f := .glo "fits") rfl)⟩
theorem ga_fits (X : K.In h) (G : h.Ns mainGlobals mg) (c : SaysX fa fn ex ts w K) : mg "fits" = some (.ref (He.ga K "fits")) := He.glo_ok X G (c.d.fact 10 (f := .glo "fits") rfl)
theorem f_is_whole (X : K.In h) (G : h.Ns mainGlobals mg) (c : SaysX fa fn ex ts w K) : Df K mg "is_whole" s_is_whole := by
  obtain ⟨fd, F⟩ := c.d.def_ 8 (d := d_is_whole) rfl
  exact ⟨_, fd, F, He.glo_ok X G (c.d.fact 11 (f := .glo "is_whole") rfl)⟩
theorem ga_is_whole (X : K.In h) (G : h.Ns mainGlobals mg) (c : SaysX fa fn ex ts w K) : mg "is_whole" = some (.ref (He.ga K "is_whole")) := He.glo_ok X G (c.d.fact 11 (f := .glo "is_whole") rfl)
theorem f_standing (X : K.In h) (G : h.Ns mainGlobals mg) (c : SaysX fa fn ex ts w K) : Df K mg "standing" s_standing := by
  obtain ⟨fd, F⟩ := c.d.def_ 9 (d := d_standing) rfl
  exact ⟨_, fd, F, He.glo_ok X G (c.d.fact 12 (f := .glo "standing") rfl)⟩
theorem ga_standing (X : K.In h) (G : h.Ns mainGlobals mg) (c : SaysX fa fn ex ts w K) : mg "standing" = some (.ref (He.ga K "standing")) := He.glo_ok X G (c.d.fact 12 (f := .glo "standing") rfl)
theorem f_tree_of (X : K.In h) (G : h.Ns mainGlobals mg) (c : SaysX fa fn ex ts w K) : Df K mg "tree_of" s_tree_of := by
  obtain ⟨fd, F⟩ := c.d.def_ 10 (d := d_tree_of) rfl
  exact ⟨_, fd, F, He.glo_ok X G (c.d.fact 13 (f := .glo "tree_of") rfl)⟩
theorem ga_tree_of (X : K.In h) (G : h.Ns mainGlobals mg) (c : SaysX fa fn ex ts w K) : mg "tree_of" = some (.ref (He.ga K "tree_of")) := He.glo_ok X G (c.d.fact 13 (f := .glo "tree_of") rfl)
theorem f_behind (X : K.In h) (G : h.Ns mainGlobals mg) (c : SaysX fa fn ex ts w K) : Df K mg "behind" s_behind := by
  obtain ⟨fd, F⟩ := c.d.def_ 11 (d := d_behind) rfl
  exact ⟨_, fd, F, He.glo_ok X G (c.d.fact 14 (f := .glo "behind") rfl)⟩
theorem ga_behind (X : K.In h) (G : h.Ns mainGlobals mg) (c : SaysX fa fn ex ts w K) : mg "behind" = some (.ref (He.ga K "behind")) := He.glo_ok X G (c.d.fact 14 (f := .glo "behind") rfl)
theorem f_in_turn (X : K.In h) (G : h.Ns mainGlobals mg) (c : SaysX fa fn ex ts w K) : Df K mg "in_turn" s_in_turn := by
  obtain ⟨fd, F⟩ := c.d.def_ 12 (d := d_in_turn) rfl
  exact ⟨_, fd, F, He.glo_ok X G (c.d.fact 15 (f := .glo "in_turn") rfl)⟩
theorem ga_in_turn (X : K.In h) (G : h.Ns mainGlobals mg) (c : SaysX fa fn ex ts w K) : mg "in_turn" = some (.ref (He.ga K "in_turn")) := He.glo_ok X G (c.d.fact 15 (f := .glo "in_turn") rfl)
theorem f_throwing (X : K.In h) (G : h.Ns mainGlobals mg) (c : SaysX fa fn ex ts w K) : Df K mg "throwing" s_throwing := by
  obtain ⟨fd, F⟩ := c.d.def_ 13 (d := d_throwing) rfl
  exact ⟨_, fd, F, He.glo_ok X G (c.d.fact 16 (f := .glo "throwing") rfl)⟩
theorem ga_throwing (X : K.In h) (G : h.Ns mainGlobals mg) (c : SaysX fa fn ex ts w K) : mg "throwing" = some (.ref (He.ga K "throwing")) := He.glo_ok X G (c.d.fact 16 (f := .glo "throwing") rfl)
theorem f_of_fun (X : K.In h) (G : h.Ns mainGlobals mg) (c : SaysX fa fn ex ts w K) : Df K mg "of_fun" s_of_fun := by
  obtain ⟨fd, F⟩ := c.d.def_ 14 (d := d_of_fun) rfl
  exact ⟨_, fd, F, He.glo_ok X G (c.d.fact 17 (f := .glo "of_fun") rfl)⟩
theorem ga_of_fun (X : K.In h) (G : h.Ns mainGlobals mg) (c : SaysX fa fn ex ts w K) : mg "of_fun" = some (.ref (He.ga K "of_fun")) := He.glo_ok X G (c.d.fact 17 (f := .glo "of_fun") rfl)
theorem f_of_if (X : K.In h) (G : h.Ns mainGlobals mg) (c : SaysX fa fn ex ts w K) : Df K mg "of_if" s_of_if := by
  obtain ⟨fd, F⟩ := c.d.def_ 15 (d := d_of_if) rfl
  exact ⟨_, fd, F, He.glo_ok X G (c.d.fact 18 (f := .glo "of_if") rfl)⟩
theorem ga_of_if (X : K.In h) (G : h.Ns mainGlobals mg) (c : SaysX fa fn ex ts w K) : mg "of_if" = some (.ref (He.ga K "of_if")) := He.glo_ok X G (c.d.fact 18 (f := .glo "of_if") rfl)
theorem f_of_catch (X : K.In h) (G : h.Ns mainGlobals mg) (c : SaysX fa fn ex ts w K) : Df K mg "of_catch" s_of_catch := by
  obtain ⟨fd, F⟩ := c.d.def_ 16 (d := d_of_catch) rfl
  exact ⟨_, fd, F, He.glo_ok X G (c.d.fact 19 (f := .glo "of_catch") rfl)⟩
theorem ga_of_catch (X : K.In h) (G : h.Ns mainGlobals mg) (c : SaysX fa fn ex ts w K) : mg "of_catch" = some (.ref (He.ga K "of_catch")) := He.glo_ok X G (c.d.fact 19 (f := .glo "of_catch") rfl)
theorem f_names_rest (X : K.In h) (G : h.Ns mainGlobals mg) (c : SaysX fa fn ex ts w K) : Df K mg "names_rest" s_names_rest := by
  obtain ⟨fd, F⟩ := c.d.def_ 17 (d := d_names_rest) rfl
  exact ⟨_, fd, F, He.glo_ok X G (c.d.fact 20 (f := .glo "names_rest") rfl)⟩
theorem ga_names_rest (X : K.In h) (G : h.Ns mainGlobals mg) (c : SaysX fa fn ex ts w K) : mg "names_rest" = some (.ref (He.ga K "names_rest")) := He.glo_ok X G (c.d.fact 20 (f := .glo "names_rest") rfl)
theorem f_word_of (X : K.In h) (G : h.Ns mainGlobals mg) (c : SaysX fa fn ex ts w K) : Df K mg "word_of" s_word_of := by
  obtain ⟨fd, F⟩ := c.d.def_ 18 (d := d_word_of) rfl
  exact ⟨_, fd, F, He.glo_ok X G (c.d.fact 21 (f := .glo "word_of") rfl)⟩
theorem ga_word_of (X : K.In h) (G : h.Ns mainGlobals mg) (c : SaysX fa fn ex ts w K) : mg "word_of" = some (.ref (He.ga K "word_of")) := He.glo_ok X G (c.d.fact 21 (f := .glo "word_of") rfl)
theorem f_paper_of (X : K.In h) (G : h.Ns mainGlobals mg) (c : SaysX fa fn ex ts w K) : Df K mg "paper_of" s_paper_of := by
  obtain ⟨fd, F⟩ := c.d.def_ 19 (d := d_paper_of) rfl
  exact ⟨_, fd, F, He.glo_ok X G (c.d.fact 22 (f := .glo "paper_of") rfl)⟩
theorem ga_paper_of (X : K.In h) (G : h.Ns mainGlobals mg) (c : SaysX fa fn ex ts w K) : mg "paper_of" = some (.ref (He.ga K "paper_of")) := He.glo_ok X G (c.d.fact 22 (f := .glo "paper_of") rfl)
theorem f_catches_within (X : K.In h) (G : h.Ns mainGlobals mg) (c : SaysX fa fn ex ts w K) : Df K mg "catches_within" s_catches_within := by
  obtain ⟨fd, F⟩ := c.d.def_ 20 (d := d_catches_within) rfl
  exact ⟨_, fd, F, He.glo_ok X G (c.d.fact 23 (f := .glo "catches_within") rfl)⟩
theorem ga_catches_within (X : K.In h) (G : h.Ns mainGlobals mg) (c : SaysX fa fn ex ts w K) : mg "catches_within" = some (.ref (He.ga K "catches_within")) := He.glo_ok X G (c.d.fact 23 (f := .glo "catches_within") rfl)
theorem f_handler_paper (X : K.In h) (G : h.Ns mainGlobals mg) (c : SaysX fa fn ex ts w K) : Df K mg "handler_paper" s_handler_paper := by
  obtain ⟨fd, F⟩ := c.d.def_ 21 (d := d_handler_paper) rfl
  exact ⟨_, fd, F, He.glo_ok X G (c.d.fact 24 (f := .glo "handler_paper") rfl)⟩
theorem ga_handler_paper (X : K.In h) (G : h.Ns mainGlobals mg) (c : SaysX fa fn ex ts w K) : mg "handler_paper" = some (.ref (He.ga K "handler_paper")) := He.glo_ok X G (c.d.fact 24 (f := .glo "handler_paper") rfl)
theorem f_papers_of (X : K.In h) (G : h.Ns mainGlobals mg) (c : SaysX fa fn ex ts w K) : Df K mg "papers_of" s_papers_of := by
  obtain ⟨fd, F⟩ := c.d.def_ 22 (d := d_papers_of) rfl
  exact ⟨_, fd, F, He.glo_ok X G (c.d.fact 25 (f := .glo "papers_of") rfl)⟩
theorem ga_papers_of (X : K.In h) (G : h.Ns mainGlobals mg) (c : SaysX fa fn ex ts w K) : mg "papers_of" = some (.ref (He.ga K "papers_of")) := He.glo_ok X G (c.d.fact 25 (f := .glo "papers_of") rfl)
theorem f_papers (X : K.In h) (G : h.Ns mainGlobals mg) (c : SaysX fa fn ex ts w K) : Df K mg "papers" s_papers := by
  obtain ⟨fd, F⟩ := c.d.def_ 23 (d := d_papers) rfl
  exact ⟨_, fd, F, He.glo_ok X G (c.d.fact 26 (f := .glo "papers") rfl)⟩
theorem ga_papers (X : K.In h) (G : h.Ns mainGlobals mg) (c : SaysX fa fn ex ts w K) : mg "papers" = some (.ref (He.ga K "papers")) := He.glo_ok X G (c.d.fact 26 (f := .glo "papers") rfl)
theorem f_shows (X : K.In h) (G : h.Ns mainGlobals mg) (c : SaysX fa fn ex ts w K) : Df K mg "shows" s_shows := by
  obtain ⟨fd, F⟩ := c.d.def_ 24 (d := d_shows) rfl
  exact ⟨_, fd, F, He.glo_ok X G (c.d.fact 27 (f := .glo "shows") rfl)⟩
theorem ga_shows (X : K.In h) (G : h.Ns mainGlobals mg) (c : SaysX fa fn ex ts w K) : mg "shows" = some (.ref (He.ga K "shows")) := He.glo_ok X G (c.d.fact 27 (f := .glo "shows") rfl)
theorem f_L_dice (X : K.In h) (G : h.Ns mainGlobals mg) (c : SaysX fa fn ex ts w K) : Df K mg "_law_dice" s_L_dice := by
  obtain ⟨fd, F⟩ := c.d.def_ 25 (d := d_L_dice) rfl
  exact ⟨_, fd, F, He.glo_ok X G (c.d.fact 28 (f := .glo "_law_dice") rfl)⟩
theorem f_L_next (X : K.In h) (G : h.Ns mainGlobals mg) (c : SaysX fa fn ex ts w K) : Df K mg "_law_next" s_L_next := by
  obtain ⟨fd, F⟩ := c.d.def_ 26 (d := d_L_next) rfl
  exact ⟨_, fd, F, He.glo_ok X G (c.d.fact 29 (f := .glo "_law_next") rfl)⟩
theorem f_L_like (X : K.In h) (G : h.Ns mainGlobals mg) (c : SaysX fa fn ex ts w K) : Df K mg "_law_like" s_L_like := by
  obtain ⟨fd, F⟩ := c.d.def_ 27 (d := d_L_like) rfl
  exact ⟨_, fd, F, He.glo_ok X G (c.d.fact 30 (f := .glo "_law_like") rfl)⟩
theorem f_L_name (X : K.In h) (G : h.Ns mainGlobals mg) (c : SaysX fa fn ex ts w K) : Df K mg "_law_name" s_L_name := by
  obtain ⟨fd, F⟩ := c.d.def_ 28 (d := d_L_name) rfl
  exact ⟨_, fd, F, He.glo_ok X G (c.d.fact 31 (f := .glo "_law_name") rfl)⟩
theorem f_L_leaf (X : K.In h) (G : h.Ns mainGlobals mg) (c : SaysX fa fn ex ts w K) : Df K mg "_law_leaf" s_L_leaf := by
  obtain ⟨fd, F⟩ := c.d.def_ 29 (d := d_L_leaf) rfl
  exact ⟨_, fd, F, He.glo_ok X G (c.d.fact 32 (f := .glo "_law_leaf") rfl)⟩
theorem f_L_with (X : K.In h) (G : h.Ns mainGlobals mg) (c : SaysX fa fn ex ts w K) : Df K mg "_law_with" s_L_with := by
  obtain ⟨fd, F⟩ := c.d.def_ 30 (d := d_L_with) rfl
  exact ⟨_, fd, F, He.glo_ok X G (c.d.fact 33 (f := .glo "_law_with") rfl)⟩
theorem f_L_free (X : K.In h) (G : h.Ns mainGlobals mg) (c : SaysX fa fn ex ts w K) : Df K mg "_law_free" s_L_free := by
  obtain ⟨fd, F⟩ := c.d.def_ 31 (d := d_L_free) rfl
  exact ⟨_, fd, F, He.glo_ok X G (c.d.fact 34 (f := .glo "_law_free") rfl)⟩
theorem f_L_expr (X : K.In h) (G : h.Ns mainGlobals mg) (c : SaysX fa fn ex ts w K) : Df K mg "_law_expr" s_L_expr := by
  obtain ⟨fd, F⟩ := c.d.def_ 32 (d := d_L_expr) rfl
  exact ⟨_, fd, F, He.glo_ok X G (c.d.fact 35 (f := .glo "_law_expr") rfl)⟩
theorem f_L_let (X : K.In h) (G : h.Ns mainGlobals mg) (c : SaysX fa fn ex ts w K) : Df K mg "_law_let" s_L_let := by
  obtain ⟨fd, F⟩ := c.d.def_ 33 (d := d_L_let) rfl
  exact ⟨_, fd, F, He.glo_ok X G (c.d.fact 36 (f := .glo "_law_let") rfl)⟩
theorem f_L_use (X : K.In h) (G : h.Ns mainGlobals mg) (c : SaysX fa fn ex ts w K) : Df K mg "_law_use" s_L_use := by
  obtain ⟨fd, F⟩ := c.d.def_ 34 (d := d_L_use) rfl
  exact ⟨_, fd, F, He.glo_ok X G (c.d.fact 37 (f := .glo "_law_use") rfl)⟩
theorem f_L_catch (X : K.In h) (G : h.Ns mainGlobals mg) (c : SaysX fa fn ex ts w K) : Df K mg "_law_catch" s_L_catch := by
  obtain ⟨fd, F⟩ := c.d.def_ 35 (d := d_L_catch) rfl
  exact ⟨_, fd, F, He.glo_ok X G (c.d.fact 38 (f := .glo "_law_catch") rfl)⟩
theorem f_L_size (X : K.In h) (G : h.Ns mainGlobals mg) (c : SaysX fa fn ex ts w K) : Df K mg "_law_size" s_L_size := by
  obtain ⟨fd, F⟩ := c.d.def_ 36 (d := d_L_size) rfl
  exact ⟨_, fd, F, He.glo_ok X G (c.d.fact 39 (f := .glo "_law_size") rfl)⟩
theorem f_L_deep (X : K.In h) (G : h.Ns mainGlobals mg) (c : SaysX fa fn ex ts w K) : Df K mg "_law_deep" s_L_deep := by
  obtain ⟨fd, F⟩ := c.d.def_ 37 (d := d_L_deep) rfl
  exact ⟨_, fd, F, He.glo_ok X G (c.d.fact 40 (f := .glo "_law_deep") rfl)⟩
theorem f_L_program (X : K.In h) (G : h.Ns mainGlobals mg) (c : SaysX fa fn ex ts w K) : Df K mg "_law_program" s_L_program := by
  obtain ⟨fd, F⟩ := c.d.def_ 38 (d := d_L_program) rfl
  exact ⟨_, fd, F, He.glo_ok X G (c.d.fact 41 (f := .glo "_law_program") rfl)⟩
theorem f_L_loop (X : K.In h) (G : h.Ns mainGlobals mg) (c : SaysX fa fn ex ts w K) : Df K mg "_law_loop" s_L_loop := by
  obtain ⟨fd, F⟩ := c.d.def_ 39 (d := d_L_loop) rfl
  exact ⟨_, fd, F, He.glo_ok X G (c.d.fact 42 (f := .glo "_law_loop") rfl)⟩
theorem f_L_again (X : K.In h) (G : h.Ns mainGlobals mg) (c : SaysX fa fn ex ts w K) : Df K mg "_law_again" s_L_again := by
  obtain ⟨fd, F⟩ := c.d.def_ 40 (d := d_L_again) rfl
  exact ⟨_, fd, F, He.glo_ok X G (c.d.fact 43 (f := .glo "_law_again") rfl)⟩
theorem f_L_long (X : K.In h) (G : h.Ns mainGlobals mg) (c : SaysX fa fn ex ts w K) : Df K mg "_law_long" s_L_long := by
  obtain ⟨fd, F⟩ := c.d.def_ 41 (d := d_L_long) rfl
  exact ⟨_, fd, F, He.glo_ok X G (c.d.fact 44 (f := .glo "_law_long") rfl)⟩
theorem f_L_any (X : K.In h) (G : h.Ns mainGlobals mg) (c : SaysX fa fn ex ts w K) : Df K mg "_law_any" s_L_any := by
  obtain ⟨fd, F⟩ := c.d.def_ 42 (d := d_L_any) rfl
  exact ⟨_, fd, F, He.glo_ok X G (c.d.fact 45 (f := .glo "_law_any") rfl)⟩
theorem f_L_join (X : K.In h) (G : h.Ns mainGlobals mg) (c : SaysX fa fn ex ts w K) : Df K mg "_law_join" s_L_join := by
  obtain ⟨fd, F⟩ := c.d.def_ 43 (d := d_L_join) rfl
  exact ⟨_, fd, F, He.glo_ok X G (c.d.fact 46 (f := .glo "_law_join") rfl)⟩
theorem f_L_paper (X : K.In h) (G : h.Ns mainGlobals mg) (c : SaysX fa fn ex ts w K) : Df K mg "_law_paper" s_L_paper := by
  obtain ⟨fd, F⟩ := c.d.def_ 44 (d := d_L_paper) rfl
  exact ⟨_, fd, F, He.glo_ok X G (c.d.fact 47 (f := .glo "_law_paper") rfl)⟩
theorem f_L_catches (X : K.In h) (G : h.Ns mainGlobals mg) (c : SaysX fa fn ex ts w K) : Df K mg "_law_catches" s_L_catches := by
  obtain ⟨fd, F⟩ := c.d.def_ 45 (d := d_L_catches) rfl
  exact ⟨_, fd, F, He.glo_ok X G (c.d.fact 48 (f := .glo "_law_catches") rfl)⟩
theorem f_L_papers (X : K.In h) (G : h.Ns mainGlobals mg) (c : SaysX fa fn ex ts w K) : Df K mg "_law_papers" s_L_papers := by
  obtain ⟨fd, F⟩ := c.d.def_ 46 (d := d_L_papers) rfl
  exact ⟨_, fd, F, He.glo_ok X G (c.d.fact 49 (f := .glo "_law_papers") rfl)⟩
theorem f_L_handled (X : K.In h) (G : h.Ns mainGlobals mg) (c : SaysX fa fn ex ts w K) : Df K mg "_law_handled" s_L_handled := by
  obtain ⟨fd, F⟩ := c.d.def_ 47 (d := d_L_handled) rfl
  exact ⟨_, fd, F, He.glo_ok X G (c.d.fact 50 (f := .glo "_law_handled") rfl)⟩
theorem f_L_tall (X : K.In h) (G : h.Ns mainGlobals mg) (c : SaysX fa fn ex ts w K) : Df K mg "_law_tall" s_L_tall := by
  obtain ⟨fd, F⟩ := c.d.def_ 48 (d := d_L_tall) rfl
  exact ⟨_, fd, F, He.glo_ok X G (c.d.fact 51 (f := .glo "_law_tall") rfl)⟩
theorem f_law (X : K.In h) (G : h.Ns mainGlobals mg) (c : SaysX fa fn ex ts w K) : Df K mg "law" s_law := by
  obtain ⟨fd, F⟩ := c.d.def_ 49 (d := d_law) rfl
  exact ⟨_, fd, F, He.glo_ok X G (c.d.fact 52 (f := .glo "law") rfl)⟩
theorem ga_law (X : K.In h) (G : h.Ns mainGlobals mg) (c : SaysX fa fn ex ts w K) : mg "law" = some (.ref (He.ga K "law")) := He.glo_ok X G (c.d.fact 52 (f := .glo "law") rfl)
theorem z_ValueError (X : K.In h) (G : h.Ns mainGlobals mg) (c : SaysX fa fn ex ts w K) : mg "ValueError" = none := He.free_ok X G (c.d.fact 53 (f := .free "ValueError") rfl)
theorem z_abs (X : K.In h) (G : h.Ns mainGlobals mg) (c : SaysX fa fn ex ts w K) : mg "abs" = none := He.free_ok X G (c.d.fact 54 (f := .free "abs") rfl)
theorem z_all (X : K.In h) (G : h.Ns mainGlobals mg) (c : SaysX fa fn ex ts w K) : mg "all" = none := He.free_ok X G (c.d.fact 55 (f := .free "all") rfl)
theorem z_bool (X : K.In h) (G : h.Ns mainGlobals mg) (c : SaysX fa fn ex ts w K) : mg "bool" = none := He.free_ok X G (c.d.fact 56 (f := .free "bool") rfl)
theorem z_dict (X : K.In h) (G : h.Ns mainGlobals mg) (c : SaysX fa fn ex ts w K) : mg "dict" = none := He.free_ok X G (c.d.fact 57 (f := .free "dict") rfl)
theorem z_enumerate (X : K.In h) (G : h.Ns mainGlobals mg) (c : SaysX fa fn ex ts w K) : mg "enumerate" = none := He.free_ok X G (c.d.fact 58 (f := .free "enumerate") rfl)
theorem z_int (X : K.In h) (G : h.Ns mainGlobals mg) (c : SaysX fa fn ex ts w K) : mg "int" = none := He.free_ok X G (c.d.fact 59 (f := .free "int") rfl)
theorem z_isinstance (X : K.In h) (G : h.Ns mainGlobals mg) (c : SaysX fa fn ex ts w K) : mg "isinstance" = none := He.free_ok X G (c.d.fact 60 (f := .free "isinstance") rfl)
theorem z_len (X : K.In h) (G : h.Ns mainGlobals mg) (c : SaysX fa fn ex ts w K) : mg "len" = none := He.free_ok X G (c.d.fact 61 (f := .free "len") rfl)
theorem z_list (X : K.In h) (G : h.Ns mainGlobals mg) (c : SaysX fa fn ex ts w K) : mg "list" = none := He.free_ok X G (c.d.fact 62 (f := .free "list") rfl)
theorem z_max (X : K.In h) (G : h.Ns mainGlobals mg) (c : SaysX fa fn ex ts w K) : mg "max" = none := He.free_ok X G (c.d.fact 63 (f := .free "max") rfl)
theorem z_min (X : K.In h) (G : h.Ns mainGlobals mg) (c : SaysX fa fn ex ts w K) : mg "min" = none := He.free_ok X G (c.d.fact 64 (f := .free "min") rfl)
theorem z_range (X : K.In h) (G : h.Ns mainGlobals mg) (c : SaysX fa fn ex ts w K) : mg "range" = none := He.free_ok X G (c.d.fact 65 (f := .free "range") rfl)
theorem z_set (X : K.In h) (G : h.Ns mainGlobals mg) (c : SaysX fa fn ex ts w K) : mg "set" = none := He.free_ok X G (c.d.fact 66 (f := .free "set") rfl)
theorem z_sorted (X : K.In h) (G : h.Ns mainGlobals mg) (c : SaysX fa fn ex ts w K) : mg "sorted" = none := He.free_ok X G (c.d.fact 67 (f := .free "sorted") rfl)
theorem z_str (X : K.In h) (G : h.Ns mainGlobals mg) (c : SaysX fa fn ex ts w K) : mg "str" = none := He.free_ok X G (c.d.fact 68 (f := .free "str") rfl)
theorem z_sum (X : K.In h) (G : h.Ns mainGlobals mg) (c : SaysX fa fn ex ts w K) : mg "sum" = none := He.free_ok X G (c.d.fact 69 (f := .free "sum") rfl)
theorem z_super (X : K.In h) (G : h.Ns mainGlobals mg) (c : SaysX fa fn ex ts w K) : mg "super" = none := He.free_ok X G (c.d.fact 70 (f := .free "super") rfl)
theorem z_tuple (X : K.In h) (G : h.Ns mainGlobals mg) (c : SaysX fa fn ex ts w K) : mg "tuple" = none := He.free_ok X G (c.d.fact 71 (f := .free "tuple") rfl)
theorem z_zip (X : K.In h) (G : h.Ns mainGlobals mg) (c : SaysX fa fn ex ts w K) : mg "zip" = none := He.free_ok X G (c.d.fact 72 (f := .free "zip") rfl)
theorem c_Part (X : K.In h) (G : h.Ns mainGlobals mg) (c : SaysX fa fn ex ts w K) : Cls K (He.ga K "Part") := He.cls_ok (c.d.fact 73 (f := .cls "Part") rfl)
theorem na_Part (X : K.In h) (G : h.Ns mainGlobals mg) (c : SaysX fa fn ex ts w K) : NoAts K (He.ga K "Part") ["word", "turn", "number", "names", "within"] := by
  intro f hf
  simp only [List.mem_cons, List.not_mem_nil, or_false] at hf
  rcases hf with rfl | rfl | rfl | rfl | rfl
  · exact He.noat_ok (c.d.fact 74 (f := .noat "Part" "word") rfl)
  · exact He.noat_ok (c.d.fact 75 (f := .noat "Part" "turn") rfl)
  · exact He.noat_ok (c.d.fact 76 (f := .noat "Part" "number") rfl)
  · exact He.noat_ok (c.d.fact 77 (f := .noat "Part" "names") rfl)
  · exact He.noat_ok (c.d.fact 78 (f := .noat "Part" "within") rfl)
theorem c_Tree (X : K.In h) (G : h.Ns mainGlobals mg) (c : SaysX fa fn ex ts w K) : Cls K (He.ga K "Tree") := He.cls_ok (c.d.fact 79 (f := .cls "Tree") rfl)
theorem na_Tree (X : K.In h) (G : h.Ns mainGlobals mg) (c : SaysX fa fn ex ts w K) : NoAts K (He.ga K "Tree") ["top", "size", "turns"] := by
  intro f hf
  simp only [List.mem_cons, List.not_mem_nil, or_false] at hf
  rcases hf with rfl | rfl | rfl
  · exact He.noat_ok (c.d.fact 80 (f := .noat "Tree" "top") rfl)
  · exact He.noat_ok (c.d.fact 81 (f := .noat "Tree" "size") rfl)
  · exact He.noat_ok (c.d.fact 82 (f := .noat "Tree" "turns") rfl)
theorem c_Reader (X : K.In h) (G : h.Ns mainGlobals mg) (c : SaysX fa fn ex ts w K) : Cls K (He.ga K "Reader") := He.cls_ok (c.d.fact 83 (f := .cls "Reader") rfl)
theorem na_Reader (X : K.In h) (G : h.Ns mainGlobals mg) (c : SaysX fa fn ex ts w K) : NoAts K (He.ga K "Reader") ["size", "turns"] := by
  intro f hf
  simp only [List.mem_cons, List.not_mem_nil, or_false] at hf
  rcases hf with rfl | rfl
  · exact He.noat_ok (c.d.fact 84 (f := .noat "Reader" "size") rfl)
  · exact He.noat_ok (c.d.fact 85 (f := .noat "Reader" "turns") rfl)
theorem g_MOST_PARTS (X : K.In h) (G : h.Ns mainGlobals mg) (c : SaysX fa fn ex ts w K) : GInt mg "MOST_PARTS" 200 := He.int_ok X G (c.d.fact 86 (f := .int "MOST_PARTS" 200) rfl)
theorem g_MOST_AROUND (X : K.In h) (G : h.Ns mainGlobals mg) (c : SaysX fa fn ex ts w K) : GInt mg "MOST_AROUND" 40 := He.int_ok X G (c.d.fact 87 (f := .int "MOST_AROUND" 40) rfl)
theorem g_MOST_NUMBER (X : K.In h) (G : h.Ns mainGlobals mg) (c : SaysX fa fn ex ts w K) : GInt mg "MOST_NUMBER" 1000000 := He.int_ok X G (c.d.fact 88 (f := .int "MOST_NUMBER" 1000000) rfl)
theorem a_NAMES (X : K.In h) (G : h.Ns mainGlobals mg) (c : SaysX fa fn ex ts w K) : mg "NAMES" = some (.ref (He.ga K "NAMES")) := He.glo_ok X G (c.d.fact 89 (f := .glo "NAMES") rfl)
theorem tp_NAMES (X : K.In h) (G : h.Ns mainGlobals mg) (c : SaysX fa fn ex ts w K) : TupD K (He.ga K "NAMES") (([.str "a", .str "b", .str "c", .str "d", .str "e", .str "f", .str "g", .str "h"] : List He.Dv).map (He.Dv.v K)) := tupDB_ok (c.tst 0 (f := fun K => tupDB K "NAMES" [.str "a", .str "b", .str "c", .str "d", .str "e", .str "f", .str "g", .str "h"]) rfl)
theorem a_SHAPES (X : K.In h) (G : h.Ns mainGlobals mg) (c : SaysX fa fn ex ts w K) : mg "SHAPES" = some (.ref (He.ga K "SHAPES")) := He.glo_ok X G (c.d.fact 90 (f := .glo "SHAPES") rfl)
theorem kd_SHAPES (X : K.In h) (G : h.Ns mainGlobals mg) (c : SaysX fa fn ex ts w K) : ∃ es n, KDict K w (He.ga K "SHAPES") es n := c.tab 0
theorem kv_SHAPES_ok (X : K.In h) (G : h.Ns mainGlobals mg) (c : SaysX fa fn ex ts w K) {q : Str × He.Dv} (hq : q ∈ kv_SHAPES) : ∃ u, PySem.W.nsIn K (He.ga K "SHAPES") q.1 = some (some u) ∧ RelV (q.2.v K) u := He.valsB_ok (c.tst 1 (f := fun K => He.valsB K (He.ga K "SHAPES") kv_SHAPES) rfl) hq
theorem g_QUIET (X : K.In h) (G : h.Ns mainGlobals mg) (c : SaysX fa fn ex ts w K) : GStr mg "QUIET" "quiet" := He.str_ok X G (c.d.fact 91 (f := .str "QUIET" "quiet") rfl)
theorem g_FREE (X : K.In h) (G : h.Ns mainGlobals mg) (c : SaysX fa fn ex ts w K) : GStr mg "FREE" "free" := He.str_ok X G (c.d.fact 92 (f := .str "FREE" "free") rfl)
theorem g_USED (X : K.In h) (G : h.Ns mainGlobals mg) (c : SaysX fa fn ex ts w K) : GStr mg "USED" "used" := He.str_ok X G (c.d.fact 93 (f := .str "USED" "used") rfl)
theorem a_RISING (X : K.In h) (G : h.Ns mainGlobals mg) (c : SaysX fa fn ex ts w K) : mg "RISING" = some (.ref (He.ga K "RISING")) := He.glo_ok X G (c.d.fact 94 (f := .glo "RISING") rfl)
theorem tp_RISING (X : K.In h) (G : h.Ns mainGlobals mg) (c : SaysX fa fn ex ts w K) : TupD K (He.ga K "RISING") (([.str "quiet", .str "free", .str "used"] : List He.Dv).map (He.Dv.v K)) := tupDB_ok (c.tst 2 (f := fun K => tupDB K "RISING" [.str "quiet", .str "free", .str "used"]) rfl)
theorem a_RULES (X : K.In h) (G : h.Ns mainGlobals mg) (c : SaysX fa fn ex ts w K) : mg "RULES" = some (.ref (He.ga K "RULES")) := He.glo_ok X G (c.d.fact 95 (f := .glo "RULES") rfl)
theorem kd_RULES (X : K.In h) (G : h.Ns mainGlobals mg) (c : SaysX fa fn ex ts w K) : ∃ es n, KDict K w (He.ga K "RULES") es n := c.tab 1
theorem kv_RULES_ok (X : K.In h) (G : h.Ns mainGlobals mg) (c : SaysX fa fn ex ts w K) {q : Str × He.Dv} (hq : q ∈ kv_RULES) : ∃ u, PySem.W.nsIn K (He.ga K "RULES") q.1 = some (some u) ∧ RelV (q.2.v K) u := He.valsB_ok (c.tst 3 (f := fun K => He.valsB K (He.ga K "RULES") kv_RULES) rfl) hq
theorem kn_RULES (X : K.In h) (G : h.Ns mainGlobals mg) (c : SaysX fa fn ex ts w K) {k : Str} (hk : k ∈ (["num", "name", "add", "take", "less", "let", "say", "box", "look", "put", "last", "else", "fault"] : List Str)) : PySem.W.nsIn K (He.ga K "RULES") k = some none := noneB_ok (c.tst 4 (f := fun K => noneB K "RULES" ["num", "name", "add", "take", "less", "let", "say", "box", "look", "put", "last", "else", "fault"]) rfl) hk
end

end H14
namespace Wr
open PySem PySem.Spec PyProof.Rows L2
def allWords : List Str := ["num", "name", "add", "take", "less", "if", "let", "fun", "call", "say", "box", "look", "put", "catch", "throw", "go", "drop", "last", "else", "fault"]
theorem ones_all : ∀ w ∈ ones, w ∈ allWords := by decide +kernel
theorem twos_all : ∀ w ∈ twos, w ∈ allWords := by decide +kernel
theorem Good.word_all {S : List Str} {e : Ex} (g : Good S e) : e.word ∈ allWords := by
  cases e with
  | num n => show ("num" : Str) ∈ allWords; decide +kernel
  | name x => show ("name" : Str) ∈ allWords; decide +kernel
  | fault => show ("fault" : Str) ∈ allWords; decide +kernel
  | one w a => exact ones_all w g.1
  | two w a b => exact twos_all w g.1
  | ite a b c => show ("if" : Str) ∈ allWords; decide +kernel
  | lt n a b => show ("let" : Str) ∈ allWords; decide +kernel
  | fn n a => show ("fun" : Str) ∈ allWords; decide +kernel
  | ct a n k b => show ("catch" : Str) ∈ allWords; decide +kernel
/-- what the table of rules holds -/
def ruleV (fT fF fI fC : Addr) (w : Str) : Option V :=
  if w = "call" ∨ w = "throw" ∨ w = "go" ∨ w = "drop" then some (.ref fT) else if w = "fun" then some (.ref fF) else if w = "if" then some (.ref fI) else if w = "catch" then some (.ref fC) else none
def soft4 : List Str := ["call", "throw", "go", "drop"]
theorem ones_rule : ∀ w ∈ ones, w ≠ "fun" ∧ w ≠ "if" ∧ w ≠ "catch" ∧ w ≠ "go" ∧ w ≠ "call" ∧ w ≠ "name" := by decide +kernel
theorem twos_rule : ∀ w ∈ twos, w ≠ "fun" ∧ w ≠ "if" ∧ w ≠ "catch" ∧ w ≠ "drop" ∧ w ≠ "throw" ∧ w ≠ "name" := by decide +kernel
theorem lit_rule : (("num" : Str) ≠ "call" ∧ ("num" : Str) ≠ "throw" ∧ ("num" : Str) ≠ "go" ∧ ("num" : Str) ≠ "drop" ∧ ("num" : Str) ≠ "fun" ∧ ("num" : Str) ≠ "if" ∧ ("num" : Str) ≠ "catch") ∧
    (("name" : Str) ≠ "call" ∧ ("name" : Str) ≠ "throw" ∧ ("name" : Str) ≠ "go" ∧ ("name" : Str) ≠ "drop" ∧ ("name" : Str) ≠ "fun" ∧ ("name" : Str) ≠ "if" ∧ ("name" : Str) ≠ "catch") ∧
    (("fault" : Str) ≠ "call" ∧ ("fault" : Str) ≠ "throw" ∧ ("fault" : Str) ≠ "go" ∧ ("fault" : Str) ≠ "drop" ∧ ("fault" : Str) ≠ "fun" ∧ ("fault" : Str) ≠ "if" ∧ ("fault" : Str) ≠ "catch") ∧
    (("let" : Str) ≠ "call" ∧ ("let" : Str) ≠ "throw" ∧ ("let" : Str) ≠ "go" ∧ ("let" : Str) ≠ "drop" ∧ ("let" : Str) ≠ "fun" ∧ ("let" : Str) ≠ "if" ∧ ("let" : Str) ≠ "catch") ∧
    (("if" : Str) ≠ "call" ∧ ("if" : Str) ≠ "throw" ∧ ("if" : Str) ≠ "go" ∧ ("if" : Str) ≠ "drop" ∧ ("if" : Str) ≠ "fun" ∧ ("if" : Str) = "if" ∧ ("if" : Str) ≠ "catch") ∧
    (("fun" : Str) ≠ "call" ∧ ("fun" : Str) ≠ "throw" ∧ ("fun" : Str) ≠ "go" ∧ ("fun" : Str) ≠ "drop") ∧ (("catch" : Str) ≠ "call" ∧ ("catch" : Str) ≠ "throw" ∧ ("catch" : Str) ≠ "go" ∧ ("catch" : Str) ≠ "drop" ∧ ("catch" : Str) ≠ "fun" ∧ ("catch" : Str) ≠ "if") := ⟨by decide +kernel, by decide +kernel, by decide +kernel, by decide +kernel, by decide +kernel, by decide +kernel, by decide +kernel⟩
/-- a go or a drop of the rest's name -/
def special (e : Ex) (k : Option Str) : Bool := match e with
  | .one w a => decide (w = "drop") && isK a k
  | .two w a _ => decide (w = "go") && isK a k
  | _ => false
theorem joinW_one (a : Option Wd) : joinW [a] = a := by cases a <;> rfl
/-- the rule for the word: where it stands, what it gives of the words within -/
theorem rule_of {S : List Str} {e : Ex} {k : Option Str} (fT fF fI fC fN : Addr) (g : Good S e) (hn : isK e k = false) (hs : special e k = false) :
    ((ruleV fT fF fI fC e.word).getD (.ref fN) = .ref fT ∧ soft (joinW (e.ws k)) = e.wd k) ∨ ((ruleV fT fF fI fC e.word).getD (.ref fN) = .ref fF ∧ (e.ws k).length = 1 ∧ funW (e.ws k) = e.wd k) ∨
    ((ruleV fT fF fI fC e.word).getD (.ref fN) = .ref fI ∧ (e.ws k).length = 3 ∧ ifW (e.ws k) = e.wd k) ∨ ((ruleV fT fF fI fC e.word).getD (.ref fN) = .ref fC ∧ (e.ws k).length = 2 ∧ catW (e.ws k) = e.wd k) ∨
    ((ruleV fT fF fI fC e.word).getD (.ref fN) = .ref fN ∧ joinW (e.ws k) = e.wd k) := by
  obtain ⟨l1, l2, l3, l4, l5, l6, l7⟩ := lit_rule
  have none_ : ∀ {w : Str}, w ≠ "call" → w ≠ "throw" → w ≠ "go" → w ≠ "drop" → w ≠ "fun" → w ≠ "if" → w ≠ "catch" → (ruleV fT fF fI fC w).getD (.ref fN) = .ref fN := fun {w} a1 a2 a3 a4 a5 a6 a7 => by
    unfold ruleV
    rw [if_neg (by rintro (h | h | h | h) <;> contradiction), if_neg a5, if_neg a6, if_neg a7]
    rfl
  have soft_ : ∀ {w : Str}, (w = "call" ∨ w = "throw" ∨ w = "go" ∨ w = "drop") → (ruleV fT fF fI fC w).getD (.ref fN) = .ref fT := fun {w} h => by
    unfold ruleV
    rw [if_pos h]
    rfl
  cases e with
  | num n => exact .inr (.inr (.inr (.inr ⟨none_ l1.1 l1.2.1 l1.2.2.1 l1.2.2.2.1 l1.2.2.2.2.1 l1.2.2.2.2.2.1 l1.2.2.2.2.2.2, rfl⟩)))
  | name x =>
    refine .inr (.inr (.inr (.inr ⟨none_ l2.1 l2.2.1 l2.2.2.1 l2.2.2.2.1 l2.2.2.2.2.1 l2.2.2.2.2.2.1 l2.2.2.2.2.2.2, ?_⟩)))
    show some Wd.quiet = (if k = some x then none else some .quiet)
    rw [if_neg]
    rintro rfl
    have : decide (x = x) = false := hn
    simp at this
  | fault => exact .inr (.inr (.inr (.inr ⟨none_ l3.1 l3.2.1 l3.2.2.1 l3.2.2.2.1 l3.2.2.2.2.1 l3.2.2.2.2.2.1 l3.2.2.2.2.2.2, rfl⟩)))
  | one w a =>
    obtain ⟨h1, h2, h3, h4, h5, _⟩ := ones_rule w g.1
    have hs : (decide (w = "drop") && isK a k) = false := hs
    by_cases hd : w = "drop"
    · refine .inl ⟨soft_ (.inr (.inr (.inr hd))), ?_⟩
      rw [decide_eq_true hd, Bool.true_and] at hs
      show soft (joinW [a.wd k]) = (if w = "drop" then (if isK a k = true then some .used else soft (joinW [a.wd k])) else if w = "throw" then soft (joinW [a.wd k]) else joinW [a.wd k])
      rw [if_pos hd, if_neg (by rw [hs]; exact fun z => nomatch z)]
    · by_cases ht : w = "throw"
      · refine .inl ⟨soft_ (.inr (.inl ht)), ?_⟩
        show soft (joinW [a.wd k]) = (if w = "drop" then (if isK a k = true then some .used else soft (joinW [a.wd k])) else if w = "throw" then soft (joinW [a.wd k]) else joinW [a.wd k])
        rw [if_neg hd, if_pos ht]
      · refine .inr (.inr (.inr (.inr ⟨none_ h5 ht h4 hd h1 h2 h3, ?_⟩)))
        show joinW [a.wd k] = (if w = "drop" then (if isK a k = true then some .used else soft (joinW [a.wd k])) else if w = "throw" then soft (joinW [a.wd k]) else joinW [a.wd k])
        rw [if_neg hd, if_neg ht]
  | two w a b =>
    obtain ⟨h1, h2, h3, h4, h5, _⟩ := twos_rule w g.1
    have hs : (decide (w = "go") && isK a k) = false := hs
    by_cases hd : w = "go"
    · refine .inl ⟨soft_ (.inr (.inr (.inl hd))), ?_⟩
      rw [decide_eq_true hd, Bool.true_and] at hs
      show soft (joinW [a.wd k, b.wd k]) = (if w = "go" then (if isK a k = true then (if b.wd k = some .quiet then some .used else none) else soft (joinW [a.wd k, b.wd k])) else if w = "call" then soft (joinW [a.wd k, b.wd k]) else joinW [a.wd k, b.wd k])
      rw [if_pos hd, if_neg (by rw [hs]; exact fun z => nomatch z)]
    · by_cases ht : w = "call"
      · refine .inl ⟨soft_ (.inl ht), ?_⟩
        show soft (joinW [a.wd k, b.wd k]) = (if w = "go" then (if isK a k = true then (if b.wd k = some .quiet then some .used else none) else soft (joinW [a.wd k, b.wd k])) else if w = "call" then soft (joinW [a.wd k, b.wd k]) else joinW [a.wd k, b.wd k])
        rw [if_neg hd, if_pos ht]
      · refine .inr (.inr (.inr (.inr ⟨none_ ht h5 hd h4 h1 h2 h3, ?_⟩)))
        show joinW [a.wd k, b.wd k] = (if w = "go" then (if isK a k = true then (if b.wd k = some .quiet then some .used else none) else soft (joinW [a.wd k, b.wd k])) else if w = "call" then soft (joinW [a.wd k, b.wd k]) else joinW [a.wd k, b.wd k])
        rw [if_neg hd, if_neg ht]
  | ite a b c =>
    refine .inr (.inr (.inl ⟨?_, rfl, rfl⟩))
    show (ruleV fT fF fI fC "if").getD (.ref fN) = _
    unfold ruleV
    rw [if_neg (by rintro (h | h | h | h); exact l5.1 h; exact l5.2.1 h; exact l5.2.2.1 h; exact l5.2.2.2.1 h), if_neg l5.2.2.2.2.1, if_pos rfl]
    rfl
  | lt x a b => exact .inr (.inr (.inr (.inr ⟨none_ l4.1 l4.2.1 l4.2.2.1 l4.2.2.2.1 l4.2.2.2.2.1 l4.2.2.2.2.2.1 l4.2.2.2.2.2.2, rfl⟩)))
  | fn x a =>
    refine .inr (.inl ⟨?_, rfl, rfl⟩)
    show (ruleV fT fF fI fC "fun").getD (.ref fN) = _
    unfold ruleV
    rw [if_neg (by rintro (h | h | h | h); exact l6.1 h; exact l6.2.1 h; exact l6.2.2.1 h; exact l6.2.2.2 h), if_pos rfl]
    rfl
  | ct a x k' b =>
    refine .inr (.inr (.inr (.inl ⟨?_, rfl, rfl⟩)))
    show (ruleV fT fF fI fC "catch").getD (.ref fN) = _
    unfold ruleV
    rw [if_neg (by rintro (h | h | h | h); exact l7.1 h; exact l7.2.1 h; exact l7.2.2.1 h; exact l7.2.2.2.1 h), if_neg l7.2.2.2.2.1, if_neg l7.2.2.2.2.2, if_pos rfl]
    rfl
theorem gd_words : ∀ w ∈ allWords, inV (V.str w) [.str "go", .str "drop"] = decide (w = "go" ∨ w = "drop") := by decide +kernel
section
variable {P : Program} {w : World} {K : PySem.W.Frag} {mg : Str → Option Value} {base : Heap}
def spNames_rest (PC : Addr) : Sp := fun vs H Q _ => ∃ (v : V) (e : Ex) (k : Option Str) (ts : Str → Nat) (S : List Str), vs = [v, okV k] ∧ PartAt PC H v e ts ∧ Good S e ∧ Q (.bl (isK e k)) H
theorem scNames_rest : FnScope ["part", "k"] ["part", "k"] (defScope s_names_rest) := ⟨rfl, rfl, rfl, by decide +kernel, rfl, by decide +kernel, by decide +kernel⟩
theorem ok_names_rest {PC : Addr} (F : Df K mg "names_rest" s_names_rest) (c : Cls K PC) (na : NoAts K PC partNs) : Use P w K mg base "names_rest" ["part", "k"] 1 (spNames_rest PC) := by
  refine F.use scNames_rest (fun _ _ _ _ _ _ us hl => match us, hl with | [_, _], _ => rfl) (fun vs H Q E h => ?_) (fun cdv f A outer s H vs Q E hr h => ?_)
  · obtain ⟨v, e, k, ts, S, rfl, _⟩ := h
    rfl
  · obtain ⟨v, e, k, ts, S, rfl, hv, hg, q⟩ := h
    refine ⟨_, pss_one (ps_ret (pe_and (pe_cmpR op_eq (pe_fld (pv 0) rfl) pe_str (nomark _)) (pe_one (pe_cmpR op_eq (pe_ix ix_list (pe_fld (pv 0) rfl) pe_int (fun _ _ => rfl)) (pv 1) (nomark _))))), ?_⟩
    obtain ⟨xs, ⟨p, dx, nl, wl, rfl, hp, hnl, hwl⟩, _⟩ := hv.open_
    obtain ⟨f1, f2, f3, f4, f5⟩ := partF_look e.word (ts e.word) e.nv nl wl
    refine ⟨_, rfl, p, PC, dx, _, _, rfl, hp, c, na _ (by decide +kernel), f1, rfl, _, rfl, ?_⟩
    cases hw : decide (V.str e.word = V.str "name") with
    | false =>
      refine iteF ?_
      have e0 : isK e k = false := by
        cases e with
        | name x => exact absurd (decide_eq_true rfl) (by rw [show Ex.word (.name x) = "name" from rfl] at hw; rw [hw]; exact fun z => nomatch z)
        | _ => rfl
      rw [e0] at q
      exact q
    | true =>
      refine iteT ?_
      obtain ⟨x, rfl⟩ := word_name hg hw
      refine ⟨_, rfl, p, PC, dx, _, _, rfl, hp, c, na _ (by decide +kernel), f4, nl, _, _, .str x, rfl, rfl, SqL.of hnl, atI_nat (j := 0) rfl, _, rfl, scal_okV x k, ?_⟩
      rw [dec_okV]
      have e0 : isK (.name x) k = decide (k = some x) := by
        cases k with
        | none => rfl
        | some y =>
          show decide (x = y) = decide (some y = some x)
          by_cases h : x = y
          · subst h; simp
          · rw [decide_eq_false h, decide_eq_false (fun z => h (Option.some.inj z).symm)]
      rw [e0] at q
      exact q
end
end Wr
namespace Wr
open PySem PySem.Spec PyProof.Rows L2
/-- the table of rules -/
def RulesAt (K : PySem.W.Frag) (w : World) (mg : Str → Option Value) (ra : Addr) : Prop := (∃ es n, KDict K w ra es n) ∧ ∀ fT fF fI fC : Addr, mg "throwing" = some (.ref fT) → mg "of_fun" = some (.ref fF) → mg "of_if" = some (.ref fI) → mg "of_catch" = some (.ref fC) →
  ∀ x ∈ allWords, KLook K w ra x (ruleV fT fF fI fC x)
section
variable {X : Cx} {k i : Nat} {f : Addr} {sp : Sp} {x : Str} {p pos : Pos} {e : Expr} {es : List Expr} {t : TA}
/-- a call of what a local name holds, a def -/
theorem pe_loc (U : ∃ fd ps, FnOk X.prog X.w X.K X.mg X.base CX0 k f fd ps sp ∧ PySem.W.keepIn X.K (.ref f) = true ∧ Binds X.K fd ps []) (hr : Room k X.A) (hN : X.N[i]? = some x) (hv : Vis X.env.scope x) (ha : PA X (e :: es) t)
    (hdb : (x == ("__debug__" : Str)) = false := by decide) (hcd : (x == ("__classdict__" : Str)) = false := by decide)
    (he : starEach (e :: es) X.env = (false, eval e X.env) :: starEach es X.env := by rfl) (hpl : (backTo pos (starEach es X.env)).any (·.1) = false := by rfl) : PE X (.Call (.Name x p) (e :: es) [] pos) (tCallL i f sp [] E0 t) := by
  obtain ⟨fd, ps, F, kp, b⟩ := U
  exact pe_callL F hr hN hv kp b .nil pass0 ha hdb hcd he hpl
end
theorem special_wd {S : List Str} {e : Ex} {k : Option Str} (g : Good S e) (hs : special e k = true) : ∃ a es, e.kids = a :: es ∧ isK a k = true ∧ (e.word = "go" ∨ e.word = "drop") ∧ e.wd k = (if joinW ((e.ws k).drop 1) = some .quiet then some .used else none) := by
  cases e with
  | one w a =>
    obtain ⟨h1, h2⟩ := (Bool.and_eq_true _ _).mp (show (decide (w = "drop") && isK a k) = true from hs)
    have h1 := of_decide_eq_true h1
    subst h1
    refine ⟨a, [], rfl, h2, .inr rfl, ?_⟩
    show (if ("drop" : Str) = "drop" then (if isK a k = true then some .used else soft (joinW [a.wd k])) else _) = some Wd.used
    rw [if_pos rfl, if_pos h2]
  | two w a b =>
    obtain ⟨h1, h2⟩ := (Bool.and_eq_true _ _).mp (show (decide (w = "go") && isK a k) = true from hs)
    have h1 := of_decide_eq_true h1
    subst h1
    refine ⟨a, [b], rfl, h2, .inl rfl, ?_⟩
    show (if ("go" : Str) = "go" then (if isK a k = true then (if b.wd k = some .quiet then some .used else none) else soft (joinW [a.wd k, b.wd k])) else _) = (if joinW [b.wd k] = some .quiet then some Wd.used else none)
    rw [if_pos rfl, if_pos h2, joinW_one]
  | _ => cases hs
/-- what is no go and no drop has no rest to use -/
theorem special_of {S : List Str} {e a : Ex} {es : List Ex} {k : Option Str} (g : Good S e) (ek : e.kids = a :: es) (hw : e.word = "go" ∨ e.word = "drop") : special e k = isK a k := by
  have no : ∀ {z : Str}, (z ≠ "go" ∧ z ≠ "drop") → (z = "go" ∨ z = "drop") → False := fun h q => q.elim h.1 h.2
  obtain ⟨l1, l2, l3, l4, l5, l6, l7⟩ := lit_rule
  cases e with
  | one w b =>
    cases ek
    rcases hw with h | h
    · exact absurd h (ones_rule w g.1).2.2.2.1
    · show (decide (w = "drop") && isK a k) = _
      rw [decide_eq_true (show w = "drop" from h), Bool.true_and]
  | two w b c =>
    cases ek
    rcases hw with h | h
    · show (decide (w = "go") && isK a k) = _
      rw [decide_eq_true (show w = "go" from h), Bool.true_and]
    · exact absurd h (twos_rule w g.1).2.2.2.1
  | num n => cases ek
  | name x => cases ek
  | fault => cases ek
  | ite a b c => exact (no ⟨l5.2.2.1, l5.2.2.2.1⟩ hw).elim
  | lt x a b => exact (no ⟨l4.2.2.1, l4.2.2.2.1⟩ hw).elim
  | fn x a => exact (no ⟨l6.2.2.1, l6.2.2.2⟩ hw).elim
  | ct a x k' b => exact (no ⟨l7.2.2.1, l7.2.2.2.1⟩ hw).elim
theorem not_special {S : List Str} {e : Ex} {k : Option Str} (g : Good S e) (hw : ¬ (e.word = "go" ∨ e.word = "drop")) : special e k = false := by
  cases e with
  | one w a =>
    show (decide (w = "drop") && isK a k) = false
    rw [decide_eq_false (show ¬ w = "drop" from fun h => hw (.inr h)), Bool.false_and]
  | two w a b =>
    show (decide (w = "go") && isK a k) = false
    rw [decide_eq_false (show ¬ w = "go" from fun h => hw (.inl h)), Bool.false_and]
  | _ => rfl
theorem gd_kids {S : List Str} {e : Ex} (g : Good S e) (hw : e.word = "go" ∨ e.word = "drop") : ∃ a es, e.kids = a :: es := by
  obtain ⟨l1, l2, l3, l4, l5, l6, l7⟩ := lit_rule
  have no : ∀ {z : Str}, (z ≠ "go" ∧ z ≠ "drop") → (z = "go" ∨ z = "drop") → False := fun h q => q.elim h.1 h.2
  cases e with
  | num n => exact (no ⟨l1.2.2.1, l1.2.2.2.1⟩ hw).elim
  | name x => exact (no ⟨l2.2.2.1, l2.2.2.2.1⟩ hw).elim
  | fault => exact (no ⟨l3.2.2.1, l3.2.2.2.1⟩ hw).elim
  | one w a => exact ⟨_, _, rfl⟩
  | two w a b => exact ⟨_, _, rfl⟩
  | ite a b c => exact ⟨_, _, rfl⟩
  | lt x a b => exact ⟨_, _, rfl⟩
  | fn x a => exact ⟨_, _, rfl⟩
  | ct a x k' b => exact ⟨_, _, rfl⟩
section
variable {P : Program} {w : World} {K : PySem.W.Frag} {mg : Str → Option Value} {base : Heap}
def spWord_of (PC : Addr) : Sp := fun vs H Q _ => ∃ (v : V) (e : Ex) (k : Option Str) (ts : Str → Nat) (S : List Str) (l : Addr), vs = [v, okV k, .ref l] ∧ PartAt PC H v e ts ∧ Good S e ∧ H l = some (.lst ((e.ws k).map woV)) ∧ ∀ H', Same H H' → Q (woV (e.wd k)) H'
theorem scWord_of : FnScope ["part", "k", "words", "rule"] ["part", "k", "words"] (defScope s_word_of) := ⟨rfl, rfl, rfl, by decide +kernel, rfl, by decide +kernel, by decide +kernel⟩
theorem cut_drop (xs : List V) : cutV xs (some 1) none = xs.drop 1 := by
  cases xs with
  | nil => rfl
  | cons x xs => exact cut1 x xs
theorem ok_word_of {PC ra : Addr} (F : Df K mg "word_of" s_word_of) (c : Cls K PC) (na : NoAts K PC partNs) (mQ : GStr mg "QUIET" "quiet") (mU : GStr mg "USED" "used") (mR : mg "RULES" = some (.ref ra)) (hR : RulesAt K w mg ra)
    (U_names : Use P w K mg base "names_rest" ["part", "k"] 1 (spNames_rest PC)) (U_turn : Use P w K mg base "in_turn" ["words"] 2 (spRule K (fun _ => True) joinW)) (U_thr : Use P w K mg base "throwing" ["words"] 3 (spRule K (fun _ => True) fun ws => soft (joinW ws)))
    (U_fun : Use P w K mg base "of_fun" ["words"] 1 (spRule K (fun ws => ws.length = 1) funW)) (U_if : Use P w K mg base "of_if" ["words"] 2 (spRule K (fun ws => ws.length = 3) ifW)) (U_cat : Use P w K mg base "of_catch" ["words"] 1 (spRule K (fun ws => ws.length = 2) catW)) :
    Use P w K mg base "word_of" ["part", "k", "words"] 4 (spWord_of PC) := by
  refine F.use scWord_of (fun _ _ _ _ _ _ us hl => match us, hl with | [_, _, _], _ => rfl) (fun vs H Q E h => ?_) (fun cdv f A outer s H vs Q E hr h => ?_)
  · obtain ⟨v, e, k, ts, S, l, rfl, _⟩ := h
    rfl
  · obtain ⟨v, e, k, ts, S, l, rfl, hv, hg, hl, q⟩ := h
    have hr1 : Room 1 _ := hr.mono (by decide)
    have hr2 : Room 2 _ := hr.mono (by decide)
    obtain ⟨tQ, mQ⟩ := mQ
    obtain ⟨tU, mU⟩ := mU
    obtain ⟨fN, fdN, FN, mN, kN, bN⟩ := id U_turn
    obtain ⟨fT, fdT, FT, mT, kT, bT⟩ := U_thr
    obtain ⟨fF, fdF, FF, mF, kF, bF⟩ := U_fun
    obtain ⟨fI, fdI, FI, mI, kI, bI⟩ := U_if
    obtain ⟨fC, fdC, FC, mC, kC, bC⟩ := U_cat
    obtain ⟨hRD, hRL⟩ := hR
    have hRL := hRL fT fF fI fC mT mF mI mC
    have hsel : ∃ (f0 : Addr) (g : List (Option Wd) → Prop) (ff : List (Option Wd) → Option Wd), (∃ fd ps, FnOk P w K mg base CX0 3 f0 fd ps (spRule K g ff) ∧ PySem.W.keepIn K (.ref f0) = true ∧ Binds K fd ps []) ∧
        (isK e k = false → special e k = false → (ruleV fT fF fI fC e.word).getD (.ref fN) = .ref f0 ∧ g (e.ws k) ∧ ff (e.ws k) = e.wd k) := by
      by_cases h1 : isK e k = false
      · by_cases h2 : special e k = false
        · rcases rule_of fT fF fI fC fN hg h1 h2 with ⟨a, b⟩ | ⟨a, b, d⟩ | ⟨a, b, d⟩ | ⟨a, b, d⟩ | ⟨a, b⟩
          · exact ⟨fT, _, _, ⟨_, _, FT, kT, bT⟩, fun _ _ => ⟨a, trivial, b⟩⟩
          · exact ⟨fF, _, _, ⟨_, _, FF.mono (by decide), kF, bF⟩, fun _ _ => ⟨a, b, d⟩⟩
          · exact ⟨fI, _, _, ⟨_, _, FI.mono (by decide), kI, bI⟩, fun _ _ => ⟨a, b, d⟩⟩
          · exact ⟨fC, _, _, ⟨_, _, FC.mono (by decide), kC, bC⟩, fun _ _ => ⟨a, b, d⟩⟩
          · exact ⟨fN, _, _, ⟨_, _, FN.mono (by decide), kN, bN⟩, fun _ _ => ⟨a, trivial, b⟩⟩
        · exact ⟨fN, _, _, ⟨_, _, FN.mono (by decide), kN, bN⟩, fun _ z => absurd z h2⟩
      · exact ⟨fN, _, _, ⟨_, _, FN.mono (by decide), kN, bN⟩, fun z _ => absurd z h1⟩
    obtain ⟨f0, g0, ff, U0, hsel⟩ := hsel
    refine ⟨_, pss_cons (ps_if (pt_val (pe_use U_names hr1 (pa_cons (pv 0) (pa_cons (pv 1) pa_nil)))) (pss_one (ps_ret pe_non)) pss_nil)
      (pss_cons (ps_if (PW.pt (pw_and (pt_cmpR (r := rIn K false) op_in_seq (pe_fld (pv 0) rfl) (pe_tup (pa_cons pe_str (pa_cons pe_str pa_nil))) rfl) (pw_and1 (pt_val (pe_use U_names hr1 (pa_cons (pe_ix ix_list (pe_fld (pv 0) rfl) pe_int (fun _ _ => rfl)) (pa_cons (pv 1) pa_nil)))))))
        (pss_one (ps_ret (pe_ifExp (pt_cmpR op_eq (pe_use U_turn hr2 (pa_cons (pe_slice sl_list (pv 2) (po_some pe_int) po_none) pa_nil)) (pe_glob (v := .str "quiet") (by rfl) mQ ⟨_, rfl⟩) (nomark _)) (pe_glob (v := .str "used") (by rfl) mU ⟨_, rfl⟩) pe_non))) pss_nil)
      (pss_cons (ps_set (i := 3) scWord_of.nd rfl (Or.inl rfl) (pe_kget2 (pe_glob (v := .ref ra) (by rfl) mR rfl) (pe_fld (pv 0) rfl) (pe_glob (v := .ref fN) (by rfl) mN rfl) ⟨rfl, rfl, rfl, rfl⟩))
      (pss_one (ps_ret (pe_loc (i := 3) U0 hr (by rfl) (Or.inl rfl) (pa_cons (pv 2) pa_nil)))))), ?_⟩
    obtain ⟨xs, ⟨p, dx, nl, wl, rfl, hp, hnl, hwl⟩, hL⟩ := id hv.open_
    obtain ⟨f1, f2, f3, f4, f5⟩ := partF_look e.word (ts e.word) e.nv nl wl
    refine ⟨_, rfl, _, rfl, .ref p, e, k, ts, S, rfl, hv, hg, _, rfl, ?_⟩
    refine ite2 (fun hk => ?_) (fun hk => ?_)
    · have q := q H (Same.refl _)
      have e0 : e.wd k = none := by
        cases e with
        | name x => cases k with
          | none => cases hk
          | some y =>
            have : x = y := of_decide_eq_true hk
            subst this
            exact if_pos rfl
        | _ => cases hk
      rw [e0] at q
      exact q
    · have hk : isK e k = false := (Bool.not_eq_true _).mp hk
      refine ⟨_, rfl, p, PC, dx, _, _, rfl, hp, c, na _ (by decide +kernel), f1, (by show 2 ≤ sizeLine; decide), fun p2 np2 => ?_⟩
      have sm1 := Same.new np2 (.tup [.str "go", .str "drop"])
      have hp2 : upd H p2 (.tup [.str "go", .str "drop"]) p2 = some (.tup [.str "go", .str "drop"]) := upd_same
      generalize upd H p2 (.tup [.str "go", .str "drop"]) = H1 at sm1 hp2 ⊢
      refine ⟨p2, _, rfl, .inr (SqT.of hp2), rfl, rfl, _, rfl, ?_⟩
      rw [show (if false = true then !inV (V.str e.word) [V.str "go", V.str "drop"] else inV (V.str e.word) [V.str "go", V.str "drop"]) = decide (e.word = "go" ∨ e.word = "drop") from gd_words _ hg.word_all]
      have rest : ∀ H2, Same H1 H2 → special e k = false → (tSeq (tAsg (tKGet2 K w (tC (.ref ra)) (tFld K (tVar 0) "word") (tC (.ref fN))) (gName 3)) (tRet (tCallL 3 f0 (spRule K g0 ff) [] E0 (tCons (tVar 2) tNil)))) { nx := fun _ H' => Q .non H', rt := Q } [some (.ref p), some (okV k), some (.ref l), none] H2 := by
        intro H2 sm2 hs
        obtain ⟨r1, r2, r3⟩ := hsel hk hs
        refine ⟨ra, rfl, hRD, _, rfl, p, PC, dx, _, _, rfl, sm2 _ _ (sm1 _ _ hp), c, na _ (by decide +kernel), f1, e.word, _, rfl, hRL _ hg.word_all, ?_⟩
        rw [r1]
        refine ⟨rfl, _, rfl, l, e.ws k, rfl, sm2 _ _ (sm1 _ _ hl), r2, fun H3 sm3 => ?_⟩
        rw [r3]
        exact q H3 ((sm1.trans sm2).trans sm3)
      by_cases hw : e.word = "go" ∨ e.word = "drop"
      · rw [decide_eq_true hw]
        refine iteT ?_
        obtain ⟨a, es, ek⟩ := gd_kids hg hw
        rw [ek] at hL
        cases hL with
        | cons ha hL =>
          rename_i x xs'
          have hka : a ∈ e.kids := by rw [ek]; exact List.mem_cons_self
          obtain ⟨S', ga⟩ := hg.kid hka
          refine ⟨_, rfl, p, PC, dx, _, _, rfl, sm1 _ _ hp, c, na _ (by decide +kernel), f5, wl, _, _, x, rfl, rfl, SqL.of (sm1 _ _ hwl), atI_nat (j := 0) rfl, _, rfl, x, a, k, _, S', rfl, ha.same sm1, ga, _, rfl, ?_⟩
          refine ite2 (fun hs => ?_) (fun hs => ?_)
          · have hs : special e k = true := by rw [special_of hg ek hw]; exact hs
            obtain ⟨_, _, _, _, _, ewd⟩ := special_wd hg hs
            refine ⟨_, rfl, 1, rfl, l, _, rfl, SqL.of (sm1 _ _ hl), fun l2 nl2 => ?_⟩
            rw [cut_drop, ← List.map_drop]
            refine ⟨l2, (e.ws k).drop 1, rfl, upd_same, trivial, fun H3 sm3 => ⟨scal_woV _ _, _, rfl, ?_⟩⟩
            have q := q H3 ((sm1.trans (Same.new nl2 _)).trans sm3)
            rw [ewd] at q
            rw [woV_quiet]
            refine ite2 (fun h => ?_) (fun h => ?_)
            · rw [if_pos (of_decide_eq_true h)] at q
              exact q
            · rw [if_neg (fun z => h (decide_eq_true z))] at q
              exact q
          · exact rest H1 (Same.refl _) (by rw [special_of hg ek hw]; exact (Bool.not_eq_true _).mp hs)
      · rw [decide_eq_false hw]
        exact iteF (iteF (rest H1 (Same.refl _) (not_special hg hw)))
end
end Wr
namespace Wr
open PySem PySem.Spec PyProof.Rows L2
theorem inV_okV (k : Option Str) (ns : List Str) : inV (okV k) (ns.map V.str) = decide (∃ x ∈ ns, k = some x) := by
  cases k with
  | none =>
    rw [decide_eq_false (fun ⟨x, _, h⟩ => nomatch h)]
    induction ns with
    | nil => rfl
    | cons y ys ih => exact ih
  | some y =>
    show inV (V.str y) _ = _
    rw [inV_str]
    exact decide_eq_decide.mpr ⟨fun h => ⟨y, h, rfl⟩, fun ⟨x, h, e⟩ => by cases e; exact h⟩
/-- the rest's name within the i-th part -/
theorem ks_at {e : Ex} {k : Option Str} {i : Nat} {a : Ex} (h : e.kids[i]? = some a) : (e.ks k)[i]? = some (if (∃ x ∈ e.ns, k = some x) ∧ i + 1 = e.kids.length then none else k) := by
  have no0 : ∀ {z : Option Str} {n m : Nat}, (if (∃ x ∈ ([] : List Str), k = some x) ∧ n = m then none else k) = k := fun {z n m} => if_neg fun ⟨⟨x, h, _⟩, _⟩ => nomatch h
  cases e with
  | num n => simp [Ex.kids] at h
  | name n => simp [Ex.kids] at h
  | fault => simp [Ex.kids] at h
  | one w b =>
    match i, h with
    | 0, _ => exact congrArg some (if_neg fun ⟨⟨x, h, _⟩, _⟩ => nomatch h).symm
  | two w b c =>
    match i, h with
    | 0, _ => exact congrArg some (if_neg fun ⟨⟨x, h, _⟩, _⟩ => nomatch h).symm
    | 1, _ => exact congrArg some (if_neg fun ⟨⟨x, h, _⟩, _⟩ => nomatch h).symm
  | ite b c d =>
    match i, h with
    | 0, _ => exact congrArg some (if_neg fun ⟨⟨x, h, _⟩, _⟩ => nomatch h).symm
    | 1, _ => exact congrArg some (if_neg fun ⟨⟨x, h, _⟩, _⟩ => nomatch h).symm
    | 2, _ => exact congrArg some (if_neg fun ⟨⟨x, h, _⟩, _⟩ => nomatch h).symm
  | lt x b c =>
    match i, h with
    | 0, _ => exact congrArg some (if_neg fun ⟨_, h⟩ => nomatch (show (0 + 1 : Nat) = 2 from h)).symm
    | 1, _ =>
      refine congrArg some ?_
      show hid k x = _
      unfold hid
      by_cases c : k = some x
      · rw [if_pos c, if_pos ⟨⟨x, List.mem_singleton.mpr rfl, c⟩, rfl⟩]
      · rw [if_neg c, if_neg fun ⟨⟨y, hy, q⟩, _⟩ => c (by rw [q, List.mem_singleton.mp hy])]
  | fn x b =>
    match i, h with
    | 0, _ =>
      refine congrArg some ?_
      show hid k x = _
      unfold hid
      by_cases c : k = some x
      · rw [if_pos c, if_pos ⟨⟨x, List.mem_singleton.mpr rfl, c⟩, rfl⟩]
      · rw [if_neg c, if_neg fun ⟨⟨y, hy, q⟩, _⟩ => c (by rw [q, List.mem_singleton.mp hy])]
  | ct b x k' c =>
    match i, h with
    | 0, _ => exact congrArg some (if_neg fun ⟨_, h⟩ => nomatch (show (0 + 1 : Nat) = 2 from h)).symm
    | 1, _ =>
      refine congrArg some ?_
      show hid (hid k x) k' = _
      by_cases c : k = some x
      · rw [show hid k x = none from if_pos c, if_pos ⟨⟨x, List.mem_cons_self, c⟩, rfl⟩]
        exact if_neg fun z => nomatch z
      · rw [show hid k x = k from if_neg c]
        by_cases c2 : k = some k'
        · rw [show hid k k' = none from if_pos c2, if_pos ⟨⟨k', List.mem_cons_of_mem _ (List.mem_singleton.mpr rfl), c2⟩, rfl⟩]
        · rw [show hid k k' = k from if_neg c2, if_neg]
          rintro ⟨⟨y, hy, q⟩, _⟩
          have hy : y ∈ [x, k'] := hy
          rcases List.mem_cons.mp hy with rfl | hy
          · exact c q
          · exact c2 (by rw [q, List.mem_singleton.mp hy])
section
variable {P : Program} {w : World} {K : PySem.W.Frag} {mg : Str → Option Value} {base : Heap}
def spPaper_of (PC : Addr) (n : Nat) : Sp := fun vs H Q _ => ∃ (v : V) (e : Ex) (k : Option Str) (ts : Str → Nat) (S : List Str), vs = [v, okV k] ∧ PartAt PC H v e ts ∧ Good S e ∧ e.deep ≤ n ∧ ∀ r H', Same H H' → PapAt H' r e k → Q r H'
theorem scPaper_of : FnScope ["part", "k", "found", "at", "inner", "anew", "paper"] ["part", "k"] (defScope s_paper_of) := ⟨rfl, rfl, rfl, by decide +kernel, rfl, by decide +kernel, by decide +kernel⟩
theorem ok_paper_of {PC : Addr} {n j : Nat} (hj : 4 ≤ j) (F : Df K mg "paper_of" s_paper_of) (c : Cls K PC) (na : NoAts K PC partNs) (enum : mg "enumerate" = none) (len : mg "len" = none) (tup : mg "tuple" = none) (U_word : Use P w K mg base "word_of" ["part", "k", "words"] 4 (spWord_of PC))
    (U : Use P w K mg base "paper_of" ["part", "k"] j (spPaper_of PC n)) : Use P w K mg base "paper_of" ["part", "k"] (j + 1) (spPaper_of PC (n + 1)) := by
  refine F.use scPaper_of (fun _ _ _ _ _ _ us hl => match us, hl with | [_, _], _ => rfl) (fun vs H Q E h => ?_) (fun cdv f A outer s H vs Q E hr h => ?_)
  · obtain ⟨v, e, k, ts, S, rfl, _⟩ := h
    rfl
  · obtain ⟨v, e, k, ts, S, rfl, hv, hg, hd, q⟩ := h
    have hr4 : Room 4 _ := hr.mono hj
    refine ⟨_, pss_cons (ps_set (i := 2) scPaper_of.nd rfl (Or.inl rfl) (pe_lst pa_nil))
      (pss_cons (ps_for PassesOwn.never rfl (pi_enum (by rfl) enum (pa_cons (pe_fld (pv 0) rfl) pa_nil)) (pg_tup rfl (pgs_cons (pg_name (i := 3) scPaper_of.nd rfl (Or.inl rfl)) (pgs_cons (pg_name (i := 4) scPaper_of.nd rfl (Or.inl rfl)) pgs_nil)))
        (pss_cons (ps_set (i := 5) scPaper_of.nd rfl (Or.inl rfl) (pe_and (pe_cmpR (r := rIn K false) op_in_seq (pv 1) (pe_fld (pv 0) rfl) rfl) (pe_one (pe_cmpR op_eq (pv 3) (pe_op op_sub (pe_callB call_len_seq (by rfl) len PySem.boot_len (pa_cons (pe_fld (pv 0) rfl) pa_nil)) pe_int) (nomark _)))))
        (pss_one (ps_expr (pe_bm PySem.F.plainAttrs_list PySem.F.slot_list_append PySem.F.type_list_append mt_append (pv 2) (pa_cons (pe_use U hr (pa_cons (pv 4) (pa_cons (pe_ifExp (pt_val (pv 5)) pe_non (pv 1)) pa_nil))) pa_nil))))))
      (pss_one (ps_ret (pe_tup (pa_cons (pe_use U_word hr4 (pa_cons (pv 0) (pa_cons (pv 1) (pa_cons
          (pe_lc (own := [("paper", 6)]) (g := gName 6) (tt := tYes) (by rfl) scPaper_of.nd (pi_list (pv 2)) (blkOk_by (own := [("paper", 6)]) (N := ["part", "k", "found", "at", "inner", "anew", "paper"]) (sc := defScope s_paper_of) (by decide +kernel))
            (fun _ _ _ _ _ => pg_name (i := 6) scPaper_of.nd rfl (Or.inl rfl)) (fun _ _ _ _ _ => pts_nil) (fun _ _ _ _ _ => pe_ix (r := rIxT K) ix_tup (pv 6) pe_int (fun _ _ => rfl))) pa_nil))))
        (pa_cons (pe_callTy call_tuple_of (by rfl) tup (by decide +kernel) (pa_cons (pv 2) pa_nil)) pa_nil)))))), ?_⟩
    obtain ⟨xs, ⟨p, dx, nl, wl, rfl, hp, hnl, hwl⟩, hL⟩ := id hv.open_
    obtain ⟨f1, f2, f3, f4, f5⟩ := partF_look e.word (ts e.word) e.nv nl wl
    have hxl := hL.length
    have h3 := e.kids_len
    refine ⟨by show 0 ≤ sizeLine; decide, fun D nD => ?_⟩
    have sD := Same.new nD (.lst [])
    refine ⟨_, rfl, p, PC, dx, _, _, rfl, sD _ _ hp, c, na _ (by decide +kernel), f5, wl, xs, rfl, SqL.of (sD _ _ hwl), ?_⟩
    refine for_it (walk_enum (K := K) (a := wl) (xs := xs)) (fun i σ H2 => ∃ (ys : List V) (s3 s4 s5 : Option V), σ = [some (.ref p), some (okV k), some (.ref D), s3, s4, s5, none] ∧ Same H H2 ∧ H2 D = some (.lst ys) ∧ PapL H2 ys (e.kids.take i) ((e.ks k).take i)) ⟨[], none, none, none, rfl, sD, upd_same, .nil⟩
      (fun i σ H2 hi ⟨ys, s3, s4, s5, _, sm, _⟩ => SqL.of (sm _ _ hwl)) ?_ ?_
    · rintro i v σ H2 H2' hi ⟨ys, s3, s4, s5, rfl, sm, hD2, hP⟩ ⟨T, x, y, rfl, nT, rfl, ex, hy⟩
      cases ex
      obtain ⟨a, haa, hay⟩ := hL.at_ hy
      have hka : a ∈ e.kids := List.mem_of_getElem? haa
      obtain ⟨S', ga⟩ := hg.kid hka
      have hk := ks_at (k := k) haa
      have hdk := kid_deep hka
      have sT := Same.new nT (.tup [.int (i : Nat), y])
      have sm2 := sm.trans sT
      have hD2' := sT _ _ hD2
      have hP' := hP.same sT
      have ha2 := hay.same sm2
      have hyl : ys.length = (e.kids.take i).length := hP.length.1
      refine ⟨T, _, rfl, SqT.of upd_same, rfl, _, _, rfl, _, _, rfl, rfl, ?_⟩
      generalize upd H2 T (.tup [.int (i : Nat), y]) = H3 at sT sm2 hD2' hP' ha2 ⊢
      -- behind it, whatever anew is
      have fin : ∀ (k2 : Option Str), (e.ks k)[i]? = some k2 → ∀ (r : V) (H4 : Hp), Same H3 H4 → PapAt H4 r a k2 → H4 D = some (.lst ys) ∧ ys.length < sizeLine ∧ Same H (upd H4 D (.lst (ys ++ [r]))) ∧ PapL (upd H4 D (.lst (ys ++ [r]))) (ys ++ [r]) (e.kids.take (i + 1)) ((e.ks k).take (i + 1)) := by
        intro k2 hk2 r H4 s4 P4
        have hD4 := s4 _ _ hD2'
        refine ⟨hD4, ?_, ?_, ?_⟩
        · have : (3 : Nat) < sizeLine := by decide
          rw [List.length_take] at hyl
          omega
        · exact Same.putnew (sm2.trans s4) nD _
        · rw [take_snoc haa, take_snoc hk2]
          have up : ∀ t zs, H4 t = some (.tup zs) → upd H4 D (.lst (ys ++ [r])) t = some (.tup zs) := fun t zs h => by
            rw [upd_ne (fun e => by rw [e, hD4] at h; cases h)]
            exact h
          exact (((hP'.same s4).snoc P4)).tups up
      refine ⟨_, rfl, _, rfl, p, PC, dx, _, _, rfl, sm2 _ _ hp, c, na _ (by decide +kernel), f4, nl, _, rfl, .inl (SqL.of (sm2 _ _ hnl)), flat_okV k, flat_strs _, _, rfl, ?_⟩
      rw [show (if false = true then !inV (okV k) (e.ns.map V.str) else inV (okV k) (e.ns.map V.str)) = decide (∃ x ∈ e.ns, k = some x) from inV_okV k e.ns]
      by_cases hn : ∃ x ∈ e.ns, k = some x
      · rw [decide_eq_true hn]
        refine iteT ⟨_, rfl, _, rfl, p, PC, dx, _, _, rfl, sm2 _ _ hp, c, na _ (by decide +kernel), f5, wl, _, rfl, .inl (SqL.of (sm2 _ _ hwl)), _, _, rfl, rfl, rfl, ?_⟩
        by_cases hl : i + 1 = e.kids.length
        · rw [decide_eq_true (congrArg V.int (show ((i : Nat) : Int) = ((xs.length : Nat) : Int) - 1 by omega))]
          have hk2 : (e.ks k)[i]? = some none := by rw [hk, if_pos ⟨hn, hl⟩]
          refine ⟨_, rfl, .inl ⟨rfl, _, SqL.of hD2'⟩, _, rfl, _, rfl, _, rfl, ?_⟩
          refine iteT ⟨y, a, none, _, S', rfl, ha2, ga, by omega, fun r H4 s4 P4 => ?_⟩
          obtain ⟨g1, g2, g3, g4⟩ := fin _ hk2 r H4 s4 P4
          exact ⟨D, ys, r, rfl, rfl, g1, g2, _, _, _, _, rfl, g3, upd_same, g4⟩
        · rw [decide_eq_false (show ¬ V.int ((i : Nat) : Int) = V.int (((xs.length : Nat) : Int) - 1) from fun z => hl (by have := V.int.inj z; omega))]
          have hk2 : (e.ks k)[i]? = some k := by rw [hk, if_neg fun z => hl z.2]
          refine ⟨_, rfl, .inl ⟨rfl, _, SqL.of hD2'⟩, _, rfl, _, rfl, _, rfl, ?_⟩
          refine iteF ⟨_, rfl, y, a, k, _, S', rfl, ha2, ga, by omega, fun r H4 s4 P4 => ?_⟩
          obtain ⟨g1, g2, g3, g4⟩ := fin _ hk2 r H4 s4 P4
          exact ⟨D, ys, r, rfl, rfl, g1, g2, _, _, _, _, rfl, g3, upd_same, g4⟩
      · rw [decide_eq_false hn]
        refine iteF ?_
        have hk2 : (e.ks k)[i]? = some k := by rw [hk, if_neg fun z => hn z.1]
        refine ⟨_, rfl, .inl ⟨rfl, _, SqL.of hD2'⟩, _, rfl, _, rfl, _, rfl, ?_⟩
        refine iteF ⟨_, rfl, y, a, k, _, S', rfl, ha2, ga, by omega, fun r H4 s4 P4 => ?_⟩
        obtain ⟨g1, g2, g3, g4⟩ := fin _ hk2 r H4 s4 P4
        exact ⟨D, ys, r, rfl, rfl, g1, g2, _, _, _, _, rfl, g3, upd_same, g4⟩
    · rintro σ H2 ⟨ys, s3, s4, s5, rfl, sm, hD2, hP⟩
      rw [hxl, List.take_of_length_le (Nat.le_refl _), List.take_of_length_le (by rw [Ex.ks_len]; exact Nat.le_refl _)] at hP
      have hyl : ys.length = e.kids.length := hP.length.1
      have hpN := sm _ _ hp
      refine ⟨_, rfl, _, rfl, _, rfl, D, rfl, ⟨_, SqL.of hD2⟩, fun D2 nD2 => ?_⟩
      refine lc_list (K := K) (a := D) (xs := ys) (fun i H3 => Same H2 H3 ∧ H3 D2 = some (.lst (((e.ws k).take i).map woV))) ⟨Same.new nD2 _, upd_same⟩ (fun i H3 _ h => SqL.of (h.1 _ _ hD2)) ?_ ?_
      · rintro i x H3 hx ⟨sm3, hD3⟩
        obtain ⟨a, k2, hw, pa⟩ := hP.at_ hx
        obtain ⟨t, u, zs, rfl, ht, _, _⟩ := pa.open_
        have hi : i < ys.length := (List.getElem?_eq_some_iff.mp hx).1
        refine ⟨rfl, tYes_if ?_⟩
        refine ⟨_, rfl, t, _, _, woV (a.wd k2), rfl, rfl, SqT.of (sm3 _ _ ht), atI_nat (j := 0) rfl, _, hD3, ?_, Same.putnew sm3 nD2 _, ?_⟩
        · have : (3 : Nat) < sizeLine := by decide
          rw [List.length_map, List.length_take]
          omega
        · have hw : (e.ws k)[i]? = some (a.wd k2) := hw
          rw [upd_same, take_snoc hw, List.map_append]
          rfl
      · rintro H3 ⟨sm3, hD3⟩
        have hwl2 : (e.ws k).length = ys.length := by rw [Ex.ws_len]; exact hyl.symm
        rw [List.take_of_length_le (by omega)] at hD3
        refine ⟨.ref p, e, k, ts, S, D2, rfl, hv.same (sm.trans sm3), hg, hD3, fun H4 sm4 => ?_⟩
        have sm24 := sm3.trans sm4
        have hD4 := sm24 _ _ hD2
        refine ⟨_, rfl, D, _, rfl, .inl ⟨SqL.of hD4, fun u nu => ⟨by show 2 ≤ sizeLine; decide, fun t nt => ?_⟩⟩⟩
        have su := Same.new nu (.tup ys)
        have st := Same.new nt (.tup [woV (e.wd k), .ref u])
        refine q _ _ (((sm.trans sm24).trans su).trans st) (PapAt.mk_ (t := t) (u := u) (vs := ys) upd_same (st _ _ upd_same) ((hP.same sm24).same (su.trans st)))
theorem papers_all {PC : Addr} (F : Df K mg "paper_of" s_paper_of) (c : Cls K PC) (na : NoAts K PC partNs) (enum : mg "enumerate" = none) (len : mg "len" = none) (tup : mg "tuple" = none) (U_word : Use P w K mg base "word_of" ["part", "k", "words"] 4 (spWord_of PC)) :
    ∀ n, Use P w K mg base "paper_of" ["part", "k"] (n + 4) (spPaper_of PC n)
  | 0 => use_no F (fun _ _ _ _ _ _ us hl => match us, hl with | [_, _], _ => rfl) 4 fun vs H Q E ⟨v, e, _, _, _, _, _, _, hd, _⟩ => by have := e.deep_pos; omega
  | n + 1 => ok_paper_of (by omega) F c na enum len tup U_word (papers_all F c na enum len tup U_word n)
end
end Wr
namespace Wr
open PySem PySem.Spec PyProof.Rows L2
/-- trees of parts -/
inductive CtL (C : Addr) (H : Hp) : List V → List Ex → Prop where
  | nil : CtL C H [] []
  | cons {v : V} {e : Ex} {vs : List V} {es : List Ex} (ts : Str → Nat) : PartAt C H v e ts → CtL C H vs es → CtL C H (v :: vs) (e :: es)
theorem CtL.same {C : Addr} {H H' : Hp} (s : Same H H') : ∀ {vs : List V} {es : List Ex}, CtL C H vs es → CtL C H' vs es
  | _, _, .nil => .nil
  | _, _, .cons ts a t => .cons ts (a.same s) (CtL.same s t)
theorem CtL.length {C : Addr} {H : Hp} : ∀ {vs : List V} {es : List Ex}, CtL C H vs es → vs.length = es.length
  | _, _, .nil => rfl
  | _, _, .cons _ _ t => by rw [List.length_cons, List.length_cons, t.length]
theorem CtL.append {C : Addr} {H : Hp} : ∀ {vs us : List V} {es fs : List Ex}, CtL C H vs es → CtL C H us fs → CtL C H (vs ++ us) (es ++ fs)
  | _, _, _, _, .nil, g => g
  | _, _, _, _, .cons ts a t, g => .cons ts a (t.append g)
theorem CtL.at_ {C : Addr} {H : Hp} : ∀ {vs : List V} {es : List Ex} {i : Nat} {v : V}, CtL C H vs es → vs[i]? = some v → ∃ e ts, es[i]? = some e ∧ PartAt C H v e ts
  | _, _, _, _, .nil, h => by simp at h
  | _, _, 0, _, .cons (e := e) ts a _, h => by cases h; exact ⟨e, ts, rfl, a⟩
  | _, _, i + 1, _, .cons _ _ t, h => t.at_ (i := i) h
section
variable {P : Program} {w : World} {K : PySem.W.Frag} {mg : Str → Option Value} {base : Heap}
def spCts_within (PC : Addr) (n : Nat) : Sp := fun vs H Q _ => ∃ (G : Hp) (v : V) (e : Ex) (ts : Str → Nat) (S : List Str), vs = [v] ∧ Same G H ∧ PartAt PC G v e ts ∧ Good S e ∧ e.deep ≤ n ∧ e.size ≤ 200 ∧
  ∀ (l : Addr) (us : List V) (H' : Hp), Same H H' → H l = none → H' l = some (.lst us) → CtL PC G us e.cts → Q (.ref l) H'
theorem scCts_within : FnScope ["part", "found", "inner"] ["part"] (defScope s_catches_within) := ⟨rfl, rfl, rfl, by decide +kernel, rfl, by decide +kernel, by decide +kernel⟩
theorem ok_cts_within {PC : Addr} (n : Nat) (F : Df K mg "catches_within" s_catches_within) (c : Cls K PC) (na : NoAts K PC partNs) (U : Use P w K mg base "catches_within" ["part"] n (spCts_within PC n)) : Use P w K mg base "catches_within" ["part"] (n + 1) (spCts_within PC (n + 1)) := by
  refine F.use scCts_within (fun _ _ _ _ _ _ us hl => match us, hl with | [_], _ => rfl) (fun vs H Q E h => ?_) (fun cdv f A outer s H vs Q E hr h => ?_)
  · obtain ⟨G, v, e, ts, S, rfl, _⟩ := h
    rfl
  · obtain ⟨G, v, e, ts, S, rfl, sg, hv, hg, hd, hz, q⟩ := h
    refine ⟨_, pss_cons (ps_set (i := 1) scCts_within.nd rfl (Or.inl rfl) (pe_ifExp (pt_cmpR op_eq (pe_fld (pv 0) rfl) pe_str (nomark _)) (pe_lst (pa_cons (pv 0) pa_nil)) (pe_lst pa_nil)))
      (pss_cons (ps_for PassesOwn.never rfl (pi_list (pe_fld (pv 0) rfl)) (pg_name (i := 2) scCts_within.nd rfl (Or.inl rfl))
        (pss_one (ps_expr (pe_bm PySem.F.plainAttrs_list PySem.F.slot_list_extend PySem.F.type_list_extend mt_extend (pv 1) (pa_cons (pe_use U hr (pa_cons (pv 2) pa_nil)) pa_nil)))))
      (pss_one (ps_ret (pv 1)))), ?_⟩
    obtain ⟨xs, ⟨p, dx, nl, wl, rfl, hp, hnl, hwl⟩, hL⟩ := id hv.open_
    obtain ⟨f1, f2, f3, f4, f5⟩ := partF_look e.word (ts e.word) e.nv nl wl
    have hxl := hL.length
    have hp := sg _ _ hp
    have hnl := sg _ _ hnl
    have hwl := sg _ _ hwl
    refine ⟨_, rfl, p, PC, dx, _, _, rfl, hp, c, na _ (by decide +kernel), f1, rfl, _, rfl, ?_⟩
    rw [word_ct hg]
    have both : ∀ (l : Addr) (us : List V) (H1 : Hp), Same H H1 → H l = none → H1 l = some (.lst us) → CtL PC G us (if e.isCt = true then [e] else []) →
        (tSeq (tFor (iList K (tFld K (tVar 0) "within")) (gName 2) (tSeq (tDrop (tBM K "list" rExtend (tVar 1) (tCons (tCall (spCts_within PC n) [] E0 (tCons (tVar 2) tNil)) tNil))) tNext)) (tRet (tVar 1))) { nx := fun _ H' => Q .non H', rt := Q } [some (.ref p), some (.ref l), none] H1 := by
      intro l us H1 sm1 nl0 hl1 hC
      refine ⟨_, rfl, p, PC, dx, _, _, rfl, sm1 _ _ hp, c, na _ (by decide +kernel), f5, wl, rfl, ⟨_, SqL.of (sm1 _ _ hwl)⟩, for_list (K := K) (a := wl) (xs := xs) (fun i σ H2 => Same H H2 ∧ ∃ (us : List V) (v : Option V), σ = [some (.ref p), some (.ref l), v] ∧ H2 l = some (.lst us) ∧
        CtL PC G us ((if e.isCt = true then [e] else []) ++ ((e.kids.take i).map Ex.cts).flatten)) ⟨sm1, us, none, rfl, hl1, by simpa using hC⟩ (fun i σ H2 _ h => SqL.of (h.1 _ _ hwl)) ?_ ?_⟩
      · rintro i x σ H2 hi ⟨sm, us, v, rfl, hl2, hC2⟩
        obtain ⟨a, haa, hay⟩ := hL.at_ hi
        have hka : a ∈ e.kids := List.mem_of_getElem? haa
        obtain ⟨S', ga⟩ := hg.kid hka
        refine ⟨_, rfl, .inl ⟨rfl, _, SqL.of hl2⟩, _, rfl, G, x, a, _, S', rfl, fun b o h => sm _ _ (sg _ _ h), hay, ga, by have := kid_deep hka; omega, by have := kid_size hka; omega, fun l3 us3 H3 sm3 nl3 hl3 hC3 => ?_⟩
        have hl23 := sm3 _ _ hl2
        refine ⟨l, l3, us, us3, rfl, rfl, hl23, hl3, ?_, Same.putnew (sm.trans sm3) nl0 _, _, _, rfl, upd_same, ?_⟩
        · have k1 := hC2.length
          have k2 := hC3.length
          have c1 := a.cts_size
          have c2 := kid_size hka
          have c3 : ((if e.isCt = true then [e] else []) ++ ((e.kids.take i).map Ex.cts).flatten).length ≤ e.cts.length := by
            rw [e.cts_kids, List.length_append, List.length_append]
            refine Nat.add_le_add_left ?_ _
            have : e.kids.map Ex.cts = (e.kids.take i).map Ex.cts ++ (e.kids.drop i).map Ex.cts := by rw [← List.map_append, List.take_append_drop]
            rw [this, List.flatten_append, List.length_append]
            omega
          have c4 := e.cts_size
          have : (400 : Nat) ≤ sizeLine := by decide
          omega
        · rw [take_snoc haa, List.map_append, List.flatten_append, ← List.append_assoc]
          refine hC2.append ?_
          simpa using hC3
      · rintro σ H2 ⟨sm, us, v, rfl, hl2, hC2⟩
        rw [hxl, List.take_of_length_le (Nat.le_refl _), ← e.cts_kids] at hC2
        exact ⟨_, rfl, q l us H2 sm nl0 hl2 hC2⟩
    refine ite2 (fun hc => ?_) (fun hc => ?_)
    · refine ⟨_, rfl, (by show 1 ≤ sizeLine; decide), fun l nl' => ?_⟩
      refine both l _ _ (Same.new nl' _) nl' upd_same ?_
      rw [if_pos hc]
      exact .cons ts hv .nil
    · refine ⟨Nat.zero_le _, fun l nl' => ?_⟩
      refine both l _ _ (Same.new nl' _) nl' upd_same ?_
      rw [if_neg hc]
      exact .nil
theorem cts_all {PC : Addr} (F : Df K mg "catches_within" s_catches_within) (c : Cls K PC) (na : NoAts K PC partNs) : ∀ n, Use P w K mg base "catches_within" ["part"] n (spCts_within PC n)
  | 0 => use_no F (fun _ _ _ _ _ _ us hl => match us, hl with | [_], _ => rfl) 0 fun vs H Q E ⟨G, v, e, _, _, _, _, _, _, hd, _⟩ => by have := e.deep_pos; omega
  | n + 1 => ok_cts_within n F c na (cts_all F c na n)
/-- a catch's handler: its paper, or none -/
def spHandler (PC : Addr) : Sp := fun vs H Q _ => ∃ (v : V) (a : Ex) (x k : Str) (b : Ex) (ts : Str → Nat) (S : List Str), vs = [v] ∧ PartAt PC H v (.ct a x k b) ts ∧ Good S b ∧ b.deep ≤ 41 ∧ ∀ u H', Same H H' → PapO H' u (.ct a x k b) → Q u H'
theorem scHandler : FnScope ["catch", "paper"] ["catch"] (defScope s_handler_paper) := ⟨rfl, rfl, rfl, by decide +kernel, rfl, by decide +kernel, by decide +kernel⟩
theorem ok_handler {PC : Addr} (F : Df K mg "handler_paper" s_handler_paper) (c : Cls K PC) (na : NoAts K PC partNs) (U : Use P w K mg base "paper_of" ["part", "k"] 45 (spPaper_of PC 41)) : Use P w K mg base "handler_paper" ["catch"] 46 (spHandler PC) := by
  refine F.use scHandler (fun _ _ _ _ _ _ us hl => match us, hl with | [_], _ => rfl) (fun vs H Q E h => ?_) (fun cdv f A outer s H vs Q E hr h => ?_)
  · obtain ⟨v, a, x, k, b, ts, S, rfl, _⟩ := h
    rfl
  · obtain ⟨v, a, x, k, b, ts, S, rfl, hv, hg, hd, q⟩ := h
    refine ⟨_, pss_cons (ps_set (i := 1) scHandler.nd rfl (Or.inl rfl) (pe_use U hr (pa_cons (pe_ix ix_list (pe_fld (pv 0) rfl) pe_int (fun _ _ => rfl)) (pa_cons (pe_ix ix_list (pe_fld (pv 0) rfl) pe_int (fun _ _ => rfl)) pa_nil))))
      (pss_one (ps_ret (pe_ifExp (pt_cmpR op_isN (pe_ix ix_tup (pv 1) pe_int (fun _ _ => rfl)) pe_non (nomark _)) pe_non (pv 1)))), ?_⟩
    obtain ⟨y1, y2, ⟨p, dx, nl, wl, rfl, hp, hnl, hwl⟩, ha, hb⟩ := id hv
    obtain ⟨f1, f2, f3, f4, f5⟩ := partF_look "catch" (ts "catch") .non nl wl
    refine ⟨_, rfl, p, PC, dx, _, _, rfl, hp, c, na _ (by decide +kernel), f5, wl, _, _, y2, rfl, rfl, SqL.of hwl, atI_nat (j := 1) rfl, _, rfl, p, PC, dx, _, _, rfl, hp, c, na _ (by decide +kernel), f4, nl, _, _, .str k, rfl, rfl, SqL.of hnl, atI_nat (j := 1) rfl, ?_⟩
    refine ⟨y2, b, some k, _, S, rfl, hb, hg, hd, fun r H1 sm1 pa => ?_⟩
    obtain ⟨t, u, zs, rfl, ht, _, _⟩ := id pa.open_
    refine ⟨_, rfl, t, _, _, woV (b.wd (some k)), rfl, rfl, SqT.of ht, atI_nat (j := 0) rfl, rfl, _, rfl, ?_⟩
    rw [woV_none]
    have q := q
    cases hw : b.wd (some k) with
    | none =>
      refine iteT ?_
      refine q _ H1 sm1 ?_
      show if b.wd (some k) = none then V.non = .non else _
      rw [if_pos hw]
    | some wd =>
      refine iteF ⟨_, rfl, q _ H1 sm1 ?_⟩
      show if b.wd (some k) = none then _ else PapAt H1 (.ref t) b (some k)
      rw [if_neg (by rw [hw]; exact fun z => nomatch z)]
      exact pa
end
end Wr
namespace Wr
open PySem PySem.Spec PyProof.Rows L2
/-! ### deep data -/
mutual
theorem dp_same {K : PySem.W.Frag} {H H' : Hp} (s : Same H H') : ∀ {v : V} {d : PyData}, Dp K H v d → Dp K H' v d
  | _, _, .non => .non
  | _, _, .bl b => .bl b
  | _, _, .int i => .int i
  | _, _, .str x => .str x
  | _, _, .lst q a => .lst (s.seq q) (dpAll_same s a)
  | _, _, .tup q a => .tup (Same.tupq s q) (dpAll_same s a)
theorem dpAll_same {K : PySem.W.Frag} {H H' : Hp} (s : Same H H') : ∀ {vs : List V} {ds : List PyData}, DpAll K H vs ds → DpAll K H' vs ds
  | _, _, .nil => .nil
  | _, _, .cons a t => .cons (dp_same s a) (dpAll_same s t)
end
def rEqD2 (K : PySem.W.Frag) : R2 := fun x y H Q => ∃ d e, Dp K H x d ∧ Dp K H y e ∧ d.canLay0 = true ∧ e.canLay0 = true ∧ d.depth ≤ 190 ∧ Q (.bl (PyData.eqv d e)) H
theorem op_eqD2 {X : Cx} (hu : X.A.units + 200 < cLine) : OpR X (compareOp .Eq) (rEqD2 X.K) := by
  intro pins s σ H x y v u Q I rx ry h
  obtain ⟨d, e, hd, he, sd, se, hdp, q⟩ := h
  obtain ⟨as, r1⟩ := Dp.reads I d x v hd rx
  obtain ⟨bs, r2⟩ := Dp.reads I e y u he ry
  exact SeqAt.compareEq_reads r1 r2 sd se (by have := Nat.min_le_left d.depth e.depth; omega) ⟨.bl _, H, I, rfl, q⟩
theorem room200 {k : Nat} {A : Around} (r : Room k A) : A.units + 200 < cLine := by have := r.un; omega
theorem wdD_lay (w : Option Wd) : (wdD w).canLay0 = true ∧ (wdD w).depth ≤ 0 := by
  cases w with
  | none => exact ⟨rfl, Nat.le_refl _⟩
  | some w => cases w <;> exact ⟨by decide +kernel, Nat.le_refl _⟩
theorem pap_lay (e : Ex) : ∀ k, (e.pap k).canLay0 = true ∧ (e.pap k).depth ≤ 2 * e.deep := by
  have mk : ∀ {w : Option Wd} {ds : List PyData} {n : Nat}, PyData.canLayAll0 ds = true → PyData.depthAll ds ≤ n → (PyData.tuple [wdD w, .tuple ds]).canLay0 = true ∧ (PyData.tuple [wdD w, .tuple ds]).depth ≤ n + 2 := fun {w ds n} h1 h2 => by
    obtain ⟨a, b⟩ := wdD_lay w
    refine ⟨?_, ?_⟩
    · simp only [PyData.canLay0, PyData.canLayAll0, a, h1, Bool.and_self]
    · simp only [PyData.depth, PyData.depthAll]
      omega
  induction e with
  | num n => intro k; exact mk rfl (Nat.le_refl _)
  | name x => intro k; exact mk rfl (Nat.le_refl _)
  | fault => intro k; exact mk rfl (Nat.le_refl _)
  | one w a ia =>
    intro k
    obtain ⟨a1, a2⟩ := ia k
    have := mk (w := (Ex.one w a).wd k) (ds := [a.pap k]) (n := 2 * a.deep) (by simp only [PyData.canLayAll0, a1, Bool.and_self]) (by simp only [PyData.depthAll]; omega)
    exact ⟨this.1, Nat.le_trans this.2 (by simp only [Ex.deep]; omega)⟩
  | two w a b ia ib =>
    intro k
    obtain ⟨a1, a2⟩ := ia k
    obtain ⟨b1, b2⟩ := ib k
    have := mk (w := (Ex.two w a b).wd k) (ds := [a.pap k, b.pap k]) (n := 2 * max a.deep b.deep) (by simp only [PyData.canLayAll0, a1, b1, Bool.and_self]) (by simp only [PyData.depthAll]; omega)
    exact ⟨this.1, Nat.le_trans this.2 (by simp only [Ex.deep]; omega)⟩
  | ite a b c ia ib ic =>
    intro k
    obtain ⟨a1, a2⟩ := ia k
    obtain ⟨b1, b2⟩ := ib k
    obtain ⟨c1, c2⟩ := ic k
    have := mk (w := (Ex.ite a b c).wd k) (ds := [a.pap k, b.pap k, c.pap k]) (n := 2 * max (max a.deep b.deep) c.deep) (by simp only [PyData.canLayAll0, a1, b1, c1, Bool.and_self]) (by simp only [PyData.depthAll]; omega)
    exact ⟨this.1, Nat.le_trans this.2 (by simp only [Ex.deep]; omega)⟩
  | lt x a b ia ib =>
    intro k
    obtain ⟨a1, a2⟩ := ia k
    obtain ⟨b1, b2⟩ := ib (hid k x)
    have := mk (w := (Ex.lt x a b).wd k) (ds := [a.pap k, b.pap (hid k x)]) (n := 2 * max a.deep b.deep) (by simp only [PyData.canLayAll0, a1, b1, Bool.and_self]) (by simp only [PyData.depthAll]; omega)
    exact ⟨this.1, Nat.le_trans this.2 (by simp only [Ex.deep]; omega)⟩
  | fn x a ia =>
    intro k
    obtain ⟨a1, a2⟩ := ia (hid k x)
    have := mk (w := (Ex.fn x a).wd k) (ds := [a.pap (hid k x)]) (n := 2 * a.deep) (by simp only [PyData.canLayAll0, a1, Bool.and_self]) (by simp only [PyData.depthAll]; omega)
    exact ⟨this.1, Nat.le_trans this.2 (by simp only [Ex.deep]; omega)⟩
  | ct a x k' b ia ib =>
    intro k
    obtain ⟨a1, a2⟩ := ia k
    obtain ⟨b1, b2⟩ := ib (hid (hid k x) k')
    have := mk (w := (Ex.ct a x k' b).wd k) (ds := [a.pap k, b.pap (hid (hid k x) k')]) (n := 2 * max a.deep b.deep) (by simp only [PyData.canLayAll0, a1, b1, Bool.and_self]) (by simp only [PyData.depthAll]; omega)
    exact ⟨this.1, Nat.le_trans this.2 (by simp only [Ex.deep]; omega)⟩
section
variable {P : Program} {w : World} {K : PySem.W.Frag} {mg : Str → Option Value} {base : Heap}
def spPapers_of (TC PC : Addr) : Sp := fun vs H Q _ => ∃ (G : Hp) (p : Addr) (e : Ex), vs = [.ref p] ∧ Same G H ∧ TreeAt TC PC G p e ∧ Good [] e ∧ e.deep ≤ 41 ∧ e.size ≤ 200 ∧ ∀ (l : Addr) (us : List V) (H' : Hp), Same H H' → H l = none → H' l = some (.lst us) → PoL H' us e.cts → Q (.ref l) H'
theorem scPapers_of : FnScope ["tree", "catch"] ["tree"] (defScope s_papers_of) := ⟨rfl, rfl, rfl, by decide +kernel, rfl, by decide +kernel, by decide +kernel⟩
theorem treeF_look (a b c : V) : ([("top", a), ("size", b), ("turns", c)] : List (Str × V)).lookup ("top" : Str) = some a ∧ ([("top", a), ("size", b), ("turns", c)] : List (Str × V)).lookup ("size" : Str) = some b ∧ ([("top", a), ("size", b), ("turns", c)] : List (Str × V)).lookup ("turns" : Str) = some c := ⟨by kernel_rfl, by kernel_rfl, by kernel_rfl⟩
theorem ok_papers_of {TC PC : Addr} (F : Df K mg "papers_of" s_papers_of) (c : Cls K TC) (na : NoAts K TC treeNs) (U_cts : Use P w K mg base "catches_within" ["part"] 41 (spCts_within PC 41)) (U_hand : Use P w K mg base "handler_paper" ["catch"] 46 (spHandler PC)) : Use P w K mg base "papers_of" ["tree"] 47 (spPapers_of TC PC) := by
  refine F.use scPapers_of (fun _ _ _ _ _ _ us hl => match us, hl with | [_], _ => rfl) (fun vs H Q E h => ?_) (fun cdv f A outer s H vs Q E hr h => ?_)
  · obtain ⟨G, p, e, rfl, _⟩ := h
    rfl
  · obtain ⟨G, p, e, rfl, sg, ⟨dx, td, top, kvs, hp, ht, htd, _⟩, hg, hd, hz, q⟩ := h
    have hr41 : Room 41 _ := hr.mono (by decide)
    obtain ⟨l1, l2, l3⟩ := treeF_look top (.int e.size) (.ref td)
    refine ⟨_, pss_one (ps_ret (pe_lc (own := [("catch", 1)]) (g := gName 1) (tt := tYes) (by rfl) scPapers_of.nd (pi_list (pe_use U_cts hr41 (pa_cons (pe_fld (pv 0) rfl) pa_nil))) (blkOk_by (own := [("catch", 1)]) (N := ["tree", "catch"]) (sc := defScope s_papers_of) (by decide +kernel))
      (fun _ _ _ _ _ => pg_name (i := 1) scPapers_of.nd rfl (Or.inl rfl)) (fun _ _ _ _ _ => pts_nil) (fun _ _ _ _ _ => pe_use U_hand hr (pa_cons (pv 1) pa_nil)))), ?_⟩
    refine ⟨_, rfl, p, TC, dx, _, _, rfl, sg _ _ hp, c, na _ (by decide +kernel), l1, G, top, e, _, [], rfl, sg, ht, hg, hd, hz, fun l us H1 sm1 nl hl hC => ?_⟩
    have hlen := hC.length
    have hcs := e.cts_size
    refine ⟨l, rfl, ⟨_, SqL.of hl⟩, fun D nD => ?_⟩
    refine lc_list (K := K) (a := l) (xs := us) (fun i H2 => Same H1 H2 ∧ ∃ zs, H2 D = some (.lst zs) ∧ PoL H2 zs (e.cts.take i)) ⟨Same.new nD _, [], upd_same, .nil⟩ (fun i H2 _ h => SqL.of (h.1 _ _ hl)) ?_ ?_
    · rintro i x H2 hx ⟨sm2, zs, hD, hP⟩
      obtain ⟨a, ts, ha, hpa⟩ := hC.at_ hx
      have hi : i < us.length := (List.getElem?_eq_some_iff.mp hx).1
      obtain ⟨S', a1, y, k, b, rfl, _, _, gb, db⟩ := cts_good (by simp) hg a (List.mem_of_getElem? ha)
      refine ⟨rfl, tYes_if ?_⟩
      refine ⟨_, rfl, x, a1, y, k, b, ts, S', rfl, hpa.same (fun q o h => sm2 _ _ (sm1 _ _ (sg _ _ h))), gb, by omega, fun u H3 sm3 hu => ?_⟩
      have hD3 := sm3 _ _ hD
      have up : ∀ t ws, H3 t = some (.tup ws) → upd H3 D (.lst (zs ++ [u])) t = some (.tup ws) := fun t ws h => by
        rw [upd_ne (fun e => by rw [e, hD3] at h; cases h)]
        exact h
      refine ⟨zs, hD3, ?_, Same.putnew (sm2.trans sm3) nD _, _, upd_same, ?_⟩
      · have := hP.length
        rw [List.length_take] at this
        have h2 : (200 : Nat) < sizeLine := by decide
        omega
      · rw [take_snoc ha]
        exact (((hP.tups (fun t ws h => sm3 _ _ h)).snoc hu)).tups up
    · rintro H2 ⟨sm2, zs, hD, hP⟩
      rw [hlen, List.take_of_length_le (Nat.le_refl _)] at hP
      exact q D zs H2 (sm1.trans sm2) (sm1.free nD) hD hP
/-- the papers of a good program -/
def spPapers0 : Sp := fun vs H Q _ => ∃ (v : V) (e : Ex), vs = [v] ∧ AtE H v e ∧ Good [] e ∧ e.deep ≤ 41 ∧ e.size ≤ 200 ∧ ∀ (l : Addr) (us : List V) (H' : Hp), Same H H' → H l = none → H' l = some (.lst us) → PoL H' us e.cts → Q (.ref l) H'
theorem scPapersP : FnScope ["program"] ["program"] (defScope s_papers) := ⟨rfl, rfl, rfl, by decide +kernel, rfl, by decide +kernel, by decide +kernel⟩
theorem ok_papers0 {TC PC : Addr} (F : Df K mg "papers" s_papers) (U_tree : Use P w K mg base "tree_of" ["program"] 88 (spTree TC PC)) (U_of : Use P w K mg base "papers_of" ["tree"] 47 (spPapers_of TC PC)) : Use P w K mg base "papers" ["program"] 89 spPapers0 := by
  refine F.use scPapersP (fun _ _ _ _ _ _ us hl => match us, hl with | [_], _ => rfl) (fun vs H Q E h => ?_) (fun cdv f A outer s H vs Q E hr h => ?_)
  · obtain ⟨v, e, rfl, _⟩ := h
    rfl
  · obtain ⟨v, e, rfl, hv, hg, hd, hz, q⟩ := h
    have hr47 : Room 47 _ := hr.mono (by decide)
    refine ⟨_, pss_one (ps_ret (pe_use U_of hr47 (pa_cons (pe_use U_tree hr (pa_cons (pv 0) pa_nil)) pa_nil))), ?_⟩
    refine ⟨_, rfl, v, e, rfl, hv, hg, hd, hz, fun p H1 sm1 hT => ?_⟩
    exact ⟨nw H H1, p, e, rfl, nw_same _ _, hT, hg, hd, hz, fun l us H2 sm2 nl hl hP => q l us H2 (sm1.trans sm2) (sm1.free nl) hl hP⟩
theorem papers_spec {k : Nat} (U : Use P w K mg base "papers" ["program"] k spPapers0) : Use P w K mg base "papers" ["program"] k (spPaps K) := by
  obtain ⟨f, fd, F, r⟩ := U
  exact ⟨f, fd, F.imp fun vs H Q E ⟨v, e, e1, hv, hg, hd, hz, q⟩ => ⟨v, e, e1, hv, hg, hd, hz, fun l us H' sm nl hl hP => q l us H' sm nl hl (poL_dp hP)⟩, r⟩
theorem scShows : FnScope ["program", "number", "paper", "found"] ["program", "number", "paper"] (defScope s_shows) := ⟨rfl, rfl, rfl, by decide +kernel, rfl, by decide +kernel, by decide +kernel⟩
theorem ok_shows (F : Df K mg "shows" s_shows) (len : mg "len" = none) (U : Use P w K mg base "papers" ["program"] 89 spPapers0) : Use P w K mg base "shows" ["program", "number", "paper"] 90 (spShows K) := by
  refine F.use scShows (fun _ _ _ _ _ _ us hl => match us, hl with | [_, _, _], _ => rfl) (fun vs H Q E h => ?_) (fun cdv f A outer s H vs Q E hr h => ?_)
  · obtain ⟨v, u, e, i, dd, rfl, _⟩ := h
    rfl
  · obtain ⟨v, u, e, i, dd, rfl, hv, hg, hd, hz, hi, hdn, hu, q⟩ := h
    refine ⟨_, pss_cons (ps_set (i := 3) scShows.nd rfl (Or.inl rfl) (pe_use U hr (pa_cons (pv 0) pa_nil)))
      (pss_cons (ps_if (PW.pt (pw_or (pt_cmpR op_lt (pv 1) pe_int (nomark _)) (pw_or1 (pt_cmpR op_ge (pv 1) (pe_callB call_len_seq (by rfl) len PySem.boot_len (pa_cons (pv 3) pa_nil)) (nomark _))))) (pss_one ps_never) pss_nil)
      (pss_one (ps_ret (pe_and (pe_cmpR op_notN (pv 2) pe_non (nomark _)) (pe_one (pe_cmpR (op_eqD2 (room200 hr)) (pv 2) (pe_ix ix_list (pv 3) (pv 1) (fun _ _ => rfl)) (nomark _))))))), ?_⟩
    refine ⟨_, rfl, v, e, rfl, hv, hg, hd, hz, fun l us H1 sm1 nl hl hP => ?_⟩
    have dpA := poL_dp (K := K) hP
    have hlen := hP.length
    have hil : i < (e.cts.map Ex.due).length := (List.getElem?_eq_some_iff.mp hi).1
    rw [List.length_map] at hil
    obtain ⟨w2, d2, hw2, hd2, dp2⟩ := dpAll_at dpA (i := i) (by rw [List.length_map]; exact hil)
    rw [hi] at hd2
    cases hd2
    refine ⟨_, rfl, _, _, rfl, rfl, _, rfl, ?_⟩
    rw [decide_eq_false (by omega)]
    refine iteF ⟨_, rfl, _, rfl, l, _, rfl, .inl (SqL.of hl), _, _, rfl, rfl, _, rfl, ?_⟩
    rw [decide_eq_false (by omega)]
    refine iteF ⟨_, rfl, rfl, _, rfl, ?_⟩
    have hun : decide (u = V.non) = false := decide_eq_false fun z => by
      subst z
      cases hu
      exact hdn rfl
    rw [hun]
    refine iteT ?_
    have hul := dp_same sm1 hu
    have lay : dd.canLay0 = true ∧ dd.depth ≤ 190 := by
      rw [List.getElem?_map] at hi
      cases hc : e.cts[i]? with
      | none => rw [hc] at hi; cases hi
      | some ct =>
        rw [hc] at hi
        cases hi
        obtain ⟨S', a1, y, k, b, rfl, _, _, gb, db⟩ := cts_good (by simp) hg ct (List.mem_of_getElem? hc)
        show (if b.wd (some k) = none then PyData.none else b.pap (some k)).canLay0 = true ∧ (if b.wd (some k) = none then PyData.none else b.pap (some k)).depth ≤ 190
        split
        · exact ⟨rfl, Nat.zero_le _⟩
        · obtain ⟨x1, x2⟩ := pap_lay b (some k)
          exact ⟨x1, by omega⟩
    refine ⟨_, rfl, _, rfl, _, rfl, l, us, _, w2, rfl, rfl, SqL.of hl, atI_nat hw2, dd, dd, hul, dp2, lay.1, lay.1, lay.2, ?_⟩
    rw [SeqAt.eqv_refl dd lay.1]
    exact q H1 sm1
end
end Wr
namespace Wr
open PySem PySem.Spec PyProof.Rows L2 H14
def kvS : List (Str × Str) := [("num", "n"), ("name", "x"), ("add", "ee"), ("take", "ee"), ("less", "ee"), ("if", "eee"), ("let", "xee"), ("fun", "xe"), ("call", "ee"), ("say", "e"), ("box", "e"), ("look", "e"), ("put", "ee"), ("catch", "exxe"), ("throw", "e"), ("go", "ee"), ("drop", "e"), ("last", "ee"), ("else", "ee"), ("fault", "")]
theorem ones_kv : ∀ w ∈ ones, (w, ("e" : Str)) ∈ kvS := by decide +kernel
theorem twos_kv : ∀ w ∈ twos, (w, ("ee" : Str)) ∈ kvS := by decide +kernel
theorem lits_kv : (("num" : Str), ("n" : Str)) ∈ kvS ∧ (("name" : Str), ("x" : Str)) ∈ kvS ∧ (("fault" : Str), ("" : Str)) ∈ kvS ∧ (("if" : Str), ("eee" : Str)) ∈ kvS ∧ (("let" : Str), ("xee" : Str)) ∈ kvS ∧ (("fun" : Str), ("xe" : Str)) ∈ kvS ∧ (("catch" : Str), ("exxe" : Str)) ∈ kvS := by decide +kernel
theorem shape_kv {S : List Str} {e : Ex} (g : Good S e) : (e.word, e.shape) ∈ kvS := by
  obtain ⟨l1, l2, l3, l4, l5, l6, l7⟩ := lits_kv
  cases e with
  | num n => exact l1
  | name x => exact l2
  | fault => exact l3
  | one w a => exact ones_kv w g.1
  | two w a b => exact twos_kv w g.1
  | ite a b c => exact l4
  | lt x a b => exact l5
  | fn x a => exact l6
  | ct a x k b => exact l7
section
variable {w : World} {K : PySem.W.Frag} {h : Heap} {mg : Str → Option Value}
theorem shapes_at (X : K.In h) (G : h.Ns mainGlobals mg) (c : SaysX fa fn ex ts w K) : ShapesAt K w (He.ga K "SHAPES") := by
  intro S e g
  obtain ⟨es, n, D⟩ := kd_SHAPES X G c
  have hm : (e.word, He.Dv.str e.shape) ∈ kv_SHAPES := by
    have e1 : kv_SHAPES = kvS.map fun p => (p.1, He.Dv.str p.2) := rfl
    rw [e1]
    exact List.mem_map.mpr ⟨_, shape_kv g, rfl⟩
  obtain ⟨u, h1, h2⟩ := kv_SHAPES_ok X G c hm
  exact ⟨es, n, u, D.at_, D.lit, h1, h2⟩
theorem rules_at (X : K.In h) (G : h.Ns mainGlobals mg) (c : SaysX fa fn ex ts w K) : RulesAt K w mg (He.ga K "RULES") := by
  refine ⟨kd_RULES X G c, fun fT fF fI fC mT mF mI mC x hx => ?_⟩
  obtain ⟨es, n, D⟩ := kd_RULES X G c
  obtain rfl : fT = He.ga K "throwing" := by have e := mT.symm.trans (ga_throwing X G c); cases e; rfl
  obtain rfl : fF = He.ga K "of_fun" := by have e := mF.symm.trans (ga_of_fun X G c); cases e; rfl
  obtain rfl : fI = He.ga K "of_if" := by have e := mI.symm.trans (ga_of_if X G c); cases e; rfl
  obtain rfl : fC = He.ga K "of_catch" := by have e := mC.symm.trans (ga_of_catch X G c); cases e; rfl
  have there : ∀ {k : Str} {v : He.Dv} {o : Option V}, (k, v) ∈ kv_RULES → o = some (v.v K) → KLook K w (He.ga K "RULES") k o := fun {k v o} hm e => by
    obtain ⟨u, h1, h2⟩ := kv_RULES_ok X G c hm
    subst e
    exact ⟨es, n, some u, D, h1, h2⟩
  have gone : ∀ {k : Str} {o : Option V}, k ∈ (["num", "name", "add", "take", "less", "let", "say", "box", "look", "put", "last", "else", "fault"] : List Str) → o = none → KLook K w (He.ga K "RULES") k o := fun {k o} hm e => by
    subst e
    exact ⟨es, n, none, D, kn_RULES X G c hm, trivial⟩
  simp only [allWords, List.mem_cons, List.not_mem_nil, or_false] at hx
  rcases hx with rfl | rfl | rfl | rfl | rfl | rfl | rfl | rfl | rfl | rfl | rfl | rfl | rfl | rfl | rfl | rfl | rfl | rfl | rfl | rfl
  · exact gone (by decide +kernel) (by kernel_rfl)
  · exact gone (by decide +kernel) (by kernel_rfl)
  · exact gone (by decide +kernel) (by kernel_rfl)
  · exact gone (by decide +kernel) (by kernel_rfl)
  · exact gone (by decide +kernel) (by kernel_rfl)
  · exact there (v := .glo "of_if") (List.mem_of_getElem? (i := 5) rfl) (by kernel_rfl)
  · exact gone (by decide +kernel) (by kernel_rfl)
  · exact there (v := .glo "of_fun") (List.mem_of_getElem? (i := 4) rfl) (by kernel_rfl)
  · exact there (v := .glo "throwing") (List.mem_of_getElem? (i := 0) rfl) (by kernel_rfl)
  · exact gone (by decide +kernel) (by kernel_rfl)
  · exact gone (by decide +kernel) (by kernel_rfl)
  · exact gone (by decide +kernel) (by kernel_rfl)
  · exact gone (by decide +kernel) (by kernel_rfl)
  · exact there (v := .glo "of_catch") (List.mem_of_getElem? (i := 6) rfl) (by kernel_rfl)
  · exact there (v := .glo "throwing") (List.mem_of_getElem? (i := 1) rfl) (by kernel_rfl)
  · exact there (v := .glo "throwing") (List.mem_of_getElem? (i := 2) rfl) (by kernel_rfl)
  · exact there (v := .glo "throwing") (List.mem_of_getElem? (i := 3) rfl) (by kernel_rfl)
  · exact gone (by decide +kernel) (by kernel_rfl)
  · exact gone (by decide +kernel) (by kernel_rfl)
  · exact gone (by decide +kernel) (by kernel_rfl)
theorem gen_defs (X : K.In h) (G : h.Ns mainGlobals mg) (c : SaysX fa fn ex ts w K) : GenDefs K mg :=
  ⟨f_L_dice X G c, f_L_next X G c, f_L_name X G c, f_L_leaf X G c, f_L_with X G c, f_L_free X G c, f_L_expr X G c, f_L_let X G c, f_L_use X G c, f_L_catch X G c, f_L_size X G c, f_L_deep X G c, f_L_program X G c, f_L_loop X G c, f_L_again X G c, f_L_long X G c, f_L_any X G c,
    z_len X G c, z_int X G c, z_dict X G c, z_sorted X G c, z_sum X G c, z_max X G c, z_min X G c, z_range X G c, z_isinstance X G c, z_tuple X G c⟩
theorem all_letters {K : PySem.W.Frag} : (([.str "a", .str "b", .str "c", .str "d", .str "e", .str "f", .str "g", .str "h"] : List He.Dv).map (He.Dv.v K)) = letters.map V.str := rfl
theorem use_law {P : Program} {base : Heap} (X : K.In h) (G : h.Ns mainGlobals mg) (c : SaysX fa fn ex ts w K) {f0 : Addr} {fd0 : FuncData} (F0 : FunD K "law" "law" (defArgs s_law) (defBody s_law) (defScope s_law) [] [] f0 fd0) : FnOk P w K mg base CX0 228 f0 fd0 ["_law_script"] (spLaw K) := by
  have D := gen_defs X G c
  have hSh := shapes_at X G c
  obtain ⟨es, n, KD⟩ := kd_SHAPES X G c
  have zisi := z_isinstance X G c; have zlen := z_len X G c; have ztup := z_tuple X G c; have zstr := z_str X G c; have zint := z_int X G c; have zbool := z_bool X G c; have zlist := z_list X G c; have zzip := z_zip X G c
  have zmax := z_max X G c; have zall := z_all X G c; have zset := z_set X G c; have zabs := z_abs X G c; have zrng := z_range X G c; have zenum := z_enumerate X G c
  -- the law's side
  have Unext : Use P w K mg base "_law_next" ["_law_dice_here", "_law_many"] 1 (spNext K) := u_next D
  have Uleaf : Use P w K mg base "_law_leaf" ["_law_d", "_law_names"] 3 (spLeaf K) := u_leaf D
  have Uexpr : Use P w K mg base "_law_expr" ["_law_d", "_law_names", "_law_room"] 118 (spExpr K 56) := expr_all D 56
  have Uuse : Use P w K mg base "_law_use" ["_law_d", "_law_names", "_law_room"] 119 (spUse K 56) := ok_use 56 D.use D.zint Unext (u_name D) Uleaf Uexpr
  have Usize : Use P w K mg base "_law_size" ["_law_part"] 225 (spSize 225) := u_size D 225
  have Udeep : Use P w K mg base "_law_deep" ["_law_part"] 225 (spDeep 225) := u_deep D 225
  have Uhand : Use P w K mg base "_law_handled" ["_law_d"] 226 (spHandled K) := ok_handled (f_L_handled X G c) zrng Unext Uleaf Uexpr Uuse Usize Udeep
  have Utall : Use P w K mg base "_law_tall" ["_law_d"] 226 (spTall K) := ok_tall (f_L_tall X G c) zrng Unext Usize
  have Ujoin : Use P w K mg base "_law_join" ["_law_words"] 1 (spJoin K) := ok_join (f_L_join X G c)
  have Upap : Use P w K mg base "_law_paper" ["_law_part", "_law_k"] 42 (spPaper 41) := paper_all (f_L_paper X G c) zisi ztup zlen zzip zmax Ujoin 41
  have Ucat : Use P w K mg base "_law_catches" ["_law_part"] 41 (spCatches 41) := catches_all (f_L_catches X G c) zisi ztup 41
  have Upaps : Use P w K mg base "_law_papers" ["_law_program_here"] 43 spPapers := ok_papers (f_L_papers X G c) Ucat Upap
  have Ulike : Use P w K mg base "_law_like" ["_law_found", "_law_due"] 100 (spLike K 100) := like_all (f_L_like X G c) zisi ztup zlist zbool zstr zint zlen zrng 100
  -- the program's side
  have Uwhole : Use P w K mg base "is_whole" ["held"] 1 (spWhole K) := ok_whole (f_is_whole X G c) zisi zint zbool
  have Ufits : Use P w K mg base "fits" ["place", "held"] 2 spFits := ok_fits (f_fits X G c) zisi zstr Uwhole
  have Ushape : Use P w K mg base "has_shape" ["thing"] 3 spShape := ok_has_shape KD hSh (a_SHAPES X G c) (f_has_shape X G c) zzip zisi ztup zstr zlen zall Ufits
  have Ustand : Use P w K mg base "standing" ["thing", "place"] 1 spStanding := ok_standing hSh (a_SHAPES X G c) (f_standing X G c) zzip
  have tn : TupD K (He.ga K "NAMES") (letters.map V.str) := tp_NAMES X G c
  have Uwhy : Use P w K mg base "why_not" ["thing", "at", "around", "bound"] 4 spWhy := ok_why_not (f_why_not X G c) (g_MOST_PARTS X G c) (g_MOST_AROUND X G c) (g_MOST_NUMBER X G c) (a_NAMES X G c) tn.k zabs zall zlen zset Ushape Ustand
  have UPart := ok_partI (P := P) (w := w) (base := base) (f_Part_init X G c) (c_Part X G c) (na_Part X G c)
  have UTree := ok_treeI (P := P) (w := w) (base := base) (f_Tree_init X G c) (c_Tree X G c) (na_Tree X G c)
  have URead := ok_readI (P := P) (w := w) (base := base) (f_Reader_init X G c) (c_Reader X G c) (na_Reader X G c)
  have Upart := ok_part (f_Reader_part_of X G c) (f_Reader_parts_of X G c) (c_Reader X G c) (na_Reader X G c) zenum zlen Uwhy Ustand UPart 41
  have Utree := ok_tree_of (f_tree_of X G c) (c_Reader X G c) (na_Reader X G c) Upart URead UTree
  have Ubeh := ok_behind (P := P) (w := w) (base := base) (f_behind X G c) (g_QUIET X G c) (g_FREE X G c)
  have Uturn := ok_in_turn (f_in_turn X G c) (g_QUIET X G c) Ubeh
  have Uthr := ok_throwing (f_throwing X G c) (g_QUIET X G c) (g_FREE X G c) Uturn
  have Ufun := ok_of_fun (P := P) (w := w) (base := base) (f_of_fun X G c) (g_QUIET X G c) (g_FREE X G c)
  have tr : TupD K (He.ga K "RISING") ((["quiet", "free", "used"] : List Str).map V.str) := tp_RISING X G c
  have Uif := ok_of_if (f_of_if X G c) (a_RISING X G c) tr zmax Ubeh
  have Ucatch := ok_of_catch (P := P) (w := w) (base := base) (f_of_catch X G c) (g_QUIET X G c) (g_FREE X G c)
  have Unames := ok_names_rest (P := P) (w := w) (base := base) (f_names_rest X G c) (c_Part X G c) (na_Part X G c)
  have Uword := ok_word_of (f_word_of X G c) (c_Part X G c) (na_Part X G c) (g_QUIET X G c) (g_USED X G c) (a_RULES X G c) (rules_at X G c) Unames Uturn Uthr Ufun Uif Ucatch
  have Upaper := papers_all (f_paper_of X G c) (c_Part X G c) (na_Part X G c) zenum zlen ztup Uword 41
  have Ucts := cts_all (P := P) (w := w) (base := base) (f_catches_within X G c) (c_Part X G c) (na_Part X G c) 41
  have Uhandler := ok_handler (f_handler_paper X G c) (c_Part X G c) (na_Part X G c) Upaper
  have Uof := ok_papers_of (f_papers_of X G c) (c_Tree X G c) (na_Tree X G c) Ucts Uhandler
  have Upapers := ok_papers0 (f_papers X G c) Utree Uof
  have Ushows := ok_shows (K := K) (f_shows X G c) zlen Upapers
  exact ok_law (kp := 89) (ks := 90) (by decide) (by decide) F0 zrng zlen (ok_dice D.dice D.zlen D.zint) Unext (u_any D) Uhand Utall Usize Udeep Upaps Ulike (papers_spec Upapers) Ushows
end
end Wr
open PySem PySem.W PySem.Calls PyProof.Rows
theorem PySem.Challenge.cw_whatremains_k14_papers_holds : PySem.Challenge.rw_whatremains_k14_papers.Holds := by
  w_on; o_law
  refine HandSHeadRun.head_any (r := OpenLaw.row PySem.Challenge.rw_whatremains_k14_papers) (q := view (OpenLaw.row PySem.Challenge.rw_whatremains_k14_papers).prog [64]) (H := H14.hk) (ob := H14.ob) (M := 20000) (loose := H14.names) (d := HandSHeadRun.topDef (OpenLaw.row PySem.Challenge.rw_whatremains_k14_papers).prog 64) (kwd := []) H14.ob_eq
    (by kernel_rfl) (fun s => by kernel_rfl) H14.run (by kernel_rfl) (by kernel_rfl) (by kernel_rfl) (by rfl) (by first | assumption | decide +kernel) (by decide +kernel) ⟨rfl, rfl, rfl, rfl, rfl, by decide +kernel⟩ ?hw ?hc
  case hw => w_witness2
  case hc =>
    refine L2.walk_ofE (l := PySem.Challenge.rw_whatremains_k14_papers) (n := 63) (k := 228) (x := "_law_script") (CX := L2.CX0) rfl (by decide) (by kernel_rfl) ⟨rfl, by decide, by decide⟩ ?F (fun _ _ _ _ z => z)
    intro w mg fa h Y G hmg0
    obtain ⟨K, KX, c⟩ := Y
    have hmg : mg ("law" : PySem.Str) = some (.ref fa) := by
      have e : (HandSHeadRun.topDef (OpenLaw.row PySem.Challenge.rw_whatremains_k14_papers).prog 64).name = ("law" : PySem.Str) := by kernel_rfl
      rw [← e]
      exact hmg0
    obtain ⟨f0, fd, F, hm⟩ := H14.f_law KX G c
    have e := hmg.symm.trans hm
    cases e
    have hb : ∀ (s : Shared) (v : Value), BindsTo s fd ⟨[v], []⟩ [("_law_script", v)] := fun s v => L2.FunD.bindsA (ps := ["_law_script"]) F (fun _ _ _ _ _ _ us hl => match us, hl with | [_], _ => rfl) s [v] rfl
    exact ⟨K, fd, Wr.spLaw K, KX, hb, fun H a ns hl _ hS => ⟨a, ns, rfl, hS, hl, fun _ => rfl⟩, fun base _ _ => Wr.use_law KX G c F⟩
