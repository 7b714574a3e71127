import PyProof.Rows.All
import Wide.All
import OpenK.AllK
import Wide.FinOn
import HandS.ForMost
import HandS.Wide
import HandS.WideBits
import HandS.Gcd
import HandS.Deep
import HandS.TupAny
import HandS.IsInst
import HandS.Style
import HandS.Defaults
import HandS.Exc
import HandS.ExcField
import KE.KExcIs
import KE.KMathG
import Flt.RightSqrt
import HandS.Zip
import HandS.TupLe
import KE.SortKeyHeap
import HandS.SortKw
import HandS.TupMul
import HandS.NoneIn
import KE.GoesEnum
import PyProof.TupleCall
import KE.OsGo
import HandS.ForSpec
import HandS.ExcIs
import PyProof.ReprRoads
import HandS.TryOnly
import PySem.Challenge.RW_drawarms_k13_maps_and_their_form
set_option Elab.async false
set_option linter.all false
set_option maxRecDepth 100000
namespace Z
open PySem L2
abbrev Sg := L2.St
/-! ## 1. data over the heap -/
mutual
inductive Dz (K : PySem.W.Frag) (H : Hp) : V → PyData → Prop
  | non : Dz K H .non .none
  | bl (b : Bool) : Dz K H (.bl b) (.bool b)
  | int (i : Int) : Dz K H (.int i) (.int i)
  | str (x : Str) : Dz K H (.str x) (.str x)
  | lst {a : Addr} {xs : List V} {ds : List PyData} : SqL K H a xs → DzAll K H xs ds → Dz K H (.ref a) (.list ds)
  | tup {a : Addr} {xs : List V} {ds : List PyData} : SqT K H a xs → DzAll K H xs ds → Dz K H (.ref a) (.tuple ds)
  /-- an empty dict -/
  | dct0 {a : Addr} : H a = some (.dK []) → Dz K H (.ref a) (.dict [])
  | dct1 {a : Addr} {x : Str} {v : V} {g : PyData} : H a = some (.dK [(.inr x, v)]) → Dz K H v g → Dz K H (.ref a) (.dict [(.str x, g)])
  /-- a caught exception, with and without a field -/
  | excN (a : Addr) : Dz K H (.ref a) (.dict [(.int (a : Nat), .none)])
  | exc {a dd : Addr} {fl : Str} {v : V} {g : PyData} : H dd = some (.xd [(fl, v)]) → Dz K H v g → Dz K H (.ref a) (.dict [(.int (a : Nat), .int (dd : Nat)), (.str fl, g)])
inductive DzAll (K : PySem.W.Frag) (H : Hp) : List V → List PyData → Prop
  | nil : DzAll K H [] []
  | cons {v : V} {vs : List V} {d : PyData} {ds : List PyData} : Dz K H v d → DzAll K H vs ds → DzAll K H (v :: vs) (d :: ds)
end
theorem sqT_up {K : PySem.W.Frag} {H H' : Hp} {a : Addr} {xs : List V} (h : ∀ b o, H b = some o → H' b = some o) (q : SqT K H a xs) : SqT K H' a xs := by
  rcases q with (q | ⟨o, q⟩) | q
  · exact .inl (.inl (h _ _ q))
  · exact .inl (.inr ⟨o, h _ _ q⟩)
  · exact .inr q
theorem sqL_up {K : PySem.W.Frag} {H H' : Hp} {a : Addr} {xs : List V} (h : ∀ b o, H b = some o → H' b = some o) (q : SqL K H a xs) : SqL K H' a xs := by
  rcases q with (q | ⟨o, q⟩) | q
  · exact .inl (.inl (h _ _ q))
  · exact .inl (.inr ⟨o, h _ _ q⟩)
  · exact .inr q
theorem sq_lst {K : PySem.W.Frag} {H : Hp} {a : Addr} {xs : List V} (h : H a = some (.lst xs)) : SqL K H a xs := .inl (.inl h)
mutual
theorem Dz.up {K : PySem.W.Frag} {H H' : Hp} (h : ∀ b o, H b = some o → H' b = some o) : ∀ {v : V} {d : PyData}, Dz K H v d → Dz K H' v d
  | _, _, .non => .non
  | _, _, .bl b => .bl b
  | _, _, .int i => .int i
  | _, _, .str x => .str x
  | _, _, .lst q r => .lst (sqL_up h q) (DzAll.up h r)
  | _, _, .tup q r => .tup (sqT_up h q) (DzAll.up h r)
  | _, _, .dct0 q => .dct0 (h _ _ q)
  | _, _, .dct1 q r => .dct1 (h _ _ q) (Dz.up h r)
  | _, _, .excN a => .excN a
  | _, _, .exc q r => .exc (h _ _ q) (Dz.up h r)
theorem DzAll.up {K : PySem.W.Frag} {H H' : Hp} (h : ∀ b o, H b = some o → H' b = some o) : ∀ {vs : List V} {ds : List PyData}, DzAll K H vs ds → DzAll K H' vs ds
  | _, _, .nil => .nil
  | _, _, .cons a b => .cons (Dz.up h a) (DzAll.up h b)
end
mutual
theorem Dz.dp {K : PySem.W.Frag} {H : Hp} : ∀ {v : V} {d : PyData}, Dz K H v d → d.hasDict = false → Dp K H v d
  | _, _, .non, _ => .non
  | _, _, .bl b, _ => .bl b
  | _, _, .int i, _ => .int i
  | _, _, .str x, _ => .str x
  | _, _, .lst q r, n => .lst q (DzAll.dp r (by simpa only [PyData.hasDict] using n))
  | _, _, .tup q r, n => .tup q (DzAll.dp r (by simpa only [PyData.hasDict] using n))
  | _, _, .dct0 _, n => by simp [PyData.hasDict] at n
  | _, _, .dct1 _ _, n => by simp [PyData.hasDict] at n
  | _, _, .excN _, n => by simp [PyData.hasDict] at n
  | _, _, .exc _ _, n => by simp [PyData.hasDict] at n
theorem DzAll.dp {K : PySem.W.Frag} {H : Hp} : ∀ {vs : List V} {ds : List PyData}, DzAll K H vs ds → PyData.hasDictAll ds = false → DpAll K H vs ds
  | _, _, .nil, _ => .nil
  | _, _, .cons a b, n => by
    simp only [PyData.hasDictAll, Bool.or_eq_false_iff] at n
    exact .cons (Dz.dp a n.1) (DzAll.dp b n.2)
end
theorem DzAll.len {K : PySem.W.Frag} {H : Hp} : ∀ {vs : List V} {ds : List PyData}, DzAll K H vs ds → vs.length = ds.length
  | _, _, .nil => rfl
  | _, _, .cons _ b => by rw [List.length_cons, List.length_cons, DzAll.len b]
theorem DzAll.app {K : PySem.W.Frag} {H : Hp} : ∀ {vs us : List V} {ds es : List PyData}, DzAll K H vs ds → DzAll K H us es → DzAll K H (vs ++ us) (ds ++ es)
  | _, _, _, _, .nil, q => q
  | _, _, _, _, .cons a b, q => .cons a (DzAll.app b q)
theorem DzAll.get {K : PySem.W.Frag} {H : Hp} : ∀ {vs : List V} {ds : List PyData} (i : Nat) {d : PyData}, DzAll K H vs ds → ds[i]? = some d → ∃ v, vs[i]? = some v ∧ Dz K H v d
  | _, _, _, _, .nil, e => by simp at e
  | _, _, 0, _, .cons a b, e => by simp at e; subst e; exact ⟨_, rfl, a⟩
  | _, _, i + 1, _, .cons a b, e => by simpa using DzAll.get i b (by simpa using e)
theorem DzAll.getV {K : PySem.W.Frag} {H : Hp} : ∀ {vs : List V} {ds : List PyData} (i : Nat) {v : V}, DzAll K H vs ds → vs[i]? = some v → ∃ d, ds[i]? = some d ∧ Dz K H v d
  | _, _, _, _, .nil, e => by simp at e
  | _, _, 0, _, .cons a b, e => by simp at e; subst e; exact ⟨_, rfl, a⟩
  | _, _, i + 1, _, .cons a b, e => by simpa using DzAll.getV i b (by simpa using e)
theorem DzAll.drop {K : PySem.W.Frag} {H : Hp} : ∀ {vs : List V} {ds : List PyData} (n : Nat), DzAll K H vs ds → DzAll K H (vs.drop n) (ds.drop n)
  | _, _, 0, h => h
  | _, _, _ + 1, .nil => .nil
  | _, _, n + 1, .cons _ b => DzAll.drop n b
theorem DzAll.take {K : PySem.W.Frag} {H : Hp} : ∀ {vs : List V} {ds : List PyData} (n : Nat), DzAll K H vs ds → DzAll K H (vs.take n) (ds.take n)
  | _, _, 0, _ => .nil
  | _, _, _ + 1, .nil => .nil
  | _, _, n + 1, .cons a b => .cons a (DzAll.take n b)
theorem DzAll.set {K : PySem.W.Frag} {H : Hp} {v : V} {d : PyData} (q : Dz K H v d) : ∀ {vs : List V} {ds : List PyData} (n : Nat), DzAll K H vs ds → DzAll K H (vs.set n v) (ds.set n d)
  | _, _, _, .nil => .nil
  | _, _, 0, .cons _ b => .cons q b
  | _, _, n + 1, .cons a b => .cons a (DzAll.set q n b)
/-! ## 2. masks: lists that may still change are taken out of sight -/
abbrev Mz := Addr → Nat × Option HO
def msk (M : Mz) (H : Hp) : Hp := fun b => if (M b).1 = 0 then H b else none
theorem msk_ok {M : Mz} {H : Hp} {b : Addr} {o : HO} (h : msk M H b = some o) : H b = some o ∧ (M b).1 = 0 := by
  unfold msk at h
  by_cases q : (M b).1 = 0
  · rw [if_pos q] at h; exact ⟨h, q⟩
  · rw [if_neg q] at h; cases h
theorem msk_of {M : Mz} {H : Hp} {b : Addr} {o : HO} (h : H b = some o) (q : (M b).1 = 0) : msk M H b = some o := by
  unfold msk; rw [if_pos q]; exact h
theorem msk_sub {M : Mz} {H : Hp} : ∀ b o, msk M H b = some o → H b = some o := fun _ _ h => (msk_ok h).1
theorem msk_same {M : Mz} {H H' : Hp} (h : ∀ b o, H b = some o → (M b).1 = 0 → H' b = some o) : ∀ b o, msk M H b = some o → msk M H' b = some o := fun b o e =>
  let ⟨a, q⟩ := msk_ok e
  msk_of (h b o a q) q
theorem msk_less {M N : Mz} {H : Hp} (h : ∀ a, (N a).1 ≠ 0 → (M a).1 ≠ 0) : ∀ b o, msk M H b = some o → msk N H b = some o := fun b o e => by
  obtain ⟨a, q⟩ := msk_ok e
  refine msk_of a ?_
  by_cases z : (N b).1 = 0
  · exact z
  · exact (h b z q).elim
/-! ## 3. the state -/
inductive Sl where
  | val (d : PyData)
  | own (ds : List PyData)
abbrev Ev := List (Option Sl)
/-- what stays the same through a def: the heap at its entry, the lists handed in to be changed, what the caller masks -/
structure Cf where
  H0 : Hp
  T : Addr → Bool
  Mk : Mz
structure Ok (K : PySem.W.Frag) (c : Cf) (M : Mz) (σ : Sg) (H : Hp) (ev : Ev) (pd : List (V × PyData)) : Prop where
  len : σ.length = ev.length
  val : ∀ (i : Nat) (d : PyData), ev[i]? = some (some (.val d)) → ∃ v, σ[i]? = some (some v) ∧ Dz K (msk M H) v d
  own : ∀ (i : Nat) (ds : List PyData), ev[i]? = some (some (.own ds)) → ∃ a vs, σ[i]? = some (some (.ref a)) ∧ (M a).1 = 1 ∧ (c.H0 a = none ∨ c.T a = true) ∧ H a = some (.lst vs) ∧ DzAll K (msk M H) vs ds
  inj : ∀ (i j : Nat) (a : Addr) (ds es : List PyData), ev[i]? = some (some (.own ds)) → ev[j]? = some (some (.own es)) → σ[i]? = some (some (.ref a)) → σ[j]? = some (some (.ref a)) → i = j
  pend : ∀ p ∈ pd, Dz K (msk M H) p.1 p.2
  frame : ∀ b o, c.H0 b = some o → c.T b = false → H b = some o
  sub : ∀ a, (c.Mk a).1 ≠ 0 → (M a).1 ≠ 0
  dom : ∀ a, (M a).1 ≠ 0 → ∃ o, H a = some o
  mkd : ∀ a, (c.Mk a).1 ≠ 0 → ∃ o, c.H0 a = some o
  lk : ∀ a o, (M a).2 = some o → H a = some o ∧ ((M a).1 = 2 ∨ (M a).1 = 0)
  tank : ∀ a, c.T a = true → (c.Mk a).1 ≠ 0 ∧ σ[0]? = some (some (.ref a)) ∧ ∃ ds, ev[0]? = some (some (.own ds))
section
variable {K : PySem.W.Frag} {c : Cf} {M : Mz} {σ : Sg} {H H' : Hp} {ev : Ev} {pd : List (V × PyData)}
theorem Ok.push (k : Ok K c M σ H ev pd) {v : V} {d : PyData} (h : Dz K (msk M H) v d) : Ok K c M σ H ev ((v, d) :: pd) := by
  refine ⟨k.len, k.val, k.own, k.inj, fun p hp => ?_, k.frame, k.sub, k.dom, k.mkd, k.lk, k.tank⟩
  rcases List.mem_cons.mp hp with e | hp
  · rw [e]; exact h
  · exact k.pend p hp
theorem Ok.pop (k : Ok K c M σ H ev pd) {qd : List (V × PyData)} (h : ∀ p ∈ qd, p ∈ pd) : Ok K c M σ H ev qd := { k with pend := fun p hp => k.pend p (h p hp) }
theorem Ok.pop1 {p : V × PyData} (k : Ok K c M σ H ev (p :: pd)) : Ok K c M σ H ev pd := k.pop fun _ h => List.mem_cons_of_mem _ h
theorem Ok.top {v : V} {d : PyData} (k : Ok K c M σ H ev ((v, d) :: pd)) : Dz K (msk M H) v d := k.pend (v, d) (List.mem_cons_self ..)
/-- the heap grows: all that was tracked stays -/
theorem Ok.grow (k : Ok K c M σ H ev pd) (h : ∀ b o, H b = some o → H' b = some o) : Ok K c M σ H' ev pd where
  len := k.len
  val := fun i d e => let ⟨v, a, b⟩ := k.val i d e; ⟨v, a, b.up (msk_same fun b o e _ => h b o e)⟩
  own := fun i ds e => let ⟨a, vs, e1, e2, e3, e4, e5⟩ := k.own i ds e; ⟨a, vs, e1, e2, e3, h _ _ e4, e5.up (msk_same fun b o e _ => h b o e)⟩
  inj := k.inj
  pend := fun p hp => (k.pend p hp).up (msk_same fun b o e _ => h b o e)
  frame := fun b o e t => h _ _ (k.frame b o e t)
  sub := k.sub
  dom := fun a e => let ⟨o, q⟩ := k.dom a e; ⟨o, h _ _ q⟩
  mkd := k.mkd
  lk := fun a o e => let ⟨q1, q2⟩ := k.lk a o e; ⟨h _ _ q1, q2⟩
  tank := k.tank
theorem Ok.free (k : Ok K c M σ H ev pd) {p : Addr} (h : H p = none) : (M p).1 = 0 := by
  by_cases e : (M p).1 = 0
  · exact e
  · obtain ⟨o, q⟩ := k.dom p e; rw [h] at q; cases q
theorem up_new {H : Hp} {p : Addr} {o : HO} (h : H p = none) : ∀ b u, H b = some u → upd H p o b = some u := fun b u e => by
  rw [upd_ne (ne_of_none e h)]; exact e
/-- a new object -/
theorem Ok.new (k : Ok K c M σ H ev pd) {p : Addr} {o : HO} (h : H p = none) : Ok K c M σ (upd H p o) ev pd := k.grow (up_new h)
theorem Ok.newTup (k : Ok K c M σ H ev pd) {p : Addr} {vs : List V} {ds : List PyData} (h : H p = none) (q : DzAll K (msk M H) vs ds) : Ok K c M σ (upd H p (.tup vs)) ev ((.ref p, .tuple ds) :: pd) :=
  (k.new h).push (.tup (.inl (.inl (msk_of upd_same (k.free h)))) (q.up (msk_same fun b o e _ => up_new h b o e)))
theorem Ok.newLst (k : Ok K c M σ H ev pd) {p : Addr} {vs : List V} {ds : List PyData} (h : H p = none) (q : DzAll K (msk M H) vs ds) : Ok K c M σ (upd H p (.lst vs)) ev ((.ref p, .list ds) :: pd) :=
  (k.new h).push (.lst (sq_lst (msk_of upd_same (k.free h))) (q.up (msk_same fun b o e _ => up_new h b o e)))
theorem get_set {α : Type} {l : List α} {i j : Nat} {x y : α} (h : (l.set i x)[j]? = some y) : (i = j ∧ x = y ∧ i < l.length) ∨ (i ≠ j ∧ l[j]? = some y) := by
  by_cases e : i = j
  · subst e
    by_cases q : i < l.length
    · rw [List.getElem?_set_self q] at h
      exact .inl ⟨rfl, Option.some.inj h, q⟩
    · rw [List.getElem?_eq_none (by rw [List.length_set]; omega)] at h
      cases h
  · rw [List.getElem?_set_ne e] at h
    exact .inr ⟨e, h⟩
/-- no own list stands in this slot -/
def notOwn (ev : Ev) (i : Nat) : Prop := match ev[i]? with
  | some (some (.own _)) => False
  | some _ => True
  | none => False
theorem notOwn.lt {ev : Ev} {i : Nat} (h : notOwn ev i) : i < ev.length := by
  unfold notOwn at h
  by_cases q : i < ev.length
  · exact q
  · rw [List.getElem?_eq_none (by omega)] at h; exact h.elim
theorem notOwn.no {ev : Ev} {i : Nat} (h : notOwn ev i) {ds : List PyData} (e : ev[i]? = some (some (.own ds))) : False := by
  unfold notOwn at h; rw [e] at h; exact h
theorem Ok.set (k : Ok K c M σ H ev pd) {i : Nat} {v : V} {d : PyData} (h : notOwn ev i) (q : Dz K (msk M H) v d) : Ok K c M (σ.set i (some v)) H (ev.set i (some (.val d))) pd where
  len := by rw [List.length_set, List.length_set]; exact k.len
  val := fun j e z => by
    rcases get_set z with ⟨rfl, z1, z2⟩ | ⟨n, z⟩
    · cases z1
      exact ⟨v, List.getElem?_set_self (by rw [k.len]; exact h.lt), q⟩
    · obtain ⟨u, a, b⟩ := k.val j e z
      exact ⟨u, by rw [List.getElem?_set_ne n]; exact a, b⟩
  own := fun j ds z => by
    rcases get_set z with ⟨rfl, z1, z2⟩ | ⟨n, z⟩
    · cases z1
    · obtain ⟨a, vs, e1, e2⟩ := k.own j ds z
      exact ⟨a, vs, by rw [List.getElem?_set_ne n]; exact e1, e2⟩
  inj := fun j l a ds es z1 z2 z3 z4 => by
    rcases get_set z1 with ⟨rfl, y, _⟩ | ⟨n1, z1⟩
    · cases y
    rcases get_set z2 with ⟨rfl, y, _⟩ | ⟨n2, z2⟩
    · cases y
    rw [List.getElem?_set_ne n1] at z3
    rw [List.getElem?_set_ne n2] at z4
    exact k.inj j l a ds es z1 z2 z3 z4
  pend := k.pend
  frame := k.frame
  sub := k.sub
  dom := k.dom
  mkd := k.mkd
  lk := k.lk
  tank := fun a t => by
    obtain ⟨m, e1, ds, e2⟩ := k.tank a t
    have n : i ≠ 0 := fun z => h.no (by rw [z]; exact e2)
    exact ⟨m, by rw [List.getElem?_set_ne n]; exact e1, ds, by rw [List.getElem?_set_ne n]; exact e2⟩
/-- an own list's content is changed in place -/
theorem Ok.write (k : Ok K c M σ H ev pd) {i : Nat} {a : Addr} {ds es : List PyData} {us : List V} (h : ev[i]? = some (some (.own ds))) (ha : σ[i]? = some (some (.ref a)))
    (ext : ∀ b o, H b = some o → b ≠ a → H' b = some o) (hu : H' a = some (.lst us)) (q : DzAll K (msk M H') us es) : Ok K c M σ H' (ev.set i (some (.own es))) pd := by
  obtain ⟨a', vs, e1, e2, e3, e4, e5⟩ := k.own i ds h
  obtain rfl : a' = a := by rw [ha] at e1; cases e1; rfl
  have hm : ∀ b o, msk M H b = some o → msk M H' b = some o := msk_same fun b o e m => ext b o e fun z => by rw [z, e2] at m; cases m
  have hi : i < ev.length := by
    by_cases z : i < ev.length
    · exact z
    · rw [List.getElem?_eq_none (by omega)] at h; cases h
  refine ⟨by rw [List.length_set]; exact k.len, fun j d z => ?_, fun j d z => ?_, fun j l b ds1 ds2 z1 z2 z3 z4 => ?_, fun p hp => (k.pend p hp).up hm, fun b o e t => ?_, k.sub, fun b m => ?_, k.mkd, fun b o e => ?_, fun b t => ?_⟩
  · rcases get_set z with ⟨rfl, z1, _⟩ | ⟨n, z⟩
    · cases z1
    · obtain ⟨v, y1, y2⟩ := k.val j d z
      exact ⟨v, y1, y2.up hm⟩
  · rcases get_set z with ⟨rfl, z1, _⟩ | ⟨n, z⟩
    · cases z1
      exact ⟨a', us, ha, e2, e3, hu, q⟩
    · obtain ⟨b, ws, y1, y2, y3, y4, y5⟩ := k.own j d z
      exact ⟨b, ws, y1, y2, y3, ext b _ y4 fun y => n (k.inj i j a' ds d h z ha (by rw [y1, y])), y5.up hm⟩
  · have o1 : ∃ w, ev[j]? = some (some (.own w)) := by
      rcases get_set z1 with ⟨rfl, _, _⟩ | ⟨_, z⟩
      · exact ⟨_, h⟩
      · exact ⟨_, z⟩
    have o2 : ∃ w, ev[l]? = some (some (.own w)) := by
      rcases get_set z2 with ⟨rfl, _, _⟩ | ⟨_, z⟩
      · exact ⟨_, h⟩
      · exact ⟨_, z⟩
    obtain ⟨w1, o1⟩ := o1
    obtain ⟨w2, o2⟩ := o2
    exact k.inj j l b w1 w2 o1 o2 z3 z4
  · refine ext b o (k.frame b o e t) fun z => ?_
    rcases e3 with y | y
    · rw [z, y] at e; cases e
    · rw [z, y] at t; cases t
  · obtain ⟨o, y⟩ := k.dom b m
    by_cases z : b = a'
    · rw [z]; exact ⟨_, hu⟩
    · exact ⟨o, ext b o y z⟩
  · obtain ⟨q1, q2⟩ := k.lk b o e
    exact ⟨ext b o q1 fun z => (by rw [z, e2] at q2; rcases q2 with q2 | q2 <;> cases q2), q2⟩
  · obtain ⟨m, y1, ws, y2⟩ := k.tank b t
    refine ⟨m, y1, ?_⟩
    by_cases z : i = 0
    · subst z; exact ⟨es, List.getElem?_set_self hi⟩
    · exact ⟨ws, by rw [List.getElem?_set_ne z]; exact y2⟩
/-! ### a list that is being made: locked, then let go -/
def stM (M : Mz) (D : Addr) (n : Nat × Option HO) : Mz := fun b => if b = D then n else M b
theorem stM_at {M : Mz} {D : Addr} {n : Nat × Option HO} : stM M D n D = n := by unfold stM; rw [if_pos rfl]
theorem stM_off {M : Mz} {D b : Addr} {n : Nat × Option HO} (h : b ≠ D) : stM M D n b = M b := by unfold stM; rw [if_neg h]
theorem stM_stM {M : Mz} {D : Addr} {n m : Nat × Option HO} : stM (stM M D n) D m = stM M D m := by
  funext b
  by_cases e : b = D
  · rw [e, stM_at, stM_at]
  · rw [stM_off e, stM_off e, stM_off e]
theorem stM_id {M : Mz} {D : Addr} {n : Nat × Option HO} (h : M D = n) : stM M D n = M := by
  funext b
  by_cases e : b = D
  · rw [e, stM_at, h]
  · rw [stM_off e]
theorem Ok.h0 (k : Ok K c M σ H ev pd) {D : Addr} (h : H D = none) : c.H0 D = none ∧ c.T D = false := by
  have t : c.T D = false := by
    cases e : c.T D with
    | false => rfl
    | true =>
      obtain ⟨m, _⟩ := k.tank D e
      obtain ⟨o, q⟩ := k.dom D (k.sub D m)
      rw [h] at q; cases q
  refine ⟨?_, t⟩
  cases e : c.H0 D with
  | none => rfl
  | some o => have q := k.frame D o e t; rw [h] at q; cases q
/-- nothing is known of a free address -/
theorem Ok.plain (k : Ok K c M σ H ev pd) {D : Addr} (h : H D = none) : M D = (0, none) := by
  have a := k.free h
  have b : (M D).2 = none := by
    cases e : (M D).2 with
    | none => rfl
    | some o => have q := (k.lk D o e).1; rw [h] at q; cases q
  exact Prod.ext a b
/-- a new object is hidden: as an own list, or with a content that stays -/
theorem Ok.lock (k : Ok K c M σ H ev pd) {D : Addr} {o : HO} {n : Nat × Option HO} (h : H D = none) (hn : ∀ u, n.2 = some u → o = u ∧ n.1 = 2) : Ok K c (stM M D n) σ (upd H D o) ev pd := by
  have hm : ∀ b u, msk M H b = some u → msk (stM M D n) (upd H D o) b = some u := fun b u e => by
    obtain ⟨a, q⟩ := msk_ok e
    have ne : b ≠ D := ne_of_none a h
    exact msk_of (by rw [upd_ne ne]; exact a) (by rw [stM_off ne]; exact q)
  refine ⟨k.len, fun i d e => ?_, fun i ds e => ?_, k.inj, fun p hp => (k.pend p hp).up hm, fun b u e t => ?_, fun a e => ?_, fun a e => ?_, k.mkd, fun b u e => ?_, k.tank⟩
  · obtain ⟨v, a, b⟩ := k.val i d e
    exact ⟨v, a, b.up hm⟩
  · obtain ⟨a, vs, e1, e2, e3, e4, e5⟩ := k.own i ds e
    have ne : a ≠ D := ne_of_none e4 h
    exact ⟨a, vs, e1, by rw [stM_off ne]; exact e2, e3, by rw [upd_ne ne]; exact e4, e5.up hm⟩
  · have q := k.frame b u e t
    rw [upd_ne (ne_of_none q h)]; exact q
  · obtain ⟨u, q⟩ := k.dom a (k.sub a e)
    rw [stM_off (ne_of_none q h)]; exact k.sub a e
  · by_cases z : a = D
    · rw [z]; exact ⟨_, upd_same⟩
    · rw [stM_off z] at e
      obtain ⟨u, q⟩ := k.dom a e
      exact ⟨u, by rw [upd_ne z]; exact q⟩
  · by_cases z : b = D
    · subst z
      rw [stM_at] at e ⊢
      obtain ⟨q1, q2⟩ := hn u e
      exact ⟨by rw [upd_same, q1], .inl q2⟩
    · rw [stM_off z] at e ⊢
      obtain ⟨q1, q2⟩ := k.lk b u e
      exact ⟨by rw [upd_ne z]; exact q1, q2⟩
/-- the content of a hidden object is another one -/
theorem Ok.more (k : Ok K c M σ H ev pd) {D : Addr} {o : HO} (h : (M D).1 = 2) (h0 : c.H0 D = none) : Ok K c (stM M D (2, some o)) σ (upd H D o) ev pd := by
  have hm : ∀ b u, msk M H b = some u → msk (stM M D (2, some o)) (upd H D o) b = some u := fun b u e => by
    obtain ⟨a, q⟩ := msk_ok e
    have ne : b ≠ D := fun z => by rw [z, h] at q; cases q
    exact msk_of (by rw [upd_ne ne]; exact a) (by rw [stM_off ne]; exact q)
  refine ⟨k.len, fun i d e => ?_, fun i ds e => ?_, k.inj, fun p hp => (k.pend p hp).up hm, fun b u e t => ?_, fun a e => ?_, fun a e => ?_, k.mkd, fun b u e => ?_, k.tank⟩
  · obtain ⟨v, a, b⟩ := k.val i d e
    exact ⟨v, a, b.up hm⟩
  · obtain ⟨a, vs, e1, e2, e3, e4, e5⟩ := k.own i ds e
    have ne : a ≠ D := fun z => by rw [z, h] at e2; cases e2
    exact ⟨a, vs, e1, by rw [stM_off ne]; exact e2, e3, by rw [upd_ne ne]; exact e4, e5.up hm⟩
  · have ne : b ≠ D := fun z => by rw [z, h0] at e; cases e
    rw [upd_ne ne]; exact k.frame b u e t
  · have ne : a ≠ D := fun z => by obtain ⟨u, q⟩ := k.mkd a e; rw [z, h0] at q; cases q
    rw [stM_off ne]; exact k.sub a e
  · by_cases z : a = D
    · rw [z]; exact ⟨_, upd_same⟩
    · rw [stM_off z] at e
      obtain ⟨u, q⟩ := k.dom a e
      exact ⟨u, by rw [upd_ne z]; exact q⟩
  · by_cases z : b = D
    · subst z
      rw [stM_at] at e ⊢
      cases e
      exact ⟨upd_same, .inl rfl⟩
    · rw [stM_off z] at e ⊢
      obtain ⟨q1, q2⟩ := k.lk b u e
      exact ⟨by rw [upd_ne z]; exact q1, q2⟩
/-- it is let go: from now on it is data -/
theorem Ok.unlock (k : Ok K c M σ H ev pd) {D : Addr} {vs : List V} {ds : List PyData} (h : (M D).1 = 2) (h0 : c.H0 D = none) (hl : H D = some (.lst vs)) (r : DzAll K (msk M H) vs ds) : Ok K c (stM M D (0, none)) σ H ev ((.ref D, .list ds) :: pd) := by
  have hm : ∀ b u, msk M H b = some u → msk (stM M D (0, none)) H b = some u := msk_less fun a e z => e (by
    by_cases y : a = D
    · rw [y, stM_at]
    · rw [stM_off y]; exact z)
  have k2 : Ok K c (stM M D (0, none)) σ H ev pd := by
    refine ⟨k.len, fun i d e => ?_, fun i ds e => ?_, k.inj, fun p hp => (k.pend p hp).up hm, k.frame, fun a e => ?_, fun a e => ?_, k.mkd, fun b u e => ?_, k.tank⟩
    · obtain ⟨v, a, b⟩ := k.val i d e
      exact ⟨v, a, b.up hm⟩
    · obtain ⟨a, vs, e1, e2, e3, e4, e5⟩ := k.own i ds e
      have ne : a ≠ D := fun z => by rw [z, h] at e2; cases e2
      exact ⟨a, vs, e1, by rw [stM_off ne]; exact e2, e3, e4, e5.up hm⟩
    · have ne : a ≠ D := fun z => by obtain ⟨o, q⟩ := k.mkd a e; rw [z, h0] at q; cases q
      rw [stM_off ne]; exact k.sub a e
    · by_cases z : a = D
      · rw [z]; exact ⟨_, hl⟩
      · rw [stM_off z] at e; exact k.dom a e
    · by_cases z : b = D
      · subst z
        rw [stM_at] at e
        cases e
      · rw [stM_off z] at e ⊢
        exact k.lk b u e
  exact k2.push (.lst (sq_lst (msk_of hl (by rw [stM_at]))) (r.up hm))
/-- an own list that no one changes any more: data -/
theorem Ok.freeze (k : Ok K c M σ H ev pd) {i : Nat} {a : Addr} {ds : List PyData} (h : ev[i]? = some (some (.own ds))) (ha : σ[i]? = some (some (.ref a))) (h0 : c.H0 a = none) : Ok K c (stM M a (0, none)) σ H (ev.set i (some (.val (.list ds)))) ((.ref a, .list ds) :: pd) := by
  obtain ⟨a', vs, e1, e2, e3, e4, e5⟩ := k.own i ds h
  obtain rfl : a' = a := by rw [ha] at e1; cases e1; rfl
  have hm : ∀ b u, msk M H b = some u → msk (stM M a' (0, none)) H b = some u := msk_less fun b e z => e (by
    by_cases y : b = a'
    · rw [y, stM_at]
    · rw [stM_off y]; exact z)
  have hd : Dz K (msk (stM M a' (0, none)) H) (.ref a') (.list ds) := .lst (sq_lst (msk_of e4 (by rw [stM_at]))) (e5.up hm)
  have k2 : Ok K c (stM M a' (0, none)) σ H (ev.set i (some (.val (.list ds)))) pd := by
    refine ⟨by rw [List.length_set]; exact k.len, fun j d z => ?_, fun j es z => ?_, fun j l b ds1 ds2 z1 z2 z3 z4 => ?_, fun p hp => (k.pend p hp).up hm, k.frame, fun b e => ?_, fun b e => ?_, k.mkd, fun b u e => ?_, fun b t => ?_⟩
    · rcases get_set z with ⟨rfl, z1, _⟩ | ⟨n, z⟩
      · cases z1
        exact ⟨_, ha, hd⟩
      · obtain ⟨v, y1, y2⟩ := k.val j d z
        exact ⟨v, y1, y2.up hm⟩
    · rcases get_set z with ⟨rfl, z1, _⟩ | ⟨n, z⟩
      · cases z1
      · obtain ⟨b, ws, y1, y2, y3, y4, y5⟩ := k.own j es z
        have ne : b ≠ a' := fun y => n (k.inj i j a' ds es h z ha (by rw [y1, y]))
        exact ⟨b, ws, y1, by rw [stM_off ne]; exact y2, y3, y4, y5.up hm⟩
    · rcases get_set z1 with ⟨rfl, y, _⟩ | ⟨n1, z1⟩
      · cases y
      rcases get_set z2 with ⟨rfl, y, _⟩ | ⟨n2, z2⟩
      · cases y
      exact k.inj j l b ds1 ds2 z1 z2 z3 z4
    · have ne : b ≠ a' := fun z => by obtain ⟨o, q⟩ := k.mkd b e; rw [z, h0] at q; cases q
      rw [stM_off ne]; exact k.sub b e
    · by_cases z : b = a'
      · rw [z]; exact ⟨_, e4⟩
      · rw [stM_off z] at e; exact k.dom b e
    · by_cases z : b = a'
      · subst z
        rw [stM_at] at e
        cases e
      · rw [stM_off z] at e ⊢
        exact k.lk b u e
    · obtain ⟨m, y1, ws, y2⟩ := k.tank b t
      refine ⟨m, y1, ?_⟩
      by_cases z : i = 0
      · subst z
        rw [ha] at y1
        cases y1
        obtain ⟨o, q⟩ := k.mkd a' m
        rw [h0] at q; cases q
      · exact ⟨ws, by rw [List.getElem?_set_ne z]; exact y2⟩
  exact k2.push hd
end
end Z

set_option Elab.async false
set_option linter.all false
set_option maxRecDepth 100000
namespace Z
open PySem L2
/-! ## 4. readings over data -/
abbrev Wx := Ev → (PyData → Ev → Prop) → Prop
abbrev Wa := Ev → (List PyData → Ev → Prop) → Prop
abbrev Wt := Ev → (Bool → Ev → Prop) → Prop
def tE (K : PySem.W.Frag) (c : Cf) (w : Wx) : TE := fun σ H Q => ∃ M ev pd R, Ok K c M σ H ev pd ∧ w ev R ∧ ∀ d ev', R d ev' → ∀ v H', Ok K c M σ H' ev' ((v, d) :: pd) → Q v H'
def tA (K : PySem.W.Frag) (c : Cf) (w : Wa) : TA := fun σ H Q => ∃ M ev pd R, Ok K c M σ H ev pd ∧ w ev R ∧ ∀ ds ev', R ds ev' → ∀ vs H', Ok K c M σ H' ev' pd → DzAll K (msk M H') vs ds → Q vs H'
def tT (K : PySem.W.Frag) (c : Cf) (w : Wt) : TT := fun σ H Q => ∃ M ev pd R, Ok K c M σ H ev pd ∧ w ev R ∧ ∀ b ev', R b ev' → ∀ H', Ok K c M σ H' ev' pd → Q b H'
abbrev DE (X : Cx) (c : Cf) (e : Expr) (w : Wx) : Prop := PE X e (tE X.K c w)
abbrev DA (X : Cx) (c : Cf) (es : List Expr) (w : Wa) : Prop := PA X es (tA X.K c w)
abbrev DT (X : Cx) (c : Cf) (e : Expr) (w : Wt) : Prop := PT X e (tT X.K c w)
abbrev DW (X : Cx) (c : Cf) (e : Expr) (w : Wt) : Prop := PW X e (tT X.K c w)
theorem peM {X : Cx} {e : Expr} {t t' : TE} (p : PE X e t) (h : ∀ σ H Q, t' σ H Q → t σ H Q) : PE X e t' := ⟨fun pins s σ H Q I q => p.run pins s σ H Q I (h σ H Q q)⟩
theorem paM {X : Cx} {e : List Expr} {t t' : TA} (p : PA X e t) (h : ∀ σ H Q, t' σ H Q → t σ H Q) : PA X e t' := ⟨fun pos pins s σ H Q I q => p.run pos pins s σ H Q I (h σ H Q q)⟩
theorem ptM {X : Cx} {e : Expr} {t t' : TT} (p : PT X e t) (h : ∀ σ H Q, t' σ H Q → t σ H Q) : PT X e t' := ⟨fun pins s σ H Q I q => p.run pins s σ H Q I (h σ H Q q)⟩
theorem pwM {X : Cx} {e : Expr} {t t' : TT} (p : PW X e t) (h : ∀ σ H Q, t' σ H Q → t σ H Q) : PW X e t' := ⟨fun wh pins s σ H Q I q => p.run wh pins s σ H Q I (h σ H Q q)⟩
theorem pkM {X : Cx} {e : List Keyword} {t t' : TA} (p : PK X e t) (h : ∀ σ H Q, t' σ H Q → t σ H Q) : PK X e t' := ⟨fun pos pins s σ H Q I q => p.run pos pins s σ H Q I (h σ H Q q)⟩
theorem psM {X : Cx} {e : Stmt} {t t' : TS} (p : PS X e t) (h : ∀ D σ H, t' D σ H → t D σ H) : PS X e t' := ⟨fun pins s σ H D I q => p.run pins s σ H D I (h D σ H q)⟩
theorem pssM {X : Cx} {e : List Stmt} {t t' : TS} (p : PSs X e t) (h : ∀ D σ H, t' D σ H → t D σ H) : PSs X e t' := ⟨fun pins s σ H D I q => p.run pins s σ H D I (h D σ H q)⟩
/-! ### names, constants -/
def dVar (i : Nat) : Wx := fun ev Q => match ev[i]? with
  | some (some (.val d)) => Q d ev
  | _ => False
def dLit (d : PyData) : Wx := fun ev Q => Q d ev
section
variable {X : Cx} {c : Cf}
theorem de_pv {i : Nat} {e : Expr} (h : PE X e (tVar i)) : DE X c e (dVar i) := peM h fun σ H Q ⟨M, ev, pd, R, k, w, q⟩ => by
  unfold dVar at w
  split at w
  · rename_i d e
    obtain ⟨v, a, b⟩ := k.val i d e
    exact ⟨v, a, q d ev w v H (k.push b)⟩
  · exact w.elim
theorem de_lit {v : V} {d : PyData} {e : Expr} (h : PE X e (tC v)) (hd : ∀ H, Dz X.K H v d) : DE X c e (dLit d) := peM h fun σ H Q ⟨M, ev, pd, R, k, w, q⟩ => q d ev w v H (k.push (hd _))
theorem de_int {i j pos} : DE X c (.Constant (.int i) j pos) (dLit (.int i)) := de_lit pe_int fun _ => .int i
theorem de_bl {b j pos} : DE X c (.Constant (.bool b) j pos) (dLit (.bool b)) := de_lit pe_bl fun _ => .bl b
theorem de_non {j pos} : DE X c (.Constant .none j pos) (dLit .none) := de_lit pe_non fun _ => .non
theorem de_str {x j pos} : DE X c (.Constant (.str x) j pos) (dLit (.str x)) := de_lit pe_str fun _ => .str x
/-! ### argument lists, displays -/
def daN : Wa := fun ev Q => Q [] ev
def daC (w : Wx) (u : Wa) : Wa := fun ev Q => w ev fun d e1 => u e1 fun ds e2 => Q (d :: ds) e2
theorem da_nil : DA X c [] daN := paM pa_nil fun σ H Q ⟨M, ev, pd, R, k, w, q⟩ => q [] ev w [] H k .nil
theorem cons_rd {K : PySem.W.Frag} {w : Wx} {u : Wa} {σ : Sg} {H : Hp} {Q : List V → Hp → Prop} (h : tA K c (daC w u) σ H Q) : tCons (tE K c w) (tA K c u) σ H Q := by
  obtain ⟨M, ev, pd, R, k, w, q⟩ := h
  exact ⟨M, ev, pd, _, k, w, fun d e1 h1 v H1 k1 => ⟨M, e1, _, _, k1, h1, fun ds e2 h2 vs H2 k2 r => q (d :: ds) e2 h2 (v :: vs) H2 k2.pop1 (.cons k2.top r)⟩⟩
theorem da_cons {e : Expr} {es : List Expr} {w : Wx} {u : Wa} (he : DE X c e w) (hr : DA X c es u) (hs : starEach (e :: es) X.env = (false, eval e X.env) :: starEach es X.env := by rfl) : DA X c (e :: es) (daC w u) :=
  paM (pa_cons he hr hs) fun _ _ _ h => cons_rd h
abbrev DK (X : Cx) (c : Cf) (es : List Keyword) (w : Wa) : Prop := PK X es (tA X.K c w)
theorem dk_nil : DK X c [] daN := pkM pk_nil fun σ H Q ⟨M, ev, pd, R, k, w, q⟩ => q [] ev w [] H k .nil
theorem dk_cons {nm : Option Str} {e : Expr} {kpos : Pos} {es : List Keyword} {w : Wx} {u : Wa} (he : DE X c e w) (hr : DK X c es u) : DK X c (⟨nm, e, kpos⟩ :: es) (daC w u) :=
  pkM (pk_cons he hr) fun _ _ _ h => cons_rd h
def dTup (u : Wa) : Wx := fun ev Q => u ev fun ds e => ds.length ≤ 1000 ∧ Q (.tuple ds) e
def dLst (u : Wa) : Wx := fun ev Q => u ev fun ds e => ds.length ≤ 1000 ∧ Q (.list ds) e
theorem line_of {n : Nat} (h : n ≤ 1000) : n ≤ sizeLine := Nat.le_of_lt (small1000 h)
theorem de_tup {es : List Expr} {u : Wa} {x1 pos} (h : DA X c es u) : DE X c (.Tuple es x1 pos) (dTup u) := peM (pe_tup h) fun σ H Q ⟨M, ev, pd, R, k, w, q⟩ =>
  ⟨M, ev, pd, _, k, w, fun ds e ⟨l, h1⟩ vs H1 k1 r => ⟨by rw [r.len]; exact line_of l, fun p hp => q _ e h1 _ _ (k1.newTup hp r)⟩⟩
theorem de_lst {es : List Expr} {u : Wa} {pos} (h : DA X c es u) : DE X c (.List es pos) (dLst u) := peM (pe_lst h) fun σ H Q ⟨M, ev, pd, R, k, w, q⟩ =>
  ⟨M, ev, pd, _, k, w, fun ds e ⟨l, h1⟩ vs H1 k1 r => ⟨by rw [r.len]; exact line_of l, fun p hp => q _ e h1 _ _ (k1.newLst hp r)⟩⟩
/-! ### operators by values -/
def RZ2 (K : PySem.W.Frag) (r : R2) (f : PyData → PyData → (PyData → Prop) → Prop) : Prop := ∀ (c : Cf) (M : Mz) (σ : Sg) (H : Hp) (ev : Ev) (pd : List (V × PyData)) (v u : V) (x y : PyData) (R : PyData → Prop) (Q : VK),
  Ok K c M σ H ev pd → Dz K (msk M H) v x → Dz K (msk M H) u y → f x y R → (∀ d w H', R d → Ok K c M σ H' ev ((w, d) :: pd) → Q w H') → r v u H Q
def dOp (f : PyData → PyData → (PyData → Prop) → Prop) (a b : Wx) : Wx := fun ev Q => a ev fun x e1 => b e1 fun y e2 => f x y fun z => Q z e2
theorem op_rd {r : R2} {f} (h : RZ2 X.K r f) {a b : Wx} {σ : Sg} {H : Hp} {Q : VK} (q : tE X.K c (dOp f a b) σ H Q) : tOp r (tE X.K c a) (tE X.K c b) σ H Q := by
  obtain ⟨M, ev, pd, R, k, w, q⟩ := q
  exact ⟨M, ev, pd, _, k, w, fun x e1 h1 v H1 k1 => ⟨M, e1, _, _, k1, h1, fun y e2 h2 u H2 k2 =>
    h c M σ H2 e2 pd v u x y _ Q k2.pop1.pop1 k2.pop1.top k2.top h2 fun d w' H' hd ok => q d e2 hd w' H' ok⟩⟩
theorem de_op {op : Operator} {a b : Expr} {r : R2} {f} {wa wb : Wx} {pos : Pos} (ho : OpR X (binaryOp op) r) (h : RZ2 X.K r f) (ha : DE X c a wa) (hb : DE X c b wb) : DE X c (.BinOp a op b pos) (dOp f wa wb) :=
  peM (pe_op ho ha hb) fun _ _ _ q => op_rd h q
theorem de_cmp {op : CmpOp} {a b : Expr} {r : R2} {f} {wa wb : Wx} {pos : Pos} (ho : OpR X (compareOp op) r) (h : RZ2 X.K r f) (ha : DE X c a wa) (hb : DE X c b wb) (hm : behindInMarks op b = false) : DE X c (.Compare a [op] [b] pos) (dOp f wa wb) :=
  peM (pe_cmpR ho ha hb hm) fun _ _ _ q => op_rd h q
theorem de_ix {a b : Expr} {r : R2} {f} {wa wb : Wx} {pos : Pos} (ho : IxR X r) (h : RZ2 X.K r f) (ha : DE X c a wa) (hb : DE X c b wb) (hs : PlainIx b) : DE X c (.Subscript a b pos) (dOp f wa wb) :=
  peM (pe_ix ho ha hb hs) fun _ _ _ q => op_rd h q
end
/-- int by int -/
def fII (p : Int → Int → Prop) (g : Int → Int → PyData) : PyData → PyData → (PyData → Prop) → Prop
  | .int i, .int j, Q => p i j ∧ Q (g i j)
  | _, _, _ => False
abbrev nop : Int → Int → Prop := fun _ _ => True
theorem rz_ii {K : PySem.W.Frag} {C : Int → Int → Prop} {p : Int → Int → Prop} {g : Int → Int → V} {g' : Int → Int → PyData} (hp : ∀ i j, p i j → C i j) (hg : ∀ H i j, Dz K H (g i j) (g' i j)) : RZ2 K (rI C g) (fII p g') := by
  intro c M σ H ev pd v u x y R Q k a b w q
  unfold fII at w
  split at w
  · cases a; cases b
    exact ⟨_, _, rfl, rfl, hp _ _ w.1, q _ _ _ w.2 (k.push (hg _ _ _))⟩
  · exact w.elim
theorem rz_ii0 {K : PySem.W.Frag} {g : Int → Int → V} {g' : Int → Int → PyData} (hg : ∀ H i j, Dz K H (g i j) (g' i j)) : RZ2 K (rI0 g) (fII nop g') := by
  intro c M σ H ev pd v u x y R Q k a b w q
  unfold fII at w
  split at w
  · cases a; cases b
    exact ⟨_, _, rfl, rfl, q _ _ _ w.2 (k.push (hg _ _ _))⟩
  · exact w.elim
/-- how wide factors may be -/
def mulC (i j : Int) : Prop := i.natAbs.log2 + j.natAbs.log2 < 1000000
def divC (_ j : Int) : Prop := 0 < j ∧ j.natAbs.log2 < 9000
def modC (_ j : Int) : Prop := 0 < j
abbrev fAdd := fII nop fun i j => .int (i + j)
abbrev fSub := fII nop fun i j => .int (i - j)
abbrev fMul := fII mulC fun i j => .int (i * j)
abbrev fDiv := fII divC fun i j => .int (i / j)
abbrev fMod := fII modC fun i j => .int (i % j)
abbrev fLt := fII nop fun i j => .bool (decide (i < j))
abbrev fLe := fII nop fun i j => .bool (decide (i ≤ j))
abbrev fGt := fII nop fun i j => .bool (decide (j < i))
abbrev fGe := fII nop fun i j => .bool (decide (j ≤ i))
section
variable {X : Cx} {c : Cf} {a b : Expr} {wa wb : Wx} {pos : Pos}
theorem de_add (ha : DE X c a wa) (hb : DE X c b wb) : DE X c (.BinOp a .Add b pos) (dOp fAdd wa wb) := de_op op_add (rz_ii0 fun _ _ _ => .int _) ha hb
theorem de_sub (ha : DE X c a wa) (hb : DE X c b wb) : DE X c (.BinOp a .Sub b pos) (dOp fSub wa wb) := de_op op_sub (rz_ii0 fun _ _ _ => .int _) ha hb
theorem de_mul (ha : DE X c a wa) (hb : DE X c b wb) : DE X c (.BinOp a .Mult b pos) (dOp fMul wa wb) := de_op op_mulW (rz_ii (fun _ _ h => h) fun _ _ _ => .int _) ha hb
theorem de_div (ha : DE X c a wa) (hb : DE X c b wb) : DE X c (.BinOp a .FloorDiv b pos) (dOp fDiv wa wb) := de_op op_fdivW (rz_ii (fun _ _ h => h) fun _ _ _ => .int _) ha hb
theorem de_mod (ha : DE X c a wa) (hb : DE X c b wb) : DE X c (.BinOp a .Mod b pos) (dOp fMod wa wb) := de_op op_mod (rz_ii (fun _ _ h => h) fun _ _ _ => .int _) ha hb
theorem de_lt (ha : DE X c a wa) (hb : DE X c b wb) : DE X c (.Compare a [.Lt] [b] pos) (dOp fLt wa wb) := de_cmp op_lt (rz_ii0 fun _ _ _ => .bl _) ha hb (nobehind b (by decide) (by decide))
theorem de_le (ha : DE X c a wa) (hb : DE X c b wb) : DE X c (.Compare a [.LtE] [b] pos) (dOp fLe wa wb) := de_cmp op_le (rz_ii0 fun _ _ _ => .bl _) ha hb (nobehind b (by decide) (by decide))
theorem de_gt (ha : DE X c a wa) (hb : DE X c b wb) : DE X c (.Compare a [.Gt] [b] pos) (dOp fGt wa wb) := de_cmp op_gt (rz_ii0 fun _ _ _ => .bl _) ha hb (nobehind b (by decide) (by decide))
theorem de_ge (ha : DE X c a wa) (hb : DE X c b wb) : DE X c (.Compare a [.GtE] [b] pos) (dOp fGe wa wb) := de_cmp op_ge (rz_ii0 fun _ _ _ => .bl _) ha hb (nobehind b (by decide) (by decide))
end
/-! ### == and != of data -/
def shp (d : PyData) : Prop := SeqAt.shaped d = true
theorem shp_nd {d : PyData} (h : shp d) : d.hasDict = false := PyData.hasDict_of_canLay d (SeqAt.canLay_of_shaped h)
def txts : PyData → PyData → Bool
  | .str _, .str _ => true
  | _, _ => false
def fEq : PyData → PyData → (PyData → Prop) → Prop := fun x y Q => (txts x y = true ∨ (shp x ∧ shp y)) ∧ Q (.bool (PyData.eqv x y))
def fNe : PyData → PyData → (PyData → Prop) → Prop := fun x y Q => (txts x y = true ∨ (shp x ∧ shp y)) ∧ Q (.bool (!PyData.eqv x y))
theorem txts_of {x y : PyData} (h : txts x y = true) : ∃ a b, x = .str a ∧ y = .str b := by
  cases x <;> cases y <;> first | exact ⟨_, _, rfl, rfl⟩ | exact absurd h (by simp [txts])
theorem eqv_str (a b : Str) : PyData.eqv (.str a) (.str b) = decide (a = b) := by
  have e1 : PyData.eqv (.str a) (.str b) = (a == b) := by simp only [PyData.eqv]
  rw [e1]
  by_cases z : a = b
  · subst z; simp
  · rw [decide_eq_false z]; exact beq_eq_false_iff_ne.mpr z
section
variable {K : PySem.W.Frag}
theorem unm {M : Mz} {H : Hp} {v : V} {d : PyData} (h : Dz K (msk M H) v d) : Dz K H v d := h.up msk_sub
theorem unmA {M : Mz} {H : Hp} {v : List V} {d : List PyData} (h : DzAll K (msk M H) v d) : DzAll K H v d := h.up msk_sub
theorem rz_eq : RZ2 K (fun x y H Q => rEq x y H Q ∨ rEqD K x y H Q) fEq := fun c M σ H ev pd v u x y R Q k a b w q => w.1.elim (fun h => by
  obtain ⟨i, j, rfl, rfl⟩ := txts_of h
  cases a
  cases b
  refine .inl ⟨rfl, ?_⟩
  have z := q _ _ _ w.2 (k.push (.bl _))
  rw [eqv_str] at z
  have e : decide (V.str i = V.str j) = decide (i = j) := by simp
  rw [e]
  exact z) fun h => .inr ⟨x, y, (unm a).dp (shp_nd h.1), (unm b).dp (shp_nd h.2), h.1, h.2, q _ _ _ w.2 (k.push (.bl _))⟩
theorem rz_ne : RZ2 K (fun x y H Q => rNe x y H Q ∨ rNeD K x y H Q) fNe := fun c M σ H ev pd v u x y R Q k a b w q => w.1.elim (fun h => by
  obtain ⟨i, j, rfl, rfl⟩ := txts_of h
  cases a
  cases b
  refine .inl ⟨rfl, ?_⟩
  have z := q _ _ _ w.2 (k.push (.bl _))
  rw [eqv_str] at z
  have e : decide (V.str i = V.str j) = decide (i = j) := by simp
  rw [e]
  exact z) fun h => .inr ⟨x, y, (unm a).dp (shp_nd h.1), (unm b).dp (shp_nd h.2), h.1, h.2, q _ _ _ w.2 (k.push (.bl _))⟩
end
section
variable {X : Cx} {c : Cf} {a b : Expr} {wa wb : Wx} {pos : Pos} {n : Nat}
theorem de_eq (hr : Room n X.A) (ha : DE X c a wa) (hb : DE X c b wb) : DE X c (.Compare a [.Eq] [b] pos) (dOp fEq wa wb) := de_cmp (OpR.or op_eq (op_eqD hr.units)) rz_eq ha hb (nobehind b (by decide) (by decide))
theorem de_ne (hr : Room n X.A) (ha : DE X c a wa) (hb : DE X c b wb) : DE X c (.Compare a [.NotEq] [b] pos) (dOp fNe wa wb) := de_cmp (OpR.or op_ne (op_neD hr.units)) rz_ne ha hb (nobehind b (by decide) (by decide))
end
/-! ### is None, is a bool -/
def isNo : PyData → Bool
  | .none => true
  | _ => false
def fIs : PyData → PyData → (PyData → Prop) → Prop
  | .bool a, .bool b, Q => Q (.bool (decide (a = b)))
  | x, .none, Q => Q (.bool (isNo x))
  | _, _, _ => False
def fIsN : PyData → PyData → (PyData → Prop) → Prop
  | .bool a, .bool b, Q => Q (.bool (!decide (a = b)))
  | x, .none, Q => Q (.bool (!isNo x))
  | _, _, _ => False
theorem isNo_eq {K : PySem.W.Frag} {H : Hp} {v : V} {d : PyData} (h : Dz K H v d) : isNo d = decide (v = .non) := by cases h <;> rfl
section
variable {X : Cx} {c : Cf} {a b : Expr} {wa wb : Wx} {pos : Pos}
theorem rz_is : RZ2 X.K (fun x y H Q => (∃ a b, x = .bl a ∧ y = .bl b ∧ Q (.bl (decide (a = b))) H) ∨ (y = .non ∧ Q (.bl (decide (x = .non))) H)) fIs := by
  intro c M σ H ev pd v u x y R Q k a b w q
  unfold fIs at w
  split at w
  · cases a; cases b
    exact .inl ⟨_, _, rfl, rfl, q _ _ _ w (k.push (.bl _))⟩
  · cases b
    rw [isNo_eq a] at w
    exact .inr ⟨rfl, q _ _ _ w (k.push (.bl _))⟩
  · exact w.elim
theorem rz_isn : RZ2 X.K (fun x y H Q => (∃ a b, x = .bl a ∧ y = .bl b ∧ Q (.bl (!decide (a = b))) H) ∨ (y = .non ∧ Q (.bl (!decide (x = .non))) H)) fIsN := by
  intro c M σ H ev pd v u x y R Q k a b w q
  unfold fIsN at w
  split at w
  · cases a; cases b
    exact .inl ⟨_, _, rfl, rfl, q _ _ _ w (k.push (.bl _))⟩
  · cases b
    rw [isNo_eq a] at w
    exact .inr ⟨rfl, q _ _ _ w (k.push (.bl _))⟩
  · exact w.elim
theorem de_is (ha : DE X c a wa) (hb : DE X c b wb) : DE X c (.Compare a [.Is] [b] pos) (dOp fIs wa wb) := de_cmp (OpR.or op_isBl op_isN) rz_is ha hb (nobehind b (by decide) (by decide))
theorem de_isn (ha : DE X c a wa) (hb : DE X c b wb) : DE X c (.Compare a [.IsNot] [b] pos) (dOp fIsN wa wb) := de_cmp (OpR.or op_notBl op_notN) rz_isn ha hb (nobehind b (by decide) (by decide))
end
/-! ### an item of a list or tuple -/
def fIx : PyData → PyData → (PyData → Prop) → Prop
  | .list ds, .int i, Q => match atI ds i with
    | some d => Q d
    | none => False
  | .tuple ds, .int i, Q => match atI ds i with
    | some d => Q d
    | none => False
  | _, _, _ => False
theorem atI_rel {K : PySem.W.Frag} {H : Hp} {vs : List V} {ds : List PyData} {i : Int} {d : PyData} (r : DzAll K H vs ds) (h : atI ds i = some d) : ∃ v, atI vs i = some v ∧ Dz K H v d := by
  unfold atI at h ⊢
  rw [r.len]
  cases e : ixN ds.length i with
  | none => rw [e] at h; cases h
  | some j => rw [e] at h; exact r.get j h
section
variable {X : Cx} {c : Cf} {a b : Expr} {wa wb : Wx} {pos : Pos}
theorem rz_ix {K : PySem.W.Frag} : RZ2 K (fun x y H Q => rIxL K x y H Q ∨ rIxT K x y H Q) fIx := by
  intro c M σ H ev pd v u x y R Q k a b w q
  unfold fIx at w
  split at w
  · split at w
    · rename_i e
      cases a with
      | lst h r =>
        cases b
        obtain ⟨z, y1, y2⟩ := atI_rel r e
        exact .inl ⟨_, _, _, z, rfl, rfl, sqL_up msk_sub h, y1, q _ _ _ w (k.push y2)⟩
    · exact w.elim
  · split at w
    · rename_i e
      cases a with
      | tup h r =>
        cases b
        obtain ⟨z, y1, y2⟩ := atI_rel r e
        exact .inr ⟨_, _, _, z, rfl, rfl, sqT_up msk_sub h, y1, q _ _ _ w (k.push y2)⟩
    · exact w.elim
  · exact w.elim
theorem de_item (ha : DE X c a wa) (hb : DE X c b wb) (hs : PlainIx b := by exact fun _ _ => rfl) : DE X c (.Subscript a b pos) (dOp fIx wa wb) := de_ix (IxR.or ix_list ix_tup) rz_ix ha hb hs
end
/-! ### minus -/
def fNeg : PyData → (PyData → Prop) → Prop
  | .int i, Q => Q (.int (-i))
  | _, _ => False
def dU (f : PyData → (PyData → Prop) → Prop) (a : Wx) : Wx := fun ev Q => a ev fun x e1 => f x fun z => Q z e1
section
variable {X : Cx} {c : Cf} {a b : Expr} {wa wb : Wx} {pos : Pos}
theorem de_neg (ha : DE X c a wa) : DE X c (.UnaryOp .USub a pos) (dU fNeg wa) := peM (pe_un un_neg ha) fun σ H Q ⟨M, ev, pd, R, k, w, q⟩ =>
  ⟨M, ev, pd, _, k, w, fun d e h v H1 k1 => by
    have t := k1.top
    unfold fNeg at h
    split at h
    · cases t
      exact ⟨_, rfl, q _ _ h _ _ (k1.pop1.push (.int _))⟩
    · exact h.elim⟩
/-! ### tests -/
def tru : PyData → Bool
  | .none => false
  | .bool b => b
  | .int i => i != 0
  | .str x => (x.length : Int) != 0
  | .list ds => !ds.isEmpty
  | .tuple ds => !ds.isEmpty
  | .dict _ => false
def truOk : PyData → Prop
  | .str x => x.length ≤ sizeLine
  | .dict (_ :: _) => False
  | _ => True
theorem isEmpty_eq {K : PySem.W.Frag} {H : Hp} {vs : List V} {ds : List PyData} (r : DzAll K H vs ds) : vs.isEmpty = ds.isEmpty := by cases r <;> rfl
theorem tru_rel {K : PySem.W.Frag} {H : Hp} {v : V} {d : PyData} (h : Dz K H v d) (o : truOk d) : TruV K v H (tru d) := by
  cases h with
  | non => exact rfl
  | bl b => exact rfl
  | int i => exact rfl
  | str x => exact ⟨o, rfl⟩
  | lst q r => exact .inl ⟨_, q, by show (!_) = !_; rw [isEmpty_eq r]⟩
  | tup q r => exact .inr (.inl ⟨_, q, by show (!_) = !_; rw [isEmpty_eq r]⟩)
  | dct0 q => exact .inr (.inr ⟨_, q, rfl⟩)
  | dct1 q r => exact o.elim
  | excN a => exact o.elim
  | exc q r => exact o.elim
def dTru (a : Wx) : Wt := fun ev Q => a ev fun d e => truOk d ∧ Q (tru d) e
theorem dt_val (ha : DE X c a wa) (he : ∀ whole, PySem.isTrue a X.env whole = (do let v ← whole; standAt a.pos; holding [v] (truthy v)) := by intro _; rfl) : DT X c a (dTru wa) :=
  ptM (pt_truth ha he) fun σ H Q ⟨M, ev, pd, R, k, w, q⟩ => ⟨M, ev, pd, _, k, w, fun d e h v H1 k1 => ⟨_, tru_rel (unm k1.top) h.1, q _ e h.2 H1 k1.pop1⟩⟩
def dNotT (w : Wt) : Wt := fun ev Q => w ev fun b e => Q (!b) e
theorem dt_not {w : Wt} (h : DT X c a w) : DT X c (.UnaryOp .Not a pos) (dNotT w) := ptM (pt_not h) fun σ H Q ⟨M, ev, pd, R, k, w, q⟩ => ⟨M, ev, pd, _, k, w, fun b e h H1 k1 => q _ e h H1 k1⟩
def dAndT (w u : Wt) : Wt := fun ev Q => w ev fun b e => if b = true then u e Q else Q false e
def dOrT (w u : Wt) : Wt := fun ev Q => w ev fun b e => if b = true then Q true e else u e Q
theorem dw_and1 {w : Wt} (h : DT X c a w) : DW X c (.BoolOp .And [a] pos) w := pw_and1 h
theorem dw_or1 {w : Wt} (h : DT X c a w) : DW X c (.BoolOp .Or [a] pos) w := pw_or1 h
theorem dw_and {w u : Wt} {rest : List Expr} (h : DT X c a w) (h2 : DW X c (.BoolOp .And (b :: rest) pos) u) : DW X c (.BoolOp .And (a :: b :: rest) pos) (dAndT w u) := pwM (pw_and h h2) fun σ H Q ⟨M, ev, pd, R, k, w, q⟩ =>
  ⟨M, ev, pd, _, k, w, fun b e h H1 k1 => by
    by_cases z : b = true
    · rw [if_pos z] at h ⊢
      exact ⟨M, e, pd, R, k1, h, q⟩
    · rw [if_neg z] at h ⊢
      exact q _ e h H1 k1⟩
theorem dw_or {w u : Wt} {rest : List Expr} (h : DT X c a w) (h2 : DW X c (.BoolOp .Or (b :: rest) pos) u) : DW X c (.BoolOp .Or (a :: b :: rest) pos) (dOrT w u) := pwM (pw_or h h2) fun σ H Q ⟨M, ev, pd, R, k, w, q⟩ =>
  ⟨M, ev, pd, _, k, w, fun b e h H1 k1 => by
    by_cases z : b = true
    · rw [if_pos z] at h ⊢
      exact q _ e h H1 k1
    · rw [if_neg z] at h ⊢
      exact ⟨M, e, pd, R, k1, h, q⟩⟩
theorem dt_w {w : Wt} (h : DW X c a w) : DT X c a w := h.pt
/-! ### and, or, not, if as values -/
def dAnd (w u : Wx) : Wx := fun ev Q => w ev fun d e => match d with
  | .bool b => if b = true then u e Q else Q (.bool false) e
  | _ => False
def dOr (w u : Wx) : Wx := fun ev Q => w ev fun d e => match d with
  | .bool b => if b = true then Q (.bool true) e else u e Q
  | _ => False
theorem de_one {op : BoolOp} {w : Wx} (h : DE X c a w) : DE X c (.BoolOp op [a] pos) w := pe_one h
theorem de_and {w u : Wx} {rest : List Expr} (h : DE X c a w) (h2 : DE X c (.BoolOp .And (b :: rest) pos) u) : DE X c (.BoolOp .And (a :: b :: rest) pos) (dAnd w u) := peM (pe_and h h2) fun σ H Q ⟨M, ev, pd, R, k, w, q⟩ =>
  ⟨M, ev, pd, _, k, w, fun d e h v H1 k1 => by
    have t := k1.top
    split at h
    · cases t
      rename_i z
      refine ⟨_, rfl, ?_⟩
      by_cases z : z = true
      · rw [if_pos z] at h ⊢
        exact ⟨M, e, pd, R, k1.pop1, h, q⟩
      · rw [if_neg z] at h ⊢
        exact q _ e h _ H1 (k1.pop1.push (.bl _))
    · exact h.elim⟩
theorem de_or {w u : Wx} {rest : List Expr} (h : DE X c a w) (h2 : DE X c (.BoolOp .Or (b :: rest) pos) u) : DE X c (.BoolOp .Or (a :: b :: rest) pos) (dOr w u) := peM (pe_or h h2) fun σ H Q ⟨M, ev, pd, R, k, w, q⟩ =>
  ⟨M, ev, pd, _, k, w, fun d e h v H1 k1 => by
    have t := k1.top
    split at h
    · cases t
      rename_i z
      refine ⟨_, rfl, ?_⟩
      by_cases z : z = true
      · rw [if_pos z] at h ⊢
        exact q _ e h _ H1 (k1.pop1.push (.bl _))
      · rw [if_neg z] at h ⊢
        exact ⟨M, e, pd, R, k1.pop1, h, q⟩
    · exact h.elim⟩
def dNot (w : Wx) : Wx := fun ev Q => w ev fun d e => match d with
  | .bool b => Q (.bool (!b)) e
  | _ => False
theorem de_not {w : Wx} (h : DE X c a w) : DE X c (.UnaryOp .Not a pos) (dNot w) := peM (pe_not h) fun σ H Q ⟨M, ev, pd, R, k, w, q⟩ =>
  ⟨M, ev, pd, _, k, w, fun d e h v H1 k1 => by
    have t := k1.top
    split at h
    · cases t
      exact ⟨_, rfl, q _ e h _ H1 (k1.pop1.push (.bl _))⟩
    · exact h.elim⟩
def dIf (t : Wt) (w u : Wx) : Wx := fun ev Q => t ev fun b e => if b = true then w e Q else u e Q
theorem de_if {t : Wt} {w u : Wx} {tst : Expr} (ht : DT X c tst t) (ha : DE X c a w) (hb : DE X c b u) : DE X c (.IfExp tst a b pos) (dIf t w u) := peM (pe_ifExp ht ha hb) fun σ H Q ⟨M, ev, pd, R, k, w, q⟩ =>
  ⟨M, ev, pd, _, k, w, fun z e h H1 k1 => by
    by_cases z : z = true
    · rw [if_pos z] at h ⊢
      exact ⟨M, e, pd, R, k1, h, q⟩
    · rw [if_neg z] at h ⊢
      exact ⟨M, e, pd, R, k1, h, q⟩⟩
end
end Z

set_option Elab.async false
set_option linter.all false
set_option maxRecDepth 100000
namespace Z
open PySem L2
/-! ## 5. built-in functions -/
def RZc (K : PySem.W.Frag) (r : List V → Hp → VK → Prop) (f : List PyData → (PyData → Prop) → Prop) : Prop := ∀ (c : Cf) (M : Mz) (σ : Sg) (H : Hp) (ev : Ev) (pd : List (V × PyData)) (vs : List V) (ds : List PyData) (R : PyData → Prop) (Q : VK),
  Ok K c M σ H ev pd → DzAll K (msk M H) vs ds → f ds R → (∀ d w H', R d → Ok K c M σ H' ev ((w, d) :: pd) → Q w H') → r vs H Q
def dCal (f : List PyData → (PyData → Prop) → Prop) (u : Wa) : Wx := fun ev Q => u ev fun ds e => f ds fun d => Q d e
section
variable {X : Cx} {c : Cf}
theorem cal_rd {r : List V → Hp → VK → Prop} {f} (h : RZc X.K r f) {u : Wa} {σ : Sg} {H : Hp} {Q : VK} (q : tE X.K c (dCal f u) σ H Q) : tCB r (tA X.K c u) σ H Q := by
  obtain ⟨M, ev, pd, R, k, w, q⟩ := q
  exact ⟨M, ev, pd, _, k, w, fun ds e h1 vs H1 k1 r1 => h c M σ H1 e pd vs ds _ Q k1 r1 h1 fun d w' H' hd ok => q d e hd w' H' ok⟩
theorem de_cB {x : Str} {p pos : Pos} {e : Expr} {es : List Expr} {u : Wa} {id : String} {r : List V → Hp → VK → Prop} {f} (hc : CallR X (.builtin id) r) (h : RZc X.K r f) (hg : Gl X x) (hm : X.mg x = none) (hv : bootBuiltins x = some (.builtin id)) (ha : DA X c (e :: es) u)
    (h1 : x ≠ "__name__" := by decide) (h2 : (x == ("__debug__" : Str)) = false := by decide) (h3 : starEach (e :: es) X.env = (false, eval e X.env) :: starEach es X.env := by rfl) (h4 : (backTo pos (starEach es X.env)).any (·.1) = false := by rfl) :
    DE X c (.Call (.Name x p) (e :: es) [] pos) (dCal f u) := peM (pe_callB hc hg hm hv ha h1 h2 h3 h4) fun _ _ _ q => cal_rd h q
theorem de_cT {x : Str} {p pos : Pos} {e : Expr} {es : List Expr} {u : Wa} {T : String} {r : List V → Hp → VK → Prop} {f} (hc : CallR X (.type T) r) (h : RZc X.K r f) (hg : Gl X x) (hm : X.mg x = none) (hv : bootBuiltins x = some (.type T)) (ha : DA X c (e :: es) u)
    (h1 : x ≠ "__name__" := by decide) (h2 : (x == ("__debug__" : Str)) = false := by decide) (h3 : starEach (e :: es) X.env = (false, eval e X.env) :: starEach es X.env := by rfl) (h4 : (backTo pos (starEach es X.env)).any (·.1) = false := by rfl) :
    DE X c (.Call (.Name x p) (e :: es) [] pos) (dCal f u) := peM (pe_callTy hc hg hm hv ha h1 h2 h3 h4) fun _ _ _ q => cal_rd h q
theorem de_cM {x : Str} {p pos : Pos} {e : Expr} {es : List Expr} {u : Wa} {id : String} {r : List V → Hp → VK → Prop} {f} (hc : CallR X (.builtin id) r) (h : RZc X.K r f) (hg : Gl X x) (hm : X.mg x = some (.builtin id)) (ha : DA X c (e :: es) u)
    (h2 : (x == ("__debug__" : Str)) = false := by decide) (h3 : starEach (e :: es) X.env = (false, eval e X.env) :: starEach es X.env := by rfl) (h4 : (backTo pos (starEach es X.env)).any (·.1) = false := by rfl) :
    DE X c (.Call (.Name x p) (e :: es) [] pos) (dCal f u) := peM (pe_callBfun hc hg hm ha h2 h3 h4) fun _ _ _ q => cal_rd h q
end
/-! ### what they make of data -/
def fAbs : List PyData → (PyData → Prop) → Prop
  | [.int i], Q => Q (.int (if i < 0 then -i else i))
  | _, _ => False
def fInt : List PyData → (PyData → Prop) → Prop
  | [.int i], Q => Q (.int i)
  | [.bool b], Q => Q (.int (if b then 1 else 0))
  | _, _ => False
def fMax2 : List PyData → (PyData → Prop) → Prop
  | [.int i, .int j], Q => Q (.int (if j > i then j else i))
  | _, _ => False
def fMin2 : List PyData → (PyData → Prop) → Prop
  | [.int i, .int j], Q => Q (.int (if j < i then j else i))
  | _, _ => False
def fDivmod : List PyData → (PyData → Prop) → Prop
  | [.int i, .int j], Q => (0 < j ∧ j < 1073741824) ∧ Q (.tuple [.int (i / j), .int (i % j)])
  | _, _ => False
def fGcd : List PyData → (PyData → Prop) → Prop
  | [.int i, .int j], Q => Q (.int ((Nat.gcd i.natAbs j.natAbs : Nat) : Int))
  | _, _ => False
def fLen : List PyData → (PyData → Prop) → Prop
  | [.list ds], Q => Q (.int ds.length)
  | [.tuple ds], Q => Q (.int ds.length)
  | [.str x], Q => x.length ≤ sizeLine ∧ Q (.int x.length)
  | _, _ => False
def fTuple : List PyData → (PyData → Prop) → Prop
  | [.list ds], Q => Q (.tuple ds)
  | [.tuple ds], Q => Q (.tuple ds)
  | _, _ => False
def fList : List PyData → (PyData → Prop) → Prop
  | [.list ds], Q => Q (.list ds)
  | [.tuple ds], Q => Q (.list ds)
  | _, _ => False
def bools : List PyData → Option (List Bool)
  | [] => some []
  | .bool b :: r => (bools r).map (b :: ·)
  | _ :: _ => none
def fAll : List PyData → (PyData → Prop) → Prop
  | [.list ds], Q => match bools ds with
    | some bs => Q (.bool (bs.all id))
    | none => False
  | _, _ => False
def fAny : List PyData → (PyData → Prop) → Prop
  | [.list ds], Q => match bools ds with
    | some bs => Q (.bool (bs.any id))
    | none => False
  | _, _ => False
section
variable {K : PySem.W.Frag}
theorem bools_rel {H : Hp} : ∀ {vs : List V} {ds : List PyData} {bs : List Bool}, DzAll K H vs ds → bools ds = some bs → vs = bs.map V.bl
  | _, _, _, .nil, h => by cases h; rfl
  | _, _, _, .cons a b, h => by
    cases a with
    | bl x =>
      unfold bools at h
      obtain ⟨r, h1, h2⟩ := Option.map_eq_some_iff.mp h
      subst h2
      rw [List.map_cons, bools_rel b h1]
    | _ => cases h
theorem rz_abs : RZc K (fun xs H Q => ∃ i, xs = [.int i] ∧ Q (.int (if i < 0 then -i else i)) H) fAbs := by
  intro c M σ H ev pd vs ds R Q k a w q
  unfold fAbs at w
  split at w
  · cases a with | cons a b => cases a; cases b; exact ⟨_, rfl, q _ _ _ w (k.push (.int _))⟩
  · exact w.elim
theorem rz_int : RZc K (fun xs H Q => (∃ i, xs = [.int i] ∧ Q (.int i) H) ∨ ∃ k, xs = [.bl k] ∧ Q (.int (if k then 1 else 0)) H) fInt := by
  intro c M σ H ev pd vs ds R Q k a w q
  unfold fInt at w
  split at w
  · cases a with | cons a b => cases a; cases b; exact .inl ⟨_, rfl, q _ _ _ w (k.push (.int _))⟩
  · cases a with | cons a b => cases a; cases b; exact .inr ⟨_, rfl, q _ _ _ w (k.push (.int _))⟩
  · exact w.elim
theorem rz_max2 : RZc K (fun xs H Q => ∃ i j, xs = [.int i, .int j] ∧ Q (.int (if j > i then j else i)) H) fMax2 := by
  intro c M σ H ev pd vs ds R Q k a w q
  unfold fMax2 at w
  split at w
  · cases a with | cons a b => cases b with | cons b d => cases a; cases b; cases d; exact ⟨_, _, rfl, q _ _ _ w (k.push (.int _))⟩
  · exact w.elim
theorem rz_min2 : RZc K (fun xs H Q => ∃ i j, xs = [.int i, .int j] ∧ Q (.int (if j < i then j else i)) H) fMin2 := by
  intro c M σ H ev pd vs ds R Q k a w q
  unfold fMin2 at w
  split at w
  · cases a with | cons a b => cases b with | cons b d => cases a; cases b; cases d; exact ⟨_, _, rfl, q _ _ _ w (k.push (.int _))⟩
  · exact w.elim
theorem rz_divmod : RZc K (fun xs H Q => ∃ i j, xs = [.int i, .int j] ∧ CDiv i j ∧ ∀ p, H p = none → Q (.ref p) (upd H p (.tup [.int (i / j), .int (i % j)]))) fDivmod := by
  intro c M σ H ev pd vs ds R Q k a w q
  unfold fDivmod at w
  split at w
  · cases a with | cons a b => cases b with | cons b d => cases a; cases b; cases d; exact ⟨_, _, rfl, w.1, fun p hp => q _ _ _ w.2 (k.newTup hp (.cons (.int _) (.cons (.int _) .nil)))⟩
  · exact w.elim
theorem rz_gcd : RZc K rGcd fGcd := by
  intro c M σ H ev pd vs ds R Q k a w q
  unfold fGcd at w
  split at w
  · cases a with | cons a b => cases b with | cons b d => cases a; cases b; cases d; exact ⟨_, _, rfl, q _ _ _ w (k.push (.int _))⟩
  · exact w.elim
theorem rz_len : RZc K (fun xs H Q => (∃ p ys, xs = [.ref p] ∧ (SqL K H p ys ∨ SqT K H p ys) ∧ Q (.int ys.length) H) ∨ ∃ z, xs = [.str z] ∧ z.length ≤ sizeLine ∧ Q (.int z.length) H) fLen := by
  intro c M σ H ev pd vs ds R Q k a w q
  unfold fLen at w
  split at w
  · cases a with | cons a b => cases a with | lst h r => cases b; rw [← r.len] at w; exact .inl ⟨_, _, rfl, .inl (sqL_up msk_sub h), q _ _ _ w (k.push (.int _))⟩
  · cases a with | cons a b => cases a with | tup h r => cases b; rw [← r.len] at w; exact .inl ⟨_, _, rfl, .inr (sqT_up msk_sub h), q _ _ _ w (k.push (.int _))⟩
  · cases a with | cons a b => cases a; cases b; exact .inr ⟨_, rfl, w.1, q _ _ _ w.2 (k.push (.int _))⟩
  · exact w.elim
theorem rz_tuple : RZc K (fun xs H Q => ∃ p ys, xs = [.ref p] ∧ ((SqL K H p ys ∧ ∀ l, H l = none → Q (.ref l) (upd H l (.tup ys))) ∨ (SqT K H p ys ∧ Q (.ref p) H))) fTuple := by
  intro c M σ H ev pd vs ds R Q k a w q
  unfold fTuple at w
  split at w
  · cases a with | cons a b => cases a with | lst h r => cases b; exact ⟨_, _, rfl, .inl ⟨sqL_up msk_sub h, fun p hp => q _ _ _ w (k.newTup hp r)⟩⟩
  · cases a with | cons a b => cases a with | tup h r => cases b; exact ⟨_, _, rfl, .inr ⟨sqT_up msk_sub h, q _ _ _ w (k.push (.tup h r))⟩⟩
  · exact w.elim
theorem rz_list : RZc K (fun xs H Q => ∃ p ys, xs = [.ref p] ∧ (SqL K H p ys ∨ SqT K H p ys) ∧ ∀ l, H l = none → Q (.ref l) (upd H l (.lst ys))) fList := by
  intro c M σ H ev pd vs ds R Q k a w q
  unfold fList at w
  split at w
  · cases a with | cons a b => cases a with | lst h r => cases b; exact ⟨_, _, rfl, .inl (sqL_up msk_sub h), fun p hp => q _ _ _ w (k.newLst hp r)⟩
  · cases a with | cons a b => cases a with | tup h r => cases b; exact ⟨_, _, rfl, .inr (sqT_up msk_sub h), fun p hp => q _ _ _ w (k.newLst hp r)⟩
  · exact w.elim
theorem rz_all : RZc K (rAll K) fAll := by
  intro c M σ H ev pd vs ds R Q k a w q
  unfold fAll at w
  split at w
  · split at w
    · rename_i e
      cases a with | cons a b => cases a with | lst h r => cases b; exact ⟨_, _, rfl, (by rw [← bools_rel r e]; exact sqL_up msk_sub h), q _ _ _ w (k.push (.bl _))⟩
    · exact w.elim
  · exact w.elim
theorem rz_any : RZc K (rAny K) fAny := by
  intro c M σ H ev pd vs ds R Q k a w q
  unfold fAny at w
  split at w
  · split at w
    · rename_i e
      cases a with | cons a b => cases a with | lst h r => cases b; exact ⟨_, _, rfl, (by rw [← bools_rel r e]; exact sqL_up msk_sub h), q _ _ _ w (k.push (.bl _))⟩
    · exact w.elim
  · exact w.elim
end
section
variable {X : Cx}
theorem callR_or {f : Value} {r r' : List V → Hp → VK → Prop} (h : CallR X f r) (h' : CallR X f r') : CallR X f (fun xs H Q => r xs H Q ∨ r' xs H Q) := fun pins s σ H xs us Q I q z => z.elim (h pins s σ H xs us Q I q) (h' pins s σ H xs us Q I q)
end
section
variable {X : Cx} {c : Cf} {p pos : Pos} {e : Expr} {es : List Expr} {u : Wa}
theorem de_abs (hg : Gl X "abs") (hm : X.mg "abs" = none) (ha : DA X c (e :: es) u) (h3 : starEach (e :: es) X.env = (false, eval e X.env) :: starEach es X.env := by rfl) (h4 : (backTo pos (starEach es X.env)).any (·.1) = false := by rfl) :
    DE X c (.Call (.Name "abs" p) (e :: es) [] pos) (dCal fAbs u) := de_cB call_abs rz_abs hg hm (by decide +kernel) ha (h3 := h3) (h4 := h4)
theorem de_intc (hg : Gl X "int") (hm : X.mg "int" = none) (ha : DA X c (e :: es) u) (h3 : starEach (e :: es) X.env = (false, eval e X.env) :: starEach es X.env := by rfl) (h4 : (backTo pos (starEach es X.env)).any (·.1) = false := by rfl) :
    DE X c (.Call (.Name "int" p) (e :: es) [] pos) (dCal fInt u) := de_cT call_int1 rz_int hg hm (by decide +kernel) ha (h3 := h3) (h4 := h4)
theorem de_max2 (hc : X.calm = true) (hg : Gl X "max") (hm : X.mg "max" = none) (ha : DA X c (e :: es) u) (h3 : starEach (e :: es) X.env = (false, eval e X.env) :: starEach es X.env := by rfl) (h4 : (backTo pos (starEach es X.env)).any (·.1) = false := by rfl) :
    DE X c (.Call (.Name "max" p) (e :: es) [] pos) (dCal fMax2 u) := de_cB (call_max2 hc) rz_max2 hg hm (by decide +kernel) ha (h3 := h3) (h4 := h4)
theorem de_min2 (hc : X.calm = true) (hg : Gl X "min") (hm : X.mg "min" = none) (ha : DA X c (e :: es) u) (h3 : starEach (e :: es) X.env = (false, eval e X.env) :: starEach es X.env := by rfl) (h4 : (backTo pos (starEach es X.env)).any (·.1) = false := by rfl) :
    DE X c (.Call (.Name "min" p) (e :: es) [] pos) (dCal fMin2 u) := de_cB (call_min2 hc) rz_min2 hg hm (by decide +kernel) ha (h3 := h3) (h4 := h4)
theorem de_divmod (hg : Gl X "divmod") (hm : X.mg "divmod" = none) (ha : DA X c (e :: es) u) (h3 : starEach (e :: es) X.env = (false, eval e X.env) :: starEach es X.env := by rfl) (h4 : (backTo pos (starEach es X.env)).any (·.1) = false := by rfl) :
    DE X c (.Call (.Name "divmod" p) (e :: es) [] pos) (dCal fDivmod u) := de_cB call_divmod rz_divmod hg hm (by decide +kernel) ha (h3 := h3) (h4 := h4)
theorem de_gcd (hg : Gl X "gcd") (hm : X.mg "gcd" = some (.builtin "math.gcd")) (ha : DA X c (e :: es) u) (h3 : starEach (e :: es) X.env = (false, eval e X.env) :: starEach es X.env := by rfl) (h4 : (backTo pos (starEach es X.env)).any (·.1) = false := by rfl) :
    DE X c (.Call (.Name "gcd" p) (e :: es) [] pos) (dCal fGcd u) := de_cM cr_gcd rz_gcd hg hm ha (h3 := h3) (h4 := h4)
theorem de_len (hg : Gl X "len") (hm : X.mg "len" = none) (ha : DA X c (e :: es) u) (h3 : starEach (e :: es) X.env = (false, eval e X.env) :: starEach es X.env := by rfl) (h4 : (backTo pos (starEach es X.env)).any (·.1) = false := by rfl) :
    DE X c (.Call (.Name "len" p) (e :: es) [] pos) (dCal fLen u) := de_cB (callR_or call_len_seq call_len_str) rz_len hg hm (by decide +kernel) ha (h3 := h3) (h4 := h4)
theorem de_tuple (hg : Gl X "tuple") (hm : X.mg "tuple" = none) (ha : DA X c (e :: es) u) (h3 : starEach (e :: es) X.env = (false, eval e X.env) :: starEach es X.env := by rfl) (h4 : (backTo pos (starEach es X.env)).any (·.1) = false := by rfl) :
    DE X c (.Call (.Name "tuple" p) (e :: es) [] pos) (dCal fTuple u) := de_cT call_tuple_of rz_tuple hg hm (by decide +kernel) ha (h3 := h3) (h4 := h4)
theorem de_list (hg : Gl X "list") (hm : X.mg "list" = none) (ha : DA X c (e :: es) u) (h3 : starEach (e :: es) X.env = (false, eval e X.env) :: starEach es X.env := by rfl) (h4 : (backTo pos (starEach es X.env)).any (·.1) = false := by rfl) :
    DE X c (.Call (.Name "list" p) (e :: es) [] pos) (dCal fList u) := de_cT call_list_of rz_list hg hm (by decide +kernel) ha (h3 := h3) (h4 := h4)
theorem de_all (hc : X.calm = true) (hg : Gl X "all") (hm : X.mg "all" = none) (ha : DA X c (e :: es) u) (h3 : starEach (e :: es) X.env = (false, eval e X.env) :: starEach es X.env := by rfl) (h4 : (backTo pos (starEach es X.env)).any (·.1) = false := by rfl) :
    DE X c (.Call (.Name "all" p) (e :: es) [] pos) (dCal fAll u) := de_cB (cr_all hc) rz_all hg hm (by decide +kernel) ha (h3 := h3) (h4 := h4)
theorem de_any (hc : X.calm = true) (hg : Gl X "any") (hm : X.mg "any" = none) (ha : DA X c (e :: es) u) (h3 : starEach (e :: es) X.env = (false, eval e X.env) :: starEach es X.env := by rfl) (h4 : (backTo pos (starEach es X.env)).any (·.1) = false := by rfl) :
    DE X c (.Call (.Name "any" p) (e :: es) [] pos) (dCal fAny u) := de_cB (cr_any hc) rz_any hg hm (by decide +kernel) ha (h3 := h3) (h4 := h4)
end
/-! ### repr -/
/-- a datum that may be shown, and what comes after -/
structure RP (d : PyData) (P : Prop) : Prop where
  ok : d.showable = true ∧ d.shown.length ≤ sizeLine ∧ d.depth ≤ 100 ∧ d.hasDict = false
  p : P
def fRepr : List PyData → (PyData → Prop) → Prop
  | [d], Q => RP d (Q (.str d.shown))
  | _, _ => False
def rRepr (K : PySem.W.Frag) : List V → Hp → VK → Prop := fun vs H Q => ∃ x d, vs = [x] ∧ Dp K H x d ∧ (d.showable = true ∧ d.shown.length ≤ sizeLine ∧ d.depth ≤ 100 ∧ d.hasDict = false) ∧ Q (.str d.shown) H
theorem cr_repr {X : Cx} {n : Nat} (hr : Room n X.A) (hG : X.A.guards = some []) : CallR X (.builtin "repr") (rRepr X.K) := by
  intro pins s σ H xs us Q I r h
  obtain ⟨x, d, rfl, hd, ⟨g1, g2, g3, g4⟩, q⟩ := h
  obtain ⟨u, rfl, ru⟩ : ∃ u, us = [u] ∧ RelV x u := by
    cases r with
    | cons a b => cases b; exact ⟨_, rfl, a⟩
  have un := hr.un
  have fin : ∀ (z : Str) (t : Tok) (h' : Heap) (tk : Nat), (∀ b o, s.heap.get? b = some o → h'.get? b = some o) → Q (.str z) H → EP X pins σ Q (.str z t) { s with heap := h', toks := tk } := fun z t h' tk k q => ⟨.str z, H, I.kept k, ⟨t, rfl⟩, q⟩
  cases hd with
  | non => cases ru; exact PySem.P.repr_of_none (fin _ _ _ _ (fun _ _ e => e) q)
  | bl b => cases ru; exact PySem.P.repr_of_bool (fin _ _ _ _ (fun _ _ e => e) q)
  | int i => obtain ⟨t, rfl⟩ := ru; exact PySem.P.repr_of_int (by simpa [PyData.showable] using g1) (fin _ _ _ _ (fun _ _ e => e) q)
  | str z => obtain ⟨t, rfl⟩ := ru; exact PySem.P.repr_of_str (fin _ _ _ _ (fun _ _ e => e) q) (by simpa [PyData.shown] using g2)
  | lst q1 q2 =>
    obtain ⟨as, r1⟩ := Dp.reads I _ _ u (.lst q1 q2) ru
    cases ru
    exact repr_of_reads' r1 g1 (fun e => by rw [g4] at e; cases e) hG (by omega) (fun _ _ e => e) (fun h' t tk k => fin _ _ _ _ k q) g2
  | tup q1 q2 =>
    obtain ⟨as, r1⟩ := Dp.reads I _ _ u (.tup q1 q2) ru
    cases ru
    exact repr_of_reads' r1 g1 (fun e => by rw [g4] at e; cases e) hG (by omega) (fun _ _ e => e) (fun h' t tk k => fin _ _ _ _ k q) g2
theorem rz_repr {K : PySem.W.Frag} : RZc K (rRepr K) fRepr := by
  intro c M σ H ev pd vs ds R Q k a w q
  unfold fRepr at w
  split at w
  · cases a with | cons a b => cases b; exact ⟨_, _, rfl, (unm a).dp w.ok.2.2.2, w.ok, q _ _ _ w.p (k.push (.str _))⟩
  · exact w.elim
section
variable {X : Cx} {c : Cf} {p pos : Pos} {e : Expr} {es : List Expr} {u : Wa}
theorem de_repr {n : Nat} (hr : Room n X.A) (hG : X.A.guards = some []) (hg : Gl X "repr") (hm : X.mg "repr" = none) (ha : DA X c (e :: es) u) (h3 : starEach (e :: es) X.env = (false, eval e X.env) :: starEach es X.env := by rfl) (h4 : (backTo pos (starEach es X.env)).any (·.1) = false := by rfl) :
    DE X c (.Call (.Name "repr" p) (e :: es) [] pos) (dCal fRepr u) := de_cB (cr_repr hr hG) rz_repr hg hm (by decide +kernel) ha (h3 := h3) (h4 := h4)
end
/-! ### isinstance of a built-in class -/
def tyN : PyData → String
  | .none => "NoneType"
  | .bool _ => "bool"
  | .int _ => "int"
  | .str _ => "str"
  | .list _ => "list"
  | .tuple _ => "tuple"
  | .dict _ => "dict"
def isA (T : String) (d : PyData) : Bool := tyN d == T || (tyN d == "bool" && T == "int")
def isInt : PyData → Bool
  | .int _ => true
  | .bool _ => true
  | _ => false
def isBool : PyData → Bool
  | .bool _ => true
  | _ => false
def isStr : PyData → Bool
  | .str _ => true
  | _ => false
def isList : PyData → Bool
  | .list _ => true
  | _ => false
def isTuple : PyData → Bool
  | .tuple _ => true
  | _ => false
def isDict : PyData → Bool
  | .dict _ => true
  | _ => false
theorem isA_int : ∀ d, isInt d = isA "int" d := fun d => by cases d <;> rfl
theorem isA_bool : ∀ d, isBool d = isA "bool" d := fun d => by cases d <;> rfl
theorem isA_str : ∀ d, isStr d = isA "str" d := fun d => by cases d <;> rfl
theorem isA_list : ∀ d, isList d = isA "list" d := fun d => by cases d <;> rfl
theorem isA_tuple : ∀ d, isTuple d = isA "tuple" d := fun d => by cases d <;> rfl
theorem isA_dict : ∀ d, isDict d = isA "dict" d := fun d => by cases d <;> rfl
/-- no caught exception -/
def okE : PyData → Prop → Prop
  | .dict ((.int _, _) :: _), _ => False
  | _, P => P
theorem okE_of {d : PyData} {P : Prop} (h : okE d P) : P := by
  unfold okE at h
  split at h
  · exact h.elim
  · exact h
def dIsa (f : PyData → Bool) (w : Wx) : Wx := fun ev Q => w ev fun d e => okE d (Q (.bool (f d)) e)
theorem ty_rel {K : PySem.W.Frag} {H : Hp} {v : V} {d : PyData} {P : Prop} (h : Dz K H v d) (o : okE d P) : TyX K H v (.type (tyN d)) := by
  cases h with
  | non => exact .base .non
  | bl b => exact .base (.bl b)
  | int i => exact .base (.int i)
  | str x => exact .base (.str x)
  | lst q r =>
    rcases q with (q | ⟨o, q⟩) | ⟨o, its, n, q1, q2, _⟩
    · exact .base (.lst q)
    · exact .base (.frz q)
    · exact .kList q1 q2
  | tup q r =>
    rcases q with (q | ⟨o, q⟩) | ⟨o, its, n, q1, q2, _⟩
    · exact .base (.tup q)
    · exact .fTuple q
    · exact .kTuple q1 q2
  | dct0 q => exact .base (.dK q)
  | dct1 q _ => exact .base (.dK q)
  | excN _ => exact o.elim
  | exc _ _ => exact o.elim
section
variable {X : Cx} {c : Cf} {p p2 pos : Pos} {e : Expr} {w : Wx}
theorem de_isa (T : Str) {Ts : String} {f : PyData → Bool} (hT : bootBuiltins T = some (.type Ts)) (hf : ∀ d, f d = isA Ts d) (kits : ∀ a ∈ ["NoneType", "bool", "int", "str", "list", "tuple", "dict"], kitB a Ts = some (a == Ts || (a == "bool" && Ts == "int"))) (hg : Gl X "isinstance") (hm : X.mg "isinstance" = none) (hgT : Gl X T) (hmT : X.mg T = none) (ha : DE X c e w)
    (n1 : T ≠ "__name__" := by decide) (n2 : (T == ("__debug__" : Str)) = false := by decide)
    (h3 : starEach [e, .Name T p2] X.env = (false, eval e X.env) :: starEach [.Name T p2] X.env := by rfl) (h5 : starEach [.Name T p2] X.env = (false, eval (.Name T p2) X.env) :: starEach [] X.env := by rfl) (h4 : (backTo pos (starEach [.Name T p2] X.env)).any (·.1) = false := by rfl) :
    DE X c (.Call (.Name "isinstance" p) [e, .Name T p2] [] pos) (dIsa f w) :=
  peM (pe_callB call_isi hg hm (by decide +kernel) (pa_cons ha (pa_cons (pe_bltn (v := .ty Ts) hgT hmT hT rfl n1 n2) pa_nil h5) h3) (by decide) (by decide) h3 h4) fun σ H Q ⟨M, ev, pd, R, k, w, q⟩ =>
    ⟨M, ev, pd, _, k, w, fun d e h v H1 k1 => ⟨v, .ty Ts, _, _, f d, rfl, .ty Ts, ty_rel (unm k1.top) h, kit_ty (by rw [hf d]; exact kits (tyN d) (by cases d <;> simp [tyN])), q _ e (okE_of h) _ _ (k1.pop1.push (.bl _))⟩⟩
theorem kits_int : ∀ a ∈ ["NoneType", "bool", "int", "str", "list", "tuple", "dict"], kitB a "int" = some (a == "int" || (a == "bool" && "int" == "int")) := by decide +kernel
theorem kits_bool : ∀ a ∈ ["NoneType", "bool", "int", "str", "list", "tuple", "dict"], kitB a "bool" = some (a == "bool" || (a == "bool" && "bool" == "int")) := by decide +kernel
theorem kits_str : ∀ a ∈ ["NoneType", "bool", "int", "str", "list", "tuple", "dict"], kitB a "str" = some (a == "str" || (a == "bool" && "str" == "int")) := by decide +kernel
theorem kits_list : ∀ a ∈ ["NoneType", "bool", "int", "str", "list", "tuple", "dict"], kitB a "list" = some (a == "list" || (a == "bool" && "list" == "int")) := by decide +kernel
theorem kits_tuple : ∀ a ∈ ["NoneType", "bool", "int", "str", "list", "tuple", "dict"], kitB a "tuple" = some (a == "tuple" || (a == "bool" && "tuple" == "int")) := by decide +kernel
theorem kits_dict : ∀ a ∈ ["NoneType", "bool", "int", "str", "list", "tuple", "dict"], kitB a "dict" = some (a == "dict" || (a == "bool" && "dict" == "int")) := by decide +kernel
end
/-! ### +, slices, in -/
def fCat : PyData → PyData → (PyData → Prop) → Prop
  | .int i, .int j, Q => Q (.int (i + j))
  | .tuple xs, .tuple ys, Q => xs.length + ys.length ≤ 1000 ∧ Q (.tuple (xs ++ ys))
  | .list xs, .list ys, Q => xs.length + ys.length ≤ 1000 ∧ Q (.list (xs ++ ys))
  | _, _, _ => False
section
variable {X : Cx} {c : Cf} {a b : Expr} {wa wb : Wx} {pos : Pos}
def rCatQ (K : PySem.W.Frag) : R2 := fun x y H Q => ∃ l b xs zs, x = .ref l ∧ y = .ref b ∧ SqL K H l xs ∧ SqL K H b zs ∧ xs.length + zs.length ≤ sizeLine ∧ ∀ p, H p = none → Q (.ref p) (upd H p (.lst (xs ++ zs)))
theorem op_catQ : OpR X (binaryOp .Add) (rCatQ X.K) := by
  intro pins s σ H x y v u Q I rx ry h
  obtain ⟨l, b, xs, zs, rfl, rfl, h1, h2, hz, q⟩ := h
  cases rx
  cases ry
  obtain ⟨its, r1, ⟨o1, n1, g1, c1, _, d1⟩, _⟩ := I.list h1
  obtain ⟨jts, r2, ⟨o2, n2, g2, c2, _, d2⟩, _⟩ := I.list h2
  obtain ⟨cl1, dd1, da1, sl1⟩ := o1
  obtain ⟨cl2, dd2, da2, sl2⟩ := o2
  simp only at c1 d1 c2 d2
  subst c1 d1 c2 d2
  have sz : its.length + jts.length ≤ sizeLine := by rw [← r1.length, ← r2.length]; exact hz
  have ea : its.toArray ++ jts.toArray = (its ++ jts).toArray := by simp
  refine PySem.concat_meets ⟨_, g1, rfl⟩ ⟨_, g2, rfl⟩ PySem.noFill_list_add PySem.seq_list_add PySem.F.slot_list_add PySem.F.entry_list_add (PySem.F.args_list_add_2 _ _) (PyProof.Rows.list_addW l b its.toArray jts.toArray n1 n2 dd1 dd2 sl1 sl2 (by simpa using sz)) ⟨g1, g2, ?_⟩
  rw [ea]
  exact ⟨.ref _, _, I.lnew (t' := s.toks) (r1.append r2) (by rw [List.length_append]; exact hz), rfl, q _ I.fresh⟩
theorem nil_of {K : PySem.W.Frag} {H : Hp} {ds : List PyData} {vs : List V} (r : DzAll K H vs ds) (h : vs = []) : ds = [] := by subst h; cases r; rfl
theorem rz_cat {K : PySem.W.Frag} : RZ2 K (fun x y H Q => rI0 (fun i j => .int (i + j)) x y H Q ∨ (rCatA K x y H Q ∨ rCatQ K x y H Q)) fCat := by
  intro c M σ H ev pd v u x y R Q k a b w q
  unfold fCat at w
  split at w
  · cases a; cases b
    exact .inl ⟨_, _, rfl, rfl, q _ _ _ w (k.push (.int _))⟩
  · cases a with
    | tup h1 r1 =>
      cases b with
      | tup h2 r2 =>
        refine .inr (.inl ⟨_, _, _, _, rfl, rfl, sqT_up msk_sub h1, sqT_up msk_sub h2, by rw [r1.len, r2.len]; exact line_of w.1, fun e => ?_, fun _ e => ?_, fun _ _ p hp => q _ _ _ w.2 (k.newTup hp (r1.app r2))⟩)
        · rw [nil_of r1 e, List.nil_append] at w
          exact q _ _ _ w.2 (k.push (.tup h2 r2))
        · rw [nil_of r2 e, List.append_nil] at w
          exact q _ _ _ w.2 (k.push (.tup h1 r1))
  · cases a with
    | lst h1 r1 =>
      cases b with
      | lst h2 r2 => exact .inr (.inr ⟨_, _, _, _, rfl, rfl, sqL_up msk_sub h1, sqL_up msk_sub h2, by rw [r1.len, r2.len]; exact line_of w.1, fun p hp => q _ _ _ w.2 (k.newLst hp (r1.app r2))⟩)
  · exact w.elim
theorem de_cat (ha : DE X c a wa) (hb : DE X c b wb) : DE X c (.BinOp a .Add b pos) (dOp fCat wa wb) := de_op (OpR.or op_add (OpR.or op_catA op_catQ)) rz_cat ha hb
end
abbrev Wo := Ev → (Option Int → Ev → Prop) → Prop
def tOpt (K : PySem.W.Frag) (c : Cf) (w : Wo) : TO := fun σ H Q => ∃ M ev pd R, Ok K c M σ H ev pd ∧ w ev R ∧ ∀ b ev', R b ev' → ∀ H', Ok K c M σ H' ev' pd → Q b H'
def cutD {α : Type} (xs : List α) (lo hi : Option Int) : List α := (xs.drop (HT.sIx xs.length 0 lo)).take (HT.sIx xs.length xs.length hi - HT.sIx xs.length 0 lo)
def doN : Wo := fun ev Q => Q none ev
def doS (w : Wx) : Wo := fun ev Q => w ev fun d e => match d with
  | .int i => Q (some i) e
  | _ => False
def fSl (lo hi : Option Int) : PyData → (PyData → Prop) → Prop
  | .tuple ds, Q => Q (.tuple (cutD ds lo hi))
  | .list ds, Q => Q (.list (cutD ds lo hi))
  | _, _ => False
def dSl (w : Wx) (lo hi : Wo) : Wx := fun ev Q => w ev fun d e => lo e fun l e1 => hi e1 fun h e2 => fSl l h d fun z => Q z e2
theorem cut_rel {K : PySem.W.Frag} {H : Hp} {vs : List V} {ds : List PyData} (r : DzAll K H vs ds) (lo hi : Option Int) : DzAll K H (cutV vs lo hi) (cutD ds lo hi) := by
  unfold cutD
  rw [← r.len]
  exact (r.drop _).take _
theorem cut_all {ds : List PyData} {lo hi : Option Int} (h1 : HT.sIx ds.length 0 lo = 0) (h2 : HT.sIx ds.length ds.length hi = ds.length) : cutD ds lo hi = ds := by
  unfold cutD
  rw [h1, h2]
  simp
section
variable {X : Cx} {c : Cf} {a b : Expr} {wa wb : Wx} {pos : Pos}
abbrev DO (X : Cx) (c : Cf) (e : Option Expr) (w : Wo) : Prop := PO X e (tOpt X.K c w)
theorem poM {X : Cx} {e : Option Expr} {t t' : TO} (p : PO X e t) (h : ∀ σ H Q, t' σ H Q → t σ H Q) : PO X e t' := ⟨fun pins s σ H Q I q => p.run pins s σ H Q I (h σ H Q q)⟩
theorem do_none : DO X c none doN := poM po_none fun σ H Q ⟨M, ev, pd, R, k, w, q⟩ => q none ev w H k
theorem do_some (ha : DE X c a wa) : DO X c (some a) (doS wa) := poM (po_some ha) fun σ H Q ⟨M, ev, pd, R, k, w, q⟩ => ⟨M, ev, pd, _, k, w, fun d e h v H1 k1 => by
  have t := k1.top
  split at h
  · cases t
    exact ⟨_, rfl, q _ e h H1 k1.pop1⟩
  · exact h.elim⟩
theorem de_slice {lo hi : Option Expr} {wl wh : Wo} {p2 : Pos} (ha : DE X c a wa) (h1 : DO X c lo wl) (h2 : DO X c hi wh) : DE X c (.Subscript a (.Slice lo hi none p2) pos) (dSl wa wl wh) :=
  peM (pe_slice (SlR.or sl_tupA sl_list) ha h1 h2) fun σ H Q ⟨M, ev, pd, R, k, w, q⟩ => ⟨M, ev, pd, _, k, w, fun d e y v H1 k1 => ⟨M, e, _, _, k1, y, fun l e1 y1 H2 k2 => ⟨M, e1, _, _, k2, y1, fun r e2 y2 H3 k3 => by
    have t := k3.top
    unfold fSl at y2
    split at y2
    · cases t with
      | tup g1 g2 =>
        refine .inl ⟨_, _, rfl, sqT_up msk_sub g1, fun z => ?_, fun z p hp => q _ e2 y2 _ _ (k3.pop1.newTup hp (cut_rel g2 l r))⟩
        rw [g2.len] at z
        rw [cut_all z.1 z.2] at y2
        exact q _ e2 y2 _ _ (k3.pop1.push (.tup g1 g2))
    · cases t with
      | lst g1 g2 => exact .inr ⟨_, _, rfl, sqL_up msk_sub g1, fun p hp => q _ e2 y2 _ _ (k3.pop1.newLst hp (cut_rel g2 l r))⟩
    · exact y2.elim⟩⟩⟩
end
/-! ### in -/
def inD (d : PyData) (ds : List PyData) : Bool := ds.any fun z => PyData.eqv z d
def fIn : PyData → PyData → (PyData → Prop) → Prop
  | d, .list ds, Q => (shp d ∧ shp (.list ds)) ∧ Q (.bool (inD d ds))
  | d, .tuple ds, Q => (shp d ∧ shp (.tuple ds)) ∧ Q (.bool (inD d ds))
  | _, _, _ => False
def fNin : PyData → PyData → (PyData → Prop) → Prop
  | d, .list ds, Q => (shp d ∧ shp (.list ds)) ∧ Q (.bool (!inD d ds))
  | d, .tuple ds, Q => (shp d ∧ shp (.tuple ds)) ∧ Q (.bool (!inD d ds))
  | _, _, _ => False
def rInQ (K : PySem.W.Frag) : R2 := fun x y H Q => ∃ d ds e, Dp K H x d ∧ Dp K H y e ∧ (e = .list ds ∨ e = .tuple ds) ∧ shp d ∧ shp e ∧ Q (.bl (inD d ds)) H
def rNinQ (K : PySem.W.Frag) : R2 := fun x y H Q => ∃ d ds e, Dp K H x d ∧ Dp K H y e ∧ (e = .list ds ∨ e = .tuple ds) ∧ shp d ∧ shp e ∧ Q (.bl (!inD d ds)) H
section
variable {X : Cx} {c : Cf} {a b : Expr} {wa wb : Wx} {pos : Pos} {n : Nat}
theorem op_inQ (hu : X.A.units + 65 < cLine) : OpR X (compareOp .In) (rInQ X.K) := by
  intro pins s σ H x y v u Q I rx ry h
  obtain ⟨d, ds, e, hd, he, ty, sd, se, q⟩ := h
  obtain ⟨as, r1⟩ := Dp.reads I d x v hd rx
  obtain ⟨bs, r2⟩ := Dp.reads I e y u he ry
  rcases ty with rfl | rfl
  · exact SeqAt.in_list_reads r2 r1 (SeqAt.canLay_of_shaped se) (SeqAt.canLay_of_shaped sd) (by have := SeqAt.depth_of_shaped sd; omega) ⟨.bl _, H, I, rfl, q⟩
  · exact SeqAt.in_tuple_reads r2 r1 (SeqAt.canLay_of_shaped se) (SeqAt.canLay_of_shaped sd) (by have := SeqAt.depth_of_shaped sd; omega) ⟨.bl _, H, I, rfl, q⟩
theorem op_ninQ (hu : X.A.units + 65 < cLine) : OpR X (compareOp .NotIn) (rNinQ X.K) := by
  intro pins s σ H x y v u Q I rx ry h
  obtain ⟨d, ds, e, hd, he, ty, sd, se, q⟩ := h
  obtain ⟨as, r1⟩ := Dp.reads I d x v hd rx
  obtain ⟨bs, r2⟩ := Dp.reads I e y u he ry
  rcases ty with rfl | rfl
  · exact SeqAt.notIn_list_reads r2 r1 (SeqAt.canLay_of_shaped se) (SeqAt.canLay_of_shaped sd) (by have := SeqAt.depth_of_shaped sd; omega) ⟨.bl _, H, I, rfl, q⟩
  · exact SeqAt.notIn_tuple_reads r2 r1 (SeqAt.canLay_of_shaped se) (SeqAt.canLay_of_shaped sd) (by have := SeqAt.depth_of_shaped sd; omega) ⟨.bl _, H, I, rfl, q⟩
theorem rz_in {K : PySem.W.Frag} : RZ2 K (rInQ K) fIn := by
  intro c M σ H ev pd v u x y R Q k a b w q
  unfold fIn at w
  split at w
  · exact ⟨_, _, _, (unm a).dp (shp_nd w.1.1), (unm b).dp (shp_nd w.1.2), .inl rfl, w.1.1, w.1.2, q _ _ _ w.2 (k.push (.bl _))⟩
  · exact ⟨_, _, _, (unm a).dp (shp_nd w.1.1), (unm b).dp (shp_nd w.1.2), .inr rfl, w.1.1, w.1.2, q _ _ _ w.2 (k.push (.bl _))⟩
  · exact w.elim
theorem rz_nin {K : PySem.W.Frag} : RZ2 K (rNinQ K) fNin := by
  intro c M σ H ev pd v u x y R Q k a b w q
  unfold fNin at w
  split at w
  · exact ⟨_, _, _, (unm a).dp (shp_nd w.1.1), (unm b).dp (shp_nd w.1.2), .inl rfl, w.1.1, w.1.2, q _ _ _ w.2 (k.push (.bl _))⟩
  · exact ⟨_, _, _, (unm a).dp (shp_nd w.1.1), (unm b).dp (shp_nd w.1.2), .inr rfl, w.1.1, w.1.2, q _ _ _ w.2 (k.push (.bl _))⟩
  · exact w.elim
theorem room65 (hr : Room n X.A) : X.A.units + 65 < cLine := by have := hr.un; omega
theorem de_in (hr : Room n X.A) (ha : DE X c a wa) (hb : DE X c b wb) (hm : behindInMarks .In b = false := by rfl) : DE X c (.Compare a [.In] [b] pos) (dOp fIn wa wb) := de_cmp (op_inQ (room65 hr)) rz_in ha hb hm
theorem de_nin (hr : Room n X.A) (ha : DE X c a wa) (hb : DE X c b wb) (hm : behindInMarks .NotIn b = false := by rfl) : DE X c (.Compare a [.NotIn] [b] pos) (dOp fNin wa wb) := de_cmp (op_ninQ (room65 hr)) rz_nin ha hb hm
/-! ### chains a <= b <= c of ints -/
def dChain (f g : PyData → PyData → (PyData → Prop) → Prop) (a b d : Wx) : Wx := fun ev Q => a ev fun x e1 => b e1 fun y e2 => f x y fun z => match z with
  | .bool t => if t = true then d e2 fun u e3 => g y u fun z2 => Q z2 e3 else Q (.bool false) e2
  | _ => False
theorem de_chain {op op' : CmpOp} {r r' : R2} {f g} {d : Expr} {wd : Wx} (ho : OpR X (compareOp op) r) (ho' : OpR X (compareOp op') r') (h : RZ2 X.K r f) (h' : RZ2 X.K r' g) (ha : DE X c a wa) (hb : DE X c b wb) (hd : DE X c d wd) (m1 : lastMarks [op, op'] [b, d] = false := by rfl) :
    DE X c (.Compare a [op, op'] [b, d] pos) (dChain f g wa wb wd) := peM (pe_chain ho ho' ha hb hd m1) fun σ H Q ⟨M, ev, pd, R, k, w, q⟩ =>
  ⟨M, ev, pd, _, k, w, fun x e1 y1 v H1 k1 => ⟨M, e1, _, _, k1, y1, fun y e2 y2 u H2 k2 => h c M σ H2 e2 ((u, y) :: pd) v u x y _ _ (k2.pop fun p hp => by
      rcases List.mem_cons.mp hp with z | z
      · rw [z]; exact List.mem_cons_self ..
      · exact List.mem_cons_of_mem _ (List.mem_cons_of_mem _ z)) k2.pop1.top k2.top y2 fun dd w' H3 hq k3 => by
    have t := k3.top
    split at hq
    · cases t
      rename_i t
      refine ⟨_, rfl, ?_⟩
      by_cases z : t = true
      · rw [if_pos z] at hq ⊢
        exact ⟨M, e2, _, _, k3.pop1, hq, fun u3 e3 y3 v3 H4 k4 => h' c M σ H4 e3 pd u v3 y u3 _ Q (k4.pop1.pop1) k4.pop1.top k4.top y3 fun d4 w4 H5 hq4 k5 => q _ _ hq4 _ _ k5⟩
      · rw [if_neg z] at hq ⊢
        exact q _ _ hq _ _ (k3.pop1.pop1.push (.bl _))
    · exact hq.elim⟩⟩
theorem de_lele {d : Expr} {wd : Wx} (ha : DE X c a wa) (hb : DE X c b wb) (hd : DE X c d wd) (m1 : lastMarks [.LtE, .LtE] [b, d] = false := by rfl) : DE X c (.Compare a [.LtE, .LtE] [b, d] pos) (dChain fLe fLe wa wb wd) :=
  de_chain op_le op_le (rz_ii0 fun _ _ _ => .bl _) (rz_ii0 fun _ _ _ => .bl _) ha hb hd m1
end
end Z

set_option Elab.async false
set_option linter.all false
set_option maxRecDepth 100000
namespace Z
open PySem L2
/-! ## 6. statements over data -/
structure Ed where
  nx : Ev → Prop
  rt : PyData → Ev → Prop
  bk : Ev → Prop := fun _ => False
  ct : Ev → Prop := fun _ => False
  rl : List PyData → Ev → Prop := fun _ _ => False
abbrev Ws := Ed → Ev → Prop
structure Fin (K : PySem.W.Frag) (c : Cf) (pd : List (V × PyData)) (R : Ed) (De : Ends) : Prop where
  nx : ∀ ev', R.nx ev' → ∀ M' σ' H', Ok K c M' σ' H' ev' pd → De.nx σ' H'
  rt : ∀ d ev', R.rt d ev' → ∀ M' σ' v H', Ok K c M' σ' H' ev' pd → Dz K (msk c.Mk H') v d → De.rt v H'
  bk : ∀ ev', R.bk ev' → ∀ M' σ' H', Ok K c M' σ' H' ev' pd → De.bk σ' H'
  ct : ∀ ev', R.ct ev' → ∀ M' σ' H', Ok K c M' σ' H' ev' pd → De.ct σ' H'
  rl : ∀ ds ev', R.rl ds ev' → ∀ M' σ' p vs H', Ok K c M' σ' H' ev' pd → c.H0 p = none → H' p = some (.lst vs) → DzAll K (msk c.Mk H') vs ds → De.rt (.ref p) H'
def tS (K : PySem.W.Frag) (c : Cf) (w : Ws) : TS := fun De σ H => ∃ M ev pd R, Ok K c M σ H ev pd ∧ w R ev ∧ Fin K c pd R De
abbrev DS (X : Cx) (c : Cf) (st : Stmt) (w : Ws) : Prop := PS X st (tS X.K c w)
abbrev DSs (X : Cx) (c : Cf) (st : List Stmt) (w : Ws) : Prop := PSs X st (tS X.K c w)
def wNx : Ws := fun E ev => E.nx ev
def wSeq (a b : Ws) : Ws := fun E ev => a { E with nx := b E } ev
def wRet (w : Wx) : Ws := fun E ev => w ev fun d e => E.rt d e
def wRetN : Ws := fun E ev => E.rt .none ev
def wDrop (w : Wx) : Ws := fun E ev => w ev fun _ e => E.nx e
def wIf (t : Wt) (a b : Ws) : Ws := fun E ev => t ev fun x e => if x = true then a E e else b E e
def wNever : Ws := fun _ _ => False
section
variable {X : Cx} {c : Cf} {pos : Pos} {st : Stmt} {sts : List Stmt} {e : Expr} {w : Wx} {a b : Ws}
theorem dss_nil : DSs X c [] wNx := pssM pss_nil fun De σ H ⟨M, ev, pd, R, k, h, f⟩ => f.nx ev h M σ H k
theorem dss_cons (h1 : DS X c st a) (h2 : DSs X c sts b) : DSs X c (st :: sts) (wSeq a b) := pssM (pss_cons h1 h2) fun De σ H ⟨M, ev, pd, R, k, h, f⟩ =>
  ⟨M, ev, pd, _, k, h, ⟨fun ev' q M' σ' H' k' => ⟨M', ev', pd, R, k', q, f⟩, f.rt, f.bk, f.ct, f.rl⟩⟩
theorem dss_one (h1 : DS X c st a) : DSs X c [st] a := pss_one h1
theorem ds_pass : DS X c (.Pass pos) wNx := psM ps_pass fun De σ H ⟨M, ev, pd, R, k, h, f⟩ => f.nx ev h M σ H k
theorem ds_break : DS X c (.Break pos) (fun E ev => E.bk ev) := psM ps_break fun De σ H ⟨M, ev, pd, R, k, h, f⟩ => f.bk ev h M σ H k
theorem ds_cont : DS X c (.Continue pos) (fun E ev => E.ct ev) := psM ps_continue fun De σ H ⟨M, ev, pd, R, k, h, f⟩ => f.ct ev h M σ H k
theorem unMk {K : PySem.W.Frag} {M : Mz} {σ : Sg} {H : Hp} {ev : Ev} {pd : List (V × PyData)} {v : V} {d : PyData} (k : Ok K c M σ H ev pd) (h : Dz K (msk M H) v d) : Dz K (msk c.Mk H) v d := h.up (msk_less k.sub)
theorem ds_ret (h : DE X c e w) : DS X c (.Return (some e) pos) (wRet w) := psM (ps_ret h) fun De σ H ⟨M, ev, pd, R, k, h, f⟩ =>
  ⟨M, ev, pd, _, k, h, fun d ev' q v H' k' => f.rt d ev' q M σ v H' k'.pop1 (unMk k' k'.top)⟩
/-- return [..]: a new list -/
def wRetL (u : Wa) : Ws := fun E ev => u ev fun ds e => ds.length ≤ 1000 ∧ E.rl ds e
theorem ds_retL {es : List Expr} {u : Wa} {p2 : Pos} (h : DA X c es u) : DS X c (.Return (some (.List es p2)) pos) (wRetL u) := psM (ps_ret (pe_lst h)) fun De σ H ⟨M, ev, pd, R, k, h, f⟩ =>
  ⟨M, ev, pd, _, k, h, fun ds ev' ⟨l, q⟩ vs H' k' r => ⟨by rw [r.len]; exact line_of l, fun p hp => f.rl ds ev' q M σ p vs _ (k'.new hp) (k'.h0 hp).1 upd_same ((r.up (msk_less k'.sub)).up (msk_same fun b o e _ => up_new hp b o e))⟩⟩
theorem ds_retN : DS X c (.Return none pos) wRetN := psM ps_retN fun De σ H ⟨M, ev, pd, R, k, h, f⟩ => f.rt .none ev h M σ .non H k .non
theorem ds_expr (h : DE X c e w) (hs : swapsWith e none pos.line X.env = pure false := by rfl) : DS X c (.Expr e pos) (wDrop w) := psM (ps_expr h hs) fun De σ H ⟨M, ev, pd, R, k, h, f⟩ => ⟨M, ev, pd, _, k, h, fun d ev' q v H' k' => f.nx ev' q M σ H' k'.pop1⟩
theorem ds_if {t : Wt} {tst : Expr} {xs ys : List Stmt} (ht : DT X c tst t) (hx : DSs X c xs a) (hy : DSs X c ys b) : DS X c (.If tst xs ys pos) (wIf t a b) := psM (ps_if ht hx hy) fun De σ H ⟨M, ev, pd, R, k, h, f⟩ =>
  ⟨M, ev, pd, _, k, h, fun z ev' q H' k' => by
    by_cases z : z = true
    · rw [if_pos z] at q ⊢
      exact ⟨M, ev', pd, R, k', q, f⟩
    · rw [if_neg z] at q ⊢
      exact ⟨M, ev', pd, R, k', q, f⟩⟩
theorem ds_never : DS X c st wNever := psM ps_never fun De σ H ⟨M, ev, pd, R, k, h, f⟩ => h
theorem dss_never : DSs X c sts wNever := pssM pss_never fun De σ H ⟨M, ev, pd, R, k, h, f⟩ => h
end
/-! ### targets -/
/-- but for some slots the values by slot are as they were -/
def OffOnly (vs : List Nat) (σ σ' : Sg) : Prop := σ'.length = σ.length ∧ ∀ j, j ∉ vs → σ'[j]? = σ[j]?
theorem OffOnly.refl {vs : List Nat} {σ : Sg} : OffOnly vs σ σ := ⟨rfl, fun _ _ => rfl⟩
theorem OffOnly.trans {vs : List Nat} {σ σ1 σ2 : Sg} (a : OffOnly vs σ σ1) (b : OffOnly vs σ1 σ2) : OffOnly vs σ σ2 := ⟨b.1.trans a.1, fun j h => (b.2 j h).trans (a.2 j h)⟩
theorem OffOnly.set {vs : List Nat} {σ : Sg} {i : Nat} {x : Option V} (h : i ∈ vs) : OffOnly vs σ (σ.set i x) := ⟨List.length_set, fun j n => List.getElem?_set_ne (fun e => n (by rw [← e]; exact h))⟩
abbrev Wg := PyData → Ev → (Ev → Prop) → Prop
def tG (K : PySem.W.Frag) (c : Cf) (vs : List Nat) (g : Wg) : TG := fun v σ H Q => ∃ M ev pd d R, Ok K c M σ H ev ((v, d) :: pd) ∧ g d ev R ∧ ∀ ev', R ev' → ∀ σ' H', OffOnly vs σ σ' → Ok K c M σ' H' ev' pd → Q σ' H'
abbrev DG (X : Cx) (c : Cf) (vs : List Nat) (tg : Expr) (g : Wg) : Prop := PG X tg (tG X.K c vs g)
theorem pgM {X : Cx} {e : Expr} {t t' : TG} (p : PG X e t) (h : ∀ v σ H Q, t' v σ H Q → t v σ H Q) : PG X e t' := ⟨fun pins s σ H v u Q I r q => p.run pins s σ H v u Q I r (h v σ H Q q)⟩
def gN (i : Nat) : Wg := fun d ev Q => match ev[i]? with
  | some (some (.own _)) => False
  | some _ => Q (ev.set i (some (.val d)))
  | none => False
theorem gN_of {i : Nat} {d : PyData} {ev : Ev} {Q : Ev → Prop} (h : gN i d ev Q) : notOwn ev i ∧ Q (ev.set i (some (.val d))) := by
  unfold gN at h
  unfold notOwn
  split at h
  · exact h.elim
  · rename_i z n e
    try rw [e]
    refine ⟨?_, h⟩
    cases z with
    | none => trivial
    | some s => cases s with
      | val _ => trivial
      | own ds => exact (n ds rfl).elim
  · exact h.elim
theorem zip_pend {K : PySem.W.Frag} {H : Hp} : ∀ {vs : List V} {ds : List PyData}, DzAll K H vs ds → ∀ p ∈ vs.zip ds, Dz K H p.1 p.2
  | _, _, .nil, p, hp => by cases hp
  | _, _, .cons a b, p, hp => by
    rcases List.mem_cons.mp hp with e | hp
    · rw [e]; exact a
    · exact zip_pend b p hp
theorem Ok.pushA {K : PySem.W.Frag} {c : Cf} {M : Mz} {σ : Sg} {H : Hp} {ev : Ev} {pd : List (V × PyData)} (k : Ok K c M σ H ev pd) {vs : List V} {ds : List PyData} (h : DzAll K (msk M H) vs ds) : Ok K c M σ H ev (vs.zip ds ++ pd) := by
  refine ⟨k.len, k.val, k.own, k.inj, fun p hp => ?_, k.frame, k.sub, k.dom, k.mkd, k.lk, k.tank⟩
  rcases List.mem_append.mp hp with hp | hp
  · exact zip_pend h p hp
  · exact k.pend p hp
section
variable {X : Cx} {c : Cf} {pos : Pos} {vs : List Nat}
theorem dg_name {i : Nat} {e : Expr} (h : PG X e (gName i)) (hi : i ∈ vs) : DG X c vs e (gN i) := pgM h fun v σ H Q ⟨M, ev, pd, d, R, k, w, q⟩ => by
  obtain ⟨n, w⟩ := gN_of w
  exact q _ w _ H (.set hi) (k.pop1.set n k.top)
abbrev Wgs := List PyData → Ev → (Ev → Prop) → Prop
def gsN : Wgs := fun ds ev Q => match ds with
  | [] => Q ev
  | _ => False
def gsC (g : Wg) (gs : Wgs) : Wgs := fun ds ev Q => match ds with
  | d :: r => g d ev fun e => gs r e Q
  | [] => False
def tGs (K : PySem.W.Frag) (c : Cf) (ks : List Nat) (g : Wgs) : TGs := fun vs σ H Q => ∃ M ev pd ds R, Ok K c M σ H ev (vs.zip ds ++ pd) ∧ vs.length = ds.length ∧ g ds ev R ∧ ∀ ev', R ev' → ∀ σ' H', OffOnly ks σ σ' → Ok K c M σ' H' ev' pd → Q σ' H'
abbrev DGs (X : Cx) (c : Cf) (vs : List Nat) (tg : List Expr) (g : Wgs) : Prop := PGs X tg (tGs X.K c vs g)
theorem pgsM {X : Cx} {e : List Expr} {t t' : TGs} (p : PGs X e t) (h : ∀ v σ H Q, t' v σ H Q → t v σ H Q) : PGs X e t' := ⟨fun pins s σ H v u Q I r q => p.run pins s σ H v u Q I r (h v σ H Q q)⟩
theorem dgs_nil : DGs X c vs [] gsN := pgsM pgs_nil fun vs σ H Q ⟨M, ev, pd, ds, R, k, l, w, q⟩ => by
  unfold gsN at w
  split at w
  · have e : vs = [] := List.length_eq_zero_iff.mp l
    subst e
    exact ⟨rfl, q _ w _ _ .refl k⟩
  · exact w.elim
theorem dgs_cons {e : Expr} {es : List Expr} {g : Wg} {gs : Wgs} (h : DG X c vs e g) (h2 : DGs X c vs es gs) (hs : (assignEach (e :: es) X.env).map (·.2) = assign e X.env :: (assignEach es X.env).map (·.2) := by rfl) : DGs X c vs (e :: es) (gsC g gs) :=
  pgsM (pgs_cons h h2 hs) fun vs σ H Q ⟨M, ev, pd, ds, R, k, l, w, q⟩ => by
    unfold gsC at w
    split at w
    · rename_i d r
      cases vs with
      | nil => cases l
      | cons v us =>
        refine ⟨v, us, rfl, M, ev, _, d, _, k, w, fun ev1 h1 σ1 H1 o1 k1 => ⟨M, ev1, pd, r, R, k1, by simpa using l, h1, fun ev2 h2 σ2 H2 o2 k2 => q ev2 h2 σ2 H2 (o1.trans o2) k2⟩⟩
    · exact w.elim
def gT (n : Nat) (gs : Wgs) : Wg := fun d ev Q => match d with
  | .tuple ds => ds.length = n ∧ gs ds ev Q
  | _ => False
theorem dg_tup {es : List Expr} {gs : Wgs} {n k : Nat} (hc : X.calm = true) (h : DGs X c vs es gs) (h1 : (assignEach es X.env).length = n := by rfl) (h2 : (assignEach es X.env).findIdx? (·.1) = none := by rfl) :
    DG X c vs (.Tuple es k pos) (gT n gs) := pgM (pg_tup (n := n) hc h h1 h2) fun v σ H Q ⟨M, ev, pd, d, R, k, w, q⟩ => by
  have t := k.top
  unfold gT at w
  split at w
  · cases t with
    | tup g1 g2 => exact ⟨_, _, rfl, sqT_up msk_sub g1, by rw [g2.len]; exact w.1, M, ev, pd, _, R, k.pop1.pushA g2, g2.len, w.2, q⟩
  · exact w.elim
/-- x[i] = v, x an own list -/
def gSb (i : Nat) (w : Wx) : Wg := fun d ev Q => match ev[i]? with
  | some (some (.own _)) => w ev fun j e => match j with
    | .int j => match e[i]? with
      | some (some (.own ds)) => match ixN ds.length j with
        | some n => Q (e.set i (some (.own (ds.set n d))))
        | none => False
      | _ => False
    | _ => False
  | _ => False
theorem Ok.slotV {K : PySem.W.Frag} {c : Cf} {M : Mz} {σ : Sg} {H : Hp} {ev : Ev} {pd : List (V × PyData)} (k : Ok K c M σ H ev pd) {i : Nat} {ds : List PyData} (h : ev[i]? = some (some (.own ds))) : ∃ a vs, σ[i]? = some (some (.ref a)) ∧ H a = some (.lst vs) ∧ (M a).1 = 1 ∧ DzAll K (msk M H) vs ds :=
  let ⟨a, vs, e1, e2, _, e4, e5⟩ := k.own i ds h
  ⟨a, vs, e1, e4, e2, e5⟩
theorem msk_upd {M : Mz} {H : Hp} {a : Addr} {o : HO} (h : (M a).1 ≠ 0) : msk M (upd H a o) = msk M H := by
  funext b
  unfold msk
  by_cases z : (M b).1 = 0
  · rw [if_pos z, if_pos z, upd_ne (fun y => h (by rw [← y]; exact z))]
  · rw [if_neg z, if_neg z]
theorem Ok.put {K : PySem.W.Frag} {c : Cf} {M : Mz} {σ : Sg} {H : Hp} {ev : Ev} {pd : List (V × PyData)} (k : Ok K c M σ H ev pd) {i : Nat} {a : Addr} {ds es : List PyData} {us : List V} (h : ev[i]? = some (some (.own ds))) (ha : σ[i]? = some (some (.ref a))) (q : DzAll K (msk M H) us es) :
    Ok K c M σ (upd H a (.lst us)) (ev.set i (some (.own es))) pd := by
  obtain ⟨a', vs, e1, e2, e3, e4⟩ := k.slotV h
  obtain rfl : a' = a := by rw [ha] at e1; cases e1; rfl
  exact k.write h ha (fun b o e n => by rw [upd_ne n]; exact e) upd_same (by rw [msk_upd (by rw [e3]; decide)]; exact q)
theorem dg_sub {i : Nat} {eo ei : Expr} {w : Wx} (ho : PE X eo (tVar i)) (hi : DE X c ei w) (h1 : ∀ v : Value, assign (.Subscript eo ei pos) X.env v = (do
      let ov ← holding [v] (eval eo X.env)
      let iv ← holding [v, ov] (eval ei X.env)
      standAt pos
      holding [v, ov, iv] (setItem ov iv v)
      release [v, ov, iv] []) := by intro _; rfl) : DG X c vs (.Subscript eo ei pos) (gSb i w) := pgM (pg_sub (pos := pos) ho hi set_list h1) fun v σ H Q ⟨M, ev, pd, d, R, k, w, q⟩ => by
  unfold gSb at w
  split at w
  · rename_i ds0 e0
    obtain ⟨a, us, a1, a2, a3, a4⟩ := k.slotV e0
    refine ⟨.ref a, a1, M, ev, _, _, k, w, fun j e h u H1 k1 => ?_⟩
    have t := k1.top
    split at h
    · cases t
      split at h
      · rename_i ds e1
        split at h
        · rename_i n e2
          obtain ⟨a', us', b1, b2, b3, b4⟩ := k1.slotV e1
          obtain rfl : a = a' := by rw [a1] at b1; cases b1; rfl
          exact ⟨a, us', _, n, rfl, rfl, b2, by rw [b4.len]; exact e2, q _ h σ _ .refl (k1.pop1.pop1.put e1 a1 (b4.set k1.pop1.top n))⟩
        · exact h.elim
      · exact h.elim
    · exact h.elim
  · exact w.elim
end
/-! ### assignments -/
def wAsg (w : Wx) (g : Wg) : Ws := fun E ev => w ev fun d e => g d e E.nx
section
variable {X : Cx} {c : Cf} {pos : Pos} {vs : List Nat}
theorem asg_rd {w : Wx} {g : Wg} {De : Ends} {σ : Sg} {H : Hp} (h : tS X.K c (wAsg w g) De σ H) : tAsg (tE X.K c w) (tG X.K c vs g) De σ H := by
  obtain ⟨M, ev, pd, R, k, h, f⟩ := h
  exact ⟨M, ev, pd, _, k, h, fun d e q v H' k' => ⟨M, e, pd, d, _, k', q, fun ev' z σ' H'' _ k'' => f.nx ev' z M σ' H'' k''⟩⟩
theorem ds_asg {tg e : Expr} {w : Wx} {g : Wg} (he : DE X c e w) (hg : DG X c vs tg g) (h1 : swapsWithSole [tg] e pos.line X.env = pure false := by rfl) (h2 : swappedStores [tg] e X.env = pure none := by rfl) (h3 : (assignEach [tg] X.env).map (·.2) = [assign tg X.env] := by rfl) :
    DS X c (.Assign [tg] e pos) (wAsg w g) := psM (ps_asg he hg h1 h2 h3) fun _ _ _ h => asg_rd (vs := vs) h
theorem ds_set {i : Nat} {x : Str} {e : Expr} {w : Wx} {pos' : Pos} (hN : X.N.Nodup) (hi : X.N[i]? = some x) (hx : Loc X.env.scope x) (he : DE X c e w) (h1 : swapsWith e (some (.Name x pos')) pos.line X.env = pure false := by rfl)
    (hf : X.fn x = true ∨ X.env.scope.names.lookup x = some .local := by first | exact .inl rfl | exact .inr rfl | assumption) : DS X c (.Assign [.Name x pos'] e pos) (wAsg w (gN i)) :=
  psM (ps_set hN hi hx he h1 hf) fun De σ H ⟨M, ev, pd, R, k, h, f⟩ => ⟨M, ev, pd, _, k, h, fun d e q v H' k' => by
    obtain ⟨n, w⟩ := gN_of q
    exact f.nx _ w M _ H' (k'.pop1.set n k'.top)⟩
/-- a, b = e, f, both read ahead of both stores -/
def wPar (i j : Nat) (u : Wa) : Ws := fun E ev => u ev fun ds e => match ds with
  | [x, y] => gN i x e fun e1 => gN j y e1 E.nx
  | _ => False
theorem ds_par {i j : Nat} {x y : Str} {a b : Expr} {u : Wa} {px py pt : Pos} {kt k2 pt2} (hc : X.calm = true) (hN : X.N.Nodup) (hi : X.N[i]? = some x) (hj : X.N[j]? = some y) (hij : i ≠ j)
    (hx : X.env.scope.names.lookup x = some .local) (hy : X.env.scope.names.lookup y = some .local) (ha : DA X c [a, b] u)
    (hw : swappedStores [.Tuple [.Name x px, .Name y py] kt pt] (.Tuple [a, b] k2 pt2) X.env = pure (some [x, y]))
    (hs : swapsWithSole [.Tuple [.Name x px, .Name y py] kt pt] (.Tuple [a, b] k2 pt2) pos.line X.env = pure false := by rfl) :
    DS X c (.Assign [.Tuple [.Name x px, .Name y py] kt pt] (.Tuple [a, b] k2 pt2) pos) (wPar i j u) :=
  psM (ps_par hc hN hi hj hij hx hy ha hw hs) fun De σ H ⟨M, ev, pd, R, k, h, f⟩ => ⟨M, ev, pd, _, k, h, fun ds e q vs H' k' r => by
    split at q
    · cases r with
      | cons r1 r2 =>
        cases r2 with
        | cons r2 r3 =>
          cases r3
          obtain ⟨n1, w1⟩ := gN_of q
          obtain ⟨n2, w2⟩ := gN_of w1
          exact ⟨_, _, rfl, f.nx _ w2 M _ H' ((k'.set n1 r1).set n2 r2)⟩
    · exact q.elim⟩
end
/-! ## 7. what is walked -/
/-- J walks the data ds, as long as p is held -/
theorem Ok.popL {K : PySem.W.Frag} {c : Cf} {M : Mz} {σ : Sg} {H : Hp} {ev : Ev} {pd : List (V × PyData)} (p : List (V × PyData)) (k : Ok K c M σ H ev (p ++ pd)) : Ok K c M σ H ev pd := k.pop fun r hr => List.mem_append_right _ hr
def Walks (K : PySem.W.Frag) (J : It) (p : List (V × PyData)) (ds : List PyData) : Prop := ∀ (c : Cf) (M : Mz) (σ : Sg) (H : Hp) (ev : Ev) (pd : List (V × PyData)) (i : Nat), Ok K c M σ H ev (p ++ pd) →
  (ds.length ≤ i → J.stop i H) ∧ ∀ d, ds[i]? = some d → J.go i H ∧ ∀ x H', J.yld i H x H' → Ok K c M σ H' ev ((x, d) :: (p ++ pd)) ∧ ∀ b o, H b = some o → H' b = some o
def tI (K : PySem.W.Frag) (c : Cf) (w : Wa) : TI := fun σ H R => ∃ M ev pd Rr, Ok K c M σ H ev pd ∧ w ev Rr ∧ ∀ ds ev', Rr ds ev' → ∀ p H' J, Ok K c M σ H' ev' (p ++ pd) → Walks K J p ds → R J H'
abbrev DI (X : Cx) (c : Cf) (tg iter : Expr) (w : Wa) : Prop := PI X tg iter (tI X.K c w)
theorem piM {X : Cx} {tg e : Expr} {t t' : TI} (p : PI X tg e t) (h : ∀ σ H Q, t' σ H Q → t σ H Q) : PI X tg e t' := ⟨fun pins s σ H Q I q => p.run pins s σ H Q I (h σ H Q q)⟩
def diL (w : Wx) : Wa := fun ev Q => w ev fun d e => match d with
  | .list ds => Q ds e
  | _ => False
def diT (w : Wx) : Wa := fun ev Q => w ev fun d e => match d with
  | .tuple ds => Q ds e
  | _ => False
def rngD (lo : Int) (n : Nat) : List PyData := (List.range n).map fun i => .int (lo + (i : Nat))
def diR1 (u : Wa) : Wa := fun ev Q => u ev fun ds e => match ds with
  | [.int j] => (-(2 ^ 62) ≤ j ∧ j < 2 ^ 62) ∧ Q (rngD 0 j.toNat) e
  | _ => False
def diR2 (u : Wa) : Wa := fun ev Q => u ev fun ds e => match ds with
  | [.int i, .int j] => (-(2 ^ 62) ≤ i ∧ i < 2 ^ 62 ∧ -(2 ^ 62) ≤ j ∧ j < 2 ^ 62) ∧ Q (rngD i (j - i).toNat) e
  | _ => False
theorem lst_inj {K : PySem.W.Frag} {c : Cf} {M : Mz} {σ : Sg} {H : Hp} {ev : Ev} {pd : List (V × PyData)} (k : Ok K c M σ H ev pd) : True := trivial
theorem rng_get {lo : Int} {n i : Nat} {d : PyData} (h : (rngD lo n)[i]? = some d) : i < n ∧ d = .int (lo + (i : Nat)) := by
  unfold rngD at h
  rw [List.getElem?_map] at h
  obtain ⟨j, h1, h2⟩ := Option.map_eq_some_iff.mp h
  by_cases q : i < n
  · rw [List.getElem?_range q] at h1
    cases h1
    exact ⟨q, h2.symm⟩
  · rw [List.getElem?_eq_none (by simpa using q)] at h1
    cases h1
section
variable {X : Cx} {c : Cf} {pos p : Pos} {tg : Expr}
theorem walks_lst {K : PySem.W.Frag} {a : Addr} {ds : List PyData} : Walks K (Itl K a) [(.ref a, .list ds)] ds := by
  intro c M σ H ev pd i k
  have t := k.top
  cases t with
  | lst h r =>
    rename_i xs
    refine ⟨fun l => ⟨xs, sqL_up msk_sub h, by rw [r.len]; exact l⟩, fun d e => ?_⟩
    obtain ⟨v, e1, e2⟩ := r.get i e
    refine ⟨⟨xs, v, sqL_up msk_sub h, e1⟩, fun x H' y => ?_⟩
    obtain ⟨y1, y2⟩ := y
    subst y1
    have z := y2 xs (sqL_up msk_sub h)
    rw [e1] at z
    cases z
    exact ⟨k.push e2, fun _ _ q => q⟩
theorem walks_tup {K : PySem.W.Frag} {a : Addr} {ds : List PyData} : Walks K (Itt K a) [(.ref a, .tuple ds)] ds := by
  intro c M σ H ev pd i k
  have t := k.top
  cases t with
  | tup h r =>
    rename_i xs
    refine ⟨fun l => ⟨xs, sqT_up msk_sub h, by rw [r.len]; exact l⟩, fun d e => ?_⟩
    obtain ⟨v, e1, e2⟩ := r.get i e
    refine ⟨⟨xs, v, sqT_up msk_sub h, e1⟩, fun x H' y => ?_⟩
    obtain ⟨y1, y2⟩ := y
    subst y1
    have z := y2 xs (sqT_up msk_sub h)
    rw [e1] at z
    cases z
    exact ⟨k.push e2, fun _ _ q => q⟩
theorem walks_rng {K : PySem.W.Frag} {lo : Int} {n : Nat} : Walks K (Itr lo n) [(.non, .none)] (rngD lo n) := by
  intro c M σ H ev pd i k
  refine ⟨fun l => (by have z : n ≤ i := by (simpa [rngD] using l)
                       exact z), fun d e => ?_⟩
  obtain ⟨q1, q2⟩ := rng_get e
  refine ⟨q1, fun x H' y => ?_⟩
  obtain ⟨y1, y2⟩ := y
  subst y1
  subst y2
  subst q2
  exact ⟨k.push (.int _), fun _ _ q => q⟩
theorem di_list {l : Expr} {w : Wx} (h : DE X c l w) : DI X c tg l (diL w) := piM (pi_list h) fun σ H Q ⟨M, ev, pd, R, k, w, q⟩ => ⟨M, ev, pd, _, k, w, fun d e y v H1 k1 => by
  have t := k1.top
  split at y
  · cases t with
    | lst g r => exact ⟨_, rfl, ⟨_, sqL_up msk_sub g⟩, q _ e y _ H1 _ k1 walks_lst⟩
  · exact y.elim⟩
theorem di_tup {l : Expr} {w : Wx} (h : DE X c l w) : DI X c tg l (diT w) := piM (pi_tup h) fun σ H Q ⟨M, ev, pd, R, k, w, q⟩ => ⟨M, ev, pd, _, k, w, fun d e y v H1 k1 => by
  have t := k1.top
  split at y
  · cases t with
    | tup g r => exact ⟨_, rfl, ⟨_, sqT_up msk_sub g⟩, q _ e y _ H1 _ k1 walks_tup⟩
  · exact y.elim⟩
theorem di_rng1 {a : Expr} {u : Wa} (hg : Gl X "range") (hm : X.mg "range" = none) (ha : DA X c [a] u) (h1 : starEach [a] X.env = [(false, eval a X.env)] := by rfl) : DI X c tg (.Call (.Name "range" p) [a] [] pos) (diR1 u) :=
  piM (pi_range1 hg hm ha h1) fun σ H Q ⟨M, ev, pd, R, k, w, q⟩ => ⟨M, ev, pd, _, k, w, fun ds e y vs H1 k1 r => by
    split at y
    · cases r with
      | cons r1 r2 =>
        cases r1; cases r2
        exact ⟨_, rfl, y.1.1, y.1.2, q _ e y.2 _ H1 _ (k1.push .non) walks_rng⟩
    · exact y.elim⟩
theorem di_rng2 {a b : Expr} {u : Wa} (hg : Gl X "range") (hm : X.mg "range" = none) (ha : DA X c [a, b] u) (h1 : starEach [a, b] X.env = [(false, eval a X.env), (false, eval b X.env)] := by rfl) (h2 : starEach [b] X.env = [(false, eval b X.env)] := by rfl) :
    DI X c tg (.Call (.Name "range" p) [a, b] [] pos) (diR2 u) :=
  piM (pi_range2 hg hm ha h1 h2) fun σ H Q ⟨M, ev, pd, R, k, w, q⟩ => ⟨M, ev, pd, _, k, w, fun ds e y vs H1 k1 r => by
    split at y
    · cases r with
      | cons r1 r2 =>
        cases r2 with
        | cons r2 r3 =>
          cases r1; cases r2; cases r3
          exact ⟨_, _, rfl, y.1, q _ e y.2 _ H1 _ (k1.push .non) walks_rng⟩
    · exact y.elim⟩
end
/-! ### for -/
def foD (g : Wg) (b : Ws) : List PyData → Ed → Ev → Prop
  | [], E, ev => E.nx ev
  | d :: ds, E, ev => g d ev fun e => b { nx := foD g b ds E, rt := E.rt, bk := E.nx, ct := foD g b ds E, rl := E.rl } e
def wFor (u : Wa) (g : Wg) (b : Ws) : Ws := fun E ev => u ev fun ds e => foD g b ds E e
section
variable {X : Cx} {c : Cf} {pos : Pos} {vs : List Nat}
theorem drop_cons {α : Type} {l : List α} {i : Nat} {x : α} (h : l[i]? = some x) : l.drop i = x :: l.drop (i + 1) := by
  have hi : i < l.length := by
    by_cases q : i < l.length
    · exact q
    · rw [List.getElem?_eq_none (by omega)] at h; cases h
  rw [List.getElem?_eq_getElem hi] at h
  rw [List.drop_eq_getElem_cons hi, Option.some.inj h]
theorem ds_for {tg iter : Expr} {body : List Stmt} {u : Wa} {g : Wg} {b : Ws} (hp : PassesOwn (model X.prog X.w) X.A X.env X.xe) (hc : X.calm = true) (hi : DI X c tg iter u) (hg : DG X c vs tg g) (hb : DSs X c body b)
    (h1 : ∀ x : Value, foldedSetIterable iter X.env x = pure x := by intro _; rfl) : DS X c (.For tg iter body [] pos) (wFor u g b) :=
  psM (ps_for hp hc hi hg hb h1) fun De σ H ⟨M, ev, pd, R, k, h, f⟩ => ⟨M, ev, pd, _, k, h, fun ds e q p H1 J k1 wk => by
    refine ⟨fun i m σ' H' => ∃ M' e', Ok X.K c M' σ' H' e' (p ++ pd) ∧ foD g b (ds.drop i) R e' ∧ i + m = ds.length, ⟨ds.length, M, e, k1, q, Nat.zero_add _⟩, fun i m σ' H' hW => ?_⟩
    obtain ⟨M', e', k', q', l⟩ := hW
    obtain ⟨w1, w2⟩ := wk c M' σ' H' e' pd i k'
    by_cases z : i < ds.length
    · obtain ⟨d, hd⟩ : ∃ d, ds[i]? = some d := ⟨_, List.getElem?_eq_getElem z⟩
      rw [drop_cons hd] at q'
      obtain ⟨y1, y2⟩ := w2 d hd
      refine .inr ⟨y1, fun σ2 H2 => ∃ M' e', Ok X.K c M' σ2 H2 e' (p ++ pd) ∧ foD g b (ds.drop (i + 1)) R e', fun σ2 H2 ⟨M2, e2, k2, q2⟩ => ⟨m - 1, by omega, M2, e2, k2, q2, by omega⟩, fun x H2 hy => ?_⟩
      obtain ⟨k2, _⟩ := y2 x H2 hy
      refine ⟨M', e', p ++ pd, d, _, k2, q', fun e3 q3 σ3 H3 _ k3 => ?_⟩
      refine ⟨M', e3, p ++ pd, _, k3, q3, ⟨fun e4 q4 M4 σ4 H4 k4 => ⟨M4, e4, k4, q4⟩, fun d e4 q4 M4 σ4 v H4 k4 r4 => f.rt d e4 q4 M4 σ4 v H4 (k4.popL p) r4, fun e4 q4 M4 σ4 H4 k4 => f.nx e4 q4 M4 σ4 H4 (k4.popL p), fun e4 q4 M4 σ4 H4 k4 => ⟨M4, e4, k4, q4⟩, fun ds e4 q4 M4 σ4 p4 vs H4 k4 => f.rl ds e4 q4 M4 σ4 p4 vs H4 (k4.popL p)⟩⟩
    · rw [List.drop_of_length_le (by omega)] at q'
      exact .inl ⟨w1 (by omega), f.nx e' q' M' σ' H' (k'.popL p)⟩⟩
/-! ### while -/
def whD (t : Wt) (b : Ws) : Nat → Ed → Ev → Prop
  | 0, _, _ => False
  | n + 1, E, ev => t ev fun x e => if x = true then b { nx := whD t b n E, rt := E.rt, bk := E.nx, ct := whD t b n E, rl := E.rl } e else E.nx e
def wWhile (t : Wt) (b : Ws) : Ws := fun E ev => ∃ n, whD t b n E ev
theorem ds_while {tst : Expr} {body : List Stmt} {t : Wt} {b : Ws} (hp : PassesOwn (model X.prog X.w) X.A X.env X.xe) (ht : DT X c tst t) (hb : DSs X c body b) : DS X c (.While tst body [] pos) (wWhile t b) :=
  psM (ps_while hp ht hb) fun De σ H ⟨M, ev, pd, R, k, ⟨n, h⟩, f⟩ => by
    refine ⟨fun m σ' H' => ∃ M' e', Ok X.K c M' σ' H' e' pd ∧ whD t b m R e', ⟨n, M, ev, k, h⟩, fun m σ' H' hW => ?_⟩
    obtain ⟨M', e', k', q'⟩ := hW
    cases m with
    | zero => exact q'.elim
    | succ m =>
      refine ⟨M', e', pd, _, k', q', fun z e2 q2 H2 k2 => ?_⟩
      by_cases z : z = true
      · rw [if_pos z] at q2 ⊢
        refine ⟨fun σ3 H3 => ∃ M' e', Ok X.K c M' σ3 H3 e' pd ∧ whD t b m R e', fun σ3 H3 h3 => ⟨m, Nat.lt_succ_self m, h3⟩, M', e2, pd, _, k2, q2, ⟨fun e4 q4 M4 σ4 H4 k4 => ⟨M4, e4, k4, q4⟩, f.rt, f.nx, fun e4 q4 M4 σ4 H4 k4 => ⟨M4, e4, k4, q4⟩, f.rl⟩⟩
      · rw [if_neg z] at q2 ⊢
        exact f.nx e2 q2 M' σ' H2 k2
end
end Z

set_option Elab.async false
set_option linter.all false
set_option maxRecDepth 100000
namespace Z
open PySem L2
/-! ## 8. comprehensions -/
def wipeD (ev : Ev) : List Nat → Ev
  | [] => ev
  | v :: vs => (wipeD ev vs).set v none
/-- the comprehension's own names hold nothing -/
def cleanB (ev : Ev) : List Nat → Bool
  | [] => true
  | v :: vs => (match ev[v]? with
    | some none => true
    | _ => false) && cleanB ev vs
theorem clean_at {ev : Ev} : ∀ {vs : List Nat}, cleanB ev vs = true → ∀ v ∈ vs, ev[v]? = some none
  | [], _, v, h => by cases h
  | u :: us, c, v, h => by
    unfold cleanB at c
    rw [Bool.and_eq_true] at c
    rcases List.mem_cons.mp h with e | h
    · rw [e]
      have c1 := c.1
      split at c1
      · assumption
      · cases c1
    · exact clean_at c.2 v h
theorem wipe_get {σ : Sg} {j : Nat} : ∀ {vs : List Nat}, (wipe σ vs)[j]? = if j ∈ vs ∧ j < σ.length then some none else σ[j]?
  | [] => by rw [if_neg (by simp)]; rfl
  | v :: vs => by
    have ih := wipe_get (σ := σ) (j := j) (vs := vs)
    unfold wipe
    by_cases e : v = j
    · subst e
      by_cases l : v < σ.length
      · rw [List.getElem?_set_self (by rw [wipe_length]; exact l), if_pos ⟨List.mem_cons_self .., l⟩]
      · rw [if_neg (fun z => l z.2), List.getElem?_eq_none (by rw [List.length_set, wipe_length]; omega), List.getElem?_eq_none (by omega)]
    · rw [List.getElem?_set_ne e, ih]
      by_cases m : j ∈ vs ∧ j < σ.length
      · rw [if_pos m, if_pos ⟨List.mem_cons_of_mem _ m.1, m.2⟩]
      · rw [if_neg m, if_neg (fun z => m ⟨by
          rcases List.mem_cons.mp z.1 with y | y
          · exact absurd y.symm e
          · exact y, z.2⟩)]
theorem wipe_off {σ σ' : Sg} {vs : List Nat} (h : OffOnly vs (wipe σ vs) σ') : wipe σ' vs = wipe σ vs := by
  apply List.ext_getElem?
  intro j
  rw [wipe_get, wipe_get, h.1, wipe_length]
  by_cases m : j ∈ vs ∧ j < σ.length
  · rw [if_pos m, if_pos m]
  · rw [if_neg m, if_neg m]
    by_cases n : j ∈ vs
    · have l : ¬ j < σ.length := fun z => m ⟨n, z⟩
      rw [List.getElem?_eq_none (by rw [h.1, wipe_length]; omega), List.getElem?_eq_none (by omega)]
    · rw [h.2 j n, wipe_get, if_neg (fun z => n z.1)]
section
variable {K : PySem.W.Frag} {c : Cf} {M : Mz} {σ σ' : Sg} {H : Hp} {ev : Ev} {pd : List (V × PyData)}
/-- the slots of other values by slot, where they agree on what is held -/
theorem Ok.slots (k : Ok K c M σ H ev pd) (hl : σ'.length = σ.length) (h : ∀ (i : Nat) (s : Sl), ev[i]? = some (some s) → σ'[i]? = σ[i]?) : Ok K c M σ' H ev pd := by
  refine ⟨by rw [hl]; exact k.len, fun i d e => ?_, fun i ds e => ?_, fun i j a ds es e1 e2 z1 z2 => ?_, k.pend, k.frame, k.sub, k.dom, k.mkd, k.lk, fun a t => ?_⟩
  · rw [h i _ e]; exact k.val i d e
  · rw [h i _ e]; exact k.own i ds e
  · rw [h i _ e1] at z1
    rw [h j _ e2] at z2
    exact k.inj i j a ds es e1 e2 z1 z2
  · obtain ⟨m, z1, ds, z2⟩ := k.tank a t
    exact ⟨m, by rw [h 0 _ z2]; exact z1, ds, z2⟩
/-- less is known of the slots -/
theorem Ok.less {ev' : Ev} (k : Ok K c M σ H ev pd) (hl : ev'.length = ev.length) (h : ∀ (i : Nat) (s : Sl), ev'[i]? = some (some s) → ev[i]? = some (some s)) (ht : ∀ ds : List PyData, ev[0]? = some (some (.own ds)) → ev'[0]? = some (some (.own ds))) : Ok K c M σ H ev' pd := by
  refine ⟨by rw [hl]; exact k.len, fun i d e => k.val i d (h i _ e), fun i ds e => k.own i ds (h i _ e), fun i j a ds es e1 e2 => k.inj i j a ds es (h i _ e1) (h j _ e2), k.pend, k.frame, k.sub, k.dom, k.mkd, k.lk, fun a t => ?_⟩
  obtain ⟨m, z1, ds, z2⟩ := k.tank a t
  exact ⟨m, z1, ds, ht ds z2⟩
theorem wipeD_length : ∀ {vs : List Nat}, (wipeD ev vs).length = ev.length
  | [] => rfl
  | v :: vs => by unfold wipeD; rw [List.length_set, wipeD_length]
theorem wipeD_some {i : Nat} {s : Sl} : ∀ {vs : List Nat}, (wipeD ev vs)[i]? = some (some s) → ev[i]? = some (some s) ∧ i ∉ vs
  | [], h => ⟨h, by simp⟩
  | v :: vs, h => by
    unfold wipeD at h
    rcases get_set h with ⟨_, e, _⟩ | ⟨n, e⟩
    · cases e
    · obtain ⟨a, b⟩ := wipeD_some e
      exact ⟨a, fun z => by
        rcases List.mem_cons.mp z with y | y
        · exact n y.symm
        · exact b y⟩
theorem wipeD_out {i : Nat} : ∀ {vs : List Nat}, i ∉ vs → (wipeD ev vs)[i]? = ev[i]?
  | [], _ => rfl
  | v :: vs, h => by
    unfold wipeD
    rw [List.getElem?_set_ne (fun e => h (by rw [e]; exact List.mem_cons_self ..)), wipeD_out fun z => h (List.mem_cons_of_mem _ z)]
end
/-- what a comprehension makes: g the target, t the tests, e the element, vs its own names -/
def lcD (vs : List Nat) (g : Wg) (t : Wt) (el : Wx) : List PyData → List PyData → Ev → (List PyData → Ev → Prop) → Prop
  | [], acc, ev, Q => acc.length ≤ 1000 ∧ Q acc ev
  | d :: ds, acc, ev, Q => g d ev fun e1 => t e1 fun b e2 => if b = true then el e2 fun y e3 => acc.length < 1000 ∧ lcD vs g t el ds (acc ++ [y]) (wipeD e3 vs) Q else lcD vs g t el ds acc (wipeD e2 vs) Q
def dLc (vs : List Nat) (u : Wa) (g : Wg) (t : Wt) (el : Wx) : Wx := fun ev Q => match vs.all (fun v => v != 0) with
  | true => u ev fun ds e => match cleanB e vs with
    | true => lcD vs g t el ds [] e fun acc e' => Q (.list acc) e'
    | false => lcD vs g t el ds [] (wipeD e vs) fun acc e' => Q (.list acc) e'
  | false => False
def dYes : Wt := fun ev Q => Q true ev
section
variable {X : Cx} {c : Cf}
abbrev DTs (X : Cx) (c : Cf) (ifs : List Expr) (w : Wt) : Prop := PTs X ifs (tT X.K c w)
theorem ptsM {X : Cx} {e : List Expr} {t t' : TT} (p : PTs X e t) (h : ∀ σ H Q, t' σ H Q → t σ H Q) : PTs X e t' := ⟨fun pins s σ H Q I q => p.run pins s σ H Q I (h σ H Q q)⟩
theorem dts_nil : DTs X c [] dYes := ptsM pts_nil fun σ H Q ⟨M, ev, pd, R, k, w, q⟩ => q _ _ w H k
theorem dts_one {e : Expr} {w : Wt} (h : DT X c e w) : DTs X c [e] w := pts_one h
theorem zip_all {K : PySem.W.Frag} {H : Hp} : ∀ {vs : List V} {ds : List PyData}, vs.length = ds.length → (∀ p ∈ vs.zip ds, Dz K H p.1 p.2) → DzAll K H vs ds
  | [], [], _, _ => .nil
  | v :: vs, d :: ds, l, h => .cons (h (v, d) (List.mem_cons_self ..)) (zip_all (by simpa using l) fun p hp => h p (List.mem_cons_of_mem _ hp))
/-- between two turns: the slots are wiped, the list so far stands at D -/
structure Mid (K : PySem.W.Frag) (c : Cf) (M : Mz) (vs : List Nat) (σ : Sg) (D : Addr) (pd : List (V × PyData)) (H : Hp) (ev : Ev) (acc : List PyData) (va : List V) : Prop where
  ok : Ok K c (stM M D (2, some (.lst va))) (wipe σ vs) H ev (va.zip acc ++ pd)
  ll : va.length = acc.length
  nw : ∀ v ∈ vs, ∀ s, ev[v]? ≠ some (some s)
theorem Mid.mk2 {K : PySem.W.Frag} {c : Cf} {M : Mz} {vs : List Nat} {σ σ2 : Sg} {D : Addr} {pd : List (V × PyData)} {H : Hp} {ev : Ev} {acc : List PyData} {va : List V} {M1 : Mz} (nz : ∀ v ∈ vs, v ≠ 0) (hw : wipe σ2 vs = wipe σ vs) (e : M1 = stM M D (2, some (.lst va)))
    (k : Ok K c M1 σ2 H ev (va.zip acc ++ pd)) (ll : va.length = acc.length) : Mid K c M vs σ D pd H (wipeD ev vs) acc va := by
  subst e
  refine ⟨?_, ll, fun v hv s z => (wipeD_some z).2 hv⟩
  rw [← hw]
  have k1 := k.less (ev' := wipeD ev vs) wipeD_length (fun i s z => (wipeD_some z).1) fun ds z => by rw [wipeD_out (fun m => nz 0 m rfl)]; exact z
  exact k1.slots (wipe_length _ _) fun i s z => wipe_out fun m => (wipeD_some z).2 m
theorem lc_rd {K : PySem.W.Frag} {vs : List Nat} {u : Wa} {g : Wg} {t : Wt} {el : Wx} {σ : Sg} {H : Hp} {Q : VK} (h : tE K c (dLc vs u g t el) σ H Q) : tLc (tI K c u) (tG K c vs g) (tT K c t) (tE K c el) vs σ H Q := by
  obtain ⟨M, ev, pd, R, k, h, q⟩ := h
  unfold dLc at h
  split at h
  · rename_i hz
    have nz : ∀ v ∈ vs, v ≠ 0 := fun v hv => by
      have := List.all_eq_true.mp hz v hv
      simpa using this
    refine ⟨M, ev, pd, _, k, h, fun ds e y p H1 J k1 wk D hD => ?_⟩
    have sp : ∃ e0, Ok K c M σ H1 e0 (p ++ pd) ∧ (∀ v ∈ vs, ∀ s, e0[v]? ≠ some (some s)) ∧ lcD vs g t el ds [] e0 (fun acc e' => R (.list acc) e') := by
      split at y
      · rename_i hc
        exact ⟨e, k1, fun v hv s z => (by rw [clean_at hc v hv] at z; cases z), y⟩
      · exact ⟨wipeD e vs, k1.less wipeD_length (fun i s z => (wipeD_some z).1) (fun ds z => by rw [wipeD_out (fun m => nz 0 m rfl)]; exact z), fun v hv s z => (wipeD_some z).2 hv, y⟩
    clear y k1
    obtain ⟨e, k1, cl, y⟩ := sp
    · have h0 := (k1.h0 hD).1
      have mD := k1.plain hD
      have W0 : Mid K c M vs σ D (p ++ pd) (upd H1 D (.lst [])) e [] [] := by
        refine ⟨?_, rfl, fun v hv s z => ?_⟩
        · have k0 : Ok K c (stM M D (2, some (.lst []))) σ (upd H1 D (.lst [])) e (p ++ pd) := k1.lock hD fun u z => by
            cases z
            exact ⟨rfl, rfl⟩
          exact k0.slots (wipe_length _ _) fun i s z => wipe_out fun m => cl i m s z
        · exact cl v hv s z
      refine ⟨fun i m H2 => ∃ acc va e2, Mid K c M vs σ D (p ++ pd) H2 e2 acc va ∧ lcD vs g t el (ds.drop i) acc e2 (fun acc e' => R (.list acc) e') ∧ i + m = ds.length,
        ⟨ds.length, [], [], e, W0, y, Nat.zero_add _⟩, fun i m H2 hW => ?_⟩
      obtain ⟨acc, va, e2, k2, y2, lm⟩ := hW
      have kp : Ok K c (stM M D (2, some (.lst va))) (wipe σ vs) H2 e2 (p ++ (va.zip acc ++ pd)) := k2.ok.pop fun r hr => by
        rcases List.mem_append.mp hr with z | z
        · exact List.mem_append_right _ (List.mem_append_left _ z)
        · rcases List.mem_append.mp z with z | z
          · exact List.mem_append_left _ z
          · exact List.mem_append_right _ (List.mem_append_right _ z)
      obtain ⟨w1, w2⟩ := wk c _ _ H2 e2 _ i kp
      by_cases z : i < ds.length
      · obtain ⟨d, hd⟩ : ∃ d, ds[i]? = some d := ⟨_, List.getElem?_eq_getElem z⟩
        rw [drop_cons hd] at y2
        obtain ⟨z1, z2⟩ := w2 d hd
        refine .inr ⟨z1, fun H3 => ∃ acc va e2, Mid K c M vs σ D (p ++ pd) H3 e2 acc va ∧ lcD vs g t el (ds.drop (i + 1)) acc e2 (fun acc e' => R (.list acc) e'),
          fun H3 ⟨a, b, e3, q1, q2⟩ => ⟨m - 1, by omega, a, b, e3, q1, q2, by omega⟩, fun x H3 hy => ?_⟩
        obtain ⟨k3, _⟩ := z2 x H3 hy
        have k3' : Ok K c (stM M D (2, some (.lst va))) (wipe σ vs) H3 e2 ((x, d) :: (va.zip acc ++ (p ++ pd))) := k3.pop fun r hr => by
          rcases List.mem_cons.mp hr with z | z
          · rw [z]; exact List.mem_cons_self ..
          · rcases List.mem_append.mp z with z | z
            · exact List.mem_cons_of_mem _ (List.mem_append_right _ (List.mem_append_left _ z))
            · rcases List.mem_append.mp z with z | z
              · exact List.mem_cons_of_mem _ (List.mem_append_left _ z)
              · exact List.mem_cons_of_mem _ (List.mem_append_right _ (List.mem_append_right _ z))
        refine ⟨_, e2, _, d, _, k3', y2, fun e4 q4 σ4 H4 of4 k4 => ?_⟩
        have hw4 := wipe_off of4
        refine ⟨hw4, _, e4, _, _, k4, q4, fun b e5 q5 H5 k5 => ?_⟩
        by_cases hb : b = true
        · rw [if_pos hb] at q5 ⊢
          refine ⟨_, e5, _, _, k5, q5, fun y e6 q6 v H6 k6 => ?_⟩
          obtain ⟨l6, q6⟩ := q6
          have hl : H6 D = some (.lst va) := (k6.lk D _ (by rw [stM_at])).1
          have k7 := k6.more (D := D) (o := .lst (va ++ [v])) (by rw [stM_at]) h0
          rw [stM_stM] at k7
          refine ⟨va, hl, Nat.lt_of_le_of_lt (by rw [k2.ll]; omega) (small1000 (Nat.le_of_lt l6)), acc ++ [y], va ++ [v], wipeD e6 vs, Mid.mk2 nz hw4 rfl (k7.pop fun r hr => ?_) (by rw [List.length_append, List.length_append, k2.ll]; rfl), q6⟩
          rw [List.zip_append k2.ll] at hr
          rcases List.mem_append.mp hr with z | z
          · rcases List.mem_append.mp z with z | z
            · exact List.mem_cons_of_mem _ (List.mem_append_left _ z)
            · have z' : r = (v, y) := by simpa using z
              rw [z']; exact List.mem_cons_self ..
          · exact List.mem_cons_of_mem _ (List.mem_append_right _ z)
        · rw [if_neg hb] at q5 ⊢
          exact ⟨acc, va, wipeD e5 vs, Mid.mk2 nz hw4 rfl k5 k2.ll, q5⟩
      · rw [List.drop_of_length_le (by omega)] at y2
        have hl : H2 D = some (.lst va) := (k2.ok.lk D _ (by rw [stM_at])).1
        have ra : DzAll K (msk (stM M D (2, some (.lst va))) H2) va acc := zip_all k2.ll fun r hr => k2.ok.pend r (List.mem_append_left _ hr)
        have k5 := k2.ok.unlock (by rw [stM_at]) h0 hl ra
        rw [stM_stM, stM_id mD] at k5
        have k6 : Ok K c M σ H2 e2 pd := (k5.pop fun r hr => List.mem_cons_of_mem _ (List.mem_append_right _ (List.mem_append_right _ hr))).slots (by rw [wipe_length]) fun i s z => (wipe_out fun mm => k2.nw i mm s z).symm
        exact .inl ⟨w1 (by omega), q _ _ y2.2 _ H2 (k6.push k5.top)⟩
  · exact h.elim
theorem de_lc {elt tg iter : Expr} {ifs : List Expr} {scope : Scope} {own : List (Str × Nat)} {pos : Pos} {u : Wa} {g : Wg} {t : Wt} {el : Wx} (hc : X.calm = true) (hN : X.N.Nodup) (hi : DI X c tg iter u) (ok : BlkOk X.N X.env.scope scope own)
    (hg : ∀ (s : Shared) (H : Hp) (C : Addr) (cl : List (Str × Addr)) (fp : List Addr), DG (X.blk s H scope (compEnvC scope cl C X.env) fp) c (own.map (·.2)) tg g) (ht : ∀ (s : Shared) (H : Hp) (C : Addr) (cl : List (Str × Addr)) (fp : List Addr), DTs (X.blk s H scope (compEnvC scope cl C X.env) fp) c ifs t)
    (he : ∀ (s : Shared) (H : Hp) (C : Addr) (cl : List (Str × Addr)) (fp : List Addr), DE (X.blk s H scope (compEnvC scope cl C X.env) fp) c elt el) (hs : ∀ x, foldedSetIterable iter X.env x = pure x := by intro _; rfl) :
    DE X c (.ListComp elt [⟨tg, iter, ifs, 0⟩] scope pos) (dLc (own.map (·.2)) u g t el) := peM (pe_lc hc hN hi ok hg ht he hs) fun _ _ _ h => lc_rd h
theorem ds_setLc {i : Nat} {y : Str} {py : Pos} {elt tg iter : Expr} {ifs : List Expr} {scope : Scope} {own : List (Str × Nat)} {pos spos : Pos} {u : Wa} {g : Wg} {t : Wt} {el : Wx} (hc : X.calm = true) (hN : X.N.Nodup) (hy : X.N[i]? = some y) (hyl : X.env.scope.names.lookup y = some .local)
    (hsw : swapsWith (.ListComp elt [⟨tg, iter, ifs, 0⟩] scope pos) (some (.Name y py)) spos.line X.env = pure true) (hi : DI X c tg iter u) (ok : BlkOk X.N X.env.scope scope own)
    (hg : ∀ (s : Shared) (H : Hp) (C : Addr) (cl : List (Str × Addr)) (fp : List Addr), DG (X.blk s H scope (compEnvC scope cl C X.env) fp) c (own.map (·.2)) tg g) (ht : ∀ (s : Shared) (H : Hp) (C : Addr) (cl : List (Str × Addr)) (fp : List Addr), DTs (X.blk s H scope (compEnvC scope cl C X.env) fp) c ifs t)
    (he : ∀ (s : Shared) (H : Hp) (C : Addr) (cl : List (Str × Addr)) (fp : List Addr), DE (X.blk s H scope (compEnvC scope cl C X.env) fp) c elt el) (hs : ∀ x, foldedSetIterable iter X.env x = pure x := by intro _; rfl) :
    DS X c (.Assign [.Name y py] (.ListComp elt [⟨tg, iter, ifs, 0⟩] scope pos) spos) (wAsg (dLc (own.map (·.2)) u g t el) (gN i)) :=
  psM (ps_setLc hc hN hy hyl hsw hi ok hg ht he hs) fun De σ H ⟨M, ev, pd, R, k, h, f⟩ => lc_rd (Q := fun x H1 => gName i x σ H1 De.nx) ⟨M, ev, pd, _, k, h, fun d e q v H' k' => by
    obtain ⟨n, w⟩ := gN_of q
    exact f.nx _ w M _ H' (k'.pop1.set n k'.top)⟩
end
end Z

set_option Elab.async false
set_option linter.all false
set_option maxRecDepth 100000
namespace Z
open PySem L2
/-! ## 9. own lists -/
section
variable {X : Cx} {c : Cf} {pos : Pos}
/-- x = [..], x an own list from now on -/
def wOwn (i : Nat) (u : Wa) : Ws := fun E ev => u ev fun ds e => ds.length ≤ 1000 ∧ match e[i]? with
  | some (some (.own _)) => False
  | some _ => E.nx (e.set i (some (.own ds)))
  | none => False
theorem Ok.ownNew {K : PySem.W.Frag} {M : Mz} {σ : Sg} {H : Hp} {ev : Ev} {pd : List (V × PyData)} (k : Ok K c M σ H ev pd) {i : Nat} {p : Addr} {vs : List V} {ds : List PyData} (n : notOwn ev i) (h : H p = none) (r : DzAll K (msk M H) vs ds) :
    Ok K c (stM M p (1, none)) (σ.set i (some (.ref p))) (upd H p (.lst vs)) (ev.set i (some (.own ds))) pd := by
  have k1 : Ok K c (stM M p (1, none)) σ (upd H p (.lst vs)) ev pd := k.lock h fun u z => by cases z
  have hm : ∀ b u, msk M H b = some u → msk (stM M p (1, none)) (upd H p (.lst vs)) b = some u := fun b u e => by
    obtain ⟨a, q⟩ := msk_ok e
    have ne : b ≠ p := ne_of_none a h
    exact msk_of (by rw [upd_ne ne]; exact a) (by rw [stM_off ne]; exact q)
  have il := n.lt
  refine ⟨by rw [List.length_set, List.length_set]; exact k1.len, fun j d z => ?_, fun j es z => ?_, fun j l a ds1 ds2 z1 z2 z3 z4 => ?_, k1.pend, k1.frame, k1.sub, k1.dom, k1.mkd, k1.lk, fun a t => ?_⟩
  · rcases get_set z with ⟨rfl, z1, _⟩ | ⟨ne, z⟩
    · cases z1
    · obtain ⟨v, y1, y2⟩ := k1.val j d z
      exact ⟨v, by rw [List.getElem?_set_ne ne]; exact y1, y2⟩
  · rcases get_set z with ⟨rfl, z1, _⟩ | ⟨ne, z⟩
    · cases z1
      exact ⟨p, vs, List.getElem?_set_self (by rw [k.len]; exact il), by rw [stM_at], .inl (k.h0 h).1, upd_same, r.up hm⟩
    · obtain ⟨a, ws, y1, y2⟩ := k1.own j es z
      exact ⟨a, ws, by rw [List.getElem?_set_ne ne]; exact y1, y2⟩
  · -- the new one stands apart from all own lists
    have ap : ∀ (j : Nat) (es : List PyData) (a : Addr), ev[j]? = some (some (.own es)) → σ[j]? = some (some (.ref a)) → a ≠ p := fun j es a q1 q2 => by
      obtain ⟨a', ws, y1, y2, y3, y4, _⟩ := k.own j es q1
      rw [q2] at y1
      cases y1
      exact ne_of_none y4 h
    rcases get_set z1 with ⟨rfl, y1, _⟩ | ⟨n1, z1⟩
    · rcases get_set z2 with ⟨rfl, y2, _⟩ | ⟨n2, z2⟩
      · rfl
      · rw [List.getElem?_set_self (by rw [k.len]; exact il)] at z3
        rw [List.getElem?_set_ne n2] at z4
        cases z3
        exact absurd rfl (ap l _ _ z2 z4)
    · rw [List.getElem?_set_ne n1] at z3
      rcases get_set z2 with ⟨rfl, y2, _⟩ | ⟨n2, z2⟩
      · rw [List.getElem?_set_self (by rw [k.len]; exact il)] at z4
        cases z4
        exact absurd rfl (ap j _ _ z1 z3)
      · rw [List.getElem?_set_ne n2] at z4
        exact k1.inj j l a ds1 ds2 z1 z2 z3 z4
  · obtain ⟨m, y1, ws, y2⟩ := k1.tank a t
    have ne : i ≠ 0 := fun z => n.no (by rw [z]; exact y2)
    exact ⟨m, by rw [List.getElem?_set_ne ne]; exact y1, ws, by rw [List.getElem?_set_ne ne]; exact y2⟩
theorem notOwn_of {ev : Ev} {i : Nat} {P : Prop} (h : match ev[i]? with
  | some (some (.own _)) => False
  | some _ => P
  | none => False) : notOwn ev i ∧ P := by
  unfold notOwn
  split at h
  · exact h.elim
  · rename_i z n e
    try rw [e]
    refine ⟨?_, h⟩
    cases z with
    | none => trivial
    | some s => cases s with
      | val _ => trivial
      | own ds => exact (n ds rfl).elim
  · exact h.elim
theorem ds_own {i : Nat} {x : Str} {es : List Expr} {u : Wa} {pos' p2 : Pos} (hN : X.N.Nodup) (hi : X.N[i]? = some x) (hx : Loc X.env.scope x) (ha : DA X c es u) (h1 : swapsWith (.List es p2) (some (.Name x pos')) pos.line X.env = pure false := by rfl)
    (hf : X.fn x = true ∨ X.env.scope.names.lookup x = some .local := by first | exact .inl rfl | exact .inr rfl | assumption) : DS X c (.Assign [.Name x pos'] (.List es p2) pos) (wOwn i u) :=
  psM (ps_set hN hi hx (pe_lst ha) h1 hf) fun De σ H ⟨M, ev, pd, R, k, h, f⟩ => ⟨M, ev, pd, _, k, h, fun ds e q vs H' k' r => by
    obtain ⟨l, q⟩ := q
    obtain ⟨n, q⟩ := notOwn_of q
    exact ⟨by rw [r.len]; exact line_of l, fun p hp => f.nx _ q _ _ _ (k'.ownNew n hp r)⟩⟩
/-- from here on an own list is data -/
def wFrz (i : Nat) (w : Ws) : Ws := fun E ev => match ev[i]? with
  | some (some (.own ds)) => i ≠ 0 ∧ w E (ev.set i (some (.val (.list ds))))
  | _ => False
theorem Ok.h0own {K : PySem.W.Frag} {M : Mz} {σ : Sg} {H : Hp} {ev : Ev} {pd : List (V × PyData)} (k : Ok K c M σ H ev pd) {i : Nat} {ds : List PyData} (h : ev[i]? = some (some (.own ds))) (n : i ≠ 0) : ∃ a, σ[i]? = some (some (.ref a)) ∧ c.H0 a = none := by
  obtain ⟨a, vs, e1, e2, e3, e4, e5⟩ := k.own i ds h
  refine ⟨a, e1, ?_⟩
  rcases e3 with z | z
  · exact z
  · obtain ⟨_, y1, ws, y2⟩ := k.tank a z
    exact absurd (k.inj i 0 a ds ws h y2 e1 y1) n
theorem dss_frz {i : Nat} {sts : List Stmt} {w : Ws} (h : DSs X c sts w) : DSs X c sts (wFrz i w) := pssM h fun De σ H ⟨M, ev, pd, R, k, q, f⟩ => by
  unfold wFrz at q
  split at q
  · rename_i ds e
    obtain ⟨n, q⟩ := q
    obtain ⟨a, e1, e2⟩ := k.h0own e n
    exact ⟨_, _, pd, R, (k.freeze e e1 e2).pop1, q, f⟩
  · exact q.elim
/-- return x, x an own list -/
def wRetO (i : Nat) : Ws := fun E ev => match ev[i]? with
  | some (some (.own ds)) => i ≠ 0 ∧ E.rt (.list ds) (ev.set i (some (.val (.list ds))))
  | _ => False
theorem ds_retO {i : Nat} {e : Expr} (h : PE X e (tVar i)) : DS X c (.Return (some e) pos) (wRetO i) := psM (ps_ret h) fun De σ H ⟨M, ev, pd, R, k, q, f⟩ => by
  unfold wRetO at q
  split at q
  · rename_i ds e
    obtain ⟨n, q⟩ := q
    obtain ⟨a, e1, e2⟩ := k.h0own e n
    have k1 := k.freeze e e1 e2
    exact ⟨.ref a, e1, f.rt _ _ q _ _ _ _ k1.pop1 (unMk k1 k1.top)⟩
  · exact q.elim
/-- x.append(e) as a statement -/
def wApp (i : Nat) (w : Wx) : Ws := fun E ev => match ev[i]? with
  | some (some (.own _)) => w ev fun d e => match e[i]? with
    | some (some (.own ds)) => ds.length < 1000 ∧ E.nx (e.set i (some (.own (ds ++ [d]))))
    | _ => False
  | _ => False
theorem ds_app {i : Nat} {eo ea : Expr} {w : Wx} {apos cpos : Pos} (ho : PE X eo (tVar i)) (ha : DE X c ea w) (hs : swapsWith (.Call (.Attribute eo "append" apos) [ea] [] cpos) none pos.line X.env = pure false := by rfl)
    (h1 : starEach [ea] X.env = (false, eval ea X.env) :: starEach [] X.env := by rfl)
    (p : ∀ {to : TE} {t : TA}, PE X eo to → PA X [ea] t → PE X (.Call (.Attribute eo "append" apos) [ea] [] cpos) (tBM X.K "list" rAppend to t)) :
    DS X c (.Expr (.Call (.Attribute eo "append" apos) [ea] [] cpos) pos) (wApp i w) :=
  psM (ps_expr (p ho (pa_cons ha pa_nil h1)) hs) fun De σ H ⟨M, ev, pd, R, k, q, f⟩ => by
    unfold wApp at q
    split at q
    · rename_i ds0 e0
      obtain ⟨a, us, a1, a2, a3, a4⟩ := k.slotV e0
      refine ⟨.ref a, a1, .inl ⟨rfl, us, sq_lst a2⟩, M, ev, pd, _, k, q, fun d e q2 v H1 k1 => ?_⟩
      split at q2
      · rename_i ds e1
        obtain ⟨l, q2⟩ := q2
        obtain ⟨a', us', b1, b2, b3, b4⟩ := k1.slotV e1
        obtain rfl : a = a' := by rw [a1] at b1; cases b1; rfl
        exact ⟨a, us', v, rfl, rfl, b2, by rw [b4.len]; exact small1000 (Nat.le_of_lt l), f.nx _ q2 _ _ _ (k1.pop1.put e1 a1 (b4.app (.cons k1.top .nil)))⟩
      · exact q2.elim
    · exact q.elim
/-- x[j], len(x), x an own list -/
def dOwnIx (i : Nat) (w : Wx) : Wx := fun ev Q => match ev[i]? with
  | some (some (.own _)) => w ev fun j e => match j with
    | .int j => match e[i]? with
      | some (some (.own ds)) => match atI ds j with
        | some d => Q d e
        | none => False
      | _ => False
    | _ => False
  | _ => False
theorem de_ownIx {i : Nat} {eo ei : Expr} {w : Wx} (ho : PE X eo (tVar i)) (hi : DE X c ei w) (hs : PlainIx ei := by exact fun _ _ => rfl) : DE X c (.Subscript eo ei pos) (dOwnIx i w) := peM (pe_ix ix_list ho hi hs) fun σ H Q ⟨M, ev, pd, R, k, w, q⟩ => by
  unfold dOwnIx at w
  split at w
  · rename_i ds0 e0
    obtain ⟨a, us, a1, a2, a3, a4⟩ := k.slotV e0
    refine ⟨.ref a, a1, M, ev, _, _, k, w, fun j e h u H1 k1 => ?_⟩
    have t := k1.top
    split at h
    · cases t
      split at h
      · rename_i ds e1
        split at h
        · rename_i d e2
          obtain ⟨a', us', b1, b2, b3, b4⟩ := k1.slotV e1
          obtain rfl : a = a' := by rw [a1] at b1; cases b1; rfl
          obtain ⟨z, y1, y2⟩ := atI_rel b4 e2
          exact ⟨a, us', _, z, rfl, rfl, sq_lst b2, y1, q _ _ h _ _ (k1.pop1.push y2)⟩
        · exact h.elim
      · exact h.elim
    · exact h.elim
  · exact w.elim
def dOwnLen (i : Nat) : Wx := fun ev Q => match ev[i]? with
  | some (some (.own ds)) => Q (.int ds.length) ev
  | _ => False
theorem de_ownLen {i : Nat} {eo : Expr} {p : Pos} (hg : Gl X "len") (hm : X.mg "len" = none) (ho : PE X eo (tVar i)) (h3 : starEach [eo] X.env = (false, eval eo X.env) :: starEach [] X.env := by rfl) :
    DE X c (.Call (.Name "len" p) [eo] [] pos) (dOwnLen i) := peM (pe_callB call_len_seq hg hm (by decide +kernel) (pa_cons ho pa_nil h3) (by decide) (by decide) h3) fun σ H Q ⟨M, ev, pd, R, k, w, q⟩ => by
  unfold dOwnLen at w
  split at w
  · rename_i ds e
    obtain ⟨a, us, a1, a2, a3, a4⟩ := k.slotV e
    rw [← a4.len] at w
    exact ⟨.ref a, a1, a, us, rfl, .inl (sq_lst a2), q _ _ w _ _ (k.push (.int _))⟩
  · exact w.elim
end
/-! ## 10. defs -/
/-- a def at f keeps the promise sp, where no repr is under way -/
structure FnG (P : Program) (w : World) (K : PySem.W.Frag) (mg : Str → Option Value) (base : Heap) (CX : CXT) (k : Nat) (f : Addr) (fd : FuncData) (ps : List Str) (sp : Sp) : Prop where
  ar : ∀ vs H Q E, sp vs H Q E → vs.length = ps.length
  go : ∀ (A : Around) (outer : List Env) (s : Shared) (H : Hp) (args : Args) (us : List Value) (vs : List V) (Q : VK) (E : XK), A.guards = some [] → Room k A → Env0 P w K mg base A outer s H → BindsTo s fd args (ps.zip us) → Vals vs us → sp vs H Q E →
    codeAny (model P w) A (.call (.ref f) args) (CR CX outer P w H s Q E) s
section
variable {P : Program} {w : World} {K : PySem.W.Frag} {mg : Str → Option Value} {base : Heap} {CX : CXT}
theorem fnG_of {x qual : Str} {st : Stmt} {f : Addr} {fd : FuncData} {N ps : List Str} {k : Nat} {sp : Sp} (F : Fun K x qual st f fd) (S : FnScope N ps (defScope st)) (ar : ∀ vs H Q E, sp vs H Q E → vs.length = ps.length)
    (body : ∀ (cdv : Value) (A : Around) (outer : List Env) (s : Shared) (H : Hp) (vs : List V) (Q : VK) (E : XK), A.guards = some [] → Room k (A.deeper (PyProof.Rows.envOfC qual (defScope st) s.heap.objs.size f cdv)) → sp vs H Q E →
      ∃ t, PSs (cxOf CX P w K mg base N qual (defScope st) f cdv A outer s H E) (defBody st) t ∧ t { nx := fun _ H' => Q .non H', rt := Q } (L2.start N vs) H) : FnG P w K mg base CX (k + 1) f fd ps sp := by
  obtain ⟨oc, od, kV, doc, pm, an, cdv, ct, osl, rfl, lk, hcd⟩ := F.ex
  constructor
  · exact ar
  intro A outer s H args us vs Q E hG hr e0 hb r hsp
  have inK : K.In s.heap := e0.mod.kin.keeps (fun b o q => (e0.bs b o q).1)
  have lim := e0.mod.nolimit.keeps (fun b o q => (e0.bs b o q).1)
  refine PySem.codeAny_call_function (hr.depth) (inK _ _ lk) rfl S.co S.gen rfl (PySem.W.codeRec_of inK hcd) (hb _ _ _ _ ?_)
  refine PySem.wpAny_newFunctionEnv_cells S.kind ?_ ?_
  · rintro ⟨n, v⟩ hy
    have m := (List.of_mem_zip hy).1
    cases S.par n m with
    | inl q => exact .inl q
    | inr q => exact .inr ⟨q, PySem.W.cellsFrom_some _ _ _ (.inl q)⟩
  · intro env he s1 x
    subst he
    refine ⟨lim.keeps x.toInCall.keep, PySem.codeAny_func ?_⟩
    obtain ⟨t, ht, hq⟩ := body cdv A outer s H vs Q E hG (hr.deeper _) hsp
    have I := inv_start (CX := CX) (E := E) S hr.hd e0 (ar _ _ _ _ hsp) r x
    refine wpAny_mono (ht.run [] s1 _ H _ I hq) ?_ ?_
    · intro fl s' hs
      cases fl with
      | next =>
        obtain ⟨σ', H', J, q⟩ := hs
        exact ⟨V.non, H', J.os, J.bare, J.base, J.hok, rfl, q⟩
      | ret u =>
        obtain ⟨v, σ', H', J, rv, q⟩ := hs
        exact ⟨v, H', J.os, J.bare, J.base, J.hok, rv, q⟩
      | brk => obtain ⟨_, _, _, q⟩ := hs; exact q.elim
      | cont => obtain ⟨_, _, _, q⟩ := hs; exact q.elim
    · intro e s' hs
      exact hs
end
end Z

set_option Elab.async false
set_option linter.all false
set_option maxRecDepth 100000
namespace Z
open PySem L2
/-! ## 11. promises over data -/
/-- what the caller hides stands in the heap -/
structure MkOk (Mk : Mz) (H : Hp) : Prop where
  dom : ∀ a, (Mk a).1 ≠ 0 → ∃ o, H a = some o
  lk : ∀ a o, (Mk a).2 = some o → H a = some o ∧ ((Mk a).1 = 2 ∨ (Mk a).1 = 0)
abbrev Cp := List PyData → (PyData → Prop) → Prop
abbrev Ct := List PyData → List PyData → (PyData → List PyData → Prop) → Prop
/-- data in, data out -/
def spP (K : PySem.W.Frag) (n : Nat) (C : Cp) : Sp := fun vs H Q _ => ∃ (Mk : Mz) (ds : List PyData) (R : PyData → Prop), vs.length = n ∧ MkOk Mk H ∧ DzAll K (msk Mk H) vs ds ∧ C ds R ∧
  ∀ d, R d → ∀ v H', (∀ b o, H b = some o → H' b = some o) → Dz K (msk Mk H') v d → Q v H'
/-- the first argument is a list that is changed in place -/
def spT (K : PySem.W.Frag) (n : Nat) (C : Ct) : Sp := fun vs H Q _ => ∃ (Mk : Mz) (a : Addr) (ws us : List V) (ts ds : List PyData) (R : PyData → List PyData → Prop), vs = .ref a :: ws ∧ vs.length = n ∧ MkOk Mk H ∧ (Mk a).1 = 1 ∧ H a = some (.lst us) ∧
  DzAll K (msk Mk H) us ts ∧ DzAll K (msk Mk H) ws ds ∧ C ts ds R ∧
  ∀ d ts', R d ts' → ∀ v H' us', (∀ b o, H b = some o → b ≠ a → H' b = some o) → H' a = some (.lst us') → DzAll K (msk Mk H') us' ts' → Dz K (msk Mk H') v d → Q v H'
def ev0 (m : Nat) (ds : List PyData) : Ev := ds.map (fun d => some (.val d)) ++ List.replicate m none
def edP (R : PyData → Prop) : Ed := { nx := fun _ => R .none, rt := fun d _ => R d, rl := fun ds _ => R (.list ds) }
def tkR (R : PyData → List PyData → Prop) (d : PyData) (ev : Ev) : Prop := match ev[(0 : Nat)]? with
  | some (some (.own ts)) => R d ts
  | _ => False
def edT (R : PyData → List PyData → Prop) : Ed := { nx := tkR R .none, rt := tkR R }
theorem ev0_get {m : Nat} {ds : List PyData} {i : Nat} {s : Sl} (h : (ev0 m ds)[i]? = some (some s)) : ∃ d, s = .val d ∧ ds[i]? = some d := by
  unfold ev0 at h
  by_cases l : i < ds.length
  · rw [List.getElem?_append_left (by simpa using l), List.getElem?_map, List.getElem?_eq_getElem l] at h
    exact ⟨ds[i], by cases h; rfl, List.getElem?_eq_getElem l⟩
  · rw [List.getElem?_append_right (by simpa using l), List.getElem?_replicate] at h
    split at h <;> cases h
theorem start_get {N : List Str} {vs : List V} {i : Nat} {v : V} (h : vs[i]? = some v) : (L2.start N vs)[i]? = some (some v) := by
  have l : i < vs.length := by
    by_cases l : i < vs.length
    · exact l
    · rw [List.getElem?_eq_none (by omega)] at h; cases h
  unfold L2.start
  rw [List.getElem?_append_left (by simpa using l), List.getElem?_map, h]
  rfl
section
variable {P : Program} {wd : World} {K : PySem.W.Frag} {mg : Str → Option Value} {base : Heap}
/-- THE RULE for a def over data -/
theorem okP {x qual : Str} {st : Stmt} {f : Addr} {fd : FuncData} {N ps : List Str} {k n m : Nat} {C : Cp} {w : Ws} (F : Fun K x qual st f fd) (S : FnScope N ps (defScope st)) (hn : ps.length = n) (hN : N.length = n + m)
    (body : ∀ (c : Cf) (cdv : Value) (A : Around) (outer : List Env) (s : Shared) (H : Hp) (E : XK), A.guards = some [] → Room k (A.deeper (PyProof.Rows.envOfC qual (defScope st) s.heap.objs.size f cdv)) → DSs (cxOf CX0 P wd K mg base N qual (defScope st) f cdv A outer s H E).nox c (defBody st) w)
    (sem : ∀ ds R, C ds R → ds.length = n → w (edP R) (ev0 m ds)) : FnG P wd K mg base CX0 (k + 1) f fd ps (spP K n C) := by
  refine fnG_of F S (fun vs H Q E h => ?_) (fun cdv A outer s H vs Q E hG hr h => ?_)
  · obtain ⟨_, _, _, l, _⟩ := h
    rw [l, hn]
  · obtain ⟨Mk, ds, R, l, mk, ra, hC, q⟩ := h
    refine ⟨_, (body ⟨H, fun _ => false, Mk⟩ cdv A outer s H E hG hr).nox, Mk, ev0 m ds, [], edP R, ⟨?_, fun i d e => ?_, fun i es e => ?_, fun i j a es fs e => ?_, fun p hp => (by cases hp), fun b o e _ => e, fun a e => e, mk.dom, mk.dom, mk.lk, fun a e => (by cases e)⟩, sem ds R hC (by rw [← ra.len, l]), ?_⟩
    · unfold L2.start ev0
      rw [List.length_append, List.length_append, List.length_map, List.length_map, List.length_replicate, List.length_replicate, ra.len, hN, ← ra.len, l]
      omega
    · obtain ⟨d', z, e⟩ := ev0_get e
      cases z
      obtain ⟨v, y1, y2⟩ := ra.get i e
      exact ⟨v, start_get y1, y2⟩
    · obtain ⟨d', z, e⟩ := ev0_get e
      cases z
    · obtain ⟨d', z, e⟩ := ev0_get e
      cases z
    · exact ⟨fun ev' h M' σ' H' k' => q _ h _ _ (fun b o e => k'.frame b o e rfl) .non, fun d ev' h M' σ' v H' k' r => q _ h _ _ (fun b o e => k'.frame b o e rfl) r, fun ev' h => h.elim, fun ev' h => h.elim, fun ds ev' h M' σ' p vs H' k' z1 z2 r => q _ h _ _ (fun b o e => k'.frame b o e rfl) (.lst (sq_lst (msk_of z2 (by
          by_cases z : (Mk p).1 = 0
          · exact z
          · obtain ⟨o, y⟩ := mk.dom p z
            rw [show H p = none from z1] at y
            cases y))) r)⟩
theorem DzAll.mono {H H' : Hp} {vs : List V} {ds : List PyData} (h : ∀ b o, H b = some o → H' b = some o) (r : DzAll K H vs ds) : DzAll K H' vs ds := r.up h
/-- THE RULE for a def that changes the list it is handed first -/
theorem okT {x qual : Str} {st : Stmt} {f : Addr} {fd : FuncData} {N ps : List Str} {k n m : Nat} {C : Ct} {w : Ws} (F : Fun K x qual st f fd) (S : FnScope N ps (defScope st)) (hn : ps.length = n + 1) (hN : N.length = n + 1 + m)
    (body : ∀ (c : Cf) (cdv : Value) (A : Around) (outer : List Env) (s : Shared) (H : Hp) (E : XK), A.guards = some [] → Room k (A.deeper (PyProof.Rows.envOfC qual (defScope st) s.heap.objs.size f cdv)) → DSs (cxOf CX0 P wd K mg base N qual (defScope st) f cdv A outer s H E).nox c (defBody st) w)
    (sem : ∀ ts ds R, C ts ds R → ds.length = n → w (edT R) (some (.own ts) :: ev0 m ds)) : FnG P wd K mg base CX0 (k + 1) f fd ps (spT K (n + 1) C) := by
  refine fnG_of F S (fun vs H Q E h => ?_) (fun cdv A outer s H vs Q E hG hr h => ?_)
  · obtain ⟨_, _, _, _, _, _, _, _, l, _⟩ := h
    rw [l, hn]
  · obtain ⟨Mk, a, ws, us, ts, ds, R, rfl, l, mk, ma, ha, rt, ra, hC, q⟩ := h
    have lw : ws.length = n := by simpa using l
    refine ⟨_, (body ⟨H, fun b => decide (b = a), Mk⟩ cdv A outer s H E hG hr).nox, Mk, some (.own ts) :: ev0 m ds, [], edT R, ⟨?_, fun i d e => ?_, fun i es e => ?_, fun i j b es fs e1 e2 _ _ => ?_, fun p hp => (by cases hp), fun b o e _ => e, fun b e => e, mk.dom, mk.dom, mk.lk, fun b e => ?_⟩, sem ts ds R hC (by rw [← ra.len, lw]), ?_⟩
    · unfold L2.start ev0
      simp only [List.length_append, List.length_cons, List.length_map, List.length_replicate, hN, ← ra.len, lw]
      omega
    · cases i with
      | zero => cases e
      | succ i =>
        obtain ⟨d', z, e⟩ := ev0_get (show (ev0 m ds)[i]? = some (some (.val d)) from e)
        cases z
        obtain ⟨v, y1, y2⟩ := ra.get i e
        exact ⟨v, start_get (i := i + 1) y1, y2⟩
    · cases i with
      | zero => cases e; exact ⟨a, us, start_get (i := 0) rfl, ma, .inr (by simp), ha, rt⟩
      | succ i =>
        obtain ⟨d', z, e⟩ := ev0_get (show (ev0 m ds)[i]? = some (some (.own es)) from e)
        cases z
    · have z1 : i = 0 := by
        cases i with
        | zero => rfl
        | succ i => obtain ⟨d', z, _⟩ := ev0_get (show (ev0 m ds)[i]? = some (some (.own es)) from e1); cases z
      have z2 : j = 0 := by
        cases j with
        | zero => rfl
        | succ i => obtain ⟨d', z, _⟩ := ev0_get (show (ev0 m ds)[i]? = some (some (.own fs)) from e2); cases z
      rw [z1, z2]
    · have z : b = a := by simpa using e
      subst z
      exact ⟨by rw [ma]; decide, start_get (i := 0) rfl, ts, rfl⟩
    · have fin : ∀ d ev' M' σ' v H', Ok K ⟨H, fun b => decide (b = a), Mk⟩ M' σ' H' ev' [] → (edT R).rt d ev' → Dz K (msk Mk H') v d → Q v H' := by
        intro d ev' M' σ' v H' k' h r
        have h : tkR R d ev' := h
        unfold tkR at h
        split at h
        · rename_i ts' e
          obtain ⟨b, us', e1, e2, e3, e4, e5⟩ := k'.own 0 ts' e
          obtain ⟨m1, y1, zs, y2⟩ := k'.tank a (by simp)
          rw [y1] at e1
          cases e1
          exact q d ts' h v H' us' (fun b o z n => k'.frame b o z (by simpa using n)) e4 (e5.up (msk_less k'.sub)) r
        · exact h.elim
      exact ⟨fun ev' h M' σ' H' k' => fin .none ev' M' σ' .non H' k' h .non, fun d ev' h M' σ' v H' k' r => fin d ev' M' σ' v H' k' h r, fun ev' h => h.elim, fun ev' h => h.elim, fun ds ev' h => h.elim⟩
end
/-! ### a def that hands back a new list -/
section
variable {P : Program} {wd : World} {K : PySem.W.Frag} {mg : Str → Option Value} {base : Heap}
def spF (K : PySem.W.Frag) (n : Nat) (C : List PyData → (List PyData → Prop) → Prop) : Sp := fun vs H Q _ => ∃ (Mk : Mz) (ds : List PyData) (R : List PyData → Prop), vs.length = n ∧ MkOk Mk H ∧ DzAll K (msk Mk H) vs ds ∧ C ds R ∧
  ∀ es, R es → ∀ p us H', H p = none → (∀ b o, H b = some o → H' b = some o) → H' p = some (.lst us) → DzAll K (msk Mk H') us es → Q (.ref p) H'
def edF (R : List PyData → Prop) : Ed := { nx := fun _ => False, rt := fun _ _ => False, rl := fun ds _ => R ds }
theorem okF {x qual : Str} {st : Stmt} {f : Addr} {fd : FuncData} {N ps : List Str} {k n m : Nat} {C : List PyData → (List PyData → Prop) → Prop} {w : Ws} (F : Fun K x qual st f fd) (S : FnScope N ps (defScope st)) (hn : ps.length = n) (hN : N.length = n + m)
    (body : ∀ (c : Cf) (cdv : Value) (A : Around) (outer : List Env) (s : Shared) (H : Hp) (E : XK), A.guards = some [] → Room k (A.deeper (PyProof.Rows.envOfC qual (defScope st) s.heap.objs.size f cdv)) → DSs (cxOf CX0 P wd K mg base N qual (defScope st) f cdv A outer s H E).nox c (defBody st) w)
    (sem : ∀ ds R, C ds R → ds.length = n → w (edF R) (ev0 m ds)) : FnG P wd K mg base CX0 (k + 1) f fd ps (spF K n C) := by
  refine fnG_of F S (fun vs H Q E h => ?_) (fun cdv A outer s H vs Q E hG hr h => ?_)
  · obtain ⟨_, _, _, l, _⟩ := h
    rw [l, hn]
  · obtain ⟨Mk, ds, R, l, mk, ra, hC, q⟩ := h
    refine ⟨_, (body ⟨H, fun _ => false, Mk⟩ cdv A outer s H E hG hr).nox, Mk, ev0 m ds, [], edF R, ⟨?_, fun i d e => ?_, fun i es e => ?_, fun i j a es fs e => ?_, fun p hp => (by cases hp), fun b o e _ => e, fun a e => e, mk.dom, mk.dom, mk.lk, fun a e => (by cases e)⟩, sem ds R hC (by rw [← ra.len, l]), ?_⟩
    · simp only [L2.start, ev0, List.length_append, List.length_map, List.length_replicate, hN, ← ra.len, l]
      omega
    · obtain ⟨d', z, e⟩ := ev0_get e
      cases z
      obtain ⟨v, y1, y2⟩ := ra.get i e
      exact ⟨v, start_get y1, y2⟩
    · obtain ⟨d', z, e⟩ := ev0_get e
      cases z
    · obtain ⟨d', z, e⟩ := ev0_get e
      cases z
    · exact ⟨fun ev' h => h.elim, fun d ev' h => h.elim, fun ev' h => h.elim, fun ev' h => h.elim, fun ds ev' h M' σ' p vs H' k' z1 z2 r => q _ h p vs H' z1 (fun b o e => k'.frame b o e rfl) z2 r⟩
end
/-! ### calls of own defs -/
structure Cl (P : Program) (wd : World) (K : PySem.W.Frag) (mg : Str → Option Value) (base : Heap) (k : Nat) (x : Str) (ps : List Str) (sp : Sp) : Prop where
  ex : ∃ f fd, mg x = some (.ref f) ∧ PySem.W.keepIn K (.ref f) = true ∧ Binds K fd ps [] ∧ FnG P wd K mg base CX0 k f fd ps sp
structure ClK (P : Program) (wd : World) (K : PySem.W.Frag) (mg : Str → Option Value) (base : Heap) (k : Nat) (x : Str) (ps : List Str) (sp : Sp) : Prop where
  ex : ∃ f fd, mg x = some (.ref f) ∧ PySem.W.keepIn K (.ref f) = true ∧ KBn K fd ps 0 ps (fun _ ws => ws) (fun _ zs => zs) ∧ FnG P wd K mg base CX0 k f fd ps sp
section
variable {X : Cx} {c : Cf} {k kg n : Nat} {x : Str} {ps : List Str} {p pos : Pos} {e : Expr} {es : List Expr} {u : Wa}
theorem runG {f : Addr} {fd : FuncData} {sp : Sp} {args : Args} {us : List Value} {vs : List V} {pins : List (Addr × Obj)} {σ : Sg} {H : Hp} {s : Shared} {Q : VK} (F : FnG X.prog X.w X.K X.mg X.base CX0 kg f fd ps sp) (hk : kg ≤ k) (hr : Room k X.A) (hG : X.A.guards = some [])
    (I : Inv X pins σ H s) (hb : BindsTo s fd args (ps.zip us)) (r : Vals vs us) (h : sp vs H Q E0) : codeAny (model X.prog X.w) X.A (.call (.ref f) args) (fun rr s' => match rr with
      | .ok (.ret v) => EP X pins σ Q v s'
      | _ => False) s :=
  codeAny_mono (F.go X.A X.stack s H args us vs Q E0 hG (hr.mono hk) I.env0 hb r h) fun rr s' hq => by
    cases rr with
    | error e => exact hq.elim
    | ok fl => cases fl with
      | ret v => exact I.after hq
      | next => exact hq.elim
      | brk => exact hq.elim
      | cont => exact hq.elim
theorem callG {f : Addr} {args : Args} {us : List Value} {kw : List (Str × Value)} {pins : List (Addr × Obj)} {σ : Sg} {s : Shared} {Q : VK} (h : codeAny (model X.prog X.w) X.A (.call (.ref f) ⟨us, kw⟩) (fun rr s' => match rr with
      | .ok (.ret v) => EP X pins σ Q v s'
      | _ => False) s) : wpAny (model X.prog X.w) X.A (call (.ref f) us kw) (EP X pins σ Q) X.xe s := wpAny_call (codeAny_mono h fun rr s' hq => by
    cases rr with
    | error e => exact hq.elim
    | ok fl => cases fl with
      | ret v => exact hq
      | next => exact hq.elim
      | brk => exact hq.elim
      | cont => exact hq.elim)
/-- f(e, ..) by any promise -/
theorem pe_cG {sp : Sp} {t : TA} (F : Cl X.prog X.w X.K X.mg X.base kg x ps sp) (hk : kg ≤ k) (hr : Room k X.A) (hG : X.A.guards = some []) (hg : Gl X x) (ha : PA X (e :: es) t) (h2 : (x == ("__debug__" : Str)) = false) (h3 : starEach (e :: es) X.env = (false, eval e X.env) :: starEach es X.env) (h4 : (backTo pos (starEach es X.env)).any (·.1) = false) :
    PE X (.Call (.Name x p) (e :: es) [] pos) (fun σ H Q => t σ H fun vs H1 => sp vs H1 Q E0) := by
  obtain ⟨f, fd, hm, hkp, hb, F⟩ := F.ex
  constructor
  intro pins s σ H Q I h
  apply wpAny_Call_Name_kw
  apply ld_glob I hg hm _ h2
  refine PySem.W.callWith_K (h₀ := X.base) I.ok.mod.kin hkp (thn (ha.run pos pins s σ H _ I h) ?_) h3 h4
  rintro us s1 ⟨vs, H1, I1, r, q⟩
  refine ⟨I1.kIn, ?_⟩
  have ar := F.ar _ _ _ _ q
  have b := hb s1 us I1.kIn (by rw [List.append_nil, ← r.length, ar])
  rw [List.append_nil] at b
  exact callG (args := ⟨us, []⟩) (us := us) (kw := []) (runG F hk hr hG I1 b r q)
/-- f(a = e, ..), all parameters named in their order -/
theorem pe_cGK {sp : Sp} {t : TA} {kws : List Keyword} (F : ClK X.prog X.w X.K X.mg X.base kg x ps sp) (hk : kg ≤ k) (hr : Room k X.A) (hG : X.A.guards = some []) (hg : Gl X x) (ha : PK X kws t) (h1 : (backToKw pos (keywordEach kws X.env)).all (·.1.isSome) = true) (h2 : (backToKw pos (keywordEach kws X.env)).filterMap (·.1) = ps)
    (h3 : (x == ("__debug__" : Str)) = false) (h4 : ((backTo pos (starEach [] X.env)).any (·.1) || (backToKw pos (keywordEach kws X.env)).any (·.1.isNone)) = false) : PE X (.Call (.Name x p) [] kws pos) (fun σ H Q => t σ H fun vs H1 => sp vs H1 Q E0) := by
  obtain ⟨f, fd, hm, hkp, hb, F⟩ := F.ex
  constructor
  intro pins s σ H Q I h
  apply wpAny_Call_Name_kw
  apply ld_glob I hg hm _ h3
  refine PySem.W.callWith_KW0 (h₀ := X.base) I.ok.mod.kin hkp h1 (thn (ha.run pos pins s σ H _ I h) ?_) h4
  rintro ws s1 ⟨vs, H1, I1, r, q⟩
  refine ⟨I1.kIn, ?_⟩
  rw [h2]
  have ar := F.ar _ _ _ _ q
  have b := hb.to s1 [] ws I1.kIn rfl (by rw [← r.length, ar])
  exact callG (args := ⟨[], ps.zip ws⟩) (us := []) (kw := ps.zip ws) (runG F hk hr hG I1 b r q)
theorem Ok.mkOk {K : PySem.W.Frag} {M : Mz} {σ : Sg} {H : Hp} {ev : Ev} {pd : List (V × PyData)} (k : Ok K c M σ H ev pd) : MkOk M H := ⟨k.dom, k.lk⟩
theorem spP_rd {K : PySem.W.Frag} {C : Cp} {σ : Sg} {H : Hp} {Q : VK} {E : XK} (h : tE K c (fun ev Q => u ev fun ds e => ds.length = n ∧ C ds fun d => Q d e) σ H Q) : tA K c u σ H fun vs H1 => spP K n C vs H1 Q E := by
  obtain ⟨M, ev, pd, R, k, w, q⟩ := h
  exact ⟨M, ev, pd, _, k, w, fun ds e ⟨l, h1⟩ vs H1 k1 r => ⟨M, ds, _, by rw [r.len, l], k1.mkOk, r, h1, fun d hd v H' g z => q d e hd v H' ((k1.grow g).push z)⟩⟩
/-- the call of a def over data -/
def dFn (n : Nat) (C : Cp) (u : Wa) : Wx := fun ev Q => u ev fun ds e => ds.length = n ∧ C ds fun d => Q d e
theorem de_fn {C : Cp} (F : Cl X.prog X.w X.K X.mg X.base kg x ps (spP X.K n C)) (hk : kg ≤ k) (hr : Room k X.A) (hG : X.A.guards = some []) (hg : Gl X x) (ha : DA X c (e :: es) u) (h2 : (x == ("__debug__" : Str)) = false := by decide) (h3 : starEach (e :: es) X.env = (false, eval e X.env) :: starEach es X.env := by rfl) (h4 : (backTo pos (starEach es X.env)).any (·.1) = false := by rfl) :
    DE X c (.Call (.Name x p) (e :: es) [] pos) (dFn n C u) := peM (pe_cG F hk hr hG hg ha h2 h3 h4) fun _ _ _ h => spP_rd h
theorem de_fnK {C : Cp} {kws : List Keyword} (F : ClK X.prog X.w X.K X.mg X.base kg x ps (spP X.K n C)) (hk : kg ≤ k) (hr : Room k X.A) (hG : X.A.guards = some []) (hg : Gl X x) (ha : DK X c kws u) (h1 : (backToKw pos (keywordEach kws X.env)).all (·.1.isSome) = true := by rfl) (h2 : (backToKw pos (keywordEach kws X.env)).filterMap (·.1) = ps := by rfl)
    (h3 : (x == ("__debug__" : Str)) = false := by decide) (h4 : ((backTo pos (starEach [] X.env)).any (·.1) || (backToKw pos (keywordEach kws X.env)).any (·.1.isNone)) = false := by rfl) : DE X c (.Call (.Name x p) [] kws pos) (dFn n C u) := peM (pe_cGK F hk hr hG hg ha h1 h2 h3 h4) fun _ _ _ h => spP_rd h
/-- f(x, e, ..), x an own list that f changes -/
def dFnT (i n : Nat) (C : Ct) (u : Wa) : Wx := fun ev Q => match ev[i]? with
  | some (some (.own _)) => u ev fun ds e => match e[i]? with
    | some (some (.own ts)) => ds.length + 1 = n ∧ C ts ds fun d ts' => Q d (e.set i (some (.own ts')))
    | _ => False
  | _ => False
theorem de_fnT {i : Nat} {C : Ct} (F : Cl X.prog X.w X.K X.mg X.base kg x ps (spT X.K n C)) (hk : kg ≤ k) (hr : Room k X.A) (hG : X.A.guards = some []) (hg : Gl X x) (ho : PE X e (tVar i)) (ha : DA X c es u) (h2 : (x == ("__debug__" : Str)) = false := by decide) (h3 : starEach (e :: es) X.env = (false, eval e X.env) :: starEach es X.env := by rfl) (h4 : (backTo pos (starEach es X.env)).any (·.1) = false := by rfl) :
    DE X c (.Call (.Name x p) (e :: es) [] pos) (dFnT i n C u) := peM (pe_cG F hk hr hG hg (pa_cons ho ha h3) h2 h3 h4) fun σ H Q ⟨M, ev, pd, R, k, w, q⟩ => by
  unfold dFnT at w
  split at w
  · rename_i ts0 e0
    obtain ⟨a, us, a1, a2, a3, a4⟩ := k.slotV e0
    refine ⟨.ref a, a1, M, ev, _, _, k, w, fun ds e h vs H1 k1 r => ?_⟩
    split at h
    · rename_i ts e1
      obtain ⟨l, h⟩ := h
      obtain ⟨a', us', b1, b2, b3, b4⟩ := k1.slotV e1
      obtain rfl : a = a' := by rw [a1] at b1; cases b1; rfl
      exact ⟨M, a, vs, us', ts, ds, _, rfl, by rw [List.length_cons, r.len, l], k1.mkOk, b3, b2, b4, r, h, fun d ts' hd v H' us2 g1 g2 g3 g4 => q d _ hd v H' ((k1.write e1 a1 g1 g2 g3).push g4)⟩
    · exact h.elim
  · exact w.elim
def allInt : List PyData → Bool
  | [] => true
  | .int _ :: r => allInt r
  | _ :: _ => false
theorem ints_any {K : PySem.W.Frag} {H H' : Hp} : ∀ {vs : List V} {ds : List PyData}, allInt ds = true → DzAll K H vs ds → DzAll K H' vs ds
  | _, _, _, .nil => .nil
  | _, _, h, .cons a b => by
    cases a with
    | int i => exact .cons (.int i) (ints_any h b)
    | _ => cases h
/-- f(g(e, ..)), g a def that hands back a new list, f one that changes it -/
def dFnF (n : Nat) (Cg : List PyData → (List PyData → Prop) → Prop) (C : Ct) (u : Wa) : Wx := fun ev Q => u ev fun ds e => ds.length = n ∧ Cg ds fun ts => allInt ts = true ∧ C ts [] fun d _ => Q d e
theorem de_fnF {kf : Nat} {y : Str} {qs : List Str} {Cg : List PyData → (List PyData → Prop) → Prop} {C : Ct} {p2 pos2 : Pos} (F : Cl X.prog X.w X.K X.mg X.base kf y qs (spT X.K 1 C)) (G : Cl X.prog X.w X.K X.mg X.base kg x ps (spF X.K n Cg)) (hf : kf ≤ k) (hk : kg ≤ k) (hr : Room k X.A) (hG : X.A.guards = some []) (hy : Gl X y) (hg : Gl X x) (ha : DA X c (e :: es) u)
    (h2 : (x == ("__debug__" : Str)) = false := by decide) (h3 : starEach (e :: es) X.env = (false, eval e X.env) :: starEach es X.env := by rfl) (h4 : (backTo pos (starEach es X.env)).any (·.1) = false := by rfl)
    (g2 : (y == ("__debug__" : Str)) = false := by decide) (g3 : starEach [.Call (.Name x p) (e :: es) [] pos] X.env = (false, eval (.Call (.Name x p) (e :: es) [] pos) X.env) :: starEach [] X.env := by rfl) (g4 : (backTo pos2 (starEach [] X.env)).any (·.1) = false := by rfl) :
    DE X c (.Call (.Name y p2) [.Call (.Name x p) (e :: es) [] pos] [] pos2) (dFnF n Cg C u) :=
  peM (pe_cG F hf hr hG hy (pa_cons (pe_cG G hk hr hG hg ha h2 h3 h4) pa_nil g3) g2 g3 g4) fun σ H Q ⟨M, ev, pd, R, k, w, q⟩ =>
    ⟨M, ev, pd, _, k, w, fun ds e ⟨l, h1⟩ vs H1 k1 r => ⟨M, ds, _, by rw [r.len, l], k1.mkOk, r, h1, fun ts ⟨ti, ht⟩ p us H2 f1 f2 f3 f4 => by
      have k2 := k1.grow f2
      have ne : ∀ {b : Addr} {o : HO}, H1 b = some o → b ≠ p := fun e => ne_of_none e f1
      have m0 : M p = (0, none) := k1.plain f1
      refine ⟨stM M p (1, none), p, [], us, ts, [], _, rfl, rfl, ⟨fun a e => ?_, fun a o e => ?_⟩, by rw [stM_at], f3, ?_, .nil, ht, fun d ts' hd v H3 us' g1 g2 g3 g4 => ?_⟩
      · by_cases z : a = p
        · rw [z]; exact ⟨_, f3⟩
        · rw [stM_off z] at e; exact k2.dom a e
      · by_cases z : a = p
        · rw [z, stM_at] at e; cases e
        · rw [stM_off z] at e ⊢; exact k2.lk a o e
      · exact ints_any ti f4
      · refine q d _ hd v H3 (?_ : Ok X.K c M σ H3 _ ((v, d) :: pd))
        have gr : ∀ b o, H1 b = some o → H3 b = some o := fun b o e => g1 b o (f2 b o e) (ne e)
        refine (k1.grow gr).push (g4.up (msk_less fun a e => ?_))
        by_cases z : a = p
        · rw [z, m0] at e; exact absurd rfl e
        · rw [stM_off z]; exact e⟩⟩
end
end Z

set_option Elab.async false
set_option linter.all false
set_option maxRecDepth 100000
namespace Z
open PySem L2
/-! ## 12. the law's own call -/
abbrev theArd : Around := PySem.callerA
/-- nothing is tracked but the script, and that as it is -/
structure Entry (P : Program) (w : World) (K : PySem.W.Frag) (s : Shared) (a : Addr) (ns : List Int) (H : Hp) : Prop where
  frz : ∀ b u, H b = some u → b = a ∧ ∃ ob v, u = .frz ob v
  off : ∀ u, H a = some u → K.lookup a = none
  hok : HOk P w H s.heap
  sq : SqL K H a (ns.map V.int)
theorem entry_of {P : Program} {w : World} {K : PySem.W.Frag} {s : Shared} {a : Addr} {vs : List Value} {ns : List Int} (X : K.In s.heap) (ha : s.heap.get? a = some { cls := .type "list", data := .seq vs.toArray }) (hi : PyProof.Rows.IntsAre vs ns) (hl : ns.length ≤ sizeLine) : ∃ H, Entry P w K s a ns H := by
  have rv := vals_ints hi
  have lv : (ns.map V.int).length = ns.length := List.length_map _
  cases q : K.lookup a with
  | none =>
    refine ⟨upd (fun _ => none) a (.frz { cls := .type "list", data := .seq vs.toArray } (.lst (ns.map V.int))), ⟨fun b u e => ?_, fun _ _ => q, fun b u e => ?_, .inl (.inr ⟨_, upd_same⟩)⟩⟩
    · by_cases z : b = a
      · rw [z, upd_same] at e
        cases e
        exact ⟨z, _, _, rfl⟩
      · rw [upd_ne z] at e
        cases e
    · by_cases z : b = a
      · subst z
        rw [upd_same] at e
        cases e
        exact ⟨ha, by rw [lv]; exact hl, vs, _, rv, ha⟩
      · rw [upd_ne z] at e
        cases e
  | some o =>
    have e := X a o q
    rw [ha] at e
    cases e
    exact ⟨fun _ => none, ⟨fun b u e => (by cases e), fun u e => (by cases e), fun b u e => (by cases e), .inr ⟨_, vs.toArray, _, q, rfl, rfl, rfl, by rw [List.size_toArray, hi.length]; exact hl, by simpa using rv⟩⟩⟩
theorem law_run {P : Program} {w : World} {K : PySem.W.Frag} {mg mb : Str → Option Value} {k : Nat} {fa a : Addr} {fd : FuncData} {x : Str} {C : Cp} {s : Shared} {vs : List Value} {ns : List Int} (X : K.In s.heap) (hm : s.heap.Ns mainGlobals mg) (hb : s.heap.Ns builtinsNs mb)
    (hbb : ∀ x : Str, x ≠ "__name__" → mb x = bootBuiltins x) (lim : s.heap.NoLimit) (hg : s.gens = #[]) (ha : s.heap.get? a = some { cls := .type "list", data := .seq vs.toArray }) (hi : PyProof.Rows.IntsAre vs ns) (hl : ns.length ≤ sizeLine) (hr : Room k theArd)
    (F : ∀ base : Heap, K.In base → base.Ns mainGlobals mg → FnG P w K mg base CX0 k fa fd [x] (spP K 1 C)) (bind : ∀ (s : Shared) (u : Value), BindsTo s fd ⟨[u], []⟩ [(x, u)]) (hC : C [.list (ns.map PyData.int)] (fun d => d = .bool true)) :
    codeAny (model P w) theArd (.call (.ref fa) ⟨[.ref a], []⟩) (fun r s' => r = .ok (.ret (.bool true)) ∧ PySem.OldK s.heap s'.heap ∧ s'.os = s.os ∧ PyProof.Rows.AllBare s'.gens) s := by
  obtain ⟨H, T⟩ := entry_of (P := P) (w := w) X ha hi hl
  -- an object of the heap that is not the script is not tracked
  have un : ∀ {b : Addr} {o : Obj}, s.heap.get? b = some o → (b = a → K.lookup a ≠ none) ∨ b ≠ a → H b = none := fun {b o} e n => by
    cases q : H b with
    | none => rfl
    | some u =>
      obtain ⟨z, _⟩ := T.frz b u q
      subst z
      rcases n with n | n
      · exact absurd (T.off u q) (n rfl)
      · exact absurd rfl n
  have K2 : K.In (hidT s.heap H) := fun b o e => by
    refine hidT_get (X b o e) (un (X b o e) ?_)
    by_cases z : b = a
    · exact .inl fun _ => by rw [← z, e]; simp
    · exact .inr z
  have dict : ∀ {b : Addr} {m : Str → Option Value}, s.heap.Ns b m → (hidT s.heap H).Ns b m := fun {b m} h => by
    obtain ⟨o, es, ep, e, d, r⟩ := h
    refine ⟨o, es, ep, hidT_get e (un e (.inr fun z => ?_)), d, r⟩
    rw [z, ha] at e
    cases e
    cases d
  have md : Mod K mg (hidT s.heap H) := ⟨K2, dict hm, ⟨mb, dict hb, hbb⟩, by obtain ⟨mc, h1, h2⟩ := lim; exact ⟨mc, dict h1, h2⟩⟩
  have e0 : Env0 P w K mg (hidT s.heap H) theArd [] s H := by
    refine ⟨rfl, md, fun b o e => of_hidT e, Nat.le_of_eq (hidT_size _ _), trivial, ?_, T.hok, .of_eq hg⟩
    intro b m
    exact absurd (show b ∈ ([] : List Addr) from m) (by simp)
  have sp : spP K 1 C [.ref a] H (fun v _ => v = .bl true) E0 := by
    refine ⟨fun _ => (0, none), [.list (ns.map PyData.int)], _, rfl, ⟨fun b e => absurd rfl e, fun b o e => by cases e⟩, .cons (.lst (sqL_up (fun b o e => msk_of e rfl) T.sq) ?_) .nil, hC, fun d hd v H' _ z => ?_⟩
    · have all : ∀ l : List Int, DzAll K (msk (fun _ => (0, none)) H) (l.map V.int) (l.map PyData.int) := fun l => by
        induction l with
        | nil => exact .nil
        | cons n l ih => exact .cons (.int n) ih
      exact all ns
    · subst hd
      cases z
      rfl
  refine codeAny_mono ((F _ K2 (dict hm)).go theArd [] s H ⟨[.ref a], []⟩ [.ref a] [.ref a] _ E0 rfl hr e0 (bind s _) (.cons rfl .nil) sp) fun r s' h => ?_
  cases r with
  | error e => exact h.elim
  | ok fl => cases fl with
    | next => exact h.elim
    | brk => exact h.elim
    | cont => exact h.elim
    | ret u =>
      obtain ⟨v, H', os, bare, cur, hok', rv, q⟩ := h
      subst q
      cases rv
      refine ⟨rfl, PySem.OldK.of_keep fun b o e => ?_, os, bare⟩
      cases q : H b with
      | none => exact cur.keep b o e q (by intro z; exact absurd (show b ∈ ([] : List Addr) from z) (by simp)) (by simp)
      | some u =>
        obtain ⟨_, ob, v, z⟩ := T.frz b u q
        subst z
        have g1 := (T.hok b _ q).1
        have g2 := (hok' b _ (cur.frzs b ob v q)).1
        rw [e] at g1
        cases g1
        exact g2
/-- the goal of the head, from the law's promise over data -/
theorem walkG {l : PySem.W.OpenLaw} {k : Nat} {q : Program} {loose : List Str} {XP : (Str → Option Value) → Heap → Prop} {YP : World → Heap → Prop} {d : PySem.DefRec} {K : PySem.Params → PySem.W.Frag} {x : Str} {C : Cp}
    (hn : l.most = some 63) (hdf : d.params.defaults = []) (hr : Room k theArd) (hY : ∀ (w : World) (h : Heap), YP w h → (K w.params).In h)
    (F : ∀ (w : World) (mg : Str → Option Value) (fa : Addr) (h : Heap), (K w.params).In h → h.Ns mainGlobals mg → mg d.name = some (.ref fa) →
      ∃ fd : FuncData, (∀ (s : Shared) (u : Value), BindsTo s fd ⟨[u], []⟩ [(x, u)]) ∧ ∀ base : Heap, (K w.params).In base → base.Ns mainGlobals mg → FnG l.prog w (K w.params) mg base CX0 k fa fd [x] (spP (K w.params) 1 C))
    (hC : ∀ ns : List Int, ns.length ≤ 63 → C [.list (ns.map PyData.int)] (fun d => d = .bool true)) : PySem.W.WalkO q loose XP YP l.row.toRowW d [] (fun f vs => PySem.call f vs) := by
  refine Att.attach_call hn hdf ?_
  intro w s0 s1 mg mb fa o pm cd doc a vs ns G Y ho hd hcd hmg hobj hints hlen hg
  have X := hY w _ Y
  obtain ⟨fd, hb, hF⟩ := F w mg fa _ X G.T.g hmg
  exact law_run X G.T.g G.T.b G.T.builtins G.T.nolimit hg hobj hints (Nat.le_trans hlen (by decide)) hr hF hb (hC ns hlen)
end Z

set_option Elab.async false
set_option linter.all false
set_option maxRecDepth 100000
namespace Z
open PySem L2
/-! ## 13. constants of the module, keywords, powers -/
structure Gc (K : PySem.W.Frag) (mg : Str → Option Value) (x : Str) (d : PyData) : Prop where
  ex : ∃ v u, mg x = some u ∧ RelV v u ∧ ∀ H, Dz K H v d
theorem gc_tup {K : PySem.W.Frag} {mg : Str → Option Value} {x : Str} {a : Addr} {od : Option Addr} {its : Array Value} {n : Nat} {sl : Array (Option Value)} {vs : List V} {ds : List PyData} (h : mg x = some (.ref a)) (hl : K.lookup a = some ⟨.type "tuple", od, .seq its n, sl⟩)
    (hz : its.size ≤ 1000) (hd : ∀ H, DzAll K H vs ds) (hv : Vals vs its.toList) : Gc K mg x (.tuple ds) := ⟨.ref a, .ref a, h, rfl, fun H => .tup (.inr ⟨_, its, n, hl, rfl, rfl, line_of hz, hv⟩) (hd H)⟩
theorem gc_int {K : PySem.W.Frag} {mg : Str → Option Value} {x : Str} {i : Int} {t : Tok} (h : mg x = some (.int i t)) : Gc K mg x (.int i) := ⟨.int i, _, h, ⟨t, rfl⟩, fun _ => .int i⟩
theorem de_gc {X : Cx} {c : Cf} {x : Str} {d : PyData} {pos : Pos} (g : Gc X.K X.mg x d) (hg : Gl X x) (h2 : (x == ("__debug__" : Str)) = false := by decide) : DE X c (.Name x pos) (dLit d) := by
  obtain ⟨v, u, hm, r, hd⟩ := g.ex
  exact de_lit (pe_glob hg hm r h2) hd
theorem kb_of {K : PySem.W.Frag} {x qual : Str} {st : Stmt} {f : Addr} {fd : FuncData} {ps : List Str} (F : Fun K x qual st f fd)
    (h : ∀ (kV doc pm : Value) (an : Option Addr) (cdv ct : Value) (us : List Value), us.length = ps.length → bindArgs (PySem.W.fnOf x qual (defArgs st) (defBody st) (defScope st) .none kV doc pm an cdv ct) ⟨[], ps.zip us⟩ = pure (ps.zip us)) : KBn K fd ps 0 ps (fun _ ws => ws) (fun _ zs => zs) := by
  obtain ⟨oc, od, kV, doc, pm, an, cdv, ct, osl, rfl, lk, hcd⟩ := F.ex
  exact ⟨fun s us ws _ l0 l => by
    have e : us = [] := List.length_eq_zero_iff.mp l0
    subst e
    exact .of_eq (h kV doc pm an cdv ct ws l), fun _ r => r⟩
def powC (i j : Int) : Prop := 0 ≤ j ∧ j ≤ 1000000 ∧ i.natAbs < 2 ^ 64
abbrev fPow := fII powC fun i j => .int (i ^ j.toNat)
theorem de_pow {X : Cx} {c : Cf} {a b : Expr} {wa wb : Wx} {pos : Pos} (ha : DE X c a wa) (hb : DE X c b wb) : DE X c (.BinOp a .Pow b pos) (dOp fPow wa wb) := de_op op_pow (rz_ii (fun _ _ h => h) fun _ _ _ => .int _) ha hb
/-! ## 14. how wide numbers are -/
class Sz (n : outParam Nat) (x : Int) : Prop where
  lt : x.natAbs < 2 ^ n
theorem szAddMax {n m k : Nat} {x y : Int} (a : Sz n x) (b : Sz m y) (h1 : n ≤ k) (h2 : m ≤ k) : (x + y).natAbs < 2 ^ (k + 1) := by
  have h3 : 2 ^ n ≤ 2 ^ k := Nat.pow_le_pow_right (by decide) h1
  have h4 : 2 ^ m ≤ 2 ^ k := Nat.pow_le_pow_right (by decide) h2
  have h5 := a.lt
  have h6 := b.lt
  have h7 : (x + y).natAbs ≤ x.natAbs + y.natAbs := Int.natAbs_add_le x y
  rw [Nat.pow_succ]
  omega
instance sz_add {n m : Nat} {x y : Int} [a : Sz n x] [b : Sz m y] : Sz (max n m + 1) (x + y) := ⟨szAddMax a b (Nat.le_max_left ..) (Nat.le_max_right ..)⟩
instance sz_neg {n : Nat} {x : Int} [a : Sz n x] : Sz n (-x) := ⟨by rw [Int.natAbs_neg]; exact a.lt⟩
instance sz_sub {n m : Nat} {x y : Int} [a : Sz n x] [b : Sz m y] : Sz (max n m + 1) (x - y) := ⟨by
  rw [Int.sub_eq_add_neg]
  exact (sz_add (x := x) (y := -y)).lt⟩
instance sz_mul {n m : Nat} {x y : Int} [a : Sz n x] [b : Sz m y] : Sz (n + m) (x * y) := ⟨by
  rw [Int.natAbs_mul, Nat.pow_add]
  exact Nat.mul_lt_mul'' a.lt b.lt⟩
instance sz_div {n : Nat} {x y : Int} [a : Sz n x] : Sz n (x / y) := ⟨Nat.lt_of_le_of_lt (by
  have h := Int.natAbs_ediv_le_natAbs x y
  exact h) a.lt⟩
theorem sz_lt {k : Nat} {x : Int} (h0 : 0 ≤ x) (h : x < (2 : Int) ^ k) : Sz k x := ⟨by
  have e : (x.natAbs : Int) = x := Int.natAbs_of_nonneg h0
  have z : ((2 ^ k : Nat) : Int) = (2 : Int) ^ k := by simp
  omega⟩
theorem sz_mod {x y : Int} {n : Nat} [a : Sz n y] (h : 0 < y) : Sz n (x % y) := ⟨Nat.lt_of_le_of_lt (by
  have h1 := Int.emod_nonneg x (Int.ne_of_gt h)
  have h2 := Int.emod_lt_of_pos x h
  omega) a.lt⟩
theorem Sz.log {n : Nat} {x : Int} (h : Sz n x) : x.natAbs.log2 ≤ n := by
  by_cases z : x.natAbs = 0
  · rw [z, Nat.log2_zero]; exact Nat.zero_le _
  · exact Nat.le_of_lt ((Nat.log2_lt z).mpr h.lt)
/-- small enough for every sum and product of a def -/
abbrev cap : Nat := 20000
abbrev Sm (x : Int) : Prop := Sz cap x
theorem szUp {n m : Nat} {x : Int} (h : Sz n x) (l : n ≤ m) : Sz m x := ⟨Nat.lt_of_lt_of_le h.lt (Nat.pow_le_pow_right (by decide) l)⟩
theorem mulC_of {n m : Nat} {x y : Int} (a : Sz n x) (b : Sz m y) (h : n + m < 1000000) : mulC x y := by
  have h1 := a.log
  have h2 := b.log
  unfold mulC
  omega
theorem divC_of {m : Nat} {x y : Int} (b : Sz m y) (h0 : 0 < y) (h : m < 9000) : divC x y := ⟨h0, by have := b.log; omega⟩
abbrev cp (a b : Int) : PyData := .tuple [.int a, .int b]
/-! ### a comprehension that makes one thing of each -/
theorem lc_map {i : Nat} {el : Wx} {f : PyData → PyData} : ∀ {ds acc : List PyData} {ev : Ev} {Q : List PyData → Ev → Prop}, ev[i]? = some none → acc.length + ds.length ≤ 1000 →
    (∀ d ∈ ds, ∀ R : PyData → Ev → Prop, R (f d) (ev.set i (some (.val d))) → el (ev.set i (some (.val d))) R) → Q (acc ++ ds.map f) ev → lcD [i] (gN i) dYes el ds acc ev Q
  | [], acc, ev, Q, _, l, _, q => by
    rw [List.map_nil, List.append_nil] at q
    exact ⟨l, q⟩
  | d :: ds, acc, ev, Q, e, l, h, q => by
    have g : ∀ P : Ev → Prop, gN i d ev P = P (ev.set i (some (.val d))) := fun P => by
      unfold gN
      rw [e]
    show gN i d ev _
    rw [g]
    have goal : el (ev.set i (some (.val d))) (fun y e3 => acc.length < 1000 ∧ lcD [i] (gN i) dYes el ds (acc ++ [y]) (wipeD e3 [i]) Q) := ?_
    · exact goal
    refine h d (List.mem_cons_self ..) _ ⟨by rw [List.length_cons] at l; omega, ?_⟩
    have back : wipeD (ev.set i (some (.val d))) [i] = ev := by
      show (ev.set i (some (.val d))).set i none = ev
      rw [List.set_set]
      apply List.ext_getElem?
      intro j
      by_cases z : i = j
      · subst z
        have hi : i < ev.length := by
          by_cases y : i < ev.length
          · exact y
          · rw [List.getElem?_eq_none (by omega)] at e; cases e
        rw [List.getElem?_set_self hi, e]
      · rw [List.getElem?_set_ne z]
    rw [back]
    refine lc_map e (by rw [List.length_append, List.length_cons, List.length_nil]; rw [List.length_cons] at l; omega) (fun d' m R r => h d' (List.mem_cons_of_mem _ m) R r) ?_
    rw [List.append_assoc]
    exact q
theorem fAll_of {ds : List PyData} {bs : List Bool} {R : PyData → Prop} (h : bools ds = some bs) (q : R (.bool (bs.all id))) : fAll [.list ds] R := by
  show (match bools ds with
    | some bs => R (.bool (bs.all id))
    | none => False)
  rw [h]
  exact q
theorem fAny_of {ds : List PyData} {bs : List Bool} {R : PyData → Prop} (h : bools ds = some bs) (q : R (.bool (bs.any id))) : fAny [.list ds] R := by
  show (match bools ds with
    | some bs => R (.bool (bs.any id))
    | none => False)
  rw [h]
  exact q
theorem atI_lt {α : Type} {xs : List α} {k : Int} (h0 : 0 ≤ k) (h : k < xs.length) : ∃ x ∈ xs, atI xs k = some x := by
  have l : k.toNat < xs.length := by omega
  refine ⟨xs[k.toNat], List.getElem_mem l, ?_⟩
  show (ixN xs.length k).bind _ = _
  unfold ixN
  rw [if_pos h0, if_pos h]
  exact List.getElem?_eq_getElem l
theorem fIx_tup {xs : List PyData} {k : Int} {x : PyData} {R : PyData → Prop} (h : atI xs k = some x) (q : R x) : fIx (.tuple xs) (.int k) R := by
  show (match atI xs k with
    | some d => R d
    | none => False)
  rw [h]
  exact q
theorem fIx_lst {xs : List PyData} {k : Int} {x : PyData} {R : PyData → Prop} (h : atI xs k = some x) (q : R x) : fIx (.list xs) (.int k) R := by
  show (match atI xs k with
    | some d => R d
    | none => False)
  rw [h]
  exact q
/-- a for by what holds between two turns -/
theorem foD_inv {g : Wg} {b : Ws} {E : Ed} (I : Ev → Prop) : ∀ {ds : List PyData} {ev : Ev}, (∀ d ∈ ds, ∀ (ev : Ev) (E' : Ed), I ev → (∀ ev', I ev' → E'.nx ev') → E'.ct = E'.nx → E'.rt = E.rt → E'.rl = E.rl → E'.bk = E.nx → g d ev fun e => b E' e) → I ev → (∀ ev', I ev' → E.nx ev') → foD g b ds E ev
  | [], ev, _, i, n => n ev i
  | d :: ds, ev, h, i, n => h d (List.mem_cons_self ..) ev _ i (fun ev' i' => foD_inv I (fun d' m => h d' (List.mem_cons_of_mem _ m)) i' n) rfl rfl rfl rfl
end Z

set_option Elab.async false
set_option linter.all false
set_option maxRecDepth 100000
namespace Z
open PySem L2
/-! ## 15. how long what is shown of a datum is -/
theorem sOk_app (x y : Str) : PyData.strOk (x ++ y) = (PyData.strOk x && PyData.strOk y) := by
  show (x.cps ++ y.cps).all (· < 0x110000) = _
  rw [Array.all_append]
  rfl
theorem sOk_join {s : Str} (h : PyData.strOk s = true) : ∀ ts : List Str, ts.all PyData.strOk = true → PyData.strOk (Str.join s ts) = true
  | [], _ => show PyData.strOk Str.empty = true by decide +kernel
  | [x], h1 => by
    rw [List.all_cons, Bool.and_eq_true] at h1
    exact h1.1
  | x :: y :: ts, h1 => by
    rw [List.all_cons, Bool.and_eq_true] at h1
    show PyData.strOk (x ++ s ++ Str.join s (y :: ts)) = true
    rw [sOk_app, sOk_app, h1.1, h, sOk_join h (y :: ts) h1.2]
    rfl
class Sh (w n k : outParam Nat) (d : PyData) : Prop where
  ok : w ≤ 1900 → d.showable = true
  len : d.shown.length ≤ n
  dep : d.depth ≤ k
  nd : d.hasDict = false
  tx : PyData.strOk d.shown = true
class ShA (w n k : outParam Nat) (ds : List PyData) : Prop where
  ok : w ≤ 1900 → PyData.showableAll ds = true
  len : ((PyData.shownAll ds).map (·.length)).sum + 2 * (PyData.shownAll ds).length ≤ n
  dep : PyData.depthAll ds ≤ k
  nd : PyData.hasDictAll ds = false
  tx : (PyData.shownAll ds).all PyData.strOk = true
instance sh_int {m : Nat} {i : Int} [a : Sz m i] : Sh m (m + 2) 0 (.int i) := ⟨fun h => by
  have := a.log
  simp only [PyData.showable, decide_eq_true_eq]
  omega, by
  have := a.log
  rw [PyData.shown_int, PySem.ofString_length]
  exact PySem.int_text_length_le (k := m + 1) (Nat.succ_pos m) (by omega), Nat.le_refl 0, by simp only [PyData.hasDict], by
  unfold PyData.strOk
  rw [← Array.all_toList, List.all_eq_true]
  intro k hk
  by_cases z : k ≠ 45 ∧ (k < 48 ∨ 57 < k)
  · exact absurd hk (PyProof.Rows.shown_int_free' z i)
  · exact decide_eq_true (by omega)⟩
instance sh_none : Sh 0 4 0 .none := ⟨fun _ => by simp only [PyData.showable], by simp only [PyData.shown]; decide, Nat.le_refl 0, by simp only [PyData.hasDict], by simp only [PyData.shown]; decide +kernel⟩
instance sh_bool {b : Bool} : Sh 0 5 0 (.bool b) := ⟨fun _ => by simp only [PyData.showable], by simp only [PyData.shown]; cases b <;> decide, Nat.le_refl 0, by simp only [PyData.hasDict], by simp only [PyData.shown]; cases b <;> decide +kernel⟩
instance sha_nil : ShA 0 0 0 [] := ⟨fun _ => by simp only [PyData.showableAll], by simp only [PyData.shownAll]; decide, Nat.le_refl 0, by simp only [PyData.hasDictAll], rfl⟩
instance sha_cons {w n k w' n' k' : Nat} {d : PyData} {ds : List PyData} [a : Sh w n k d] [b : ShA w' n' k' ds] : ShA (max w w') (n + 2 + n') (max k k') (d :: ds) := ⟨fun h => by
  simp only [PyData.showableAll, a.ok (by omega), b.ok (by omega), Bool.and_self], by
  have h1 := a.len
  have h2 := b.len
  simp only [PyData.shownAll, List.map_cons, List.sum_cons, List.length_cons]
  omega, by
  have h1 := a.dep
  have h2 := b.dep
  simp only [PyData.depthAll]
  omega, by simp only [PyData.hasDictAll, a.nd, b.nd, Bool.or_self], by simp only [PyData.shownAll, List.all_cons, a.tx, b.tx, Bool.and_self]⟩
instance sha_app {w n k w' n' k' : Nat} {ds es : List PyData} [a : ShA w n k ds] [b : ShA w' n' k' es] : ShA (max w w') (n + n') (max k k') (ds ++ es) := by
  induction ds generalizing w n k with
  | nil => exact ⟨fun h => b.ok (by omega), Nat.le_trans b.len (Nat.le_add_left ..), Nat.le_trans b.dep (Nat.le_max_right ..), b.nd, b.tx⟩
  | cons d ds ih =>
    have al := a.len
    have ad := a.dep
    have an := a.nd
    have at' := a.tx
    simp only [PyData.shownAll, List.map_cons, List.sum_cons, List.length_cons] at al
    simp only [PyData.depthAll] at ad
    simp only [PyData.hasDictAll, Bool.or_eq_false_iff] at an
    simp only [PyData.shownAll, List.all_cons, Bool.and_eq_true] at at'
    have i := ih (w := w) (n := n - (d.shown.length + 2)) (k := k) (a := ⟨fun h => by
      have := a.ok h
      simp only [PyData.showableAll, Bool.and_eq_true] at this
      exact this.2, by omega, by omega, an.2, at'.2⟩)
    refine ⟨fun h => ?_, ?_, ?_, ?_, ?_⟩
    · have h1 := a.ok (by omega)
      simp only [PyData.showableAll, Bool.and_eq_true] at h1
      show PyData.showableAll (d :: (ds ++ es)) = true
      simp only [PyData.showableAll, h1.1, i.ok h, Bool.and_self]
    · have := i.len
      show (((PyData.shownAll (d :: (ds ++ es))).map (·.length)).sum + 2 * (PyData.shownAll (d :: (ds ++ es))).length) ≤ _
      simp only [PyData.shownAll, List.map_cons, List.sum_cons, List.length_cons]
      omega
    · have := i.dep
      show PyData.depthAll (d :: (ds ++ es)) ≤ _
      simp only [PyData.depthAll]
      omega
    · show PyData.hasDictAll (d :: (ds ++ es)) = false
      simp only [PyData.hasDictAll, an.1, i.nd, Bool.or_self]
    · show (PyData.shownAll (d :: (ds ++ es))).all PyData.strOk = true
      simp only [PyData.shownAll, List.all_cons, at'.1, i.tx, Bool.and_self]
instance sh_tup {w n k : Nat} {ds : List PyData} [a : ShA w n k ds] : Sh w (n + 3) (k + 1) (.tuple ds) := ⟨fun h => by simp only [PyData.showable]; exact a.ok h, by
  have h1 := a.len
  have h2 := tupleText_len_le (PyData.shownAll ds)
  simp only [PyData.shown]
  omega, by simp only [PyData.depth]; exact Nat.succ_le_succ a.dep, by simp only [PyData.hasDict]; exact a.nd, by
  rw [PyData.shown_tuple, sOk_app, sOk_app, sOk_join (by decide +kernel) _ a.tx]
  split <;> decide +kernel⟩
instance sh_lst {w n k : Nat} {ds : List PyData} [a : ShA w n k ds] : Sh w (n + 3) (k + 1) (.list ds) := ⟨fun h => by simp only [PyData.showable]; exact a.ok h, by
  have h1 := a.len
  have h2 := listText_len_le (PyData.shownAll ds)
  simp only [PyData.shown]
  omega, by simp only [PyData.depth]; exact Nat.succ_le_succ a.dep, by simp only [PyData.hasDict]; exact a.nd, by
  rw [PyData.shown_list, sOk_app, sOk_app, sOk_join (by decide +kernel) _ a.tx]
  decide +kernel⟩
theorem shp_shown {w n k : Nat} {d : PyData} (a : Sh w n k d) : shp (.str d.shown) := by
  unfold shp SeqAt.shaped
  rw [show PyData.canLay0 (.str d.shown) = true by simp only [PyData.canLay0]; exact a.tx]
  rfl
theorem RP_of {w n k : Nat} {d : PyData} {P : Prop} (a : Sh w n k d) (h : w ≤ 1900) (h1 : n ≤ 10000000) (h2 : k ≤ 100) (q : P) : RP d P := ⟨⟨a.ok h, by have := a.len; rw [sizeLine_eq]; omega, Nat.le_trans a.dep h2, a.nd⟩, q⟩
theorem shp_strs {ds : List PyData} (h : ∀ d ∈ ds, ∃ x, d = .str x ∧ PyData.strOk x = true) : shp (.list ds) := by
  have a : ∀ ds : List PyData, (∀ d ∈ ds, ∃ x, d = .str x ∧ PyData.strOk x = true) → PyData.canLayAll0 ds = true ∧ PyData.depthAll ds = 0 := by
    intro ds
    induction ds with
    | nil => intro _; exact ⟨by simp only [PyData.canLayAll0], by simp only [PyData.depthAll]⟩
    | cons d ds ih =>
      intro h
      obtain ⟨x, rfl, e⟩ := h d (List.mem_cons_self ..)
      obtain ⟨i1, i2⟩ := ih fun d m => h d (List.mem_cons_of_mem _ m)
      exact ⟨by simp only [PyData.canLayAll0, PyData.canLay0, e, i1, Bool.and_self], by simp only [PyData.depthAll, PyData.depth, i2]; rfl⟩
  obtain ⟨a1, a2⟩ := a ds h
  unfold shp SeqAt.shaped
  simp only [PyData.canLay0, PyData.depth, a1, a2]
  rfl
theorem eqv_int (a b : Int) : PyData.eqv (.int a) (.int b) = decide (a = b) := by
  have h : PyData.eqv (.int a) (.int b) = (a == b) := by simp [PyData.eqv]
  rw [h]
  by_cases z : a = b
  · subst z; simp
  · rw [decide_eq_false z]; exact beq_eq_false_iff_ne.mpr z
theorem eqv_cp (a b c d : Int) : PyData.eqv (cp a b) (cp c d) = decide (a = c ∧ b = d) := by
  have h : PyData.eqv (cp a b) (cp c d) = (PyData.eqv (.int a) (.int c) && PyData.eqv (.int b) (.int d)) := by simp [PyData.eqv, PyData.eqvAll]
  rw [h, eqv_int, eqv_int, Bool.decide_and]
theorem ite_b {x : Bool} {A B : Prop} (h1 : x = true → A) (h2 : x = false → B) : if x = true then A else B := by
  cases x
  · exact h2 rfl
  · exact h1 rfl
theorem ite_t {x : Bool} {A B : Prop} (e : x = true) (h : A) : if x = true then A else B := by rw [if_pos e]; exact h
theorem ite_f {x : Bool} {A B : Prop} (e : x = false) (h : B) : if x = true then A else B := by rw [if_neg (by rw [e]; decide)]; exact h
theorem rB {R : PyData → Prop} {x y : Bool} (q : R (.bool x)) (e : x = y) : R (.bool y) := e ▸ q
end Z

set_option Elab.async false
set_option linter.all false
set_option maxRecDepth 100000
namespace Z
open PySem L2
/-! ## 16. comparisons as tests -/
def Bl (f : PyData → PyData → (PyData → Prop) → Prop) : Prop := ∀ x y (Q : PyData → Prop), f x y Q → f x y fun d => (∃ b, d = .bool b) ∧ Q d
theorem bl_ii {p : Int → Int → Prop} {g : Int → Int → Bool} : Bl (fII p fun i j => .bool (g i j)) := fun x y Q h => by
  unfold fII at h ⊢
  split at h
  · exact ⟨h.1, ⟨_, rfl⟩, h.2⟩
  · exact h.elim
theorem bl_eq : Bl fEq := fun x y Q h => ⟨h.1, ⟨_, rfl⟩, h.2⟩
theorem bl_ne : Bl fNe := fun x y Q h => ⟨h.1, ⟨_, rfl⟩, h.2⟩
theorem bl_in : Bl fIn := fun x y Q h => by
  unfold fIn at h ⊢
  split at h
  · exact ⟨h.1, ⟨_, rfl⟩, h.2⟩
  · exact ⟨h.1, ⟨_, rfl⟩, h.2⟩
  · exact h.elim
theorem bl_nin : Bl fNin := fun x y Q h => by
  unfold fNin at h ⊢
  split at h
  · exact ⟨h.1, ⟨_, rfl⟩, h.2⟩
  · exact ⟨h.1, ⟨_, rfl⟩, h.2⟩
  · exact h.elim
theorem bl_is : Bl fIs := fun x y Q h => by
  unfold fIs at h ⊢
  split at h
  · exact ⟨⟨_, rfl⟩, h⟩
  · exact ⟨⟨_, rfl⟩, h⟩
  · exact h.elim
theorem bl_isn : Bl fIsN := fun x y Q h => by
  unfold fIsN at h ⊢
  split at h
  · exact ⟨⟨_, rfl⟩, h⟩
  · exact ⟨⟨_, rfl⟩, h⟩
  · exact h.elim
section
variable {X : Cx} {c : Cf} {a b : Expr} {wa wb : Wx} {pos : Pos}
theorem tst_rd {r : R2} {f} (h : RZ2 X.K r f) (B : Bl f) {a b : Wx} {σ : Sg} {H : Hp} {Q : Bool → Hp → Prop} (q : tT X.K c (dTru (dOp f a b)) σ H Q) : tTest (tOp r (tE X.K c a) (tE X.K c b)) σ H Q := by
  obtain ⟨M, ev, pd, R, k, w, q⟩ := q
  exact ⟨M, ev, pd, _, k, w, fun x e1 h1 v H1 k1 => ⟨M, e1, _, _, k1, h1, fun y e2 h2 u H2 k2 =>
    h c M σ H2 e2 pd v u x y _ _ k2.pop1.pop1 k2.pop1.top k2.top (B x y _ h2) fun d w' H' hd ok => by
      obtain ⟨⟨b, rfl⟩, _, hd⟩ := hd
      have t := ok.top
      cases t
      exact ⟨b, rfl, q b e2 hd H' ok.pop1⟩⟩⟩
theorem dt_cmp {op : CmpOp} {r : R2} {f} (ho : OpR X (compareOp op) r) (h : RZ2 X.K r f) (B : Bl f) (ha : DE X c a wa) (hb : DE X c b wb) (hm : behindInMarks op b = false) : DT X c (.Compare a [op] [b] pos) (dTru (dOp f wa wb)) :=
  ptM (pt_cmpR ho ha hb hm) fun _ _ _ q => tst_rd h B q
theorem dt_lt (ha : DE X c a wa) (hb : DE X c b wb) : DT X c (.Compare a [.Lt] [b] pos) (dTru (dOp fLt wa wb)) := dt_cmp op_lt (rz_ii0 fun _ _ _ => .bl _) bl_ii ha hb (nobehind b (by decide) (by decide))
theorem dt_le (ha : DE X c a wa) (hb : DE X c b wb) : DT X c (.Compare a [.LtE] [b] pos) (dTru (dOp fLe wa wb)) := dt_cmp op_le (rz_ii0 fun _ _ _ => .bl _) bl_ii ha hb (nobehind b (by decide) (by decide))
theorem dt_gt (ha : DE X c a wa) (hb : DE X c b wb) : DT X c (.Compare a [.Gt] [b] pos) (dTru (dOp fGt wa wb)) := dt_cmp op_gt (rz_ii0 fun _ _ _ => .bl _) bl_ii ha hb (nobehind b (by decide) (by decide))
theorem dt_ge (ha : DE X c a wa) (hb : DE X c b wb) : DT X c (.Compare a [.GtE] [b] pos) (dTru (dOp fGe wa wb)) := dt_cmp op_ge (rz_ii0 fun _ _ _ => .bl _) bl_ii ha hb (nobehind b (by decide) (by decide))
variable {n : Nat}
theorem dt_eq (hr : Room n X.A) (ha : DE X c a wa) (hb : DE X c b wb) : DT X c (.Compare a [.Eq] [b] pos) (dTru (dOp fEq wa wb)) := dt_cmp (OpR.or op_eq (op_eqD hr.units)) rz_eq bl_eq ha hb (nobehind b (by decide) (by decide))
theorem dt_ne (hr : Room n X.A) (ha : DE X c a wa) (hb : DE X c b wb) : DT X c (.Compare a [.NotEq] [b] pos) (dTru (dOp fNe wa wb)) := dt_cmp (OpR.or op_ne (op_neD hr.units)) rz_ne bl_ne ha hb (nobehind b (by decide) (by decide))
theorem dt_in (hr : Room n X.A) (ha : DE X c a wa) (hb : DE X c b wb) (hm : behindInMarks .In b = false := by rfl) : DT X c (.Compare a [.In] [b] pos) (dTru (dOp fIn wa wb)) := dt_cmp (op_inQ (room65 hr)) rz_in bl_in ha hb hm
theorem dt_nin (hr : Room n X.A) (ha : DE X c a wa) (hb : DE X c b wb) (hm : behindInMarks .NotIn b = false := by rfl) : DT X c (.Compare a [.NotIn] [b] pos) (dTru (dOp fNin wa wb)) := dt_cmp (op_ninQ (room65 hr)) rz_nin bl_nin ha hb hm
theorem dt_is (ha : DE X c a wa) (hb : DE X c b wb) : DT X c (.Compare a [.Is] [b] pos) (dTru (dOp fIs wa wb)) := dt_cmp (OpR.or op_isBl op_isN) rz_is bl_is ha hb (nobehind b (by decide) (by decide))
theorem dt_isn (ha : DE X c a wa) (hb : DE X c b wb) : DT X c (.Compare a [.IsNot] [b] pos) (dTru (dOp fIsN wa wb)) := dt_cmp (OpR.or op_notBl op_notN) rz_isn bl_isn ha hb (nobehind b (by decide) (by decide))
end
/-! ## 17. three names at once -/
def wPar3 (i j l : Nat) (u : Wa) : Ws := fun E ev => u ev fun ds e => match ds with
  | [x, y, z] => gN i x e fun e1 => gN j y e1 fun e2 => gN l z e2 E.nx
  | _ => False
theorem ds_par3 {X : Cx} {c : Cf} {pos : Pos} {i j l : Nat} {x y z : Str} {a b d : Expr} {u : Wa} {px py pz pt : Pos} {kt k2 pt2} (hc : X.calm = true) (hN : X.N.Nodup) (hi : X.N[i]? = some x) (hj : X.N[j]? = some y) (hl : X.N[l]? = some z) (hij : i ≠ j) (hil : i ≠ l) (hjl : j ≠ l)
    (hx : X.env.scope.names.lookup x = some .local) (hy : X.env.scope.names.lookup y = some .local) (hz : X.env.scope.names.lookup z = some .local) (ha : DA X c [a, b, d] u)
    (hw : swappedStores [.Tuple [.Name x px, .Name y py, .Name z pz] kt pt] (.Tuple [a, b, d] k2 pt2) X.env = pure (some [x, y, z]))
    (hs : swapsWithSole [.Tuple [.Name x px, .Name y py, .Name z pz] kt pt] (.Tuple [a, b, d] k2 pt2) pos.line X.env = pure false := by rfl) :
    DS X c (.Assign [.Tuple [.Name x px, .Name y py, .Name z pz] kt pt] (.Tuple [a, b, d] k2 pt2) pos) (wPar3 i j l u) :=
  psM (ps_par3 hc hN hi hj hl hij hil hjl hx hy hz ha hw hs) fun De σ H ⟨M, ev, pd, R, k, h, f⟩ => ⟨M, ev, pd, _, k, h, fun ds e q vs H' k' r => by
    split at q
    · cases r with
      | cons r1 r2 =>
        cases r2 with
        | cons r2 r3 =>
          cases r3 with
          | cons r3 r4 =>
            cases r4
            obtain ⟨n1, w1⟩ := gN_of q
            obtain ⟨n2, w2⟩ := gN_of w1
            obtain ⟨n3, w3⟩ := gN_of w2
            exact ⟨_, _, _, rfl, f.nx _ w3 M _ H' (((k'.set n1 r1).set n2 r2).set n3 r3)⟩
    · exact q.elim⟩
end Z

set_option Elab.async false
set_option linter.all false
set_option maxRecDepth 100000
namespace Z
open PySem L2
/-! ## 18. numbers divided by their greatest common divisor -/
def gcF (s : Int) (us : List Int) : Int := us.foldl (fun g u => (Int.gcd g u : Int)) s
abbrev gcI (us : List Int) : Int := gcF 0 us
def rd (us : List Int) : List Int := us.map (· / gcI us)
theorem gcF_mul {k : Int} (hk : 0 ≤ k) : ∀ (us : List Int) (s : Int), gcF (k * s) (us.map (k * ·)) = k * gcF s us
  | [], s => rfl
  | u :: us, s => by
    show gcF (Int.gcd (k * s) (k * u) : Int) (us.map (k * ·)) = k * gcF (Int.gcd s u : Int) us
    have e : (Int.gcd (k * s) (k * u) : Int) = k * (Int.gcd s u : Int) := by
      rw [Int.gcd_mul_left, Int.natCast_mul, Int.natAbs_of_nonneg hk]
    rw [e]
    exact gcF_mul hk us _
theorem gcF_dvd : ∀ (us : List Int) (s : Int), gcF s us ∣ s ∧ ∀ u ∈ us, gcF s us ∣ u
  | [], s => ⟨Int.dvd_refl s, fun u h => by cases h⟩
  | u :: us, s => by
    obtain ⟨h1, h2⟩ := gcF_dvd us (Int.gcd s u : Int)
    refine ⟨Int.dvd_trans h1 (Int.gcd_dvd_left ..), fun v hv => ?_⟩
    rcases List.mem_cons.mp hv with e | hv
    · rw [e]; exact Int.dvd_trans h1 (Int.gcd_dvd_right ..)
    · exact h2 v hv
theorem gcF_nn : ∀ (us : List Int) (s : Int), 0 ≤ s → 0 ≤ gcF s us
  | [], s, h => h
  | u :: us, s, _ => gcF_nn us _ (Int.natCast_nonneg _)
theorem gcF_zero : ∀ us : List Int, (∀ u ∈ us, u = 0) → gcF 0 us = 0
  | [], _ => rfl
  | u :: us, h => by
    rw [h u (List.mem_cons_self ..)]
    exact gcF_zero us fun v hv => h v (List.mem_cons_of_mem _ hv)
theorem gc_nn (us : List Int) : 0 ≤ gcI us := gcF_nn us 0 (Int.le_refl 0)
theorem gc_ne {us : List Int} {u : Int} (h : u ∈ us) (n : u ≠ 0) : gcI us ≠ 0 := fun z => by
  have d := (gcF_dvd us 0).2 u h
  rw [show gcF 0 us = 0 from z] at d
  exact n (Int.zero_dvd.mp d)
theorem gc_pos {us : List Int} (h : gcI us ≠ 0) : 0 < gcI us := by have := gc_nn us; omega
theorem gc_mul {k : Int} (hk : 0 ≤ k) (us : List Int) : gcI (us.map (k * ·)) = k * gcI us := by
  have h := gcF_mul hk us 0
  rw [Int.mul_zero] at h
  exact h
theorem rd_scale {k : Int} (hk : 0 < k) (us : List Int) : rd (us.map (k * ·)) = rd us := by
  unfold rd
  rw [gc_mul (Int.le_of_lt hk), List.map_map]
  apply List.map_congr_left
  intro u _
  exact Int.mul_ediv_mul_of_pos u (gcI us) hk
theorem rd_prop {k l : Int} {us vs : List Int} (hk : 0 < k) (hl : 0 < l) (h : us.map (k * ·) = vs.map (l * ·)) : rd us = rd vs := by
  rw [← rd_scale hk us, h, rd_scale hl]
theorem rd_at {us : List Int} {u : Int} (h : u ∈ us) : gcI us * (u / gcI us) = u := Int.mul_ediv_cancel' ((gcF_dvd us 0).2 u h)
theorem rd_back (us : List Int) : (rd us).map (gcI us * ·) = us := by
  unfold rd
  rw [List.map_map]
  have : us.map ((gcI us * ·) ∘ (· / gcI us)) = us.map id := List.map_congr_left fun u hu => rd_at hu
  rw [this, List.map_id]
theorem gc_rd {us : List Int} (h : gcI us ≠ 0) : gcI (rd us) = 1 := by
  have e := gc_mul (gc_nn us) (rd us)
  rw [rd_back us] at e
  have p := gc_pos h
  have e2 : gcI us * 1 = gcI us * gcI (rd us) := by rw [Int.mul_one]; exact e
  exact (Int.eq_of_mul_eq_mul_left (Int.ne_of_gt p) e2).symm
theorem rd_self {us : List Int} (h : gcI us = 1) : rd us = us := by
  unfold rd
  rw [h]
  have : us.map (· / (1 : Int)) = us.map id := List.map_congr_left fun u _ => Int.ediv_one u
  rw [this, List.map_id]
theorem rd_sz {n : Nat} {us : List Int} (h : ∀ u ∈ us, Sz n u) : ∀ u ∈ rd us, Sz n u := fun u hu => by
  unfold rd at hu
  obtain ⟨v, hv, rfl⟩ := List.mem_map.mp hu
  exact sz_div (a := h v hv)
theorem gc_sz {n : Nat} {us : List Int} (h : ∀ u ∈ us, Sz n u) (z : gcI us ≠ 0) : Sz n (gcI us) := by
  by_cases a : ∃ u ∈ us, u ≠ 0
  · obtain ⟨u, hu, hn⟩ := a
    have d := (gcF_dvd us 0).2 u hu
    refine ⟨Nat.lt_of_le_of_lt ?_ (h u hu).lt⟩
    exact Nat.le_of_dvd (by omega) (Int.natAbs_dvd_natAbs.mpr d)
  · exact absurd (gcF_zero us fun u hu => Classical.byContradiction fun n => a ⟨u, hu, n⟩) z
theorem gc_divC {n : Nat} {us : List Int} (h : ∀ u ∈ us, Sz n u) (l : n < 9000) (z : gcI us ≠ 0) (x : Int) : divC x (gcI us) := divC_of (gc_sz h z) (gc_pos z) l
/-- a walk over whole numbers that gathers -/
theorem foD_fold {g : Wg} {b : Ws} {E : Ed} (I : Int → Ev → Prop) (st : Int → Int → Int) : ∀ {us : List Int} {s : Int} {ev : Ev}, (∀ (u s : Int) (ev : Ev) (E' : Ed), I s ev → (∀ ev', I (st s u) ev' → E'.nx ev') → g (.int u) ev fun e => b E' e) → I s ev → (∀ ev', I (us.foldl st s) ev' → E.nx ev') → foD g b (us.map .int) E ev
  | [], s, ev, _, i, n => n ev i
  | u :: us, s, ev, h, i, n => h u s ev _ i fun ev' i' => foD_fold I st h i' n
theorem rd_of {us vs L : List Int} (k l : Int) (hk : 0 < k) (hl : 0 < l) (h : us.map (k * ·) = vs.map (l * ·)) (e : rd vs = L) : rd us = L := (rd_prop hk hl h).trans e
theorem rd_of3 {a b c x y z : Int} {L : List Int} (k l : Int) (hk : 0 < k) (hl : 0 < l) (h1 : k * a = l * x) (h2 : k * b = l * y) (h3 : k * c = l * z) (e : rd [x, y, z] = L) : rd [a, b, c] = L :=
  rd_of k l hk hl (by show [k * a, k * b, k * c] = [l * x, l * y, l * z]; rw [h1, h2, h3]) e
theorem rd_of2 {a b x y : Int} {L : List Int} (k l : Int) (hk : 0 < k) (hl : 0 < l) (h1 : k * a = l * x) (h2 : k * b = l * y) (e : rd [x, y] = L) : rd [a, b] = L :=
  rd_of k l hk hl (by show [k * a, k * b] = [l * x, l * y]; rw [h1, h2]) e
abbrev pl (a b c : Int) : PyData := .tuple [.int a, .int b, .int c]
/-- a place that is not far -/
structure Rt (n : Nat) (a b r : Int) : Prop where
  one : gcI [a, b, r] = 1
  pos : 0 < r
  sa : Sz n a
  sb : Sz n b
  sr : Sz n r
theorem Rt.up {n m : Nat} {a b r : Int} (h : Rt n a b r) (l : n ≤ m) : Rt m a b r := ⟨h.one, h.pos, szUp h.sa l, szUp h.sb l, szUp h.sr l⟩
theorem Rt.self {n : Nat} {a b r : Int} (h : Rt n a b r) : rd [a, b, r] = [a, b, r] := rd_self h.one
theorem gc3_ne {a b c : Int} (h : 0 < c) : gcI [a, b, c] ≠ 0 := gc_ne (u := c) (by simp) (Int.ne_of_gt h)
theorem gc2_ne {a c : Int} (h : 0 < c) : gcI [a, c] ≠ 0 := gc_ne (u := c) (by simp) (Int.ne_of_gt h)
theorem pos_of_mul {g z c : Int} (hg : 0 < g) (h : g * z = c) (hc : 0 < c) : 0 < z := by
  rcases Int.lt_trichotomy z 0 with y | y | y
  · have := Int.mul_neg_of_pos_of_neg hg y
    omega
  · rw [y, Int.mul_zero] at h
    omega
  · exact y
theorem rd3 {n : Nat} {A B C : Int} (hA : Sz n A) (hB : Sz n B) (hC : Sz n C) (h : 0 < C) : ∃ x y z g, rd [A, B, C] = [x, y, z] ∧ Rt n x y z ∧ 0 < g ∧ g * x = A ∧ g * y = B ∧ g * z = C := by
  have ne := gc3_ne (a := A) (b := B) h
  have e3 : gcI [A, B, C] * (C / gcI [A, B, C]) = C := rd_at (by simp)
  exact ⟨A / gcI [A, B, C], B / gcI [A, B, C], C / gcI [A, B, C], gcI [A, B, C], rfl, ⟨gc_rd ne, pos_of_mul (gc_pos ne) e3 h, inferInstance, inferInstance, inferInstance⟩, gc_pos ne, rd_at (by simp), rd_at (by simp), e3⟩
theorem rd2 {n : Nat} {A C : Int} (hA : Sz n A) (hC : Sz n C) (h : 0 < C) : ∃ x z g, rd [A, C] = [x, z] ∧ Sz n x ∧ Sz n z ∧ 0 < z ∧ 0 < g ∧ g * x = A ∧ g * z = C := by
  have ne := gc2_ne (a := A) h
  have e3 : gcI [A, C] * (C / gcI [A, C]) = C := rd_at (by simp)
  exact ⟨A / gcI [A, C], C / gcI [A, C], gcI [A, C], rfl, inferInstance, inferInstance, pos_of_mul (gc_pos ne) e3 h, gc_pos ne, rd_at (by simp), e3⟩
theorem eqv_pl (a b c x y z : Int) : PyData.eqv (pl a b c) (pl x y z) = decide (a = x ∧ b = y ∧ c = z) := by
  have h : PyData.eqv (pl a b c) (pl x y z) = (PyData.eqv (.int a) (.int x) && (PyData.eqv (.int b) (.int y) && PyData.eqv (.int c) (.int z))) := by simp [PyData.eqv, PyData.eqvAll]
  rw [h, eqv_int, eqv_int, eqv_int, Bool.decide_and, Bool.decide_and]
theorem Rt.unit {n : Nat} {a b r : Int} (h : Rt n a b r) (ha : a = 0) (hb : b = 0) : r = 1 := by
  have e := h.one
  rw [ha, hb] at e
  have e2 : ((Int.gcd 0 r : Nat) : Int) = 1 := e
  rw [Int.gcd_zero_left] at e2
  have := h.pos
  omega
theorem all3 {n : Nat} {a b c : Int} (ha : Sz n a) (hb : Sz n b) (hc : Sz n c) : ∀ u ∈ [a, b, c], Sz n u := fun u hu => by
  simp only [List.mem_cons, List.not_mem_nil, or_false] at hu
  rcases hu with rfl | rfl | rfl <;> assumption
theorem all2 {n : Nat} {a c : Int} (ha : Sz n a) (hc : Sz n c) : ∀ u ∈ [a, c], Sz n u := fun u hu => by
  simp only [List.mem_cons, List.not_mem_nil, or_false] at hu
  rcases hu with rfl | rfl <;> assumption
theorem ne_sq {c d : Int} (h : ¬(c = 0 ∧ d = 0)) : 0 < c * c + d * d := by
  have sq : ∀ x : Int, 0 ≤ x * x ∧ (x ≠ 0 → 0 < x * x) := fun x => by
    rcases Int.lt_trichotomy x 0 with y | y | y
    · have := Int.mul_pos_of_neg_of_neg y y
      exact ⟨by omega, fun _ => this⟩
    · subst y; exact ⟨by decide, fun n => absurd rfl n⟩
    · have := Int.mul_pos y y
      exact ⟨by omega, fun _ => this⟩
  have h1 := sq c
  have h2 := sq d
  by_cases z : c = 0
  · have := h2.2 (fun y => h ⟨z, y⟩)
    omega
  · have := h1.2 z
    omega
abbrev tup (us : List Int) : PyData := .tuple (us.map .int)
end Z

set_option Elab.async false
set_option linter.all false
set_option maxRecDepth 100000
namespace Z
open PySem L2
/-! ## 19. roots, shifts of 1, ranges downwards -/
def rIsqrt : List V → Hp → VK → Prop := fun xs H Q => ∃ i, xs = [.int i] ∧ (0 ≤ i ∧ i.natAbs.log2 < 13000) ∧ Q (.int ((Float64.isqrt i.toNat : Nat) : Int)) H
theorem cr_isqrt {X : Cx} : CallR X (.builtin "math.isqrt") rIsqrt := by
  intro pins s σ H vs us Q I r h
  obtain ⟨a, rfl, ⟨h0, h1⟩, q⟩ := h
  cases r with
  | cons r1 r2 =>
    cases r2
    obtain ⟨t, rfl⟩ := r1
    have e : a.toNat = a.natAbs := by omega
    exact call_function_meets PySem.W.MGF.kind_isqrt PySem.W.MGF.plain_isqrt PySem.W.MGF.entry_isqrt (PySem.W.MGF.args_isqrt _) (PySem.W.mg_run_isqrt a t (by omega) (by rw [e]; omega) (by rw [e]; omega)).meets ⟨.int _, H, I.tok _, ⟨_, rfl⟩, q⟩
def fIsqrt : List PyData → (PyData → Prop) → Prop
  | [.int i], Q => (0 ≤ i ∧ i.natAbs.log2 < 13000) ∧ Q (.int ((Float64.isqrt i.toNat : Nat) : Int))
  | _, _ => False
theorem rz_isqrt {K : PySem.W.Frag} : RZc K rIsqrt fIsqrt := by
  intro c M σ H ev pd vs ds R Q k a w q
  unfold fIsqrt at w
  split at w
  · cases a with | cons a b => cases a; cases b; exact ⟨_, rfl, w.1, q _ _ _ w.2 (k.push (.int _))⟩
  · exact w.elim
section
variable {X : Cx} {c : Cf} {p pos : Pos} {e : Expr} {es : List Expr} {u : Wa}
theorem de_isqrt (hg : Gl X "isqrt") (hm : X.mg "isqrt" = some (.builtin "math.isqrt")) (ha : DA X c (e :: es) u) (h3 : starEach (e :: es) X.env = (false, eval e X.env) :: starEach es X.env := by rfl) (h4 : (backTo pos (starEach es X.env)).any (·.1) = false := by rfl) :
    DE X c (.Call (.Name "isqrt" p) (e :: es) [] pos) (dCal fIsqrt u) := de_cM cr_isqrt rz_isqrt hg hm ha (h3 := h3) (h4 := h4)
end
def shlC (i j : Int) : Prop := 0 ≤ j ∧ j ≤ 1000000 ∧ i.natAbs < 2 ^ 64
abbrev fShl := fII shlC fun i j => .int (i * 2 ^ j.toNat)
theorem de_shl {X : Cx} {c : Cf} {a b : Expr} {wa wb : Wx} {pos : Pos} (ha : DE X c a wa) (hb : DE X c b wb) : DE X c (.BinOp a .LShift b pos) (dOp fShl wa wb) := de_op op_shl (rz_ii (fun _ _ h => h) fun _ _ _ => .int _) ha hb
def rngU (hi : Int) (n : Nat) : List PyData := (List.range n).map fun i => .int (hi - (i : Nat))
def diR3 (u : Wa) : Wa := fun ev Q => u ev fun ds e => match ds with
  | [.int i, .int j, .int k] => (k = -1 ∧ -(2 ^ 62) ≤ i ∧ i < 2 ^ 62 ∧ -(2 ^ 62) ≤ j ∧ j < 2 ^ 62) ∧ Q (rngU i (i - j).toNat) e
  | _ => False
theorem rngU_get {lo : Int} {n i : Nat} {d : PyData} (h : (rngU lo n)[i]? = some d) : i < n ∧ d = .int (lo - (i : Nat)) := by
  unfold rngU at h
  rw [List.getElem?_map] at h
  obtain ⟨j, h1, h2⟩ := Option.map_eq_some_iff.mp h
  by_cases q : i < n
  · rw [List.getElem?_range q] at h1
    cases h1
    exact ⟨q, h2.symm⟩
  · rw [List.getElem?_eq_none (by simpa using q)] at h1
    cases h1
theorem walks_rngU {K : PySem.W.Frag} {lo : Int} {n : Nat} : Walks K (Itc lo (-1) n) [(.non, .none)] (rngU lo n) := by
  intro c M σ H ev pd i k
  refine ⟨fun l => (by have z : n ≤ i := by (simpa [rngU] using l)
                       exact z), fun d e => ?_⟩
  obtain ⟨q1, q2⟩ := rngU_get e
  refine ⟨q1, fun x H' y => ?_⟩
  obtain ⟨y1, y2⟩ := y
  subst y1
  subst y2
  subst q2
  have z : lo + (i : Nat) * (-1) = lo - (i : Nat) := by omega
  rw [z]
  exact ⟨k.push (.int _), fun _ _ q => q⟩
theorem di_rng3 {X : Cx} {c : Cf} {pos p : Pos} {tg : Expr} {a b d : Expr} {u : Wa} (hg : Gl X "range") (hm : X.mg "range" = none) (ha : DA X c [a, b, d] u) (h1 : starEach [a, b, d] X.env = (false, eval a X.env) :: starEach [b, d] X.env := by rfl) (h2 : (backTo pos (starEach [b, d] X.env)).any (·.1) = false := by rfl) :
    DI X c tg (.Call (.Name "range" p) [a, b, d] [] pos) (diR3 u) :=
  piM (pi_range3 hg hm ha h1 h2) fun σ H Q ⟨M, ev, pd, R, k, w, q⟩ => ⟨M, ev, pd, _, k, w, fun ds e y vs H1 k1 r => by
    split at y
    · cases r with
      | cons r1 r2 =>
        cases r2 with
        | cons r2 r3 =>
          cases r3 with
          | cons r3 r4 =>
            cases r1; cases r2; cases r3; cases r4
            obtain ⟨⟨rfl, y1, y2, y3, y4⟩, y5⟩ := y
            exact ⟨_, _, _, _, rfl, .neg y1 y2 y3 y4, q _ e y5 _ H1 _ (k1.push .non) walks_rngU⟩
    · exact y.elim⟩
end Z

set_option Elab.async false
set_option linter.all false
set_option maxRecDepth 100000
namespace Z
open PySem L2 RZ
/-! ## 20. zip of two tuples -/
def zipD (xs ys : List PyData) : List PyData := List.zipWith (fun a b => .tuple [a, b]) xs ys
def diZ (u : Wa) : Wa := fun ev Q => u ev fun ds e => match ds with
  | [.tuple xs, .tuple ys] => Q (zipD xs ys) e
  | _ => False
theorem zipD_get {xs ys : List PyData} {i : Nat} {d : PyData} (h : (zipD xs ys)[i]? = some d) : ∃ x y, xs[i]? = some x ∧ ys[i]? = some y ∧ d = .tuple [x, y] := by
  unfold zipD at h
  rw [List.getElem?_zipWith] at h
  split at h
  · rename_i x y h1 h2
    cases h
    exact ⟨x, y, h1, h2, rfl⟩
  · cases h
theorem walks_zip {K : PySem.W.Frag} {a b : Addr} {xs ys : List PyData} : Walks K (ItzT K a b) [(.ref a, .tuple xs), (.ref b, .tuple ys)] (zipD xs ys) := by
  intro c M σ H ev pd i k
  have t := k.top
  have t2 := k.pop1.top
  cases t with
  | tup h r =>
    rename_i vs
    cases t2 with
    | tup h2 r2 =>
      rename_i us
      refine ⟨fun l => ⟨vs, us, sqT_up msk_sub h, sqT_up msk_sub h2, ?_⟩, fun d e => ?_⟩
      · rw [r.len, r2.len]
        unfold zipD at l
        rw [List.length_zipWith] at l
        omega
      · obtain ⟨x, y, ex, ey, rfl⟩ := zipD_get e
        obtain ⟨v, e1, e2⟩ := r.get i ex
        obtain ⟨u, e3, e4⟩ := r2.get i ey
        refine ⟨⟨vs, us, v, u, sqT_up msk_sub h, sqT_up msk_sub h2, e1, e3⟩, fun w H' yl => ?_⟩
        obtain ⟨T, v', u', rfl, hT, rfl, z1, z2⟩ := yl
        have y1 := z1 vs (sqT_up msk_sub h)
        have y2 := z2 us (sqT_up msk_sub h2)
        rw [e1] at y1
        rw [e3] at y2
        cases y1
        cases y2
        refine ⟨k.newTup hT (.cons e2 (.cons e4 .nil)), fun b o q => ?_⟩
        have n : b ≠ T := fun z => by rw [z, hT] at q; cases q
        rw [upd_ne n]
        exact q
theorem di_zip {X : Cx} {c : Cf} {pos p tpos : Pos} {elts : List Expr} {kk : Nat} {a b : Expr} {u : Wa} (hg : Gl X "zip") (hm : X.mg "zip" = none) (ha : DA X c [a, b] u) (h1 : starEach [a, b] X.env = (false, eval a X.env) :: starEach [b] X.env := by rfl) (h2 : (backTo pos (starEach [b] X.env)).any (·.1) = false := by rfl) :
    DI X c (.Tuple elts kk tpos) (.Call (.Name "zip" p) [a, b] [] pos) (diZ u) :=
  piM (pi_zipA hg hm ha h1 h2) fun σ H Q ⟨M, ev, pd, R, k, w, q⟩ => ⟨M, ev, pd, _, k, w, fun ds e y vs H1 k1 r => by
    split at y
    · cases r with
      | cons r1 r2 =>
        cases r2 with
        | cons r2 r3 =>
          cases r3
          cases r1 with
          | tup g1 s1 =>
            cases r2 with
            | tup g2 s2 =>
              exact ⟨_, _, _, _, rfl, .inr ⟨sqT_up msk_sub g1, sqT_up msk_sub g2, q _ e y [_, _] H1 _ ((k1.push (.tup g2 s2)).push (.tup g1 s1)) walks_zip⟩⟩
    · exact y.elim⟩
end Z

set_option Elab.async false
set_option linter.all false
set_option maxRecDepth 100000
namespace Z
open PySem L2
/-! ## 21. which of two tuples of whole numbers comes later -/
def gtL : List Int → List Int → Bool
  | [], _ => false
  | _ :: _, [] => true
  | p :: ps, r :: rs => if p = r then gtL ps rs else decide (r < p)
theorem gtL_at : ∀ (k i : Nat) (ps rs : List Int), min ps.length rs.length = i + k →
    Ob.lexAt (fun j => decide (ps.getD j 0 = rs.getD j 0)) (fun j => decide (rs.getD j 0 < ps.getD j 0)) (decide (ps.length > rs.length)) i k = gtL (ps.drop i) (rs.drop i)
  | 0, i, ps, rs, h => by
    rw [Ob.lexAt_zero]
    by_cases z : ps.length ≤ rs.length
    · rw [decide_eq_false (by omega), List.drop_of_length_le (show ps.length ≤ i by omega)]
      rfl
    · have l : i < ps.length := by omega
      rw [decide_eq_true (by omega), List.drop_of_length_le (show rs.length ≤ i by omega), List.drop_eq_getElem_cons l]
      rfl
  | k + 1, i, ps, rs, h => by
    have l1 : i < ps.length := by omega
    have l2 : i < rs.length := by omega
    have g1 : ps.getD i 0 = ps[i] := by simp [l1]
    have g2 : rs.getD i 0 = rs[i] := by simp [l2]
    rw [Ob.lexAt_succ, List.drop_eq_getElem_cons l1, List.drop_eq_getElem_cons l2]
    show _ = if ps[i] = rs[i] then gtL _ _ else decide (rs[i] < ps[i])
    rw [g1, g2]
    by_cases z : ps[i] = rs[i]
    · rw [if_pos z, if_pos (decide_eq_true z)]
      exact gtL_at k (i + 1) ps rs (by omega)
    · rw [if_neg z, if_neg (by rw [decide_eq_false z]; decide)]
theorem op_gtQ {X : Cx} (few : X.A.units < cLine) : OpR X (compareOp .Gt) (fun v u H Q => ∃ (a b : Addr) (ps rs : List Int), v = .ref a ∧ u = .ref b ∧ SqT X.K H a (ps.map .int) ∧ SqT X.K H b (rs.map .int) ∧ Q (.bl (gtL ps rs)) H) := by
  intro pins s σ H v u v' u' Q I rv ru ⟨a, b, ps, rs, ev, eu, ta, tb, q⟩
  subst ev eu
  cases rv
  cases ru
  obtain ⟨xs, w1, t1, _⟩ := I.tuple ta
  obtain ⟨ys, w2, t2, _⟩ := I.tuple tb
  have n1 : PyProof.Rows.IntsAre xs ps := Vals.ints w1
  have n2 : PyProof.Rows.IntsAre ys rs := Vals.ints w2
  have c1 : xs.toArray.size = ps.length := by simpa using n1.length
  have c2 : ys.toArray.size = rs.length := by simpa using n2.length
  have f1 : ∀ k (g : k < xs.toArray.size), ∃ t, xs.toArray[k] = .int (ps.getD k 0) t := fun k g => PyProof.Rows.IntsAre.int_at n1 _ _ (by simp only [List.size_toArray] at g; simp [g])
  have f2 : ∀ k (g : k < ys.toArray.size), ∃ t, ys.toArray[k] = .int (rs.getD k 0) t := fun k g => PyProof.Rows.IntsAre.int_at n2 _ _ (by simp only [List.size_toArray] at g; simp [g])
  have run := Ob.RcOp.tuples_gt (A := X.A) (s := s) (e := fun k => decide (ps.getD k 0 = rs.getD k 0)) (r := fun k => decide (rs.getD k 0 < ps.getD k 0)) t1 t2 few (fun k g1 g2 => by
    obtain ⟨o, eo⟩ := f1 k g1
    obtain ⟨o', eo'⟩ := f2 k g2
    rw [eo, eo', show decide (ps.getD k 0 = rs.getD k 0) = (ps.getD k 0 == rs.getD k 0) from rfl]
    exact SeqAt.EqAt.int_int _ _ _ _) (fun k g1 g2 _ => by
    obtain ⟨o, eo⟩ := f1 k g1
    obtain ⟨o', eo'⟩ := f2 k g2
    rw [eo, eo']
    exact Ob.RcOp.gt_int _ _ _ _)
  rw [c1, c2, gtL_at (min ps.length rs.length) 0 ps rs (by omega)] at run
  exact run X.prog X.w X.xe (EP X pins σ Q) ⟨.bl (gtL ps rs), H, I, rfl, q⟩
def intsD : List PyData → Option (List Int)
  | [] => some []
  | .int i :: ds => (intsD ds).map (i :: ·)
  | _ => none
/-- > of whole numbers or of tuples of them -/
def fGtQ : PyData → PyData → (PyData → Prop) → Prop
  | .int i, .int j, Q => Q (.bool (decide (j < i)))
  | .tuple ds, .tuple es, Q => match intsD ds, intsD es with
    | some ps, some rs => Q (.bool (gtL ps rs))
    | _, _ => False
  | _, _, _ => False
theorem intsD_map {K : PySem.W.Frag} {H : Hp} : ∀ {ds : List PyData} {ps : List Int} {vs : List V}, intsD ds = some ps → DzAll K H vs ds → vs = ps.map V.int
  | [], ps, vs, h, r => by
    cases h
    cases r
    rfl
  | d :: ds, ps, vs, h, r => by
    cases r with
    | cons r1 r2 =>
      cases r1 with
      | int i =>
        obtain ⟨qs, e1, e2⟩ := Option.map_eq_some_iff.mp (show (intsD ds).map (i :: ·) = some ps from h)
        rw [intsD_map e1 r2, ← e2]
        rfl
      | _ => exact absurd h (by simp [intsD])
theorem rz_gtQ {K : PySem.W.Frag} : RZ2 K (fun x y H Q => rI0 (fun i j => .bl (decide (i > j))) x y H Q ∨ ∃ (a b : Addr) (ps rs : List Int), x = .ref a ∧ y = .ref b ∧ SqT K H a (ps.map .int) ∧ SqT K H b (rs.map .int) ∧ Q (.bl (gtL ps rs)) H) fGtQ := by
  intro c M σ H ev pd v u x y R Q k a b w q
  unfold fGtQ at w
  split at w
  · cases a
    cases b
    exact .inl ⟨_, _, rfl, rfl, q _ _ _ w (k.push (.bl _))⟩
  · split at w
    · rename_i ps rs e1 e2
      cases a with
      | tup g1 s1 =>
        cases b with
        | tup g2 s2 =>
          have f1 := intsD_map e1 s1
          have f2 := intsD_map e2 s2
          subst f1 f2
          exact .inr ⟨_, _, ps, rs, rfl, rfl, sqT_up msk_sub g1, sqT_up msk_sub g2, q _ _ _ w (k.push (.bl _))⟩
    · exact w.elim
  · exact w.elim
section
variable {X : Cx} {c : Cf} {a b : Expr} {wa wb : Wx} {pos : Pos} {n : Nat}
theorem bl_gtQ : Bl fGtQ := fun x y Q h => by
  unfold fGtQ at h ⊢
  split at h
  · exact ⟨⟨_, rfl⟩, h⟩
  · split at h
    · exact ⟨⟨_, rfl⟩, h⟩
    · exact h.elim
  · exact h.elim
theorem de_gtq (hr : Room n X.A) (ha : DE X c a wa) (hb : DE X c b wb) : DE X c (.Compare a [.Gt] [b] pos) (dOp fGtQ wa wb) := de_cmp (OpR.or op_gt (op_gtQ (by have := hr.units; omega))) rz_gtQ ha hb (nobehind b (by decide) (by decide))
theorem dt_gtq (hr : Room n X.A) (ha : DE X c a wa) (hb : DE X c b wb) : DT X c (.Compare a [.Gt] [b] pos) (dTru (dOp fGtQ wa wb)) := dt_cmp (OpR.or op_gt (op_gtQ (by have := hr.units; omega))) rz_gtQ bl_gtQ ha hb (nobehind b (by decide) (by decide))
end
end Z

set_option Elab.async false
set_option linter.all false
set_option maxRecDepth 100000
namespace Z
open PySem L2
/-! ## 22. a comprehension that keeps some -/
theorem set_back {ev : Ev} {i : Nat} {x : Option Sl} (e : ev[i]? = some none) : wipeD (ev.set i x) [i] = ev := by
  show (ev.set i x).set i none = ev
  rw [List.set_set]
  apply List.ext_getElem?
  intro j
  by_cases z : i = j
  · subst z
    have hi : i < ev.length := by
      by_cases y : i < ev.length
      · exact y
      · rw [List.getElem?_eq_none (by omega)] at e; cases e
    rw [List.getElem?_set_self hi, e]
  · rw [List.getElem?_set_ne z]
theorem lc_keep {i : Nat} {t : Wt} {el : Wx} {p : PyData → Bool} {f : PyData → PyData} : ∀ {ds acc : List PyData} {ev : Ev} {Q : List PyData → Ev → Prop}, ev[i]? = some none → acc.length + ds.length ≤ 1000 →
    (∀ d ∈ ds, ∀ R : Bool → Ev → Prop, R (p d) (ev.set i (some (.val d))) → t (ev.set i (some (.val d))) R) →
    (∀ d ∈ ds, p d = true → ∀ R : PyData → Ev → Prop, R (f d) (ev.set i (some (.val d))) → el (ev.set i (some (.val d))) R) → Q (acc ++ (ds.filter p).map f) ev → lcD [i] (gN i) t el ds acc ev Q
  | [], acc, ev, Q, _, l, _, _, q => by
    rw [List.filter_nil, List.map_nil, List.append_nil] at q
    exact ⟨l, q⟩
  | d :: ds, acc, ev, Q, e, l, ht, he, q => by
    rw [List.length_cons] at l
    have g : ∀ P : Ev → Prop, gN i d ev P = P (ev.set i (some (.val d))) := fun P => by
      unfold gN
      rw [e]
    show gN i d ev _
    rw [g]
    have back := set_back (x := some (.val d)) e
    refine ht d (List.mem_cons_self ..) (fun b e2 => if b = true then el e2 fun y e3 => acc.length < 1000 ∧ lcD [i] (gN i) t el ds (acc ++ [y]) (wipeD e3 [i]) Q else lcD [i] (gN i) t el ds acc (wipeD e2 [i]) Q) ?_
    have ht' := fun d' (m : d' ∈ ds) => ht d' (List.mem_cons_of_mem _ m)
    have he' := fun d' (m : d' ∈ ds) => he d' (List.mem_cons_of_mem _ m)
    by_cases z : p d = true
    · rw [if_pos z]
      rw [List.filter_cons_of_pos z, List.map_cons] at q
      refine he d (List.mem_cons_self ..) z _ ⟨by omega, ?_⟩
      rw [back]
      refine lc_keep e (by rw [List.length_append, List.length_cons, List.length_nil]; omega) ht' he' ?_
      rw [List.append_assoc]
      exact q
    · rw [if_neg z, back]
      rw [List.filter_cons_of_neg z] at q
      exact lc_keep e (by omega) ht' he' q
end Z

set_option Elab.async false
set_option linter.all false
set_option maxRecDepth 100000
namespace Z
open PySem L2
/-! ## 23. sorted(tuple, key=f), f a def of whole numbers -/
section
variable {prog : Program} {w : World} {A : Around} {E : Value → Shared → Prop} {s : Shared}
theorem gather_tup {p : Addr} {us : List Value} {Q : List Value → Shared → Prop} (ht : PyProof.Rows.IsTup s.heap p us.toArray) (hz : us.length ≤ sizeLine) (h : ∀ g, (∀ b o, s.heap.get? b = some o → g.get? b = some o) → Q us { s with heap := g }) : wpAny (model prog w) A (collect (.ref p)) Q E s := by
  obtain ⟨ob, hob, hcls, m, hdat⟩ := ht
  have kept : ∀ b o, s.heap.get? b = some o → ((s.heap.push (PyProof.Rows.seqObj "list" #[] 0)).update s.heap.objs.size (Obj.mapSeq (· ++ us.toArray))).get? b = some o := fun b o e => (Heap.get?_update_ne _ _ _ _ (Nat.ne_of_lt (Heap.lt_size e))).trans (Heap.get?_push_of_some _ e)
  have now : (s.heap.push (PyProof.Rows.seqObj "list" #[] 0)).get? p = some ob := Heap.get?_push_of_some _ hob
  have own0 : (s.heap.push (PyProof.Rows.seqObj "list" #[] 0)).get? s.heap.objs.size = some (PyProof.Rows.seqObj "list" #[] 0) := Heap.get?_push_size _ rfl
  unfold collect
  refine wpAny_bind (wpAny_runValue (codeAny_builtin PyProof.Rows.entry_proto_collect' ?_)); show wpAny _ _ (do again (.builtin "list.__iadd__" ⟨[← newList [], .ref p], []⟩)) _ _ s
  refine wpAny_bind (wpAny_newList (wpAny_pure ⟨Code.quiet_builtin _ (by decide +kernel), codeAny_builtin PyProof.Rows.entry_list_iadd' ?_⟩)); show wpAny _ _ (Builtin.List.listExtendWith (.ref s.heap.objs.size) (.ref p) (.ref s.heap.objs.size)) _ _ { s with heap := s.heap.push (PyProof.Rows.seqObj "list" #[] 0) }
  unfold Builtin.List.listExtendWith
  refine wpAny_bind (wpAny_typeOf (T := "tuple") ⟨ob, now, hcls⟩ ?_); rw [if_pos (by simp)]
  refine wpAny_bind (PyProof.Rows.listItems_at now hdat (wpAny_bind (PyProof.Rows.listItems_at own0 rfl ?_))); rw [if_neg (by simp)]
  refine wpAny_bind (PyProof.Rows.listUpdate_at own0 rfl (wpAny_pure ?_) (Nat.zero_le _) (by simp only [Array.size_append, List.size_toArray]; show 0 + us.length ≤ sizeLine + 1; omega))
  show wpAny (model prog w) A (do
      match (← load s.heap.objs.size).data with
      | .seq ys _ => pure ys.toList
      | _ => unsupported "internal:collect") Q E _
  refine wpAny_bind (wpAny_load (PyProof.Rows.get?_update_seq own0 _) ?_)
  have fin := h _ kept
  have e : us = ((#[] : Array Value) ++ us.toArray).toList := by simp
  rw [e] at fin
  simp only [← e] at fin
  show wpAny _ _ (pure ((#[] : Array Value) ++ us.toArray).toList) Q E _
  rw [← e]
  exact wpAny_pure fin
end
/-- a call f(x) of the key: a whole number, all that is tracked stays -/
def KeyRun (X : Cx) (f : Addr) (g : V → Int) (vs : List V) (H : Hp) : Prop := ∀ x ∈ vs, ∀ (u : Value) (pins : List (Addr × Obj)) (σ : Sg) (s : Shared) (H1 : Hp), RelV x u → (∀ b o, H b = some o → H1 b = some o) → Inv X pins σ H1 s →
  wpAny (model X.prog X.w) X.A.in1.in1 (call (.ref f) [u]) (fun r s' => ∃ H2 t, r = .int (g x) t ∧ (∀ b o, H1 b = some o → H2 b = some o) ∧ Inv X pins σ H2 s') (fun _ _ => False) s
def rSortK (X : Cx) : List V → List V → Hp → VK → Prop := fun xs zs H Q => ∃ (p f : Addr) (vs : List V) (g : V → Int), xs = [.ref p] ∧ zs = [.ref f] ∧ SqT X.K H p vs ∧ KeyRun X f g vs H ∧
  ∀ (ys : List V) (q : Addr) (H1 : Hp), ys.Perm vs → H q = none → (∀ b o, H b = some o → H1 b = some o) → H1 q = some (.lst ys) → Q (.ref q) H1
theorem each_of_vals : ∀ {xs : List V} {us : List Value}, Vals xs us → PySem.W.EachIs (fun u x => RelV x u) us xs
  | _, _, .nil => .nil
  | _, _, .cons a b => .cons a (each_of_vals b)
theorem vals_of_each : ∀ {xs : List V} {us : List Value}, PySem.W.EachIs (fun u x => RelV x u) us xs → Vals xs us
  | _, _, .nil => .nil
  | _, _, .cons a b => .cons a (vals_of_each b)
theorem keys_each {g : V → Int} : ∀ {us : List Value} {xs : List V}, PySem.W.EachIs (fun u x => ∃ t, u = Value.int (g x) t) us xs → ∀ h : Heap, PySem.W.EachIs (fun u d => ∃ as, PySem.Reads h u d as) us (xs.map fun x => PyData.int (g x))
  | _, _, .nil, _ => .nil
  | _, _, .cons a b, h => .cons (by obtain ⟨t, rfl⟩ := a; exact ⟨[], .int _ t⟩) (keys_each b h)
section
variable {X : Cx} {pins : List (Addr × Obj)} {σ : Sg} {H : Hp} {s : Shared} {Q : VK}
def hid1 (h : Heap) (b : Addr) : Heap := hidT h fun c => if c = b then some (.lst []) else none
theorem hid1_get {h : Heap} {b c : Addr} {o : Obj} (e : h.get? c = some o) (n : c ≠ b) : (hid1 h b).get? c = some o := hidT_get e (if_neg n)
theorem of_hid1 {h : Heap} {b c : Addr} {o : Obj} (e : (hid1 h b).get? c = some o) : h.get? c = some o ∧ c ≠ b := by
  obtain ⟨e1, e2⟩ := of_hidT e
  refine ⟨e1, fun z => ?_⟩
  rw [if_pos z] at e2
  cases e2
theorem hid1_none {h : Heap} {b : Addr} : (hid1 h b).get? b = none := by
  cases e : (hid1 h b).get? b with
  | none => rfl
  | some o => exact absurd rfl (of_hid1 e).2
theorem fpTurned {it : Addr} {h' : Heap} {t' : Nat} (F : FpOk X pins H it) (I : Inv X pins σ H s) (k : ∀ b o, b ≠ it → s.heap.get? b = some o → h'.get? b = some o) : Inv X pins σ H { s with heap := h', toks := t' } :=
  I.turned k F.1 F.2.1 F.2.2.2.1 F.2.2.2.2.1 F.2.2.2.2.2
theorem sortK_run {p f : Addr} {vs : List V} {g : V → Int} (few : X.A.units + 10 < cLine) (I : Inv X pins σ H s) (hp : SqT X.K H p vs) (hf : KeyRun X f g vs H)
    (q : ∀ (ys : List V) (a : Addr) (H1 : Hp), ys.Perm vs → H a = none → (∀ b o, H b = some o → H1 b = some o) → H1 a = some (.lst ys) → Q (.ref a) H1) :
    wpAny (model X.prog X.w) X.A (call (.builtin "sorted") [.ref p] [(Str.ofString "key", .ref f)]) (EP X pins σ Q) X.xe s := by
  obtain ⟨us, rv, tp, hz⟩ := I.tuple hp
  have hzu : us.length ≤ sizeLine := by rw [← rv.length]; exact hz
  refine PyProof.Rows.call_function_entry_kw PyProof.Rows.kind_sorted PyProof.Rows.plain_sorted PyProof.Rows.entry_sorted (PyProof.Rows.ksk_s1 _ _) ?_
  unfold Builtin.«sorted»
  refine wpAny_bind (m := checkCount "sorted" 1 1 _) (wpAny_pure (wpAny_bind (gather_tup tp hzu fun g0 k0 => wpAny_bind (wpAny_newList ?_ hzu))))
  have I0 : Inv X pins σ H { s with heap := g0 } := I.kept k0
  have fp : ∀ (b : Addr) (H' : Hp), g0.objs.size ≤ b → H' b = none → FpOk X pins H' b := fun b H' l n => I0.fpOk l n
  have Ha : H g0.objs.size = none := I0.fresh
  have kg : ∀ b o, g0.get? b = some o → b ≠ g0.objs.size ∧ (g0.push (PyProof.Rows.seqObj "list" us.toArray 0)).get? b = some o := fun b o e => ⟨Nat.ne_of_lt (Heap.lt_size e), Heap.get?_push_of_some _ e⟩
  have sg : (g0.push (PyProof.Rows.seqObj "list" us.toArray 0)).objs.size = g0.objs.size + 1 := PyProof.Rows.size_push' _ _
  have oa : (g0.push (PyProof.Rows.seqObj "list" us.toArray 0)).get? g0.objs.size = some (PyProof.Rows.seqObj "list" us.toArray 0) := Heap.get?_push_size _ rfl
  generalize ea : g0.objs.size = a at *
  generalize g0.push (PyProof.Rows.seqObj "list" us.toArray 0) = g1 at *
  refine wpAny_bind (wpAny_holding (PyProof.Rows.wpAny_call_entry_kw PyProof.Rows.slot_list_sort ⟨_, oa, rfl⟩ PyProof.Rows.entry_list_sort ?body (PyProof.Rows.ksk_l1 _ _)))
  case body =>
    rw [PyProof.Rows.ksk_t1]
    unfold PyProof.Rows.ksk_tree
    refine wpAny_bind (PyProof.Rows.listItems_at oa rfl (wpAny_bind (PyProof.Rows.listUpdate_at oa rfl ?_ (by rw [List.size_toArray]; exact hzu) (Nat.zero_le _))))
    obtain ⟨n1, o1⟩ : ∃ n1, (g1.update a (Obj.mapSeq fun _ => (#[] : Array Value))).get? a = some (PyProof.Rows.seqObj "list" #[] n1) := ⟨_, PyProof.Rows.get?_update_seq oa fun _ => #[]⟩
    have kg2 : ∀ b o, g0.get? b = some o → (g1.update a (Obj.mapSeq fun _ => (#[] : Array Value))).get? b = some o := fun b o e => (Heap.get?_update_ne _ _ _ _ (kg b o e).1).trans (kg b o e).2
    have sg2 : (g1.update a (Obj.mapSeq fun _ => (#[] : Array Value))).objs.size = a + 1 := by rw [Heap.size_update]; exact sg
    generalize g1.update a (Obj.mapSeq fun _ => (#[] : Array Value)) = g2 at *
    refine wpAny_bind (PyProof.Rows.seqEpoch_at o1 rfl (wpAny_bind (wpAny_newTuple (wpAny_bind (wpAny_newList (wpAny_holding ?_) (Nat.zero_le _))) hzu)))
    have sg3 : (g2.push (PyProof.Rows.seqObj "tuple" us.toArray 0)).objs.size = a + 1 + 1 := by rw [PyProof.Rows.size_push', sg2]
    have I4 : Inv X pins σ H { s with heap := (g2.push (PyProof.Rows.seqObj "tuple" us.toArray 0)).push (PyProof.Rows.seqObj "list" #[] 0) } := I0.kept (t' := s.toks) fun b u e => Heap.get?_push_of_some _ (Heap.get?_push_of_some _ (kg2 b u e))
    have oa4 : ((g2.push (PyProof.Rows.seqObj "tuple" us.toArray 0)).push (PyProof.Rows.seqObj "list" #[] 0)).get? a = some (PyProof.Rows.seqObj "list" #[] n1) := Heap.get?_push_of_some _ (Heap.get?_push_of_some _ o1)
    have ok4 : ((g2.push (PyProof.Rows.seqObj "tuple" us.toArray 0)).push (PyProof.Rows.seqObj "list" #[] 0)).get? (g2.push (PyProof.Rows.seqObj "tuple" us.toArray 0)).objs.size = some (PyProof.Rows.seqObj "list" #[] 0) := Heap.get?_push_size _ rfl
    have hk4 : H (g2.push (PyProof.Rows.seqObj "tuple" us.toArray 0)).objs.size = none := I0.hok.fresh (by rw [sg3]; show g0.objs.size ≤ _; omega)
    generalize (g2.push (PyProof.Rows.seqObj "tuple" us.toArray 0)).objs.size = kS at *
    generalize (g2.push (PyProof.Rows.seqObj "tuple" us.toArray 0)).push (PyProof.Rows.seqObj "list" #[] 0) = g4 at *
    have lk : a ≤ kS := by omega
    have nka : kS ≠ a := by omega
    unfold PyProof.Rows.ksk_rest
    refine wpAny_bind (wpAny_rule ?_)
    rw [List.forIn_toArray]
    refine wpAny_bind (PyProof.Rows.ksk_fold (fun i s' => ∃ H1 kA e, Inv X pins σ H1 s' ∧ (∀ b o, H b = some o → H1 b = some o) ∧ (H1 a = none ∧ s'.heap.get? a = some (PyProof.Rows.seqObj "list" #[] n1)) ∧ H1 kS = none ∧ s'.heap.get? kS = some (PyProof.Rows.seqObj "list" kA e) ∧ PySem.W.EachIs (fun u x => ∃ t, u = Value.int (g x) t) kA.toList (vs.take i)) us 0 _ ⟨_, #[], 0, I4, fun b o e => e, ⟨Ha, oa4⟩, hk4, ok4, by rw [List.take_zero]; exact .nil⟩ ?step ?done)
    case step =>
      intro j u s1 hu hI
      obtain ⟨H1, kA, e, J, gr, ⟨ha1, oa1⟩, hk1, ho1, ei⟩ := hI
      rw [Nat.zero_add] at ei ⊢
      have hj : j < us.length := (List.getElem?_eq_some_iff.mp hu).1
      obtain ⟨x, hx⟩ : ∃ x, vs[j]? = some x := ⟨_, List.getElem?_eq_getElem (by rw [rv.length]; exact hj)⟩
      obtain ⟨u', hu', rx⟩ := rv.get hx
      rw [hu] at hu'
      cases hu'
      have J1 := J.pinned (fp := [kS, a]) (fun b hb => by
        rcases List.mem_cons.mp hb with z | z
        · rw [z]; exact fp kS H1 lk hk1
        · rw [List.mem_singleton.mp z]; exact fp a H1 (Nat.le_refl _) ha1) (fun b hb => by
        rcases List.mem_cons.mp hb with z | z
        · rw [z]; exact ⟨_, ho1, fun v z => by cases z⟩
        · rw [List.mem_singleton.mp z]; exact ⟨_, oa1, fun v z => by cases z⟩)
      refine wpAny_bind (wpAny_attempt (wpAny_mono (hf x (List.mem_of_getElem? hx) u _ σ s1 H1 rx gr J1) (fun r s2 hr => ?_) fun _ _ z => z.elim))
      obtain ⟨H2, t, rfl, gr2, J2⟩ := hr
      have pk := J2.pin (kS, PyProof.Rows.seqObj "list" kA e) (List.mem_append_right _ (List.mem_append_right _ (mem_pinsAt (by simp) ho1)))
      have pa := J2.pin (a, PyProof.Rows.seqObj "list" #[] n1) (List.mem_append_right _ (List.mem_append_right _ (mem_pinsAt (by simp) oa1)))
      have J3 := J2.unpinned
      have sz : kA.size ≤ us.length := by
        have l := ei.length
        rw [Array.length_toList, List.length_take] at l
        omega
      have F2 := fp kS H2 lk pk.2.1
      refine wpAny_bind (PyProof.Rows.listUpdate_at pk.1 rfl ?_ (Nat.le_trans sz hzu) (by rw [Array.size_push]; omega))
      refine wpAny_pure ⟨rfl, H2, kA.push (.int (g x) t), _, fpTurned F2 J3 (t' := s2.toks) (fun b o n z => (Heap.get?_update_ne _ _ _ _ n).trans z), fun b o z => gr2 b o (gr b o z), ⟨pa.2.1, (Heap.get?_update_ne _ _ _ _ (Ne.symm nka)).trans pa.1⟩, pk.2.1, PyProof.Rows.get?_update_seq pk.1 (·.push (.int (g x) t)), ?_⟩
      have e1 : (kA.push (.int (g x) t)).toList = kA.toList ++ [Value.int (g x) t] := by simp
      have e2 : vs.take (j + 1) = vs.take j ++ [x] := by rw [List.take_add_one, hx]; rfl
      rw [e1, e2]
      exact PySem.W.each_snoc (R := fun u x => ∃ t, u = Value.int (g x) t) ⟨t, rfl⟩ ei
    case done =>
      intro s1 hI
      obtain ⟨H1, kA, e, J, gr, ⟨ha1, oa1⟩, hk1, ho1, ei⟩ := hI
      rw [List.take_of_length_le (by rw [rv.length]; omega)] at ei
      have sz : kA.size = us.length := by
        have l := ei.length
        rw [Array.length_toList] at l
        rw [l, rv.length]
      have hal : PySem.W.AllAlike (vs.map fun x => PyData.int (g x)) := fun d hd d' hd' => by
        obtain ⟨x, _, rfl⟩ := List.mem_map.mp hd
        obtain ⟨y, _, rfl⟩ := List.mem_map.mp hd'
        rfl
      have hso : PySem.W.Sortable (vs.map fun x => PyData.int (g x)) := .inr fun d hd => by
        obtain ⟨x, _, rfl⟩ := List.mem_map.mp hd
        exact ⟨fun z => (by cases z), fun _ z => (by cases z)⟩
      have hk := keys_each ei s1.heap
      refine wpAny_bind (PyProof.Rows.listItems_at ho1 rfl ?_)
      refine PySem.W.keyH_end (κ := PySem.W.dataKind s1.heap (vs.map fun x => PyData.int (g x))) (h₁ := hid1 s1.heap kS) (fun b o n z => (of_hid1 z).1) hid1_none ho1 oa1 nka (PySem.W.SortsAt.data hk hal hso fun d hd => ?_) sz hzu fun h3 tk c kp oa3 => ?_
      · obtain ⟨x, _, rfl⟩ := List.mem_map.mp hd
        show X.A.units + 1 + 1 + 0 < cLine
        omega
      · have ko : PySem.W.KeyedOut false (vs.map fun x => PyData.int (g x)) us _ := ⟨s1.heap, kA.toList, hal, rfl, hk⟩
        have ro := vals_of_each (PySem.W.keyedOut_each (fun x => PyData.int (g x)) ko (each_of_vals rv))
        have lo : (vs.mergeSort (PySem.W.dataLe false fun x => PyData.int (g x))).length ≤ sizeLine := by rw [List.length_mergeSort]; exact hz
        have pm := List.mergeSort_perm vs (PySem.W.dataLe false fun x => PyData.int (g x))
        generalize vs.mergeSort (PySem.W.dataLe false fun x => PyData.int (g x)) = ys at *
        have k3 : ∀ b o, b ∉ [kS, a] → s1.heap.get? b = some o → h3.get? b = some o := fun b o n z => by
          rw [List.mem_cons, List.mem_singleton, not_or] at n
          exact kp b o n.2 (hid1_get z n.1)
        have n3 : ∀ b u, H1 b = some u → b ∉ [kS, a] := fun b u e z => by
          rcases List.mem_cons.mp z with y | y
          · rw [y, hk1] at e; cases e
          · rw [List.mem_singleton.mp y, ha1] at e; cases e
        have u3 : ∀ b u, H1 b = some u → upd H1 a (.lst ys) b = some u := fun b u e => by
          rw [upd_ne (ne_of_none e ha1)]
          exact e
        have Fk := fp kS H1 lk hk1
        have Fa := fp a H1 (Nat.le_refl _) ha1
        have J2 : Inv X pins σ (upd H1 a (.lst ys)) { s1 with heap := h3, toks := tk } := by
          refine J.step (g' := s1.gens) (d' := s1.drawn) (ch := [kS, a]) (fun b hb => ?_) (fun b o _ _ n z _ => k3 b o n z) (fun b o _ _ n z _ => ⟨o.slots, k3 b o n z⟩) (fun b o n _ z => ?_) (fun b o n z => ⟨o, k3 b o n z⟩) (fun b xs e => u3 b _ e) (fun b o u e => u3 b _ e) (fun b ps e => ⟨#[], by rw [u3 b _ e]; simp⟩) (fun m hm => ?_) (fun b u e => ?_) J.bare
          · rcases List.mem_cons.mp hb with z | z
            · rw [z]; exact ⟨Fk.2.2.2.1, Fk.2.1, Fk.2.2.2.2⟩
            · rw [List.mem_singleton.mp z]; exact ⟨Fa.2.2.2.1, Fa.2.1, Fa.2.2.2.2⟩
          · rw [List.mem_cons, List.mem_singleton, not_or] at n
            rw [upd_ne n.2]
            exact z
          · obtain ⟨o, es, ep, ho, r⟩ := hm
            refine ⟨o, es, ep, k3 _ o (fun z => ?_) ho, r⟩
            rcases List.mem_cons.mp z with y | y
            · exact Fk.2.1 y.symm
            · exact Fa.2.1 (List.mem_singleton.mp y).symm
          · by_cases z : b = a
            · subst z
              rw [upd_same] at e
              cases e
              exact ⟨lo, _, c, ro, oa3⟩
            · rw [upd_ne z] at e
              refine (J.hok b u e).stay (fun d v hd q => k3 d v ?_ q) (fun d q => u3 d _ q) fun d xs q => u3 d _ q
              rcases hd with y | y
              · rw [y]; exact n3 b u e
              · exact n3 d _ y
        refine ⟨.none, rfl, wpAny_pure ⟨_, rfl, .ref a, _, J2, rfl, q _ a _ pm Ha (fun b o z => u3 b _ (gr b o z)) upd_same⟩⟩
end
end Z

set_option Elab.async false
set_option linter.all false
set_option maxRecDepth 100000
namespace Z
open PySem L2
/-! ## 24. an own list read as a value for a while -/
mutual
def noLst : PyData → Bool
  | .list _ => false
  | .dict _ => false
  | .tuple ds => noLsts ds
  | _ => true
def noLsts : List PyData → Bool
  | [] => true
  | d :: ds => noLst d && noLsts ds
end
theorem noLsts_map {α : Type} {f : α → PyData} (h : ∀ x, noLst (f x) = true) : ∀ l : List α, noLsts (l.map f) = true
  | [] => rfl
  | x :: l => by rw [List.map_cons]; unfold noLsts; rw [h x, noLsts_map h l]; rfl
theorem noLsts_of : ∀ {l : List PyData}, (∀ d ∈ l, noLst d = true) → noLsts l = true
  | [], _ => rfl
  | x :: l, h => by unfold noLsts; rw [h x (List.mem_cons_self ..), noLsts_of fun d m => h d (List.mem_cons_of_mem _ m)]; rfl
theorem noLsts_app : ∀ {l m : List PyData}, noLsts l = true → noLsts m = true → noLsts (l ++ m) = true
  | [], _, _, h => h
  | x :: l, m, h, h2 => by
    unfold noLsts at h
    rw [Bool.and_eq_true] at h
    show noLsts (x :: (l ++ m)) = true
    unfold noLsts
    rw [h.1, noLsts_app h.2 h2]
    rfl
section
variable {K : PySem.W.Frag} {H1 H2 : Hp} {a : Addr} {us : List V}
mutual
theorem Dz.off (ha : H1 a = some (.lst us)) (up : ∀ b o, H1 b = some o → b ≠ a → H2 b = some o) : ∀ {v : V} {d : PyData}, noLst d = true → Dz K H1 v d → Dz K H2 v d
  | _, _, _, .non => .non
  | _, _, _, .bl b => .bl b
  | _, _, _, .int i => .int i
  | _, _, _, .str x => .str x
  | _, _, h, .lst q r => by simp [noLst] at h
  | _, _, h, .tup q r => .tup (by
      rcases q with (q | ⟨o, q⟩) | q
      · exact .inl (.inl (up _ _ q fun z => by rw [z, ha] at q; cases q))
      · exact .inl (.inr ⟨o, up _ _ q fun z => by rw [z, ha] at q; cases q⟩)
      · exact .inr q) (DzAll.off ha up (by simpa [noLst] using h) r)
theorem DzAll.off (ha : H1 a = some (.lst us)) (up : ∀ b o, H1 b = some o → b ≠ a → H2 b = some o) : ∀ {vs : List V} {ds : List PyData}, noLsts ds = true → DzAll K H1 vs ds → DzAll K H2 vs ds
  | _, _, _, .nil => .nil
  | _, _, h, .cons x y => .cons (Dz.off ha up (by simp only [noLsts, Bool.and_eq_true] at h; exact h.1) x) (DzAll.off ha up (by simp only [noLsts, Bool.and_eq_true] at h; exact h.2) y)
end
end
def viewB : Ev → Ev → Prop
  | [], [] => True
  | x :: xs, y :: ys => (match y with
    | some (.own es) => noLsts es = true
    | none => True
    | some (.val d) => x = some (.val d)) ∧ viewB xs ys
  | _, _ => False
theorem viewB_get : ∀ {e f : Ev} {j : Nat} {d : PyData}, viewB e f → f[j]? = some (some (.val d)) → e[j]? = some (some (.val d))
  | [], [], _, _, _, h => by simp at h
  | [], _ :: _, _, _, h, _ => h.elim
  | _ :: _, [], _, _, h, _ => h.elim
  | x :: xs, z :: zs, 0, d, h, e => by
    have e' : z = some (.val d) := by simpa using e
    subst e'
    have h1 : x = some (.val d) := h.1
    rw [h1]
    rfl
  | x :: xs, z :: zs, j + 1, d, h, e => by simpa using viewB_get (j := j) h.2 (by simpa using e)
theorem viewB_own : ∀ {e f : Ev} {j : Nat} {es : List PyData}, viewB e f → f[j]? = some (some (.own es)) → noLsts es = true
  | [], [], _, _, _, h => by simp at h
  | [], _ :: _, _, _, h, _ => h.elim
  | _ :: _, [], _, _, h, _ => h.elim
  | x :: xs, z :: zs, 0, y, h, e => by
    have e' : z = some (.own y) := by simpa using e
    subst e'
    exact h.1
  | x :: xs, z :: zs, j + 1, y, h, e => viewB_own (j := j) h.2 (by simpa using e)
/-- all that is seen is noted with its content -/
def vis (M : Mz) (H : Hp) : Mz := fun b => if (M b).1 = 0 then (0, H b) else M b
theorem vis1 {M : Mz} {H : Hp} {b : Addr} : (vis M H b).1 = (M b).1 := by
  unfold vis
  by_cases z : (M b).1 = 0
  · rw [if_pos z, z]
  · rw [if_neg z]
theorem msk_vis {M : Mz} {H H' : Hp} : msk (vis M H) H' = msk M H' := by
  funext b
  unfold msk
  rw [vis1]
theorem vis_see {M : Mz} {H : Hp} {b : Addr} {o : HO} (h : msk M H b = some o) : (vis M H b).2 = some o := by
  obtain ⟨h1, h2⟩ := msk_ok h
  unfold vis
  rw [if_pos h2]
  exact h1
section
variable {K : PySem.W.Frag} {c : Cf} {M : Mz} {σ : Sg} {H H' : Hp} {ev ev' : Ev} {pd : List (V × PyData)}
theorem Ok.vis (k : Ok K c M σ H ev pd) : Ok K c (Z.vis M H) σ H ev pd := by
  refine ⟨k.len, fun i d e => ?_, fun i ds e => ?_, k.inj, fun p hp => ?_, k.frame, fun a e => ?_, fun a e => ?_, k.mkd, fun a o e => ?_, k.tank⟩
  · rw [msk_vis]; exact k.val i d e
  · rw [msk_vis]
    obtain ⟨a, vs, e1, e2, e3⟩ := k.own i ds e
    exact ⟨a, vs, e1, by rw [vis1]; exact e2, e3⟩
  · rw [msk_vis]; exact k.pend p hp
  · rw [vis1]; exact k.sub a e
  · rw [vis1] at e; exact k.dom a e
  · unfold Z.vis at e ⊢
    by_cases z : (M a).1 = 0
    · rw [if_pos z] at e ⊢
      exact ⟨e, .inr rfl⟩
    · rw [if_neg z] at e ⊢
      exact k.lk a o e
/-- looked at as data ... -/
theorem Ok.view (k : Ok K c M σ H ev pd) {i : Nat} {a : Addr} {ds : List PyData} (h : ev[i]? = some (some (.own ds))) (ha : σ[i]? = some (some (.ref a))) (h0 : c.H0 a = none) : Ok K c (Z.vis (stM M a (0, none)) H) σ H (ev.set i (some (.val (.list ds)))) pd :=
  (k.freeze h ha h0).pop1.vis
/-- ... and own again -/
theorem Ok.unview (k : Ok K c M σ H ev pd) {i : Nat} {a : Addr} {ds : List PyData} {v : V} {d : PyData} {qd : List (V × PyData)} (ni : i ≠ 0) (h : ev[i]? = some (some (.own ds))) (ha : σ[i]? = some (some (.ref a))) (hb : viewB (ev.set i (some (.val (.list ds)))) ev')
    (k' : Ok K c (Z.vis (stM M a (0, none)) H) σ H' ev' (qd ++ pd)) (hq : ∀ p ∈ qd, noLst p.2 = true) : Ok K c M σ H' (ev'.set i (some (.own ds))) (qd ++ pd) := by
  obtain ⟨a', vs, e1, e2, e3, e4, e5⟩ := k.own i ds h
  obtain rfl : a' = a := by rw [ha] at e1; cases e1; rfl
  have nm : ∀ b, b ≠ a' → stM M a' (0, none) b = M b := fun b n => stM_off n
  have see : ∀ b o, msk (stM M a' (0, none)) H b = some o → H' b = some o := fun b o e => (k'.lk b o (vis_see e)).1
  have gr : ∀ b o, msk M H b = some o → msk M H' b = some o := fun b o e => by
    obtain ⟨e6, e7⟩ := msk_ok e
    have n : b ≠ a' := fun z => by rw [z, e2] at e7; cases e7
    exact msk_of (see b o (msk_of e6 (by rw [nm b n]; exact e7))) e7
  have hla : H' a' = some (.lst vs) := see a' _ (msk_of e4 (by rw [stM_at]))
  have hla2 : msk (Z.vis (stM M a' (0, none)) H) H' a' = some (.lst vs) := by
    rw [msk_vis]
    exact msk_of hla (by rw [stM_at])
  have off : ∀ b o, msk (Z.vis (stM M a' (0, none)) H) H' b = some o → b ≠ a' → msk M H' b = some o := fun b o e n => by
    rw [msk_vis] at e
    obtain ⟨e6, e7⟩ := msk_ok e
    exact msk_of e6 (by rw [← nm b n]; exact e7)
  have ow1 : ∀ (b : Addr), (Z.vis (stM M a' (0, none)) H b).1 = 1 → b ≠ a' ∧ (M b).1 = 1 := fun b e => by
    rw [vis1] at e
    have n : b ≠ a' := fun z => by rw [z, stM_at] at e; cases e
    exact ⟨n, by rw [← nm b n]; exact e⟩
  refine ⟨by rw [List.length_set]; exact k'.len, fun j e z => ?_, fun j es z => ?_, fun j l b ds1 ds2 z1 z2 z3 z4 => ?_, fun p hp => ?_, k'.frame, k.sub, fun b m => ?_, k.mkd, fun b o e => ?_, fun b t => ?_⟩
  · rcases get_set z with ⟨_, z1, _⟩ | ⟨n, z⟩
    · cases z1
    · have y := viewB_get hb z
      rw [List.getElem?_set_ne n] at y
      obtain ⟨u, y1, y2⟩ := k.val j e y
      exact ⟨u, y1, y2.up gr⟩
  · rcases get_set z with ⟨rfl, z1, _⟩ | ⟨n, z⟩
    · cases z1
      exact ⟨a', vs, ha, e2, e3, hla, e5.up gr⟩
    · obtain ⟨b, ws, y1, y2, y3, y4, y5⟩ := k'.own j es z
      obtain ⟨n2, y2⟩ := ow1 b y2
      have nl : noLsts es = true := viewB_own hb z
      exact ⟨b, ws, y1, y2, y3, y4, y5.off hla2 off nl⟩
  · have ap : ∀ (j : Nat) (es : List PyData), j ≠ i → (ev'.set i (some (.own ds)))[j]? = some (some (.own es)) → σ[j]? = some (some (.ref a')) → False := fun j es n q1 q2 => by
      rw [List.getElem?_set_ne (Ne.symm n)] at q1
      obtain ⟨b', ws, y1, y2, _⟩ := k'.own j es q1
      rw [q2] at y1
      cases y1
      exact (ow1 _ y2).1 rfl
    by_cases j1 : j = i
    · by_cases l1 : l = i
      · rw [j1, l1]
      · rw [j1, ha] at z3
        cases z3
        exact (ap l _ l1 z2 z4).elim
    · by_cases l1 : l = i
      · rw [l1, ha] at z4
        cases z4
        exact (ap j _ j1 z1 z3).elim
      · rw [List.getElem?_set_ne (Ne.symm j1)] at z1
        rw [List.getElem?_set_ne (Ne.symm l1)] at z2
        exact k'.inj j l b ds1 ds2 z1 z2 z3 z4
  · rcases List.mem_append.mp hp with y | y
    · exact (k'.pend p hp).off hla2 off (hq p y)
    · exact (k.pend p y).up gr
  · by_cases z : b = a'
    · rw [z]; exact ⟨_, hla⟩
    · exact k'.dom b (by rw [vis1, nm b z]; exact m)
  · by_cases z : b = a'
    · rw [z] at e
      obtain ⟨_, y⟩ := k.lk a' o e
      rw [e2] at y
      rcases y with y | y <;> cases y
    · obtain ⟨y1, y2⟩ := k.lk b o e
      refine ⟨?_, y2⟩
      rcases y2 with y2 | y2
      · refine (k'.lk b o ?_).1
        unfold Z.vis
        rw [if_neg (by rw [nm b z, y2]; decide), nm b z]
        exact e
      · exact see b o (msk_of y1 (by rw [nm b z]; exact y2))
  · obtain ⟨m, y1, ws, y2⟩ := k'.tank b t
    exact ⟨m, y1, ws, by rw [List.getElem?_set_ne ni]; exact y2⟩
end
def dView (i : Nat) (w : Wx) : Wx := fun ev Q => match ev[i]? with
  | some (some (.own ds)) => i ≠ 0 ∧ w (ev.set i (some (.val (.list ds)))) fun d e => noLst d = true ∧ viewB (ev.set i (some (.val (.list ds)))) e ∧ Q d (e.set i (some (.own ds)))
  | _ => False
def dViewT (i : Nat) (w : Wt) : Wt := fun ev Q => match ev[i]? with
  | some (some (.own ds)) => i ≠ 0 ∧ w (ev.set i (some (.val (.list ds)))) fun b e => viewB (ev.set i (some (.val (.list ds)))) e ∧ Q b (e.set i (some (.own ds)))
  | _ => False
section
variable {X : Cx} {c : Cf} {e : Expr} {i : Nat}
theorem de_view {w : Wx} (h : DE X c e w) : DE X c e (dView i w) := peM h fun σ H Q ⟨M, ev, pd, R, k, w, q⟩ => by
  unfold dView at w
  split at w
  · rename_i ds e0
    obtain ⟨n, w⟩ := w
    obtain ⟨a, e1, e2⟩ := k.h0own e0 n
    refine ⟨_, _, pd, _, k.view e0 e1 e2, w, fun d e' hd v H' k' => ?_⟩
    obtain ⟨d1, d2, d3⟩ := hd
    exact q d _ d3 v H' (k.unview (v := v) (d := d) (qd := [(v, d)]) n e0 e1 d2 k' fun p hp => by rw [List.mem_singleton.mp hp]; exact d1)
  · exact w.elim
theorem dt_view {w : Wt} (h : DT X c e w) : DT X c e (dViewT i w) := ptM h fun σ H Q ⟨M, ev, pd, R, k, w, q⟩ => by
  unfold dViewT at w
  split at w
  · rename_i ds e0
    obtain ⟨n, w⟩ := w
    obtain ⟨a, e1, e2⟩ := k.h0own e0 n
    refine ⟨_, _, pd, _, k.view e0 e1 e2, w, fun b e' hd H' k' => ?_⟩
    obtain ⟨d2, d3⟩ := hd
    exact q b _ d3 H' (k.unview (v := .non) (d := .none) (qd := []) n e0 e1 d2 k' fun p hp => by cases hp)
  · exact w.elim
end
end Z

set_option Elab.async false
set_option linter.all false
set_option maxRecDepth 100000
namespace Z
open PySem L2
/-! ## 25. sorted(xs, key=f) over data -/
def dSortK (C : Cp) (u : Wa) : Wx := fun ev Q => u ev fun ds e => match ds with
  | [.tuple xs] => xs.length ≤ 1000 ∧ (∃ g : PyData → Int, ∀ x ∈ xs, ∀ R : PyData → Prop, R (.int (g x)) → C [x] R) ∧ ∀ ys : List PyData, ys.Perm xs → Q (.list ys) e
  | _ => False
theorem dzAll_mem {K : PySem.W.Frag} {H : Hp} : ∀ {vs : List V} {ds : List PyData}, DzAll K H vs ds → ∀ v ∈ vs, ∃ d ∈ ds, Dz K H v d
  | _, _, .nil, _, h => by cases h
  | _, _, .cons a b, v, h => by
    rcases List.mem_cons.mp h with e | h
    · rw [e]; exact ⟨_, List.mem_cons_self .., a⟩
    · obtain ⟨d, m, q⟩ := dzAll_mem b v h
      exact ⟨d, List.mem_cons_of_mem _ m, q⟩
theorem dzAll_perm {K : PySem.W.Frag} {H : Hp} {vs us : List V} (p : us.Perm vs) : ∀ {ds : List PyData}, DzAll K H vs ds → ∃ es : List PyData, es.Perm ds ∧ DzAll K H us es := by
  induction p with
  | nil => intro ds h; cases h; exact ⟨[], .nil, .nil⟩
  | cons x p ih =>
    intro ds h
    cases h with
    | cons a b =>
      obtain ⟨es, e1, e2⟩ := ih b
      exact ⟨_ :: es, e1.cons _, .cons a e2⟩
  | swap x y l =>
    intro ds h
    cases h with
    | cons a b =>
      cases b with
      | cons b d => exact ⟨_ :: _ :: _, .swap .., .cons b (.cons a d)⟩
  | trans p q ih1 ih2 =>
    intro ds h
    obtain ⟨es, e1, e2⟩ := ih2 h
    obtain ⟨fs, f1, f2⟩ := ih1 e2
    exact ⟨fs, f1.trans e1, f2⟩
section
variable {X : Cx} {c : Cf} {k kg : Nat} {y : Str} {ps : List Str} {p p2 pos kp : Pos} {e : Expr} {u : Wa} {C : Cp}
theorem cr_sortK {n : Nat} (hr : Room n X.A) : CallRK X (.builtin "sorted") [("key" : Str)] (rSortK X) := by
  intro pins s σ H xs zs us ws Q I rx rz h
  obtain ⟨a, f, vs, g, rfl, rfl, h1, h2, h3⟩ := h
  cases rx with
  | cons r1 r2 =>
    cases r2
    cases r1
    cases rz with
    | cons r3 r4 =>
      cases r4
      cases r3
      exact sortK_run (by have := hr.un; omega) I h1 h2 h3
theorem keyRun {f : Addr} {fd : FuncData} {M : Mz} {σ : Sg} {H : Hp} {ev : Ev} {pd : List (V × PyData)} {vs : List V} {ds : List PyData} {g : PyData → Int} (hb : Binds X.K fd ps []) (F : FnG X.prog X.w X.K X.mg X.base CX0 kg f fd ps (spP X.K 1 C)) (hk : kg + 2 ≤ k) (hr : Room k X.A) (hG : X.A.guards = some [])
    (K1 : Ok X.K c M σ H ev pd) (r : DzAll X.K (msk M H) vs ds) (hC : ∀ x ∈ ds, ∀ R : PyData → Prop, R (.int (g x)) → C [x] R) : ∃ g' : V → Int, KeyRun X f g' vs H := by
  classical
  refine ⟨fun v => if h : ∃ d ∈ ds, Dz X.K (msk M H) v d then g h.choose else 0, fun x hx u pins τ s H1 rx gr I => ?_⟩
  have ex : ∃ d ∈ ds, Dz X.K (msk M H) x d := dzAll_mem r x hx
  obtain ⟨m1, m2⟩ := ex.choose_spec
  have eg : (if h : ∃ d ∈ ds, Dz X.K (msk M H) x d then g h.choose else 0) = g ex.choose := dif_pos ex
  have k2 := K1.grow gr
  have hr2 : Room kg X.A.in1.in1 := ((hr.mono hk).in1).in1
  have sp : spP X.K 1 C [x] H1 (fun v H' => v = .int (g ex.choose) ∧ ∀ b o, H1 b = some o → H' b = some o) E0 := ⟨M, [ex.choose], fun d => d = .int (g ex.choose), rfl, k2.mkOk, .cons (m2.up (msk_same fun b o e _ => gr b o e)) .nil, hC _ m1 _ rfl, fun d hd v H' g2 z => by
    subst hd
    cases z
    exact ⟨rfl, g2⟩⟩
  have ar := F.ar _ _ _ _ sp
  have bd := hb s [u] I.kIn (by rw [List.append_nil]; exact ar)
  rw [List.append_nil] at bd
  refine wpAny_call (codeAny_mono (F.go X.A.in1.in1 X.stack s H1 ⟨[u], []⟩ [u] [x] _ E0 hG hr2 I.env0.in1.in1 bd (.cons rx .nil) sp) fun rr s' hq => ?_)
  cases rr with
  | error e => exact hq.elim
  | ok fl => cases fl with
    | next => exact hq.elim
    | brk => exact hq.elim
    | cont => exact hq.elim
    | ret w =>
      obtain ⟨v, H2, J, rv, rfl, g2⟩ := I.after hq
      obtain ⟨t, rfl⟩ := rv
      exact ⟨H2, t, congrArg (Value.int · t) eg.symm, g2, J⟩
theorem de_sortK (F : Cl X.prog X.w X.K X.mg X.base kg y ps (spP X.K 1 C)) (hk : kg + 2 ≤ k) (hr : Room k X.A) (hG : X.A.guards = some []) (hg : Gl X "sorted") (hm : X.mg "sorted" = none) (hy : Gl X y) (ha : DA X c [e] u) (hd : (y == ("__debug__" : Str)) = false := by decide)
    (he : backTo pos (starEach [e] X.env) = (false, eval e X.env) :: backTo pos (starEach [] X.env) := by rfl) (hpl : (backTo pos (starEach [e] X.env)).any (·.1) = false := by rfl)
    (hall : (backToKw pos (keywordEach [⟨some ("key" : Str), .Name y p2, kp⟩] X.env)).all (·.1.isSome) = true := by rfl) (hnone : (backToKw pos (keywordEach [⟨some ("key" : Str), .Name y p2, kp⟩] X.env)).any (·.1.isNone) = false := by rfl) (hks : (backToKw pos (keywordEach [⟨some ("key" : Str), .Name y p2, kp⟩] X.env)).filterMap (·.1) = [("key" : Str)] := by rfl) :
    DE X c (.Call (.Name "sorted" p) [e] [⟨some ("key" : Str), .Name y p2, kp⟩] pos) (dSortK C u) := by
  obtain ⟨f, fd, hmf, hkp, hb, F⟩ := F.ex
  refine peM (pe_callBK (cr_sortK hr) hg hm (by decide +kernel) ha (pk_cons (pe_glob (v := .ref f) hy hmf rfl hd) pk_nil) (by decide) (by decide) he hpl hall hnone hks) fun σ H Q ⟨M, ev, pd, R, K1, w, q⟩ => ?_
  refine ⟨M, ev, pd, _, K1, w, fun ds e h vs H1 k1 r => ?_⟩
  split at h
  · rename_i xs
    obtain ⟨l, ⟨g, hC⟩, hQ⟩ := h
    cases r with
    | cons r1 r2 =>
      cases r2
      cases r1 with
      | tup t1 t2 =>
        obtain ⟨g', kr⟩ := keyRun hb F hk hr hG k1 t2 hC
        refine ⟨_, f, _, g', rfl, rfl, sqT_up msk_sub t1, kr, fun ys a H2 pm hn gr hl => ?_⟩
        obtain ⟨es, p1, p2⟩ := dzAll_perm pm t2
        exact q _ e (hQ es p1) _ _ ((k1.grow gr).push (.lst (sq_lst (msk_of hl (k1.free hn))) (p2.up (msk_same fun b o e _ => gr b o e))))
  · exact h.elim
/-! ### [..] * n, (..) * n, xs[::-1] -/
def repD (k : Nat) (ds : List PyData) : List PyData := (List.replicate k ds).flatten
theorem rep_rel {K : PySem.W.Frag} {H : Hp} {vs : List V} {ds : List PyData} (r : DzAll K H vs ds) : ∀ n : Nat, DzAll K H (List.replicate n vs).flatten (repD n ds)
  | 0 => .nil
  | n + 1 => by
    unfold repD
    rw [List.replicate_succ, List.replicate_succ, List.flatten_cons, List.flatten_cons]
    exact r.app (rep_rel r n)
def dRep (k : Int) (u : Wa) : Wx := fun ev Q => u ev fun ds e => (ds.length ≤ 1000 ∧ 0 ≤ k ∧ k ≤ 1000 ∧ ds.length * k.toNat ≤ 1000) ∧ Q (.list (repD k.toNat ds)) e
theorem de_rep {es : List Expr} {kk : Int} {j : Nat} {p3 : Pos} (ha : DA X c es u) : DE X c (.BinOp (.List es p2) .Mult (.Constant (.int kk) j p3) pos) (dRep kk u) := peM (pe_op op_rep (pe_lst ha) pe_int) fun σ H Q ⟨M, ev, pd, R, k, w, q⟩ =>
  ⟨M, ev, pd, _, k, w, fun ds e h vs H1 k1 r => by
    obtain ⟨⟨l, l0, l1, l2⟩, h⟩ := h
    refine ⟨by rw [r.len]; exact line_of l, fun p hp => ⟨p, kk, vs, rfl, rfl, upd_same, by omega, by omega, by rw [r.len]; exact line_of l2, fun p' hp' => ?_⟩⟩
    have k2 := k1.new (o := .lst vs) hp
    exact q _ e h _ _ (k2.newLst hp' ((rep_rel r _).up (msk_same fun b o e _ => up_new hp b o e)))⟩
def fRepT (k : Int) : PyData → (PyData → Prop) → Prop
  | .tuple ds, Q => (ds ≠ [] ∧ 2 ≤ k ∧ k ≤ 1000 ∧ ds.length ≤ 1000) ∧ Q (.tuple (repD k.toNat ds))
  | _, _ => False
theorem de_repT {kk : Int} {j : Nat} {p3 : Pos} {w : Wx} (ha : DE X c e w) : DE X c (.BinOp e .Mult (.Constant (.int kk) j p3) pos) (dU (fRepT kk) w) := peM (pe_op op_repT ha pe_int) fun σ H Q ⟨M, ev, pd, R, k, w, q⟩ =>
  ⟨M, ev, pd, _, k, w, fun d e h v H1 k1 => by
    have t := k1.top
    unfold fRepT at h
    split at h
    · cases t with
      | tup t1 t2 =>
        obtain ⟨⟨l, l0, l1, l2⟩, h⟩ := h
        exact ⟨_, kk, _, rfl, rfl, sqT_up msk_sub t1, fun z => l (nil_of t2 z), l0, l1, by rw [t2.len]; exact l2, fun p' hp' => q _ e h _ _ (k1.pop1.newTup hp' (rep_rel t2 _))⟩
    · exact h.elim⟩
theorem dzAll_rev {K : PySem.W.Frag} {H : Hp} : ∀ {vs : List V} {ds : List PyData}, DzAll K H vs ds → DzAll K H vs.reverse ds.reverse
  | _, _, .nil => .nil
  | _, _, .cons a b => by
    rw [List.reverse_cons, List.reverse_cons]
    exact (dzAll_rev b).app (.cons a .nil)
def fRev : PyData → (PyData → Prop) → Prop
  | .list ds, Q => Q (.list ds.reverse)
  | _, _ => False
theorem de_rev {w : Wx} {p1 p3 : Pos} {jc : Nat} (ha : DE X c e w) : DE X c (.Subscript e (.Slice none none (some (.UnaryOp .USub (.Constant (.int 1) jc p1) p2)) p3) pos) (dU fRev w) := peM (pe_revL ha) fun σ H Q ⟨M, ev, pd, R, k, w, q⟩ =>
  ⟨M, ev, pd, _, k, w, fun d e h v H1 k1 => by
    have t := k1.top
    unfold fRev at h
    split at h
    · cases t with
      | lst t1 t2 => exact ⟨_, _, rfl, sqL_up msk_sub t1, fun p' hp' => q _ e h _ _ (k1.pop1.newLst hp' (dzAll_rev t2))⟩
    · exact h.elim⟩
end
end Z

set_option Elab.async false
set_option linter.all false
set_option maxRecDepth 100000
set_option synthInstance.maxSize 4000
set_option synthInstance.maxHeartbeats 400000
namespace Z
open PySem L2
/-! ## 26. what the laws' draws, complex numbers, places and rows are -/
def whole : PyData → Bool
  | .int _ => true
  | _ => false
def areW : PyData → Int → Bool
  | .tuple ds, n => decide ((ds.length : Int) = n) && ds.all whole
  | _, _ => false
theorem bools_map : ∀ ds : List PyData, bools (ds.map fun d => .bool (whole d)) = some (ds.map whole)
  | [] => rfl
  | d :: ds => by
    rw [List.map_cons, List.map_cons]
    show (bools (ds.map fun d => PyData.bool (whole d))).map (whole d :: ·) = _
    rw [bools_map ds]
    rfl
abbrev cd (p : Int × Int) : PyData := cp p.1 p.2
/-- the quarter form -/
def qf (a b : Int) : Int × Int := if a = 0 ∧ b = 0 then (a, b) else if 0 < a ∧ 0 ≤ b then (a, b) else if 0 < -b ∧ 0 ≤ a then (-b, a) else if 0 < -a ∧ 0 ≤ -b then (-a, -b) else (-(-b), -a)
/-- the quotient -/
def xq (a b c d : Int) : Option (Int × Int) := if c * c + d * d = 0 then none else if (a * c - b * -d) % (c * c + d * d) = 0 ∧ (a * -d + b * c) % (c * c + d * d) = 0 then some ((a * c - b * -d) / (c * c + d * d), (a * -d + b * c) / (c * c + d * d)) else none
def od : Option (Int × Int) → PyData
  | none => .none
  | some p => cd p
instance sh_odn : Sh 0 4 0 (od none) := sh_none
instance sh_ods {n m : Nat} {x y : Int} [Sz n x] [Sz m y] : Sh (max n (max m 0)) (n + 2 + 2 + (m + 2 + 2 + 0) + 3) (max 0 (max 0 0) + 1) (od (some (x, y))) := inferInstanceAs (Sh _ _ _ (cp x y))
theorem sq0 (c : Int) : 0 ≤ c * c := by
  rcases Int.le_total 0 c with h | h
  · exact Int.mul_nonneg h h
  · exact Int.mul_nonneg_of_nonpos_of_nonpos h h
theorem nrm0 (c d : Int) : 0 ≤ c * c + d * d := Int.add_nonneg (sq0 c) (sq0 d)
theorem nrmP {c d : Int} (h : c * c + d * d ≠ 0) : 0 < c * c + d * d := by
  have := nrm0 c d
  omega
/-- what draws come from, after so many draws -/
def Tk (b : Int) (ts : List PyData) : Prop := ∃ r s n : Int, ts = [.int r, .int s, .int n] ∧ 0 ≤ r ∧ (0 ≤ s ∧ s < 2147483629) ∧ 0 ≤ n ∧ n ≤ b
theorem Tk.up {b c : Int} {ts : List PyData} (h : Tk b ts) (l : b ≤ c) : Tk c ts := by
  obtain ⟨r, s, n, e, h1, h2, h3, h4⟩ := h
  exact ⟨r, s, n, e, h1, h2, h3, Int.le_trans h4 l⟩
theorem eqS {R : PyData → Prop} {x y : Str} (q : R (.bool true)) (e : x = y) : R (.bool (PyData.eqv (.str x) (.str y))) := by rw [eqv_str, decide_eq_true e]; exact q
theorem ne_f {x y : Str} (e : x = y) : tru (.bool (!PyData.eqv (.str x) (.str y))) = false := by rw [eqv_str, decide_eq_true e]; rfl
theorem inD_mem {d : PyData} {ds : List PyData} (h : d ∈ ds) (e : PyData.eqv d d = true) : inD d ds = true := List.any_eq_true.mpr ⟨d, h, e⟩
theorem mul_cancel {n x y : Int} (h : 0 < n) (e : n * x = n * y) : x = y := Int.eq_of_mul_eq_mul_left (Int.ne_of_gt h) e
theorem xq_cases (a b c d : Int) : xq a b c d = none ∨ (xq a b c d = some ((a * c - b * -d) / (c * c + d * d), (a * -d + b * c) / (c * c + d * d)) ∧
    (a * c - b * -d) / (c * c + d * d) * c - (a * -d + b * c) / (c * c + d * d) * d = a ∧ (a * c - b * -d) / (c * c + d * d) * d + (a * -d + b * c) / (c * c + d * d) * c = b) := by
  unfold xq
  by_cases z : c * c + d * d = 0
  · rw [if_pos z]; exact .inl rfl
  rw [if_neg z]
  by_cases y : (a * c - b * -d) % (c * c + d * d) = 0 ∧ (a * -d + b * c) % (c * c + d * d) = 0
  · rw [if_pos y]
    refine .inr ⟨rfl, ?_⟩
    have p := nrmP z
    have e1 := Int.mul_ediv_cancel' (Int.dvd_of_emod_eq_zero y.1)
    have e2 := Int.mul_ediv_cancel' (Int.dvd_of_emod_eq_zero y.2)
    generalize (a * c - b * -d) / (c * c + d * d) = u at *
    generalize (a * -d + b * c) / (c * c + d * d) = v at *
    refine ⟨mul_cancel p ?_, mul_cancel p ?_⟩
    · grind
    · grind
  · rw [if_neg y]; exact .inl rfl
theorem qf_cases (a b : Int) : (a = 0 ∧ b = 0 ∧ qf a b = (0, 0)) ∨ (¬(a = 0 ∧ b = 0) ∧ 0 < (qf a b).1 ∧ 0 ≤ (qf a b).2 ∧ (qf a b = (a, b) ∨ qf a b = (0 - b, a) ∨ qf a b = (0 - a, 0 - b) ∨ qf a b = (b, 0 - a))) := by
  unfold qf
  by_cases z : a = 0 ∧ b = 0
  · rw [if_pos z, z.1, z.2]; exact .inl ⟨rfl, rfl, rfl⟩
  refine .inr ⟨z, ?_⟩
  rw [if_neg z]
  simp only [Int.zero_sub, Int.neg_neg]
  by_cases y1 : 0 < a ∧ 0 ≤ b
  · rw [if_pos y1]; exact ⟨y1.1, y1.2, .inl rfl⟩
  rw [if_neg y1]
  by_cases y2 : 0 < -b ∧ 0 ≤ a
  · rw [if_pos y2]; exact ⟨y2.1, y2.2, .inr (.inl rfl)⟩
  rw [if_neg y2]
  by_cases y3 : 0 < -a ∧ 0 ≤ -b
  · rw [if_pos y3]; exact ⟨y3.1, y3.2, .inr (.inr (.inl rfl))⟩
  rw [if_neg y3]
  exact ⟨show 0 < b by omega, show 0 ≤ -a by omega, .inr (.inr (.inr rfl))⟩
abbrev rw4 (q l m k : Int) : PyData := .tuple [.int q, .int l, .int m, .int k]
/-- the numbers of a row that is one -/
structure Rw (n : Nat) (q l m k : Int) : Prop where
  one : gcI [q, l, m, k] = 1
  pos : 0 < l * l + m * m - 2 * (q * k + q * k)
  sq : Sz n q
  sl : Sz n l
  sm : Sz n m
  sk : Sz n k
/-- of a round -/
structure Rn (n : Nat) (q l m k : Int) : Prop where
  row : Rw n q l m k
  up : gtL [q, l, m, k] [0, 0, 0, 0] = true
/-- whether three numbers are a place -/
def isPl (a b c : Int) : Bool := decide (a = 1 ∧ b = 0 ∧ c = 0) || (decide (0 < c) && decide (gcI [a, b, c] = 1))
theorem isPl_rt {n : Nat} {a b r : Int} (h : Rt n a b r) : isPl a b r = true := by
  unfold isPl
  rw [decide_eq_true h.pos, decide_eq_true h.one, Bool.and_self, Bool.or_true]
/-- whether the first number that is not 0 is above 0 -/
def posL : List Int → Bool
  | [] => false
  | x :: xs => if x = 0 then posL xs else decide (0 < x)
theorem posL_gt : ∀ xs : List Int, posL xs = gtL xs (List.replicate xs.length 0)
  | [] => rfl
  | x :: xs => by
    show (if x = 0 then posL xs else decide (0 < x)) = if x = 0 then gtL xs (List.replicate xs.length 0) else decide (0 < x)
    rw [posL_gt xs]
/-- the row in its form -/
def fm (us : List Int) : List Int := if posL (rd us) = true then rd us else (rd us).map (0 - ·)
def nz : PyData → Bool
  | .int i => !decide (i = 0)
  | _ => false
theorem nz_first : ∀ {xs : List Int}, (∃ x ∈ xs, x ≠ 0) → ∃ x rest, (xs.map PyData.int).filter nz = .int x :: rest ∧ posL xs = decide (0 < x)
  | [], h => by obtain ⟨x, m, _⟩ := h; cases m
  | y :: ys, h => by
    by_cases z : y = 0
    · have h' : ∃ x ∈ ys, x ≠ 0 := by
        obtain ⟨x, m, n⟩ := h
        rcases List.mem_cons.mp m with e | m
        · exact absurd (e.trans z) n
        · exact ⟨x, m, n⟩
      obtain ⟨x, rest, e1, e2⟩ := nz_first h'
      refine ⟨x, rest, ?_, ?_⟩
      · rw [List.map_cons, List.filter_cons_of_neg (by show ¬ (!decide (y = 0)) = true; rw [decide_eq_true z]; decide)]
        exact e1
      · show (if y = 0 then posL ys else decide (0 < y)) = _
        rw [if_pos z]
        exact e2
    · refine ⟨y, (ys.map PyData.int).filter nz, ?_, ?_⟩
      · rw [List.map_cons, List.filter_cons_of_pos (by show (!decide (y = 0)) = true; rw [decide_eq_false z]; rfl)]
      · show (if y = 0 then posL ys else decide (0 < y)) = _
        rw [if_neg z]
theorem rd_nz {us : List Int} (h : gcI us ≠ 0) : ∃ x ∈ rd us, x ≠ 0 := by
  by_cases a : ∃ x ∈ rd us, x ≠ 0
  · exact a
  · have z := gcF_zero (rd us) fun u hu => Classical.byContradiction fun n => a ⟨u, hu, n⟩
    have o := gc_rd h
    rw [show gcI (rd us) = 0 from z] at o
    omega
theorem all4 {n : Nat} {a b c d : Int} (ha : Sz n a) (hb : Sz n b) (hc : Sz n c) (hd : Sz n d) : ∀ u ∈ [a, b, c, d], Sz n u := fun u hu => by
  simp only [List.mem_cons, List.not_mem_nil, or_false] at hu
  rcases hu with rfl | rfl | rfl | rfl <;> assumption
theorem gc4_ne {q l m k : Int} (h : 0 < l * l + m * m - 4 * (q * k)) : gcI [q, l, m, k] ≠ 0 := by
  by_cases z : l = 0 ∧ m = 0
  · have : q ≠ 0 := fun y => by
      rw [z.1, z.2, y] at h
      simp at h
    exact gc_ne (u := q) (by simp) this
  · by_cases y : l = 0
    · exact gc_ne (u := m) (by simp) fun x => z ⟨y, x⟩
    · exact gc_ne (u := l) (by simp) y
theorem disc_mul {g a b c d x y z w : Int} (h1 : g * x = a) (h2 : g * y = b) (h3 : g * z = c) (h4 : g * w = d) : g * g * (y * y + z * z - 2 * (x * w + x * w)) = b * b + c * c - 4 * (a * d) := by
  have e : g * g * (y * y + z * z - 2 * (x * w + x * w)) = (g * y) * (g * y) + (g * z) * (g * z) - 4 * ((g * x) * (g * w)) := by grind
  rw [e, h1, h2, h3, h4]
/-- a row is made of its numbers by their common divisor -/
theorem rd4 {n : Nat} {A B C D : Int} (hA : Sz n A) (hB : Sz n B) (hC : Sz n C) (hD : Sz n D) (h : 0 < B * B + C * C - 4 * (A * D)) : ∃ q l m k g, rd [A, B, C, D] = [q, l, m, k] ∧ Rw n q l m k ∧ 0 < g ∧ g * q = A ∧ g * l = B ∧ g * m = C ∧ g * k = D := by
  have ne := gc4_ne h
  have e1 : gcI [A, B, C, D] * (A / gcI [A, B, C, D]) = A := rd_at (by simp)
  have e2 : gcI [A, B, C, D] * (B / gcI [A, B, C, D]) = B := rd_at (by simp)
  have e3 : gcI [A, B, C, D] * (C / gcI [A, B, C, D]) = C := rd_at (by simp)
  have e4 : gcI [A, B, C, D] * (D / gcI [A, B, C, D]) = D := rd_at (by simp)
  exact ⟨A / gcI [A, B, C, D], B / gcI [A, B, C, D], C / gcI [A, B, C, D], D / gcI [A, B, C, D], gcI [A, B, C, D], rfl,
    ⟨gc_rd ne, pos_of_mul (Int.mul_pos (gc_pos ne) (gc_pos ne)) (disc_mul e1 e2 e3 e4) h, inferInstance, inferInstance, inferInstance, inferInstance⟩, gc_pos ne, e1, e2, e3, e4⟩
end Z

set_option Elab.async false
set_option linter.all false
set_option maxRecDepth 100000
namespace Z
open PySem L2
/-! ## 27. complex whole numbers: divisors -/
abbrev G := Int × Int
def gm (p q : G) : G := (p.1 * q.1 - p.2 * q.2, p.1 * q.2 + p.2 * q.1)
def nm (p : G) : Int := p.1 * p.1 + p.2 * p.2
def gdv (p q : G) : Prop := ∃ r, q = gm p r
theorem gm_comm (p q : G) : gm p q = gm q p := Prod.ext (by simp only [gm]; grind) (by simp only [gm]; grind)
theorem gm_assoc (p q r : G) : gm (gm p q) r = gm p (gm q r) := Prod.ext (by simp only [gm]; grind) (by simp only [gm]; grind)
theorem gm_one (p : G) : gm p (1, 0) = p := Prod.ext (by simp only [gm]; grind) (by simp only [gm]; grind)
theorem gm_zero (p : G) : gm p (0, 0) = (0, 0) := Prod.ext (by simp only [gm]; grind) (by simp only [gm]; grind)
theorem zero_gm (p : G) : gm (0, 0) p = (0, 0) := Prod.ext (by simp only [gm]; grind) (by simp only [gm]; grind)
theorem nm_mul (p q : G) : nm (gm p q) = nm p * nm q := by simp only [gm, nm]; grind
theorem nm_nn (p : G) : 0 ≤ nm p := nrm0 p.1 p.2
theorem nm_pos {p : G} (h : p ≠ (0, 0)) : 0 < nm p := ne_sq fun z => h (Prod.ext z.1 z.2)
theorem nm_zero {p : G} (h : nm p = 0) : p = (0, 0) := Classical.byContradiction fun n => by
  have := nm_pos n
  omega
theorem gdv_refl (p : G) : gdv p p := ⟨(1, 0), (gm_one p).symm⟩
theorem gdv_zero (p : G) : gdv p (0, 0) := ⟨(0, 0), (gm_zero p).symm⟩
theorem gdv_trans {p q r : G} (h : gdv p q) (g : gdv q r) : gdv p r := by
  obtain ⟨s, rfl⟩ := h
  obtain ⟨t, rfl⟩ := g
  exact ⟨gm s t, gm_assoc _ _ _⟩
theorem gdv_mul {p q : G} (h : gdv p q) (r : G) : gdv p (gm q r) := gdv_trans h ⟨r, rfl⟩
theorem gdv_left (p r : G) : gdv p (gm p r) := ⟨r, rfl⟩
theorem gdv_sub {p q r : G} (h : gdv p q) (g : gdv p r) : gdv p (q.1 - r.1, q.2 - r.2) := by
  obtain ⟨s, rfl⟩ := h
  obtain ⟨t, rfl⟩ := g
  exact ⟨(s.1 - t.1, s.2 - t.2), Prod.ext (by simp only [gm]; grind) (by simp only [gm]; grind)⟩
theorem gdv_add {p q r : G} (h : gdv p q) (g : gdv p r) : gdv p (q.1 + r.1, q.2 + r.2) := by
  obtain ⟨s, rfl⟩ := h
  obtain ⟨t, rfl⟩ := g
  exact ⟨(s.1 + t.1, s.2 + t.2), Prod.ext (by simp only [gm]; grind) (by simp only [gm]; grind)⟩
theorem zero_gdv {q : G} (h : gdv (0, 0) q) : q = (0, 0) := by
  obtain ⟨r, rfl⟩ := h
  exact zero_gm r
theorem gm_cancel {k p q : G} (hk : k ≠ (0, 0)) (h : gm k p = gm k q) : p = q := by
  have e : gm k (p.1 - q.1, p.2 - q.2) = (0, 0) := by
    have e1 : (gm k p).1 = (gm k q).1 := by rw [h]
    have e2 : (gm k p).2 = (gm k q).2 := by rw [h]
    simp only [gm] at e1 e2 ⊢
    exact Prod.ext (by show k.1 * (p.1 - q.1) - k.2 * (p.2 - q.2) = 0; grind) (by show k.1 * (p.2 - q.2) + k.2 * (p.1 - q.1) = 0; grind)
  have n : nm k * nm (p.1 - q.1, p.2 - q.2) = 0 := by rw [← nm_mul, e]; rfl
  have kp := nm_pos hk
  have z : nm (p.1 - q.1, p.2 - q.2) = 0 := by
    rcases Int.mul_eq_zero.mp n with y | y
    · omega
    · exact y
  have y := nm_zero z
  have y1 : p.1 - q.1 = 0 := congrArg Prod.fst y
  have y2 : p.2 - q.2 = 0 := congrArg Prod.snd y
  exact Prod.ext (by omega) (by omega)
theorem gdv_cancel {k p q : G} (hk : k ≠ (0, 0)) (h : gdv (gm k p) (gm k q)) : gdv p q := by
  obtain ⟨r, e⟩ := h
  rw [gm_assoc] at e
  exact ⟨r, gm_cancel hk e⟩
theorem sq_one {x : Int} (h : x * x ≤ 1) : x = -1 ∨ x = 0 ∨ x = 1 := by
  have h1 : ¬ 2 ≤ x := fun y => by
    have := Int.mul_le_mul y y (by decide) (by omega)
    omega
  have h2 : ¬ x ≤ -2 := fun y => by
    have := Int.mul_le_mul (show 2 ≤ -x by omega) (show 2 ≤ -x by omega) (by decide) (by omega)
    rw [Int.neg_mul_neg] at this
    omega
  omega
theorem unit_of {r : G} (h : nm r = 1) : r = (1, 0) ∨ r = (0, 1) ∨ r = (-1, 0) ∨ r = (0, -1) := by
  obtain ⟨x, y⟩ := r
  have h' : x * x + y * y = 1 := h
  have hx := sq0 x
  have hy := sq0 y
  rcases sq_one (x := x) (by omega) with rfl | rfl | rfl
  · rcases sq_one (x := y) (by omega) with rfl | rfl | rfl
    · omega
    · exact .inr (.inr (.inl rfl))
    · omega
  · rcases sq_one (x := y) (by omega) with rfl | rfl | rfl
    · exact .inr (.inr (.inr rfl))
    · omega
    · exact .inr (.inl rfl)
  · rcases sq_one (x := y) (by omega) with rfl | rfl | rfl
    · omega
    · exact .inl rfl
    · omega
theorem qf_turn (a b : Int) : qf (-b) a = qf a b := by
  unfold qf
  repeat' split
  all_goals first
    | (exfalso; omega)
    | (refine Prod.ext ?_ ?_ <;> (show _ = _; omega))
    | rfl
def as (p q : G) : Prop := gdv p q ∧ gdv q p
theorem as_refl (p : G) : as p p := ⟨gdv_refl p, gdv_refl p⟩
theorem as_symm {p q : G} (h : as p q) : as q p := ⟨h.2, h.1⟩
theorem as_trans {p q r : G} (h : as p q) (g : as q r) : as p r := ⟨gdv_trans h.1 g.1, gdv_trans g.2 h.2⟩
theorem as_unit {p q : G} (h : as p q) : q = p ∨ q = (-p.2, p.1) ∨ q = (-p.1, -p.2) ∨ q = (p.2, -p.1) := by
  obtain ⟨⟨r, h1⟩, ⟨s, h2⟩⟩ := h
  by_cases z : p = (0, 0)
  · subst z
    rw [zero_gm] at h1
    exact .inl h1
  · have e : gm p (gm r s) = gm p (1, 0) := by rw [← gm_assoc, ← h1, gm_one]; exact h2.symm
    have e2 := gm_cancel z e
    have e3 : nm r * nm s = 1 := by rw [← nm_mul, e2]; rfl
    have e4 : nm r = 1 := by
      have r0 := nm_nn r
      have s0 := nm_nn s
      have r1 : nm r ≠ 0 := fun y => by rw [y, Int.zero_mul] at e3; omega
      have s1 : nm s ≠ 0 := fun y => by rw [y, Int.mul_zero] at e3; omega
      by_cases y : 2 ≤ nm r
      · have := Int.mul_le_mul y (show 1 ≤ nm s by omega) (by decide) r0
        omega
      · omega
    rcases unit_of e4 with rfl | rfl | rfl | rfl
    · exact .inl (by rw [h1, gm_one])
    · exact .inr (.inl (by rw [h1]; exact Prod.ext (by simp only [gm]; omega) (by simp only [gm]; omega)))
    · exact .inr (.inr (.inl (by rw [h1]; exact Prod.ext (by simp only [gm]; omega) (by simp only [gm]; omega))))
    · exact .inr (.inr (.inr (by rw [h1]; exact Prod.ext (by simp only [gm]; omega) (by simp only [gm]; omega))))
theorem as_qf {p q : G} (h : as p q) : qf q.1 q.2 = qf p.1 p.2 := by
  rcases as_unit h with e | e | e | e
  · rw [e]
  · rw [e]; exact qf_turn p.1 p.2
  · rw [e]
    exact (qf_turn (-p.2) p.1).trans (qf_turn p.1 p.2)
  · rw [e]
    have e1 := qf_turn (-p.1) (-p.2)
    rw [Int.neg_neg] at e1
    exact e1.trans ((qf_turn (-p.2) p.1).trans (qf_turn p.1 p.2))
theorem qf_as (p : G) : as p (qf p.1 p.2) := by
  rcases qf_cases p.1 p.2 with ⟨h1, h2, e⟩ | ⟨_, _, _, e⟩
  · rw [e]
    have : p = (0, 0) := Prod.ext h1 h2
    rw [this]
    exact as_refl _
  · rcases e with e | e | e | e
    · rw [e]; exact as_refl _
    · rw [e]; exact ⟨⟨(0, 1), Prod.ext (by simp only [gm]; omega) (by simp only [gm]; omega)⟩, ⟨(0, -1), Prod.ext (by simp only [gm]; omega) (by simp only [gm]; omega)⟩⟩
    · rw [e]; exact ⟨⟨(-1, 0), Prod.ext (by simp only [gm]; omega) (by simp only [gm]; omega)⟩, ⟨(-1, 0), Prod.ext (by simp only [gm]; omega) (by simp only [gm]; omega)⟩⟩
    · rw [e]; exact ⟨⟨(0, -1), Prod.ext (by simp only [gm]; omega) (by simp only [gm]; omega)⟩, ⟨(0, 1), Prod.ext (by simp only [gm]; omega) (by simp only [gm]; omega)⟩⟩
theorem qf_qf (p : G) : qf (qf p.1 p.2).1 (qf p.1 p.2).2 = qf p.1 p.2 := as_qf (qf_as p)
theorem qf_sz {n : Nat} {a b : Int} (ha : Sz n a) (hb : Sz n b) : Sz n (qf a b).1 ∧ Sz n (qf a b).2 := by
  unfold qf
  repeat' split
  all_goals exact ⟨inferInstance, inferInstance⟩
/-! ### greatest common divisors -/
structure GC (ns : List G) (g : G) : Prop where
  dv : ∀ n ∈ ns, gdv g n
  big : ∀ d, (∀ n ∈ ns, gdv d n) → gdv d g
theorem GC.nil : GC [] (0, 0) := ⟨fun n h => (by cases h), fun d _ => gdv_zero d⟩
theorem GC.same {ns ms : List G} {g : G} (h : GC ns g) (e : ∀ d, (∀ n ∈ ns, gdv d n) ↔ ∀ m ∈ ms, gdv d m) : GC ms g := ⟨(e g).mp h.dv, fun d q => h.big d ((e d).mpr q)⟩
theorem GC.perm {ns ms : List G} {g : G} (p : ns.Perm ms) (h : GC ns g) : GC ms g := h.same fun d => ⟨fun q m hm => q m (p.mem_iff.mpr hm), fun q m hm => q m (p.mem_iff.mp hm)⟩
theorem GC.as {ns : List G} {g h : G} (a : GC ns g) (b : GC ns h) : Z.as g h := ⟨b.big g a.dv, a.big h b.dv⟩
theorem GC.of_as {ns : List G} {g h : G} (a : GC ns g) (b : Z.as g h) : GC ns h := ⟨fun n hn => gdv_trans b.2 (a.dv n hn), fun d q => gdv_trans (a.big d q) b.1⟩
theorem GC.one (g : G) : GC [g] g := ⟨fun n h => by rw [List.mem_singleton.mp h]; exact gdv_refl g, fun d q => q g (by simp)⟩
theorem GC.snoc {ns : List G} {g n h : G} (a : GC ns g) (b : GC [g, n] h) : GC (ns ++ [n]) h := by
  refine ⟨fun m hm => ?_, fun d q => b.big d fun m hm => ?_⟩
  · rcases List.mem_append.mp hm with y | y
    · exact gdv_trans (b.dv g (by simp)) (a.dv m y)
    · rw [List.mem_singleton.mp y]; exact b.dv n (by simp)
  · rcases List.mem_cons.mp hm with y | y
    · rw [y]; exact a.big d fun m hm => q m (List.mem_append_left _ hm)
    · rw [List.mem_singleton.mp y]; exact q n (by simp)
theorem gc2 {a b g : G} : GC [a, b] g ↔ (gdv g a ∧ gdv g b ∧ ∀ d, gdv d a → gdv d b → gdv d g) := by
  constructor
  · intro h
    exact ⟨h.dv a (by simp), h.dv b (by simp), fun d p q => h.big d fun n hn => by
      rcases List.mem_cons.mp hn with y | y
      · rw [y]; exact p
      · rw [List.mem_singleton.mp y]; exact q⟩
  · rintro ⟨h1, h2, h3⟩
    exact ⟨fun n hn => by
      rcases List.mem_cons.mp hn with y | y
      · rw [y]; exact h1
      · rw [List.mem_singleton.mp y]; exact h2, fun d q => h3 d (q a (by simp)) (q b (by simp))⟩
theorem GC.zero (a : G) : GC [a, (0, 0)] a := gc2.mpr ⟨gdv_refl a, gdv_zero a, fun d h _ => h⟩
theorem GC.zeroL (a : G) : GC [(0, 0), a] a := gc2.mpr ⟨gdv_zero a, gdv_refl a, fun d _ h => h⟩
/-- one number less a multiple of the other one -/
def les (a t b : G) : G := (a.1 - (gm t b).1, a.2 - (gm t b).2)
theorem gdv_les {d a b : G} (t : G) (h : gdv d a) (g : gdv d b) : gdv d (les a t b) := gdv_sub h (by rw [gm_comm]; exact gdv_mul g t)
theorem gdv_les' {d a b : G} {t : G} (h : gdv d (les a t b)) (g : gdv d b) : gdv d a := by
  have := gdv_add h (show gdv d (gm t b) by rw [gm_comm]; exact gdv_mul g t)
  have e : ((les a t b).1 + (gm t b).1, (les a t b).2 + (gm t b).2) = a := Prod.ext (by simp only [les]; omega) (by simp only [les]; omega)
  rw [e] at this
  exact this
theorem GC.step {a b t h : G} (x : GC [b, les a t b] h) : GC [a, b] h := by
  obtain ⟨h1, h2, h3⟩ := gc2.mp x
  exact gc2.mpr ⟨gdv_les' h2 h1, h1, fun d p q => h3 d q (gdv_les t p q)⟩
theorem GC.swap {a b h : G} (x : GC [a, b] h) : GC [b, a] h := by
  obtain ⟨h1, h2, h3⟩ := gc2.mp x
  exact gc2.mpr ⟨h2, h1, fun d p q => h3 d q p⟩
/-- the nearest multiple leaves at most half the norm -/
theorem half_sq {s e : Int} (h1 : -s ≤ 2 * e) (h2 : 2 * e ≤ s) : 4 * (e * e) ≤ s * s := by
  have : 0 ≤ (s - 2 * e) * (s + 2 * e) := Int.mul_nonneg (by omega) (by omega)
  grind
theorem floor_near {s t : Int} (hs : 0 < s) : -s ≤ 2 * (t - (2 * t + s) / (2 * s) * s) ∧ 2 * (t - (2 * t + s) / (2 * s) * s) ≤ s := by
  have h1 := Int.emod_nonneg (2 * t + s) (show 2 * s ≠ 0 by omega)
  have h2 := Int.emod_lt_of_pos (2 * t + s) (show 0 < 2 * s by omega)
  have h3 := Int.mul_ediv_add_emod (2 * t + s) (2 * s)
  generalize (2 * t + s) / (2 * s) = q at *
  generalize (2 * t + s) % (2 * s) = r at *
  have e : q * s * 2 = 2 * s * q := by grind
  omega
theorem rest_nm {a b c d : Int} (h : 0 < c * c + d * d) : 2 * nm (les (a, b) ((2 * (a * c - b * -d) + (c * c + d * d)) / (2 * (c * c + d * d)), (2 * (a * -d + b * c) + (c * c + d * d)) / (2 * (c * c + d * d))) (c, d)) ≤ c * c + d * d := by
  have f1 := floor_near (t := a * c - b * -d) h
  have f2 := floor_near (t := a * -d + b * c) h
  generalize (2 * (a * c - b * -d) + (c * c + d * d)) / (2 * (c * c + d * d)) = u at *
  generalize (2 * (a * -d + b * c) + (c * c + d * d)) / (2 * (c * c + d * d)) = v at *
  have g1 := half_sq f1.1 f1.2
  have g2 := half_sq f2.1 f2.2
  have e : (c * c + d * d) * nm (les (a, b) (u, v) (c, d)) = (a * c - b * -d - u * (c * c + d * d)) * (a * c - b * -d - u * (c * c + d * d)) + (a * -d + b * c - v * (c * c + d * d)) * (a * -d + b * c - v * (c * c + d * d)) := by
    simp only [nm, les, gm]
    grind
  refine Int.le_of_mul_le_mul_left (a := c * c + d * d) ?_ h
  have e2 : (c * c + d * d) * (2 * nm (les (a, b) (u, v) (c, d))) = 2 * ((c * c + d * d) * nm (les (a, b) (u, v) (c, d))) := by grind
  rw [e2, e]
  omega
theorem le_of_sq {a b : Int} (h : a * a ≤ b * b) (hb : 0 ≤ b) : a ≤ b ∧ -b ≤ a := by
  constructor
  · by_cases y : b < a
    · have h1 := Int.mul_le_mul_of_nonneg_left (Int.le_of_lt y) hb
      have h2 := Int.mul_lt_mul_of_pos_right y (show 0 < a by omega)
      omega
    · omega
  · by_cases y : b < -a
    · have h1 := Int.mul_le_mul_of_nonneg_left (Int.le_of_lt y) hb
      have h2 := Int.mul_lt_mul_of_pos_right y (show 0 < -a by omega)
      rw [Int.neg_mul_neg] at h2
      omega
    · omega
theorem sz_sq {n : Nat} {a c d : Int} (h : 2 * (a * a) ≤ c * c + d * d) (hc : Sz n c) (hd : Sz n d) : Sz n a := by
  have key : ∀ b : Int, Sz n b → a * a ≤ b * b → Sz n a := fun b hb q => ⟨by
    have e : (b.natAbs : Int) * (b.natAbs : Int) = b * b := Int.natAbs_mul_self' b
    have l := le_of_sq (a := a) (b := (b.natAbs : Int)) (by rw [e]; exact q) (Int.natCast_nonneg _)
    have := hb.lt
    omega⟩
  by_cases z : c * c ≤ d * d
  · exact key d hd (by omega)
  · exact key c hc (by omega)
theorem sz_nm {n : Nat} {x y c d : Int} (h : 2 * nm (x, y) ≤ c * c + d * d) (hc : Sz n c) (hd : Sz n d) : Sz n x ∧ Sz n y := by
  have h' : 2 * (x * x + y * y) ≤ c * c + d * d := h
  have hx := sq0 x
  have hy := sq0 y
  exact ⟨sz_sq (by omega) hc hd, sz_sq (by omega) hc hd⟩
/-! ### common whole divisors -/
theorem dvd_gcF {k : Int} : ∀ {us : List Int} {s : Int}, k ∣ s → (∀ u ∈ us, k ∣ u) → k ∣ gcF s us
  | [], s, h, _ => h
  | u :: us, s, h, g => by
    show k ∣ gcF (Int.gcd s u : Int) us
    exact dvd_gcF (Int.dvd_coe_gcd h (g u (List.mem_cons_self ..))) fun v hv => g v (List.mem_cons_of_mem _ hv)
theorem dvd_gc {k : Int} {us : List Int} (h : ∀ u ∈ us, k ∣ u) : k ∣ gcI us := dvd_gcF (Int.dvd_zero k) h
/-- a common divisor of two numbers divides the whole number that all their products have in common -/
theorem gdv_whole {d n o : G} (h1 : gdv d n) (h2 : gdv d o) : gdv d (gcI [n.1 * n.1 + n.2 * n.2, o.1 * o.1 + o.2 * o.2, n.1 * o.1 - n.2 * -o.2, n.1 * -o.2 + n.2 * o.1], 0) := by
  obtain ⟨r, rfl⟩ := h1
  obtain ⟨s, rfl⟩ := h2
  have dv : nm d ∣ gcI [(gm d r).1 * (gm d r).1 + (gm d r).2 * (gm d r).2, (gm d s).1 * (gm d s).1 + (gm d s).2 * (gm d s).2, (gm d r).1 * (gm d s).1 - (gm d r).2 * -(gm d s).2, (gm d r).1 * -(gm d s).2 + (gm d r).2 * (gm d s).1] := dvd_gc fun u hu => by
    simp only [List.mem_cons, List.not_mem_nil, or_false] at hu
    rcases hu with rfl | rfl | rfl | rfl
    · exact ⟨nm r, by simp only [nm, gm]; grind⟩
    · exact ⟨nm s, by simp only [nm, gm]; grind⟩
    · exact ⟨r.1 * s.1 + r.2 * s.2, by simp only [nm, gm]; grind⟩
    · exact ⟨r.2 * s.1 - r.1 * s.2, by simp only [nm, gm]; grind⟩
  obtain ⟨t, e⟩ := dv
  refine ⟨(d.1 * t, -(d.2 * t)), ?_⟩
  rw [e]
  exact Prod.ext (by simp only [nm, gm]; grind) (by simp only [gm]; grind)
/-- the quotient is there -/
theorem xq_of_dv {a b c d : Int} (hz : (c, d) ≠ ((0, 0) : G)) (h : gdv (c, d) (a, b)) : ∃ p : G, xq a b c d = some p := by
  obtain ⟨r, e⟩ := h
  have ea : a = c * r.1 - d * r.2 := congrArg Prod.fst e
  have eb : b = c * r.2 + d * r.1 := congrArg Prod.snd e
  have n : c * c + d * d ≠ 0 := by
    have : 0 < c * c + d * d := nm_pos hz
    omega
  have e1 : a * c - b * -d = (c * c + d * d) * r.1 := by rw [ea, eb]; grind
  have e2 : a * -d + b * c = (c * c + d * d) * r.2 := by rw [ea, eb]; grind
  unfold xq
  rw [if_neg n, e1, e2, if_pos ⟨Int.mul_emod_right _ _, Int.mul_emod_right _ _⟩]
  exact ⟨_, rfl⟩
/-- the divisor of numbers that are longer by a factor -/
theorem GC.longer {ns : List G} {k g h : G} (hk : k ≠ (0, 0)) (a : GC ns g) (b : GC (ns.map (gm k)) h) : Z.as (gm k g) h := by
  constructor
  · refine b.big _ fun m hm => ?_
    obtain ⟨n, hn, rfl⟩ := List.mem_map.mp hm
    obtain ⟨r, e⟩ := a.dv n hn
    exact ⟨r, by rw [gm_assoc, ← e]⟩
  · obtain ⟨m, rfl⟩ := b.big k fun n hn => by
      obtain ⟨n, _, rfl⟩ := List.mem_map.mp hn
      exact gdv_left k n
    have q := a.big m fun n hn => gdv_cancel hk (b.dv _ (List.mem_map_of_mem hn))
    obtain ⟨r, e⟩ := q
    exact ⟨r, by rw [gm_assoc, ← e]⟩
theorem GC.ne {ns : List G} {g : G} (a : GC ns g) (h : ∃ n ∈ ns, n ≠ (0, 0)) : g ≠ (0, 0) := fun z => by
  obtain ⟨n, hn, e⟩ := h
  have := a.dv n hn
  rw [z] at this
  exact e (zero_gdv this)
end Z

set_option Elab.async false
set_option linter.all false
set_option maxRecDepth 100000
namespace Z
open PySem L2
/-! ## 28. walks by what has been walked; numbers as data -/
theorem foD_pre {g : Wg} {b : Ws} {E : Ed} (I : List PyData → Ev → Prop) : ∀ {ds pre : List PyData} {ev : Ev}, (∀ (pre : List PyData) (d : PyData) (ev : Ev) (E' : Ed), d ∈ ds → I pre ev → (∀ ev', I (pre ++ [d]) ev' → E'.nx ev') → E'.ct = E'.nx → E'.rt = E.rt → E'.rl = E.rl → E'.bk = E.nx → g d ev fun e => b E' e) → I pre ev → (∀ ev', I (pre ++ ds) ev' → E.nx ev') → foD g b ds E ev
  | [], pre, ev, _, i, n => n ev (by rw [List.append_nil]; exact i)
  | d :: ds, pre, ev, h, i, n => h pre d ev _ (List.mem_cons_self ..) i (fun ev' i' => foD_pre I (fun p d' e' E' m => h p d' e' E' (List.mem_cons_of_mem _ m)) i' fun e i'' => n e (by rw [List.append_assoc] at i''; exact i'')) rfl rfl rfl rfl
def toG : PyData → G
  | .tuple [.int a, .int b] => (a, b)
  | _ => (0, 0)
theorem toG_map (ps : List G) : (ps.map cd).map toG = ps := by
  rw [List.map_map]
  have : ps.map (toG ∘ cd) = ps.map id := List.map_congr_left fun p _ => rfl
  rw [this, List.map_id]
theorem perm_cd {ys : List PyData} {ps : List G} (h : ys.Perm (ps.map cd)) : ∃ qs : List G, qs.Perm ps ∧ ys = qs.map cd := by
  refine ⟨ys.map toG, ?_, ?_⟩
  · have := h.map toG
    rw [toG_map] at this
    exact this
  · rw [List.map_map]
    have : ys.map (cd ∘ toG) = ys.map id := List.map_congr_left fun y hy => by
      obtain ⟨p, _, rfl⟩ := List.mem_map.mp (h.mem_iff.mp hy)
      rfl
    rw [this, List.map_id]
theorem cd_inj {ps qs : List G} (h : ps.map cd = qs.map cd) : ps = qs := by
  have := congrArg (List.map toG) h
  rw [toG_map, toG_map] at this
  exact this
theorem bools_of {α : Type} {f : α → Bool} : ∀ l : List α, bools (l.map fun x => .bool (f x)) = some (l.map f)
  | [] => rfl
  | x :: l => by
    show (bools (l.map fun x => PyData.bool (f x))).map (f x :: ·) = _
    rw [bools_of l]
    rfl
theorem eqv_cd (p q : G) : PyData.eqv (cd p) (cd q) = decide (p = q) := by
  show PyData.eqv (cp p.1 p.2) (cp q.1 q.2) = _
  rw [eqv_cp]
  by_cases z : p = q
  · rw [decide_eq_true z, decide_eq_true ⟨congrArg Prod.fst z, congrArg Prod.snd z⟩]
  · rw [decide_eq_false z, decide_eq_false fun y => z (Prod.ext y.1 y.2)]
theorem shp_cd (p : G) : shp (cd p) := rfl
theorem foD_at {g : Wg} {b : Ws} {E : Ed} (all : List PyData) (I : List PyData → Ev → Prop) (step : ∀ (pre : List PyData) (d : PyData) (post : List PyData) (ev : Ev) (E' : Ed), all = pre ++ d :: post → I pre ev → (∀ ev', I (pre ++ [d]) ev' → E'.nx ev') → E'.rt = E.rt → E'.bk = E.nx → E'.ct = E'.nx → g d ev fun e => b E' e) : ∀ {ds pre : List PyData} {ev : Ev}, all = pre ++ ds → I pre ev → (∀ ev', I all ev' → E.nx ev') → foD g b ds E ev
  | [], pre, ev, e, i, n => n ev (by rw [e, List.append_nil]; exact i)
  | d :: ds, pre, ev, e, i, n => step pre d ds ev _ e i (fun ev' i' => foD_at all I step (by rw [List.append_assoc]; exact e) i' n) rfl rfl rfl
theorem Tk.noLst {b : Int} {ts : List PyData} (h : Tk b ts) : noLsts ts = true := by
  obtain ⟨r, s, n, rfl, _⟩ := h
  rfl
theorem noLst_cds (ps : List G) : noLsts (ps.map cd) = true := noLsts_map (fun _ => rfl) ps
theorem shp_cds (ps : List G) : shp (.list (ps.map cd)) := by
  have a : ∀ ps : List G, PyData.canLayAll0 (ps.map cd) = true ∧ PyData.depthAll (ps.map cd) ≤ 1 := by
    intro ps
    induction ps with
    | nil => exact ⟨by simp only [List.map_nil, PyData.canLayAll0], by simp only [List.map_nil, PyData.depthAll]; decide⟩
    | cons p ps ih =>
      refine ⟨?_, ?_⟩
      · rw [List.map_cons]
        simp only [PyData.canLayAll0, ih.1, Bool.and_true]
        rfl
      · rw [List.map_cons]
        simp only [PyData.depthAll]
        have : (cd p).depth = 1 := rfl
        omega
  obtain ⟨a1, a2⟩ := a ps
  have b : (PyData.list (ps.map cd)).depth ≤ 64 := by
    simp only [PyData.depth]
    omega
  unfold shp SeqAt.shaped
  simp only [PyData.canLay0, a1, Bool.true_and, decide_eq_true_eq]
  exact b
theorem eqv_nil (l : List PyData) : PyData.eqv (.list l) (.list []) = l.isEmpty := by
  cases l <;> simp [PyData.eqv, PyData.eqvAll]
theorem ixN_lt {l : Nat} {j : Int} (h0 : 0 ≤ j) (h1 : j < l) : ixN l j = some j.toNat := by
  unfold ixN
  rw [if_pos h0, if_pos h1]
theorem cutD_take {α : Type} {xs : List α} {k : Nat} : cutD xs none (some (k : Int)) = xs.take k := by
  unfold cutD
  have e0 : HT.sIx xs.length 0 none = 0 := rfl
  rw [e0, List.drop_zero, Nat.sub_zero]
  have e1 : HT.sIx xs.length xs.length (some (k : Int)) = min k xs.length := by
    unfold HT.sIx
    simp only []
    first
      | (split <;> omega)
      | omega
  rw [e1, ← List.take_take, List.take_length]
/-- a slot that holds no own list -/
def fr (s : Option Sl) : Prop := s = none ∨ ∃ v, s = some (.val v)
theorem fr_none : fr none := .inl rfl
theorem fr_val {v : PyData} : fr (some (.val v)) := .inr ⟨v, rfl⟩
theorem gN_fr {i : Nat} {d : PyData} {ev : Ev} {Q : Ev → Prop} {s : Option Sl} (e : ev[i]? = some s) (h : fr s) (q : Q (ev.set i (some (.val d)))) : gN i d ev Q := by
  unfold gN
  rw [e]
  rcases h with rfl | ⟨v, rfl⟩ <;> exact q
theorem dLc_of {i : Nat} {u : Wa} {t : Wt} {el : Wx} {ds : List PyData} {ev : Ev} {Q : PyData → Ev → Prop} (hi : i ≠ 0) (hu : ∀ R : List PyData → Ev → Prop, R ds ev → u ev R) (he : ev[i]? = some none) (h : lcD [i] (gN i) t el ds [] ev fun acc e => Q (.list acc) e) : dLc [i] u (gN i) t el ev Q := by
  have e1 : ([i].all fun v => v != 0) = true := by simpa using hi
  have e2 : cleanB ev [i] = true := by
    unfold cleanB
    rw [he]
    rfl
  show (match [i].all fun v => v != 0 with
    | true => u ev fun ds e => match cleanB e [i] with
      | true => lcD [i] (gN i) t el ds [] e fun acc e' => Q (.list acc) e'
      | false => lcD [i] (gN i) t el ds [] (wipeD e [i]) fun acc e' => Q (.list acc) e'
    | false => False)
  rw [e1]
  refine hu _ ?_
  rw [e2]
  exact h
/-- all([.. for x in xs]) -/
theorem all_lc {i : Nat} {u : Wa} {el : Wx} {f : PyData → Bool} {ds : List PyData} {ev : Ev} {Q : PyData → Ev → Prop} (hi : i ≠ 0) (hu : ∀ R : List PyData → Ev → Prop, R ds ev → u ev R) (he : ev[i]? = some none) (hl : ds.length ≤ 1000)
    (h : ∀ d ∈ ds, ∀ R : PyData → Ev → Prop, R (.bool (f d)) (ev.set i (some (.val d))) → el (ev.set i (some (.val d))) R) (q : Q (.bool ((ds.map f).all id)) ev) : dCal fAll (daC (dLc [i] u (gN i) dYes el) daN) ev Q :=
  dLc_of (Q := fun d e => fAll [d] fun d => Q d e) hi hu he (lc_map (f := fun d => .bool (f d)) he (by rw [List.length_nil, Nat.zero_add]; exact hl) h (fAll_of (bools_of ds) q))
theorem any_lc {i : Nat} {u : Wa} {el : Wx} {f : PyData → Bool} {ds : List PyData} {ev : Ev} {Q : PyData → Ev → Prop} (hi : i ≠ 0) (hu : ∀ R : List PyData → Ev → Prop, R ds ev → u ev R) (he : ev[i]? = some none) (hl : ds.length ≤ 1000)
    (h : ∀ d ∈ ds, ∀ R : PyData → Ev → Prop, R (.bool (f d)) (ev.set i (some (.val d))) → el (ev.set i (some (.val d))) R) (q : Q (.bool ((ds.map f).any id)) ev) : dCal fAny (daC (dLc [i] u (gN i) dYes el) daN) ev Q :=
  dLc_of (Q := fun d e => fAny [d] fun d => Q d e) hi hu he (lc_map (f := fun d => .bool (f d)) he (by rw [List.length_nil, Nat.zero_add]; exact hl) h (fAny_of (bools_of ds) q))
theorem gs_fr {i : Nat} {gs : Wgs} {d : PyData} {r : List PyData} {ev : Ev} {Q : Ev → Prop} {s : Option Sl} (e : ev[i]? = some s) (h : fr s) (q : gs r (ev.set i (some (.val d))) Q) : gsC (gN i) gs (d :: r) ev Q := gN_fr (Q := fun e => gs r e Q) e h q
theorem dt_lele {X : Cx} {c : Cf} {a b d : Expr} {wa wb wd : Wx} {pos : Pos} (ha : DE X c a wa) (hb : DE X c b wb) (hd : DE X c d wd) (m1 : lastMarks [.LtE, .LtE] [b, d] = false := by rfl) : DT X c (.Compare a [.LtE, .LtE] [b, d] pos) (dTru (dChain fLe fLe wa wb wd)) :=
  ptM (pt_chain op_le op_le ha hb hd m1) fun σ H Q ⟨M, ev, pd, R, k, w, q⟩ =>
  ⟨M, ev, pd, _, k, w, fun x e1 y1 v H1 k1 => ⟨M, e1, _, _, k1, y1, fun y e2 y2 u H2 k2 => (rz_ii0 (K := X.K) (g := fun i j => .bl (decide (i ≤ j))) (g' := fun i j => .bool (decide (i ≤ j))) fun _ _ _ => .bl _) c M σ H2 e2 ((u, y) :: pd) v u x y _ _ (k2.pop fun p hp => by
      rcases List.mem_cons.mp hp with z | z
      · rw [z]; exact List.mem_cons_self ..
      · exact List.mem_cons_of_mem _ (List.mem_cons_of_mem _ z)) k2.pop1.top k2.top y2 fun dd w' H3 hq k3 => by
    have t := k3.top
    split at hq
    · cases t
      rename_i t
      refine ⟨_, rfl, ?_⟩
      by_cases z : t = true
      · rw [if_pos z] at hq ⊢
        exact ⟨M, e2, _, _, k3.pop1, hq, fun u3 e3 y3 v3 H4 k4 => (rz_ii0 (K := X.K) (g := fun i j => .bl (decide (i ≤ j))) (g' := fun i j => .bool (decide (i ≤ j))) fun _ _ _ => .bl _) c M σ H4 e3 pd u v3 y u3 _ _ (k4.pop1.pop1) k4.pop1.top k4.top (bl_ii y u3 _ y3) fun d4 w4 H5 hq4 k5 => by
          obtain ⟨⟨b, rfl⟩, _, hq4⟩ := hq4
          have t5 := k5.top
          cases t5
          exact ⟨b, rfl, q b _ hq4 H5 k5.pop1⟩⟩
      · rw [if_neg z] at hq ⊢
        exact ⟨false, rfl, q false _ hq.2 H3 k3.pop1.pop1⟩
    · exact hq.elim⟩⟩
end Z

set_option Elab.async false
set_option linter.all false
set_option maxRecDepth 100000
namespace Z
open PySem L2
/-! ## 29. rows in their form -/
theorem posL4 {q l m k : Int} : gtL [q, l, m, k] [0, 0, 0, 0] = posL [q, l, m, k] := (posL_gt [q, l, m, k]).symm
theorem posL_neg : ∀ {xs : List Int}, (∃ x ∈ xs, x ≠ 0) → posL xs = false → posL (xs.map (0 - ·)) = true
  | [], h, _ => by obtain ⟨x, m, _⟩ := h; cases m
  | y :: ys, h, e => by
    show (if 0 - y = 0 then posL (ys.map (0 - ·)) else decide (0 < 0 - y)) = true
    have e' : (if y = 0 then posL ys else decide (0 < y)) = false := e
    by_cases z : y = 0
    · rw [if_pos z] at e'
      rw [if_pos (by omega)]
      refine posL_neg ?_ e'
      obtain ⟨x, m, n⟩ := h
      rcases List.mem_cons.mp m with w | w
      · exact absurd (w.trans z) n
      · exact ⟨x, w, n⟩
    · rw [if_neg z] at e'
      rw [if_neg (by omega)]
      have := of_decide_eq_false e'
      exact decide_eq_true (by omega)
theorem gcF_neg : ∀ (us : List Int) (s : Int), gcF s (us.map (0 - ·)) = gcF s us
  | [], _ => rfl
  | u :: us, s => by
    show gcF (Int.gcd s (0 - u) : Int) (us.map (0 - ·)) = gcF (Int.gcd s u : Int) us
    rw [Int.zero_sub, Int.gcd_neg]
    exact gcF_neg us _
theorem disc_neg (q l m k : Int) : (0 - l) * (0 - l) + (0 - m) * (0 - m) - 2 * ((0 - q) * (0 - k) + (0 - q) * (0 - k)) = l * l + m * m - 2 * (q * k + q * k) := by grind
theorem Rw.neg {n : Nat} {q l m k : Int} (h : Rw n q l m k) : Rw n (0 - q) (0 - l) (0 - m) (0 - k) := by
  have hs : ∀ x : Int, Sz n x → Sz n (0 - x) := fun x a => by rw [Int.zero_sub]; exact sz_neg
  exact ⟨by
    have := gcF_neg [q, l, m, k] 0
    exact this.trans h.one, by rw [disc_neg]; exact h.pos, hs _ h.sq, hs _ h.sl, hs _ h.sm, hs _ h.sk⟩
/-- the round of numbers -/
theorem fm_any {n : Nat} {A B C D : Int} (hA : Sz n A) (hB : Sz n B) (hC : Sz n C) (hD : Sz n D) (h : 0 < B * B + C * C - 4 * (A * D)) : ∃ q l m k g, fm [A, B, C, D] = [q, l, m, k] ∧ Rn n q l m k ∧ g ≠ 0 ∧ g * q = A ∧ g * l = B ∧ g * m = C ∧ g * k = D := by
  obtain ⟨q, l, m, k, g, e, rw', hg, e1, e2, e3, e4⟩ := rd4 hA hB hC hD h
  unfold fm
  rw [e]
  by_cases z : posL [q, l, m, k] = true
  · rw [if_pos z]
    exact ⟨q, l, m, k, g, rfl, ⟨rw', by rw [posL4]; exact z⟩, by omega, e1, e2, e3, e4⟩
  · rw [if_neg z]
    have ne : ∃ x ∈ [q, l, m, k], x ≠ 0 := by
      rw [← e]
      exact rd_nz (gc4_ne h)
    refine ⟨0 - q, 0 - l, 0 - m, 0 - k, -g, rfl, ⟨rw'.neg, by rw [posL4]; exact posL_neg ne (by simpa using z)⟩, by omega, ?_, ?_, ?_, ?_⟩
    · rw [← e1, Int.zero_sub, Int.neg_mul_neg]
    · rw [← e2, Int.zero_sub, Int.neg_mul_neg]
    · rw [← e3, Int.zero_sub, Int.neg_mul_neg]
    · rw [← e4, Int.zero_sub, Int.neg_mul_neg]
theorem fm_pos {n : Nat} {A B C D : Int} (hA : Sz n A) (hB : Sz n B) (hC : Sz n C) (hD : Sz n D) (h0 : 0 < A) (h : 0 < B * B + C * C - 4 * (A * D)) : ∃ q l m k g, fm [A, B, C, D] = [q, l, m, k] ∧ Rn n q l m k ∧ 0 < g ∧ g * q = A ∧ g * l = B ∧ g * m = C ∧ g * k = D := by
  obtain ⟨q, l, m, k, g, e, rn, hg, e1, e2, e3, e4⟩ := fm_any hA hB hC hD h
  refine ⟨q, l, m, k, g, e, rn, ?_, e1, e2, e3, e4⟩
  have u := rn.up
  rw [posL4] at u
  have u' : (if q = 0 then posL [l, m, k] else decide (0 < q)) = true := u
  by_cases z : q = 0
  · rw [z, Int.mul_zero] at e1
    omega
  · rw [if_neg z] at u'
    have q0 := of_decide_eq_true u'
    rcases Int.lt_trichotomy g 0 with y | y | y
    · have := Int.mul_neg_of_neg_of_pos y q0
      omega
    · omega
    · exact y
theorem Rn.q0 {n : Nat} {q l m k : Int} (h : Rn n q l m k) : q = 0 ∨ 0 < q := by
  have u := h.up
  rw [posL4] at u
  have u' : (if q = 0 then posL [l, m, k] else decide (0 < q)) = true := u
  by_cases z : q = 0
  · exact .inl z
  · rw [if_neg z] at u'
    exact .inr (of_decide_eq_true u')
theorem Rw.up {n m : Nat} {a b c d : Int} (h : Rw n a b c d) (l : n ≤ m) : Rw m a b c d := ⟨h.one, h.pos, szUp h.sq l, szUp h.sl l, szUp h.sm l, szUp h.sk l⟩
theorem Rn.up' {n m : Nat} {a b c d : Int} (h : Rn n a b c d) (l : n ≤ m) : Rn m a b c d := ⟨h.row.up l, h.up⟩
theorem Rw.disc {n : Nat} {q l m k : Int} (h : Rw n q l m k) : 0 < l * l + m * m - 4 * (q * k) := by
  have := h.pos
  omega
end Z

set_option Elab.async false
set_option linter.all false
set_option maxRecDepth 100000
namespace Z
open PySem L2
/-! ## 24. more forms -/
section
variable {X : Cx} {c : Cf} {pos : Pos}
/-- a, x = e, [..], x an own list from now on -/
def wParO (i j : Nat) (w : Wx) (u : Wa) : Ws := fun E ev => w ev fun d e => u e fun ds e1 => ds.length ≤ 1000 ∧ gN i d e1 fun e2 => match e2[j]? with
  | some (some (.own _)) => False
  | some _ => E.nx (e2.set j (some (.own ds)))
  | none => False
theorem ds_parO {i j : Nat} {x y : Str} {a : Expr} {es : List Expr} {w : Wx} {u : Wa} {px py pt pl : Pos} {kt k2 pt2} (hc : X.calm = true) (hN : X.N.Nodup) (hi : X.N[i]? = some x) (hj : X.N[j]? = some y) (hij : i ≠ j)
    (hx : X.env.scope.names.lookup x = some .local) (hy : X.env.scope.names.lookup y = some .local) (ha : DE X c a w) (hl : DA X c es u)
    (hw : swappedStores [.Tuple [.Name x px, .Name y py] kt pt] (.Tuple [a, .List es pl] k2 pt2) X.env = pure (some [x, y]))
    (h2 : starEach [a, .List es pl] X.env = (false, eval a X.env) :: starEach [.List es pl] X.env := by rfl)
    (h3 : starEach [.List es pl] X.env = (false, eval (.List es pl) X.env) :: starEach [] X.env := by rfl)
    (hs : swapsWithSole [.Tuple [.Name x px, .Name y py] kt pt] (.Tuple [a, .List es pl] k2 pt2) pos.line X.env = pure false := by rfl) :
    DS X c (.Assign [.Tuple [.Name x px, .Name y py] kt pt] (.Tuple [a, .List es pl] k2 pt2) pos) (wParO i j w u) :=
  psM (ps_par hc hN hi hj hij hx hy (pa_cons ha (pa_cons (pe_lst hl) pa_nil h3) h2) hw hs) fun De σ H ⟨M, ev, pd, R, k, h, f⟩ =>
    ⟨M, ev, pd, _, k, h, fun d e q v H1 k1 => ⟨M, e, _, _, k1, q, fun ds e1 q1 vs H2 k2 r => by
      obtain ⟨l, q1⟩ := q1
      obtain ⟨n1, q2⟩ := gN_of q1
      obtain ⟨n2, q3⟩ := notOwn_of q2
      refine ⟨by rw [r.len]; exact line_of l, fun p hp => ?_⟩
      exact ⟨v, .ref p, rfl, f.nx _ q3 _ _ _ ((k2.set n1 k2.top).pop1.ownNew n2 hp r)⟩⟩⟩
/-- a, b, c = a list -/
def gL (n : Nat) (gs : Wgs) : Wg := fun d ev Q => match d with
  | .list ds => ds.length = n ∧ gs ds ev Q
  | _ => False
theorem dg_lst {vs : List Nat} {es : List Expr} {gs : Wgs} {n k : Nat} (hc : X.calm = true) (h : DGs X c vs es gs) (h1 : (assignEach es X.env).length = n := by rfl) (h2 : (assignEach es X.env).findIdx? (·.1) = none := by rfl) :
    DG X c vs (.Tuple es k pos) (gL n gs) := pgM (pg_unl (n := n) hc h h1 h2) fun v σ H Q ⟨M, ev, pd, d, R, k, w, q⟩ => by
  have t := k.top
  unfold gL at w
  split at w
  · cases t with
    | lst g1 g2 => exact ⟨_, _, rfl, sqL_up msk_sub g1, by rw [g2.len]; exact w.1, M, ev, pd, _, R, k.pop1.pushA g2, g2.len, w.2, q⟩
  · exact w.elim
/-- a list or a tuple is walked -/
def diA (w : Wx) : Wa := fun ev Q => diL w ev Q ∨ diT w ev Q
theorem pi_or {tg l : Expr} {a b : TI} (p : PI X tg l a) (q : PI X tg l b) : PI X tg l (fun σ H R => a σ H R ∨ b σ H R) := ⟨fun pins s σ H R I h => h.elim (p.run pins s σ H R I) (q.run pins s σ H R I)⟩
theorem di_any {tg l : Expr} {w : Wx} (h : DE X c l w) : DI X c tg l (diA w) := piM (pi_or (di_list h) (di_tup h)) fun σ H Q ⟨M, ev, pd, R, k, w, q⟩ => w.elim (fun w => .inl ⟨M, ev, pd, R, k, w, q⟩) (fun w => .inr ⟨M, ev, pd, R, k, w, q⟩)
end
/-! ### defaults -/
section
variable {P : Program} {wd : World} {K : PySem.W.Frag} {mg : Str → Option Value} {base : Heap} {CX : CXT}
theorem fnG_ofD {x qual : Str} {params : Arguments} {bd : List Stmt} {scope : Scope} {dvs : List V} {kws : List (Str × V)} {f : Addr} {fd : FuncData} {N ps : List Str} {k : Nat} {sp : Sp} (F : FunD K x qual params bd scope dvs kws f fd) (S : FnScope N ps scope) (ar : ∀ vs H Q E, sp vs H Q E → vs.length = ps.length)
    (body : ∀ (cdv : Value) (A : Around) (outer : List Env) (s : Shared) (H : Hp) (vs : List V) (Q : VK) (E : XK), A.guards = some [] → Room k (A.deeper (PyProof.Rows.envOfC qual scope s.heap.objs.size f cdv)) → sp vs H Q E →
      ∃ t, PSs (cxOf CX P wd K mg base N qual scope f cdv A outer s H E) bd t ∧ t { nx := fun _ H' => Q .non H', rt := Q } (L2.start N vs) H) : FnG P wd K mg base CX (k + 1) f fd ps sp := by
  obtain ⟨oc, od, dV, kV, doc, pm, an, cdv, ct, osl, rfl, lk, hcd, _, _⟩ := F.ex
  constructor
  · exact ar
  intro A outer s H args us vs Q E hG hr e0 hb r hsp
  have inK : K.In s.heap := e0.mod.kin.keeps (fun b o q => (e0.bs b o q).1)
  have lim := e0.mod.nolimit.keeps (fun b o q => (e0.bs b o q).1)
  refine PySem.codeAny_call_function (hr.depth) (inK _ _ lk) rfl S.co S.gen rfl (PySem.W.codeRec_of inK hcd) (hb _ _ _ _ ?_)
  refine PySem.wpAny_newFunctionEnv_cells S.kind ?_ ?_
  · rintro ⟨n, v⟩ hy
    have m := (List.of_mem_zip hy).1
    cases S.par n m with
    | inl q => exact .inl q
    | inr q => exact .inr ⟨q, PySem.W.cellsFrom_some _ _ _ (.inl q)⟩
  · intro env he s1 x
    subst he
    refine ⟨lim.keeps x.toInCall.keep, PySem.codeAny_func ?_⟩
    obtain ⟨t, ht, hq⟩ := body cdv A outer s H vs Q E hG (hr.deeper _) hsp
    have I := inv_start (CX := CX) (E := E) S hr.hd e0 (ar _ _ _ _ hsp) r x
    refine wpAny_mono (ht.run [] s1 _ H _ I hq) ?_ ?_
    · intro fl s' hs
      cases fl with
      | next =>
        obtain ⟨σ', H', J, q⟩ := hs
        exact ⟨V.non, H', J.os, J.bare, J.base, J.hok, rfl, q⟩
      | ret u =>
        obtain ⟨v, σ', H', J, rv, q⟩ := hs
        exact ⟨v, H', J.os, J.bare, J.base, J.hok, rv, q⟩
      | brk => obtain ⟨_, _, _, q⟩ := hs; exact q.elim
      | cont => obtain ⟨_, _, _, q⟩ := hs; exact q.elim
    · intro e s' hs
      exact hs
theorem okPD {x qual : Str} {params : Arguments} {bd : List Stmt} {scope : Scope} {dvs : List V} {kws : List (Str × V)} {f : Addr} {fd : FuncData} {N ps : List Str} {k n m : Nat} {C : Cp} {w : Ws} (F : FunD K x qual params bd scope dvs kws f fd) (S : FnScope N ps scope) (hn : ps.length = n) (hN : N.length = n + m)
    (body : ∀ (c : Cf) (cdv : Value) (A : Around) (outer : List Env) (s : Shared) (H : Hp) (E : XK), A.guards = some [] → Room k (A.deeper (PyProof.Rows.envOfC qual scope s.heap.objs.size f cdv)) → DSs (cxOf CX0 P wd K mg base N qual scope f cdv A outer s H E).nox c bd w)
    (sem : ∀ ds R, C ds R → ds.length = n → w (edP R) (ev0 m ds)) : FnG P wd K mg base CX0 (k + 1) f fd ps (spP K n C) := by
  refine fnG_ofD F S (fun vs H Q E h => ?_) (fun cdv A outer s H vs Q E hG hr h => ?_)
  · obtain ⟨_, _, _, l, _⟩ := h
    rw [l, hn]
  · obtain ⟨Mk, ds, R, l, mk, ra, hC, q⟩ := h
    refine ⟨_, (body ⟨H, fun _ => false, Mk⟩ cdv A outer s H E hG hr).nox, Mk, ev0 m ds, [], edP R, ⟨?_, fun i d e => ?_, fun i es e => ?_, fun i j a es fs e => ?_, fun p hp => (by cases hp), fun b o e _ => e, fun a e => e, mk.dom, mk.dom, mk.lk, fun a e => (by cases e)⟩, sem ds R hC (by rw [← ra.len, l]), ?_⟩
    · simp only [L2.start, ev0, List.length_append, List.length_map, List.length_replicate, hN, ← ra.len, l]
      omega
    · obtain ⟨d', z, e⟩ := ev0_get e
      cases z
      obtain ⟨v, y1, y2⟩ := ra.get i e
      exact ⟨v, start_get y1, y2⟩
    · obtain ⟨d', z, e⟩ := ev0_get e
      cases z
    · obtain ⟨d', z, e⟩ := ev0_get e
      cases z
    · exact ⟨fun ev' h M' σ' H' k' => q _ h _ _ (fun b o e => k'.frame b o e rfl) .non, fun d ev' h M' σ' v H' k' r => q _ h _ _ (fun b o e => k'.frame b o e rfl) r, fun ev' h => h.elim, fun ev' h => h.elim, fun ds ev' h M' σ' p vs H' k' z1 z2 r => q _ h _ _ (fun b o e => k'.frame b o e rfl) (.lst (sq_lst (msk_of z2 (by
          by_cases z : (Mk p).1 = 0
          · exact z
          · obtain ⟨o, y⟩ := mk.dom p z
            rw [show H p = none from z1] at y
            cases y))) r)⟩
/-- a def that may be called with its last parameters left to their defaults dd -/
structure ClD (P : Program) (wd : World) (K : PySem.W.Frag) (mg : Str → Option Value) (base : Heap) (k : Nat) (x : Str) (ps : List Str) (dd : List PyData) (sp : Sp) : Prop where
  ex : ∃ f fd dvs ds, mg x = some (.ref f) ∧ PySem.W.keepIn K (.ref f) = true ∧ Binds K fd ps ds ∧ Vals dvs ds ∧ (∀ H, DzAll K H dvs dd) ∧ FnG P wd K mg base CX0 k f fd ps sp
end
section
variable {X : Cx} {c : Cf} {k kg n : Nat} {x : Str} {ps : List Str} {p pos : Pos} {e : Expr} {es : List Expr} {u : Wa}
theorem pe_cGD {f : Addr} {fd : FuncData} {dvs : List V} {dl : List Value} {sp : Sp} {t : TA} (hm : X.mg x = some (.ref f)) (hkp : PySem.W.keepIn X.K (.ref f) = true) (hb : Binds X.K fd ps dl) (hv : Vals dvs dl) (F : FnG X.prog X.w X.K X.mg X.base CX0 kg f fd ps sp) (hk : kg ≤ k) (hr : Room k X.A) (hG : X.A.guards = some []) (hg : Gl X x) (ha : PA X (e :: es) t) (h2 : (x == ("__debug__" : Str)) = false) (h3 : starEach (e :: es) X.env = (false, eval e X.env) :: starEach es X.env) (h4 : (backTo pos (starEach es X.env)).any (·.1) = false) :
    PE X (.Call (.Name x p) (e :: es) [] pos) (fun σ H Q => t σ H fun vs H1 => sp (vs ++ dvs) H1 Q E0) := by
  constructor
  intro pins s σ H Q I h
  apply wpAny_Call_Name_kw
  apply ld_glob I hg hm _ h2
  refine PySem.W.callWith_K (h₀ := X.base) I.ok.mod.kin hkp (thn (ha.run pos pins s σ H _ I h) ?_) h3 h4
  rintro us s1 ⟨vs, H1, I1, r, q⟩
  refine ⟨I1.kIn, ?_⟩
  have ar := F.ar _ _ _ _ q
  have b := hb s1 us I1.kIn (by rw [List.length_append, ← r.length, ← hv.length, ← List.length_append, ar])
  exact callG (args := ⟨us, []⟩) (us := us) (kw := []) (runG F hk hr hG I1 b (r.append hv) q)
theorem DzAll.app2 {K : PySem.W.Frag} {H : Hp} : ∀ {vs us : List V} {ds es : List PyData}, DzAll K H vs ds → DzAll K H us es → DzAll K H (vs ++ us) (ds ++ es)
  | _, _, _, _, .nil, b => b
  | _, _, _, _, .cons a r, b => .cons a (DzAll.app2 r b)
def dFnD (n : Nat) (dd : List PyData) (C : Cp) (u : Wa) : Wx := fun ev Q => u ev fun ds e => (ds ++ dd).length = n ∧ C (ds ++ dd) fun d => Q d e
theorem de_fnD {C : Cp} {dd : List PyData} (F : ClD X.prog X.w X.K X.mg X.base kg x ps dd (spP X.K n C)) (hk : kg ≤ k) (hr : Room k X.A) (hG : X.A.guards = some []) (hg : Gl X x) (ha : DA X c (e :: es) u) (h2 : (x == ("__debug__" : Str)) = false := by decide) (h3 : starEach (e :: es) X.env = (false, eval e X.env) :: starEach es X.env := by rfl) (h4 : (backTo pos (starEach es X.env)).any (·.1) = false := by rfl) :
    DE X c (.Call (.Name x p) (e :: es) [] pos) (dFnD n dd C u) := by
  obtain ⟨f, fd, dvs, dl, hm, hkp, hb, hv, hd, F⟩ := F.ex
  exact peM (pe_cGD hm hkp hb hv F hk hr hG hg ha h2 h3 h4) fun σ H Q ⟨M, ev, pd, R, k, w, q⟩ =>
    ⟨M, ev, pd, _, k, w, fun ds e ⟨l, h1⟩ vs H1 k1 r => ⟨M, ds ++ dd, _, by rw [List.length_append, r.len, (hd H1).len, ← List.length_append, l], k1.mkOk, r.app2 (hd _), h1, fun d hd v H' g z => q d e hd v H' ((k1.grow g).push z)⟩⟩
end
section
variable {K : PySem.W.Frag}
theorem funD_mk {x qual : Str} {st : Stmt} {f T : Addr} {oc : Value} {od an : Option Addr} {osl : Array (Option Value)} {kV doc pm cdv ct : Value} {o : Obj} {its : List Value} {n : Nat} {dvs : List V} (l : K.lookup f = some ⟨oc, od, .func (PySem.W.fnOf x qual (defArgs st) (defBody st) (defScope st) (.ref T) kV doc pm an cdv ct), osl⟩)
    (c : PySem.W.codeIn K cdv qual = true) (k : PySem.W.keepIn K (.ref f) = true) (lT : K.lookup T = some o) (oT : o.data = .seq its.toArray n) (r : Vals dvs its) (hd : dvs ≠ []) : FunD K x qual (defArgs st) (defBody st) (defScope st) dvs [] f (PySem.W.fnOf x qual (defArgs st) (defBody st) (defScope st) (.ref T) kV doc pm an cdv ct) :=
  ⟨⟨oc, od, _, kV, doc, pm, an, cdv, ct, osl, rfl, l, c, .inr ⟨hd, T, o, its, n, rfl, lT, oT, r⟩, .inl rfl⟩, k⟩
theorem dd_tup {a : Addr} {od : Option Addr} {its : Array Value} {n : Nat} {sl : Array (Option Value)} {vs : List V} {ds : List PyData} (hl : K.lookup a = some ⟨.type "tuple", od, .seq its n, sl⟩) (hz : its.size ≤ 1000) (hd : ∀ H, DzAll K H vs ds) (hv : Vals vs its.toList) :
    ∀ H, DzAll K H [.ref a] [.tuple ds] := fun H => .cons (.tup (.inr ⟨_, its, n, hl, rfl, rfl, line_of hz, hv⟩) (hd H)) .nil
theorem bindsFull {x qual : Str} {params : Arguments} {body : List Stmt} {scope : Scope} {dvs : List V} {f : Addr} {fd : FuncData} {ps : List Str} (F : FunD K x qual params body scope dvs [] f fd) (n : Nat) (hd : dvs ≠ []) (hn : n = ps.length)
    (h : ∀ (T : Addr) (kV doc pm : Value) (an : Option Addr) (cdv ct : Value) (us its : List Value), us.length = n → its.length = dvs.length →
      ∃ k, bindArgs (PySem.W.fnOf x qual params body scope (.ref T) kV doc pm an cdv ct) ⟨us, []⟩ = seqItems? (.ref T) >>= k ∧ k (some its.toArray) = pure (ps.zip (us ++ its.drop dvs.length))) : Binds K fd ps [] := by
  obtain ⟨ds, r, b⟩ := F.binds1 n dvs.length hd (by omega) h
  rw [List.drop_length] at r
  cases r
  exact b
end
end Z

set_option Elab.async false
set_option linter.all false
set_option maxRecDepth 100000
namespace Z
open PySem L2
/-! ## 25. maps: four complex whole numbers -/
def ga (p q : G) : G := (p.1 + q.1, p.2 + q.2)
def gu (p q : G) : G := (p.1 - q.1, p.2 - q.2)
def gn (p : G) : G := (-p.1, -p.2)
def gj (p : G) : G := (p.1, -p.2)
def gt (p : G) : G := (-p.2, p.1)
/-- four numbers as data -/
abbrev q4 (a b c d : G) : PyData := .tuple [cd a, cd b, cd c, cd d]
/-- a map as data -/
abbrev mp (f : Int) (a b c d : G) : PyData := .tuple [.int f, cd a, cd b, cd c, cd d]
def dtm (a b c d : G) : G := gu (gm a d) (gm b c)
/-- n bits hold each of the four numbers -/
structure S4 (n : Nat) (a b c d : G) : Prop where
  a1 : Sz n a.1
  a2 : Sz n a.2
  b1 : Sz n b.1
  b2 : Sz n b.2
  c1 : Sz n c.1
  c2 : Sz n c.2
  d1 : Sz n d.1
  d2 : Sz n d.2
def isQ (p : G) : Prop := 0 < p.1 ∧ 0 ≤ p.2
instance (p : G) : Decidable (isQ p) := inferInstanceAs (Decidable (_ ∧ _))
/-- the number that says how a map is turned -/
def led (a b : G) : G := if a ≠ (0, 0) then a else b
/-- the form of a map's numbers -/
structure Fm (n : Nat) (a b c d : G) : Prop where
  sz : S4 n a b c d
  gc : GC [a, b, c, d] (1, 0)
  dt : dtm a b c d ≠ (0, 0)
  qt : isQ (led a b)
theorem gm_gt (g p : G) : gm g (gt p) = gm (gt g) p := Prod.ext (by simp only [gm, gt]; grind) (by simp only [gm, gt]; grind)
theorem gt_gm (g p : G) : gm (gt g) p = gt (gm g p) := Prod.ext (by simp only [gm, gt]; grind) (by simp only [gm, gt]; grind)
theorem gt_ne {p : G} (h : p ≠ (0, 0)) : gt p ≠ (0, 0) := fun z => h (Prod.ext (by have := congrArg Prod.snd z; exact this) (by have := congrArg Prod.fst z; simp only [gt] at this; show p.2 = 0; omega))
theorem gt_4 (p : G) : gt (gt (gt (gt p))) = p := Prod.ext (by simp only [gt]; omega) (by simp only [gt]; omega)
theorem led_gt (a b : G) : led (gt a) (gt b) = gt (led a b) := by
  unfold led
  by_cases z : a = (0, 0)
  · have z' : gt a = (0, 0) := by rw [z]; rfl
    rw [if_neg (fun n => n z'), if_neg (fun n => n z)]
  · rw [if_pos z, if_pos (gt_ne z)]
theorem ngS {n : Nat} {x : Int} (h : Sz n x) : Sz n (-x) := sz_neg
theorem S4.gt {n : Nat} {a b c d : G} (h : S4 n a b c d) : S4 n (gt a) (gt b) (gt c) (gt d) :=
  ⟨ngS h.a2, h.a1, ngS h.b2, h.b1, ngS h.c2, h.c1, ngS h.d2, h.d1⟩
theorem gt_gmR (p : G) : gt p = gm p (0, 1) := Prod.ext (by simp only [gm, gt]; grind) (by simp only [gm, gt]; grind)
theorem gt_back (p : G) : p = gm (gt p) (0, -1) := Prod.ext (by simp only [gm, gt]; grind) (by simp only [gm, gt]; grind)
theorem gdv_gt {d p : G} : gdv d (gt p) ↔ gdv d p := ⟨fun h => by rw [gt_back p]; exact gdv_trans h ⟨_, rfl⟩, fun h => by rw [gt_gmR]; exact gdv_trans h ⟨_, rfl⟩⟩
theorem al4 {d a b c e : G} : (∀ n ∈ [a, b, c, e], gdv d n) ↔ (gdv d a ∧ gdv d b ∧ gdv d c ∧ gdv d e) := ⟨fun h => ⟨h _ (by simp), h _ (by simp), h _ (by simp), h _ (by simp)⟩, fun h n hn => by
  rcases List.mem_cons.mp hn with e | hn
  · rw [e]; exact h.1
  rcases List.mem_cons.mp hn with e | hn
  · rw [e]; exact h.2.1
  rcases List.mem_cons.mp hn with e | hn
  · rw [e]; exact h.2.2.1
  · rw [List.mem_singleton.mp hn]; exact h.2.2.2⟩
theorem GC.gt {a b c e g : G} (h : GC [a, b, c, e] g) : GC [Z.gt a, Z.gt b, Z.gt c, Z.gt e] g := h.same fun d => by
  rw [al4, al4, gdv_gt, gdv_gt, gdv_gt, gdv_gt]
theorem dtm_gt (a b c d : G) : dtm (gt a) (gt b) (gt c) (gt d) = gn (dtm a b c d) := Prod.ext (by simp only [dtm, gu, gm, gt, gn]; grind) (by simp only [dtm, gu, gm, gt, gn]; grind)
theorem gn_ne {p : G} (h : p ≠ (0, 0)) : gn p ≠ (0, 0) := fun z => h (Prod.ext (by have := congrArg Prod.fst z; simp only [gn] at this; show p.1 = 0; omega) (by have := congrArg Prod.snd z; simp only [gn] at this; show p.2 = 0; omega))
/-- what is left of four numbers once their divisor is taken out -/
theorem GC.quot {a b c d m g x y z w : G} (h : GC [a, b, c, d, m] g) (hm : ∀ k, gdv k a → gdv k b → gdv k c → gdv k d → gdv k m) (hg : g ≠ (0, 0)) (ha : a = gm g x) (hb : b = gm g y) (hc : c = gm g z) (hd : d = gm g w) : GC [x, y, z, w] (1, 0) := by
  refine ⟨fun n _ => ⟨n, by rw [gm_comm, gm_one]⟩, fun k q => ?_⟩
  obtain ⟨qx, qy, qz, qw⟩ := al4.mp q
  have st : ∀ {u v : G}, u = gm g v → gdv k v → gdv (gm g k) u := fun e h => by
    obtain ⟨r, h⟩ := h
    exact ⟨r, by rw [e, h, gm_assoc]⟩
  have e := h.big (gm g k) fun n hn => by
    have da := st ha qx
    have db := st hb qy
    have dc := st hc qz
    have dd := st hd qw
    rcases List.mem_cons.mp hn with e | hn
    · rw [e]; exact da
    rcases List.mem_cons.mp hn with e | hn
    · rw [e]; exact db
    rcases List.mem_cons.mp hn with e | hn
    · rw [e]; exact dc
    rcases List.mem_cons.mp hn with e | hn
    · rw [e]; exact dd
    · rw [List.mem_singleton.mp hn]; exact hm _ da db dc dd
  obtain ⟨r, e⟩ := e
  rw [gm_assoc] at e
  exact ⟨r, gm_cancel hg (by rw [gm_one]; exact e)⟩
theorem dtm_gm (g a b c d : G) : dtm (gm g a) (gm g b) (gm g c) (gm g d) = gm (gm g g) (dtm a b c d) := Prod.ext (by simp only [dtm, gu, gm]; grind) (by simp only [dtm, gu, gm]; grind)
theorem xq_gm {a b c d : Int} {p : G} (hz : (c, d) ≠ ((0, 0) : G)) (h : ((a, b) : G) = gm (c, d) p) : xq a b c d = some p := by
  have ea : a = c * p.1 - d * p.2 := congrArg Prod.fst h
  have eb : b = c * p.2 + d * p.1 := congrArg Prod.snd h
  have n1 : 0 < c * c + d * d := nm_pos hz
  have n : c * c + d * d ≠ 0 := by omega
  have e1 : a * c - b * -d = (c * c + d * d) * p.1 := by rw [ea, eb]; grind
  have e2 : a * -d + b * c = (c * c + d * d) * p.2 := by rw [ea, eb]; grind
  unfold xq
  rw [if_neg n, e1, e2, if_pos ⟨Int.mul_emod_right _ _, Int.mul_emod_right _ _⟩, Int.mul_ediv_cancel_left _ n, Int.mul_ediv_cancel_left _ n]
/-- a factor is no longer than its product -/
theorem sz_fac {n : Nat} {g p : G} (hg : g ≠ (0, 0)) {q : G} (e : q = gm g p) (h1 : Sz n q.1) (h2 : Sz n q.2) : Sz (n + 1) p.1 ∧ Sz (n + 1) p.2 := by
  have a : nm q = nm g * nm p := by rw [e, nm_mul]
  have b : 0 < nm g := nm_pos hg
  have c : 0 ≤ nm p := nm_nn p
  have d : nm p ≤ nm q := by
    rw [a]
    have := Int.mul_le_mul_of_nonneg_right (show 1 ≤ nm g from b) c
    omega
  have k1 : 2 * (p.1 * p.1) ≤ (2 * q.1) * (2 * q.1) + (2 * q.2) * (2 * q.2) := by
    simp only [nm] at d
    have := nrm0 p.2 0
    have := nrm0 q.1 0
    have := nrm0 q.2 0
    grind
  have k2 : 2 * (p.2 * p.2) ≤ (2 * q.1) * (2 * q.1) + (2 * q.2) * (2 * q.2) := by
    simp only [nm] at d
    have := nrm0 p.1 0
    have := nrm0 q.1 0
    have := nrm0 q.2 0
    grind
  have t1 : Sz (n + 1) (2 * q.1) := ⟨by have := h1.lt; rw [Nat.pow_succ]; omega⟩
  have t2 : Sz (n + 1) (2 * q.2) := ⟨by have := h2.lt; rw [Nat.pow_succ]; omega⟩
  exact ⟨sz_sq k1 t1 t2, sz_sq k2 t1 t2⟩
end Z

set_option Elab.async false
set_option linter.all false
set_option maxRecDepth 100000
namespace Z
open PySem L2
/-! ## 26. maps are told by their numbers -/
theorem gc_ex2 : ∀ (k : Nat) (a b : G), (nm b).toNat ≤ k → ∃ h, GC [a, b] h
  | 0, a, b, hk => by
    have h0 := nm_nn b
    have e : b = (0, 0) := nm_zero (by omega)
    exact ⟨a, by rw [e]; exact GC.zero a⟩
  | k + 1, a, b, hk => by
    by_cases e : b = (0, 0)
    · exact ⟨a, by rw [e]; exact GC.zero a⟩
    · have np : 0 < b.1 * b.1 + b.2 * b.2 := nm_pos e
      have r := rest_nm (a := a.1) (b := a.2) (c := b.1) (d := b.2) np
      have hb : nm b = b.1 * b.1 + b.2 * b.2 := rfl
      obtain ⟨h, g⟩ := gc_ex2 k b (les (a.1, a.2) ((2 * (a.1 * b.1 - a.2 * -b.2) + (b.1 * b.1 + b.2 * b.2)) / (2 * (b.1 * b.1 + b.2 * b.2)), (2 * (a.1 * -b.2 + a.2 * b.1) + (b.1 * b.1 + b.2 * b.2)) / (2 * (b.1 * b.1 + b.2 * b.2))) (b.1, b.2)) (by
        have nn := nm_nn (les (a.1, a.2) ((2 * (a.1 * b.1 - a.2 * -b.2) + (b.1 * b.1 + b.2 * b.2)) / (2 * (b.1 * b.1 + b.2 * b.2)), (2 * (a.1 * -b.2 + a.2 * b.1) + (b.1 * b.1 + b.2 * b.2)) / (2 * (b.1 * b.1 + b.2 * b.2))) (b.1, b.2))
        omega)
      exact ⟨h, GC.step g⟩
theorem gc_ex : ∀ ns : List G, ∃ g, GC ns.reverse g
  | [] => ⟨_, GC.nil⟩
  | n :: ns => by
    obtain ⟨g, h⟩ := gc_ex ns
    obtain ⟨k, hk⟩ := gc_ex2 _ g n (Nat.le_refl _)
    exact ⟨k, by rw [List.reverse_cons]; exact h.snoc hk⟩
theorem gc_ex' (ns : List G) : ∃ g, GC ns g := by
  obtain ⟨g, h⟩ := gc_ex ns.reverse
  exact ⟨g, by rw [List.reverse_reverse] at h; exact h⟩
theorem gm_ne {g x : G} (h : gm g x ≠ (0, 0)) : x ≠ (0, 0) := fun z => h (by rw [z, gm_zero])
theorem gm_nz {g x : G} (hg : g ≠ (0, 0)) : gm g x = (0, 0) ↔ x = (0, 0) := ⟨fun h => gm_cancel hg (by rw [h, gm_zero]), fun h => by rw [h, gm_zero]⟩
theorem isQ_unit {l u : G} (hu : nm u = 1) (h : isQ l) (h2 : isQ (gm u l)) : u = (1, 0) := by
  unfold isQ gm at *
  rcases unit_of hu with e | e | e | e
  · exact e
  all_goals (subst e; simp only at *; omega)
theorem led_gm {g x y : G} (hg : g ≠ (0, 0)) : led (gm g x) (gm g y) = gm g (led x y) := by
  unfold led
  by_cases z : x = (0, 0)
  · rw [if_neg (fun n => n ((gm_nz hg).mpr z)), if_neg (fun n => n z)]
  · rw [if_pos (fun n => z ((gm_nz hg).mp n)), if_pos z]
/-- factors out of both make the same numbers only if the forms are the same -/
theorem Fm.uniq {n m : Nat} {x y z w x' y' z' w' g h : G} (F : Fm n x y z w) (F' : Fm m x' y' z' w') (hg : g ≠ (0, 0)) (hh : h ≠ (0, 0)) (e1 : gm g x = gm h x') (e2 : gm g y = gm h y') (e3 : gm g z = gm h z') (e4 : gm g w = gm h w') : x = x' ∧ y = y' ∧ z = z' ∧ w = w' := by
  obtain ⟨D, hD⟩ := gc_ex' ([x, y, z, w].map (gm g))
  have a1 := F.gc.longer hg hD
  have hD' : GC ([x', y', z', w'].map (gm h)) D := by
    have : [x, y, z, w].map (gm g) = [x', y', z', w'].map (gm h) := by
      show [gm g x, gm g y, gm g z, gm g w] = [gm h x', gm h y', gm h z', gm h w']
      rw [e1, e2, e3, e4]
    rw [← this]
    exact hD
  have a2 := F'.gc.longer hh hD'
  rw [gm_one] at a1 a2
  have a := as_trans a1 (as_symm a2)
  obtain ⟨⟨r, hr⟩, ⟨s, hs⟩⟩ := a
  -- h = g r, g = h s
  have u1 : nm r = 1 := by
    have t : gm g (gm r s) = gm g (1, 0) := by rw [← gm_assoc, ← hr, ← hs, gm_one]
    have t2 := gm_cancel hg t
    have t3 : nm r * nm s = 1 := by rw [← nm_mul, t2]; rfl
    have := nm_nn r
    have := nm_nn s
    rcases Int.lt_or_le (nm r) 2 with p | p
    · rcases Int.lt_or_le (nm r) 1 with q | q
      · have : nm r = 0 := by omega
        rw [this, Int.zero_mul] at t3
        cases t3
      · omega
    · rcases Int.lt_or_le (nm s) 1 with q | q
      · have : nm s = 0 := by omega
        rw [this, Int.mul_zero] at t3
        cases t3
      · have := Int.mul_le_mul p q (by decide) (by omega)
        omega
  have st : ∀ {u v : G}, gm g u = gm h v → u = gm r v := fun e => gm_cancel hg (by rw [e, hr, gm_assoc])
  have r1 : r = (1, 0) := isQ_unit u1 F'.qt (by
    have q := F.qt
    rw [st e1, st e2, led_gm (fun z => by rw [z] at u1; cases u1)] at q
    exact q)
  have fin : ∀ {u v : G}, gm g u = gm h v → u = v := fun e => by rw [st e, r1, gm_comm, gm_one]
  exact ⟨fin e1, fin e2, fin e3, fin e4⟩
end Z

set_option Elab.async false
set_option linter.all false
set_option maxRecDepth 100000
namespace Z
open PySem L2
/-! ## 27. maps behind maps -/
def m1 (a b e g : G) : G := ga (gm a e) (gm b g)
/-- a number as a map of the hand f reads it -/
def cj (f : Int) (p : G) : G := if f = 1 then gj p else p
theorem gj_ne {p : G} (h : p ≠ (0, 0)) : gj p ≠ (0, 0) := fun z => h (Prod.ext (by have := congrArg Prod.fst z; exact this) (by have := congrArg Prod.snd z; simp only [gj] at this; show p.2 = 0; omega))
theorem gj_gj (p : G) : gj (gj p) = p := Prod.ext rfl (by simp only [gj]; omega)
theorem gj_gm (p q : G) : gj (gm p q) = gm (gj p) (gj q) := Prod.ext (by simp only [gm, gj]; grind) (by simp only [gm, gj]; grind)
theorem gj_ga (p q : G) : gj (ga p q) = ga (gj p) (gj q) := Prod.ext (by simp only [ga, gj]) (by simp only [ga, gj]; omega)
theorem gj_gn (p : G) : gj (gn p) = gn (gj p) := rfl
theorem dtm_gj (a b c d : G) : dtm (gj a) (gj b) (gj c) (gj d) = gj (dtm a b c d) := Prod.ext (by simp only [dtm, gu, gm, gj]; grind) (by simp only [dtm, gu, gm, gj]; grind)
theorem cj_cj (f : Int) (p : G) : cj f (cj f p) = p := by
  unfold cj
  by_cases h : f = 1
  · rw [if_pos h, if_pos h, gj_gj]
  · rw [if_neg h, if_neg h]
theorem cj_gm (f : Int) (p q : G) : cj f (gm p q) = gm (cj f p) (cj f q) := by
  unfold cj
  by_cases h : f = 1
  · rw [if_pos h, if_pos h, if_pos h, gj_gm]
  · rw [if_neg h, if_neg h, if_neg h]
theorem cj_ga (f : Int) (p q : G) : cj f (ga p q) = ga (cj f p) (cj f q) := by
  unfold cj
  by_cases h : f = 1
  · rw [if_pos h, if_pos h, if_pos h, gj_ga]
  · rw [if_neg h, if_neg h, if_neg h]
theorem cj_ne {f : Int} {p : G} (h : p ≠ (0, 0)) : cj f p ≠ (0, 0) := by
  unfold cj
  by_cases z : f = 1
  · rw [if_pos z]; exact gj_ne h
  · rw [if_neg z]; exact h
theorem dtm_cj (f : Int) (a b c d : G) : dtm (cj f a) (cj f b) (cj f c) (cj f d) = cj f (dtm a b c d) := by
  unfold cj
  by_cases z : f = 1
  · rw [if_pos z, if_pos z, if_pos z, if_pos z, if_pos z, dtm_gj]
  · rw [if_neg z, if_neg z, if_neg z, if_neg z, if_neg z]
theorem gj_sz {n : Nat} {p : G} (h1 : Sz n p.1) (h2 : Sz n p.2) : Sz n (gj p).1 ∧ Sz n (gj p).2 := ⟨h1, sz_neg⟩
theorem cj_sz {n : Nat} {f : Int} {p : G} (h1 : Sz n p.1) (h2 : Sz n p.2) : Sz n (cj f p).1 ∧ Sz n (cj f p).2 := by
  unfold cj
  by_cases z : f = 1
  · rw [if_pos z]; exact gj_sz h1 h2
  · rw [if_neg z]; exact ⟨h1, h2⟩
theorem S4.cj {n : Nat} {f : Int} {a b c d : G} (s : S4 n a b c d) : S4 n (Z.cj f a) (Z.cj f b) (Z.cj f c) (Z.cj f d) :=
  ⟨(cj_sz s.a1 s.a2).1, (cj_sz s.a1 s.a2).2, (cj_sz s.b1 s.b2).1, (cj_sz s.b1 s.b2).2, (cj_sz s.c1 s.c2).1, (cj_sz s.c1 s.c2).2, (cj_sz s.d1 s.d2).1, (cj_sz s.d1 s.d2).2⟩
theorem S4.up {n m : Nat} {a b c d : G} (s : S4 n a b c d) (h : n ≤ m) : S4 m a b c d := ⟨szUp s.a1 h, szUp s.a2 h, szUp s.b1 h, szUp s.b2 h, szUp s.c1 h, szUp s.c2 h, szUp s.d1 h, szUp s.d2 h⟩
theorem S4.adj {n : Nat} {a b c d : G} (s : S4 n a b c d) : S4 n d (gn b) (gn c) a := ⟨s.d1, s.d2, ngS s.b1, ngS s.b2, ngS s.c1, ngS s.c2, s.a1, s.a2⟩
theorem Fm.up {n m : Nat} {a b c d : G} (s : Fm n a b c d) (h : n ≤ m) : Fm m a b c d := ⟨s.sz.up h, s.gc, s.dt, s.qt⟩
theorem m1_sz {n : Nat} {a b e g : G} (a1 : Sz n a.1) (a2 : Sz n a.2) (b1 : Sz n b.1) (b2 : Sz n b.2) (e1 : Sz n e.1) (e2 : Sz n e.2) (g1 : Sz n g.1) (g2 : Sz n g.2) : Sz (2 * n + 2) (m1 a b e g).1 ∧ Sz (2 * n + 2) (m1 a b e g).2 := by
  have h : max (max (n + n) (n + n) + 1) (max (n + n) (n + n) + 1) + 1 ≤ 2 * n + 2 := by omega
  exact ⟨szUp (inferInstance : Sz _ ((a.1 * e.1 - a.2 * e.2) + (b.1 * g.1 - b.2 * g.2))) h, szUp (inferInstance : Sz _ ((a.1 * e.2 + a.2 * e.1) + (b.1 * g.2 + b.2 * g.1))) h⟩
theorem S4.mul {n : Nat} {a b c d e f g h : G} (s : S4 n a b c d) (t : S4 n e f g h) : S4 (2 * n + 2) (m1 a b e g) (m1 a b f h) (m1 c d e g) (m1 c d f h) := by
  have k1 := m1_sz s.a1 s.a2 s.b1 s.b2 t.a1 t.a2 t.c1 t.c2
  have k2 := m1_sz s.a1 s.a2 s.b1 s.b2 t.b1 t.b2 t.d1 t.d2
  have k3 := m1_sz s.c1 s.c2 s.d1 s.d2 t.a1 t.a2 t.c1 t.c2
  have k4 := m1_sz s.c1 s.c2 s.d1 s.d2 t.b1 t.b2 t.d1 t.d2
  exact ⟨k1.1, k1.2, k2.1, k2.2, k3.1, k3.2, k4.1, k4.2⟩
theorem dtm_sz {n : Nat} {a b c d : G} (s : S4 n a b c d) : Sz (2 * n + 2) (dtm a b c d).1 ∧ Sz (2 * n + 2) (dtm a b c d).2 := by
  have h : max (max (n + n) (n + n) + 1) (max (n + n) (n + n) + 1) + 1 ≤ 2 * n + 2 := by omega
  obtain ⟨_, _, _, _, _, _, _, _⟩ := s
  exact ⟨szUp (inferInstance : Sz _ ((a.1 * d.1 - a.2 * d.2) - (b.1 * c.1 - b.2 * c.2))) h, szUp (inferInstance : Sz _ ((a.1 * d.2 + a.2 * d.1) - (b.1 * c.2 + b.2 * c.1))) h⟩
theorem dtm_mul (a b c d e f g h : G) : dtm (m1 a b e g) (m1 a b f h) (m1 c d e g) (m1 c d f h) = gm (dtm a b c d) (dtm e f g h) := Prod.ext (by simp only [dtm, gu, gm, m1, ga]; grind) (by simp only [dtm, gu, gm, m1, ga]; grind)
theorem gm_ne0 {p q : G} (hp : p ≠ (0, 0)) (hq : q ≠ (0, 0)) : gm p q ≠ (0, 0) := fun z => hq ((gm_nz hp).mp z)
/-- what divides all multiples of numbers without a common divisor divides the factor -/
theorem GC.fac {ns : List G} {k D : G} (h : GC ns (1, 0)) (q : ∀ n ∈ ns, gdv k (gm D n)) : gdv k D := by
  by_cases z : D = (0, 0)
  · rw [z]; exact gdv_zero k
  obtain ⟨g, hg⟩ := gc_ex' (ns.map (gm D))
  have a := h.longer z hg
  rw [gm_one] at a
  exact gdv_trans (hg.big k fun m hm => by
    obtain ⟨n, hn, rfl⟩ := List.mem_map.mp hm
    exact q n hn) a.2
theorem adj1 (a b e f g h : G) : gu (gm (m1 a b e g) h) (gm (m1 a b f h) g) = gm (dtm e f g h) a := Prod.ext (by simp only [dtm, gu, gm, m1, ga]; grind) (by simp only [dtm, gu, gm, m1, ga]; grind)
theorem adj2 (a b e f g h : G) : gu (gm (m1 a b f h) e) (gm (m1 a b e g) f) = gm (dtm e f g h) b := Prod.ext (by simp only [dtm, gu, gm, m1, ga]; grind) (by simp only [dtm, gu, gm, m1, ga]; grind)
theorem gdv_gmR {k p : G} (h : gdv k p) (q : G) : gdv k (gm p q) := gdv_trans h ⟨q, rfl⟩
/-- a common divisor of a product of maps divides the determinant behind -/
theorem gdv_det {n : Nat} {a b c d e f g h k : G} (F : Fm n a b c d) (h1 : gdv k (m1 a b e g)) (h2 : gdv k (m1 a b f h)) (h3 : gdv k (m1 c d e g)) (h4 : gdv k (m1 c d f h)) : gdv k (dtm e f g h) :=
  F.gc.fac fun n hn => by
    rcases List.mem_cons.mp hn with e | hn
    · rw [e, ← adj1]; exact gdv_sub (gdv_gmR h1 _) (gdv_gmR h2 _)
    rcases List.mem_cons.mp hn with e | hn
    · rw [e, ← adj2]; exact gdv_sub (gdv_gmR h2 _) (gdv_gmR h1 _)
    rcases List.mem_cons.mp hn with e | hn
    · rw [e, ← adj1]; exact gdv_sub (gdv_gmR h3 _) (gdv_gmR h4 _)
    · rw [List.mem_singleton.mp hn, ← adj2]; exact gdv_sub (gdv_gmR h4 _) (gdv_gmR h3 _)
/-- a, b, c = a list or a tuple -/
def gA (n : Nat) (gs : Wgs) : Wg := fun d ev Q => gL n gs d ev Q ∨ gT n gs d ev Q
theorem pg_or {X : Cx} {e : Expr} {a b : TG} (p : PG X e a) (q : PG X e b) : PG X e (fun v σ H Q => a v σ H Q ∨ b v σ H Q) := ⟨fun pins s σ H v u Q I r h => h.elim (p.run pins s σ H v u Q I r) (q.run pins s σ H v u Q I r)⟩
theorem dg_any {X : Cx} {c : Cf} {pos : Pos} {vs : List Nat} {es : List Expr} {gs : Wgs} {n k : Nat} (hc : X.calm = true) (h : DGs X c vs es gs) (h1 : (assignEach es X.env).length = n := by rfl) (h2 : (assignEach es X.env).findIdx? (·.1) = none := by rfl) :
    DG X c vs (.Tuple es k pos) (gA n gs) := pgM (pg_or (dg_lst hc h h1 h2) (dg_tup hc h h1 h2)) fun v σ H Q ⟨M, ev, pd, d, R, k, w, q⟩ => w.elim (fun w => .inl ⟨M, ev, pd, d, R, k, w, q⟩) (fun w => .inr ⟨M, ev, pd, d, R, k, w, q⟩)
end Z

set_option Elab.async false
set_option linter.all false
set_option maxRecDepth 100000
namespace Z
open PySem L2
/-! ## 28. units and turns -/
def tk : Nat → G → G
  | 0, p => p
  | k + 1, p => gt (tk k p)
theorem tk_unit : ∀ k : Nat, k ≤ 3 → ∃ u : G, (∀ x, gm x u = tk k x) ∧ Sz 1 u.1 ∧ Sz 1 u.2
  | 0, _ => ⟨(1, 0), fun x => by rw [gm_one]; rfl, ⟨by decide⟩, ⟨by decide⟩⟩
  | 1, _ => ⟨(0, 1), fun x => (gt_gmR x).symm, ⟨by decide⟩, ⟨by decide⟩⟩
  | 2, _ => ⟨(-1, 0), fun x => Prod.ext (by simp only [gm, tk, gt]; grind) (by simp only [gm, tk, gt]; grind), ⟨by decide⟩, ⟨by decide⟩⟩
  | 3, _ => ⟨(0, -1), fun x => Prod.ext (by simp only [gm, tk, gt]; grind) (by simp only [gm, tk, gt]; grind), ⟨by decide⟩, ⟨by decide⟩⟩
theorem qf_tk (p : G) : ∃ k, k ≤ 3 ∧ qf p.1 p.2 = tk k p := by
  rcases as_unit (qf_as p) with e | e | e | e
  · exact ⟨0, by decide, e⟩
  · exact ⟨1, by decide, e⟩
  · exact ⟨2, by decide, e⟩
  · exact ⟨3, by decide, by rw [e]; exact Prod.ext (by simp only [tk, gt]; omega) (by simp only [tk, gt])⟩
theorem isQ_qf {p : G} (h : p ≠ (0, 0)) : isQ (qf p.1 p.2) := by
  have n : ¬ (p.1 = 0 ∧ p.2 = 0) := fun z => h (Prod.ext z.1 z.2)
  unfold qf isQ
  rw [if_neg n]
  split
  · simp only; omega
  · split
    · simp only; omega
    · split
      · simp only; omega
      · simp only; omega
theorem tk_S4 {n : Nat} {a b c d : G} (h : S4 n a b c d) : ∀ k, S4 n (tk k a) (tk k b) (tk k c) (tk k d)
  | 0 => h
  | k + 1 => (tk_S4 h k).gt
theorem tk_GC {a b c d g : G} (h : GC [a, b, c, d] g) : ∀ k, GC [tk k a, tk k b, tk k c, tk k d] g
  | 0 => h
  | k + 1 => (tk_GC h k).gt
theorem tk_dtm {a b c d : G} (h : dtm a b c d ≠ (0, 0)) : ∀ k, dtm (tk k a) (tk k b) (tk k c) (tk k d) ≠ (0, 0)
  | 0 => h
  | k + 1 => by
    show dtm (gt _) (gt _) (gt _) (gt _) ≠ _
    rw [dtm_gt]
    exact gn_ne (tk_dtm h k)
theorem tk_led (a b : G) : ∀ k, led (tk k a) (tk k b) = tk k (led a b)
  | 0 => rfl
  | k + 1 => by
    show led (gt _) (gt _) = gt _
    rw [led_gt, tk_led a b k]
theorem tk_fac (g : G) (hg : g ≠ (0, 0)) : ∀ k, ∃ D : G, D ≠ (0, 0) ∧ ∀ x, gm g x = gm D (tk k x)
  | 0 => ⟨g, hg, fun _ => rfl⟩
  | k + 1 => by
    obtain ⟨D, h1, h2⟩ := tk_fac g hg k
    exact ⟨gt (gt (gt D)), gt_ne (gt_ne (gt_ne h1)), fun x => by rw [h2 x]; show _ = gm _ (gt _); rw [gm_gt, gt_4]⟩
/-- a map's form, once the leading number is turned into the quarter -/
theorem Fm.turn {n k : Nat} {x y z w : G} (S : S4 n x y z w) (g : GC [x, y, z, w] (1, 0)) (d : dtm x y z w ≠ (0, 0)) (hl : led x y ≠ (0, 0)) (e : qf (led x y).1 (led x y).2 = tk k (led x y)) : Fm n (tk k x) (tk k y) (tk k z) (tk k w) :=
  ⟨tk_S4 S k, tk_GC g k, tk_dtm d k, by rw [tk_led, ← e]; exact isQ_qf hl⟩
theorem led_nz {a b c d : G} (h : dtm a b c d ≠ (0, 0)) : led a b ≠ (0, 0) := fun z => h (by
  unfold led at z
  by_cases y : a = (0, 0)
  · rw [if_neg (fun n => n y)] at z
    rw [y, z]
    exact Prod.ext (by simp only [dtm, gu, gm]; grind) (by simp only [dtm, gu, gm]; grind)
  · rw [if_pos y] at z
    exact absurd z y)
/-- the first number that is not 0 -/
theorem first_led {x y z w : G} (h : led x y ≠ (0, 0)) : ∃ r, ([cd x, cd y, cd z, cd w].filter fun d => !PyData.eqv d (cd (0, 0))) = cd (led x y) :: r := by
  unfold led at *
  by_cases e : x = (0, 0)
  · rw [if_neg (fun n => n e)] at h ⊢
    rw [List.filter_cons_of_neg (by rw [eqv_cd, decide_eq_true e]; decide), List.filter_cons_of_pos (by rw [eqv_cd, decide_eq_false h]; rfl)]
    exact ⟨_, rfl⟩
  · rw [if_pos e]
    rw [List.filter_cons_of_pos (by rw [eqv_cd, decide_eq_false e]; rfl)]
    exact ⟨_, rfl⟩
theorem atI_hd {d : PyData} {ds : List PyData} : atI (d :: ds) 0 = some d := by
  show (ixN (d :: ds).length 0).bind _ = _
  unfold ixN
  rw [if_pos (by decide), if_pos (by rw [List.length_cons]; omega)]
  rfl
theorem fIx_hd {d : PyData} {ds : List PyData} {Q : PyData → Prop} (q : Q d) : fIx (.list (d :: ds)) (.int 0) Q := fIx_lst atI_hd q
/-- x = [..] where x may hold an own list already: that one is let go -/
def wOwnR (i : Nat) (u : Wa) : Ws := fun E ev => u ev fun ds e => ds.length ≤ 1000 ∧ i ≠ 0 ∧ i < e.length ∧ E.nx (e.set i (some (.own ds)))
theorem ds_ownR {X : Cx} {c : Cf} {pos : Pos} {i : Nat} {x : Str} {es : List Expr} {u : Wa} {pos' p2 : Pos} (hN : X.N.Nodup) (hi : X.N[i]? = some x) (hx : Loc X.env.scope x) (ha : DA X c es u) (h1 : swapsWith (.List es p2) (some (.Name x pos')) pos.line X.env = pure false := by rfl)
    (hf : X.fn x = true ∨ X.env.scope.names.lookup x = some .local := by first | exact .inl rfl | exact .inr rfl | assumption) : DS X c (.Assign [.Name x pos'] (.List es p2) pos) (wOwnR i u) :=
  psM (ps_set hN hi hx (pe_lst ha) h1 hf) fun De σ H ⟨M, ev, pd, R, k, h, f⟩ => ⟨M, ev, pd, _, k, h, fun ds e q vs H' k' r => by
    obtain ⟨l, i0, il, q⟩ := q
    refine ⟨by rw [r.len]; exact line_of l, fun p hp => ?_⟩
    have k1 := k'.less (ev' := e.set i none) List.length_set (fun j s z => by
      rcases get_set z with ⟨_, z1, _⟩ | ⟨_, z⟩
      · cases z1
      · exact z) (fun ds z => by rw [List.getElem?_set_ne i0]; exact z)
    have k2 := k1.ownNew (i := i) (by unfold notOwn; rw [List.getElem?_set_self il]; trivial) hp r
    rw [List.set_set] at k2
    exact f.nx _ q _ _ _ k2⟩
end Z

set_option Elab.async false
set_option linter.all false
set_option maxRecDepth 100000
namespace Z
open PySem L2
/-! ## 29. a def that changes the list it is handed first and hands back a new list -/
abbrev Cu := List PyData → List PyData → (List PyData → List PyData → Prop) → Prop
def spU (K : PySem.W.Frag) (n : Nat) (C : Cu) : Sp := fun vs H Q _ => ∃ (Mk : Mz) (a : Addr) (ws us : List V) (ts ds : List PyData) (R : List PyData → List PyData → Prop), vs = .ref a :: ws ∧ vs.length = n ∧ MkOk Mk H ∧ (Mk a).1 = 1 ∧ H a = some (.lst us) ∧
  DzAll K (msk Mk H) us ts ∧ DzAll K (msk Mk H) ws ds ∧ C ts ds R ∧
  ∀ es ts', R es ts' → ∀ p zs H' us', H p = none → (∀ b o, H b = some o → b ≠ a → H' b = some o) → H' a = some (.lst us') → DzAll K (msk Mk H') us' ts' → H' p = some (.lst zs) → DzAll K (msk Mk H') zs es → Q (.ref p) H'
def tkU (R : List PyData → List PyData → Prop) (es : List PyData) (ev : Ev) : Prop := match ev[(0 : Nat)]? with
  | some (some (.own ts)) => R es ts
  | _ => False
def edU (R : List PyData → List PyData → Prop) : Ed := { nx := fun _ => False, rt := fun _ _ => False, rl := tkU R }
section
variable {P : Program} {wd : World} {K : PySem.W.Frag} {mg : Str → Option Value} {base : Heap}
theorem okU {x qual : Str} {st : Stmt} {f : Addr} {fd : FuncData} {N ps : List Str} {k n m : Nat} {C : Cu} {w : Ws} (F : Fun K x qual st f fd) (S : FnScope N ps (defScope st)) (hn : ps.length = n + 1) (hN : N.length = n + 1 + m)
    (body : ∀ (c : Cf) (cdv : Value) (A : Around) (outer : List Env) (s : Shared) (H : Hp) (E : XK), A.guards = some [] → Room k (A.deeper (PyProof.Rows.envOfC qual (defScope st) s.heap.objs.size f cdv)) → DSs (cxOf CX0 P wd K mg base N qual (defScope st) f cdv A outer s H E).nox c (defBody st) w)
    (sem : ∀ ts ds R, C ts ds R → ds.length = n → w (edU R) (some (.own ts) :: ev0 m ds)) : FnG P wd K mg base CX0 (k + 1) f fd ps (spU K (n + 1) C) := by
  refine fnG_of F S (fun vs H Q E h => ?_) (fun cdv A outer s H vs Q E hG hr h => ?_)
  · obtain ⟨_, _, _, _, _, _, _, _, l, _⟩ := h
    rw [l, hn]
  · obtain ⟨Mk, a, ws, us, ts, ds, R, rfl, l, mk, ma, ha, rt, ra, hC, q⟩ := h
    have lw : ws.length = n := by simpa using l
    refine ⟨_, (body ⟨H, fun b => decide (b = a), Mk⟩ cdv A outer s H E hG hr).nox, Mk, some (.own ts) :: ev0 m ds, [], edU R, ⟨?_, fun i d e => ?_, fun i es e => ?_, fun i j b es fs e1 e2 _ _ => ?_, fun p hp => (by cases hp), fun b o e _ => e, fun b e => e, mk.dom, mk.dom, mk.lk, fun b e => ?_⟩, sem ts ds R hC (by rw [← ra.len, lw]), ?_⟩
    · unfold L2.start ev0
      simp only [List.length_append, List.length_cons, List.length_map, List.length_replicate, hN, ← ra.len, lw]
      omega
    · cases i with
      | zero => cases e
      | succ i =>
        obtain ⟨d', z, e⟩ := ev0_get (show (ev0 m ds)[i]? = some (some (.val d)) from e)
        cases z
        obtain ⟨v, y1, y2⟩ := ra.get i e
        exact ⟨v, start_get (i := i + 1) y1, y2⟩
    · cases i with
      | zero => cases e; exact ⟨a, us, start_get (i := 0) rfl, ma, .inr (by simp), ha, rt⟩
      | succ i =>
        obtain ⟨d', z, e⟩ := ev0_get (show (ev0 m ds)[i]? = some (some (.own es)) from e)
        cases z
    · have z1 : i = 0 := by
        cases i with
        | zero => rfl
        | succ i => obtain ⟨d', z, _⟩ := ev0_get (show (ev0 m ds)[i]? = some (some (.own es)) from e1); cases z
      have z2 : j = 0 := by
        cases j with
        | zero => rfl
        | succ i => obtain ⟨d', z, _⟩ := ev0_get (show (ev0 m ds)[i]? = some (some (.own fs)) from e2); cases z
      rw [z1, z2]
    · have z : b = a := by simpa using e
      subst z
      exact ⟨by rw [ma]; decide, start_get (i := 0) rfl, ts, rfl⟩
    · refine ⟨fun ev' h => h.elim, fun d ev' h => h.elim, fun ev' h => h.elim, fun ev' h => h.elim, fun es ev' h M' σ' p vs H' k' z1 z2 r => ?_⟩
      have h : tkU R es ev' := h
      unfold tkU at h
      split at h
      · rename_i ts' e
        obtain ⟨b, us', e1, e2, e3, e4, e5⟩ := k'.own 0 ts' e
        obtain ⟨m1, y1, zs, y2⟩ := k'.tank a (by simp)
        rw [y1] at e1
        cases e1
        exact q es ts' h p vs H' us' z1 (fun b o z n => k'.frame b o z (by simpa using n)) e4 (e5.up (msk_less k'.sub)) z2 r
      · exact h.elim
/-- return x, x an own list, which the caller may own from now on -/
def wRetOL (i : Nat) : Ws := fun E ev => match ev[i]? with
  | some (some (.own ds)) => i ≠ 0 ∧ E.rl ds (ev.set i (some (.val (.list ds))))
  | _ => False
end
section
variable {X : Cx} {c : Cf} {pos : Pos}
theorem ds_retOL {i : Nat} {e : Expr} (h : PE X e (tVar i)) : DS X c (.Return (some e) pos) (wRetOL i) := psM (ps_ret h) fun De σ H ⟨M, ev, pd, R, k, q, f⟩ => by
  unfold wRetOL at q
  split at q
  · rename_i ds e
    obtain ⟨n, q⟩ := q
    obtain ⟨a, e1, e2⟩ := k.h0own e n
    obtain ⟨a', vs, y1, y2, y3, y4, y5⟩ := k.own i ds e
    obtain rfl : a' = a := by rw [e1] at y1; cases y1; rfl
    have k1 := k.freeze e e1 e2
    exact ⟨.ref a', e1, f.rl ds _ q _ _ a' vs _ k1.pop1 e2 y4 (y5.up (msk_less k.sub))⟩
  · exact q.elim
end
section
variable {X : Cx} {c : Cf} {k kg n : Nat} {x : Str} {ps : List Str} {p pos : Pos} {e : Expr} {es : List Expr} {u : Wa}
/-- the own list that a call hands back -/
theorem Ok.take {K : PySem.W.Frag} {M : Mz} {σ : Sg} {H1 H' : Hp} {ev : Ev} {pd : List (V × PyData)} (k1 : Ok K c M σ H1 ev pd) {i j : Nat} {a p : Addr} {ts ts' es : List PyData} {us' zs : List V} (e1 : ev[j]? = some (some (.own ts))) (a1 : σ[j]? = some (some (.ref a)))
    (g0 : H1 p = none) (g1 : ∀ b o, H1 b = some o → b ≠ a → H' b = some o) (g2 : H' a = some (.lst us')) (g3 : DzAll K (msk M H') us' ts') (g4 : H' p = some (.lst zs)) (g5 : DzAll K (msk M H') zs es) (nt : noLsts ts' = true) (ne : noLsts es = true) (hi : notOwn (ev.set j (some (.own ts'))) i) :
    Ok K c (stM M p (1, none)) (σ.set i (some (.ref p))) H' ((ev.set j (some (.own ts'))).set i (some (.own es))) pd := by
  have hmp : (M p).1 = 0 := k1.free g0
  obtain ⟨a', vs, y1, y2, y3, y4, y5⟩ := k1.own j ts e1
  obtain rfl : a' = a := by rw [a1] at y1; cases y1; rfl
  have nap : a' ≠ p := ne_of_none y4 g0
  let Hm : Hp := fun b => if b = p then none else H' b
  have hm_off : ∀ {b : Addr}, b ≠ p → Hm b = H' b := fun n => if_neg n
  have hm_at : Hm p = none := if_pos rfl
  have vp : msk M H' p = some (.lst zs) := msk_of g4 hmp
  have off : ∀ b o, msk M H' b = some o → b ≠ p → msk M Hm b = some o := fun b o q n => by
    obtain ⟨q1, q2⟩ := msk_ok q
    exact msk_of (by rw [hm_off n]; exact q1) q2
  have w := k1.write e1 a1 (H' := Hm) (us := us') (es := ts') (fun b o q n => by rw [hm_off (ne_of_none q g0)]; exact g1 b o q n) (by rw [hm_off nap]; exact g2) (g3.off vp off nt)
  have r := w.ownNew (i := i) (p := p) (vs := zs) (ds := es) hi hm_at (g5.off vp off ne)
  have eH : upd Hm p (.lst zs) = H' := by
    funext b
    by_cases z : b = p
    · rw [z, upd_same, g4]
    · rw [upd_ne z, hm_off z]
  rw [eH] at r
  exact r
/-- x = f(t, e, ..), t an own list that f changes, x an own list from now on -/
def wOwnU (i j n : Nat) (C : Cu) (u : Wa) : Ws := fun E ev => match ev[j]? with
  | some (some (.own _)) => u ev fun ds e => match e[j]? with
    | some (some (.own ts)) => ds.length + 1 = n ∧ C ts ds fun es ts' => noLsts es = true ∧ noLsts ts' = true ∧ notOwn (e.set j (some (.own ts'))) i ∧ E.nx ((e.set j (some (.own ts'))).set i (some (.own es)))
    | _ => False
  | _ => False
theorem ds_ownU {i j : Nat} {y : Str} {C : Cu} {pos' p2 : Pos} (F : Cl X.prog X.w X.K X.mg X.base kg x ps (spU X.K n C)) (hk : kg ≤ k) (hr : Room k X.A) (hG : X.A.guards = some []) (hg : Gl X x) (hN : X.N.Nodup) (hi : X.N[i]? = some y) (hx : Loc X.env.scope y) (ho : PE X e (tVar j)) (ha : DA X c es u)
    (h2 : (x == ("__debug__" : Str)) = false := by decide) (h3 : starEach (e :: es) X.env = (false, eval e X.env) :: starEach es X.env := by rfl) (h4 : (backTo p2 (starEach es X.env)).any (·.1) = false := by rfl)
    (h1 : swapsWith (.Call (.Name x p) (e :: es) [] p2) (some (.Name y pos')) pos.line X.env = pure false := by rfl) (hf : X.fn y = true ∨ X.env.scope.names.lookup y = some .local := by first | exact .inl rfl | exact .inr rfl | assumption) :
    DS X c (.Assign [.Name y pos'] (.Call (.Name x p) (e :: es) [] p2) pos) (wOwnU i j n C u) :=
  psM (ps_set hN hi hx (pe_cG F hk hr hG hg (pa_cons ho ha h3) h2 h3 h4) h1 hf) fun De σ H ⟨M, ev, pd, R, k, w, f⟩ => by
    unfold wOwnU at w
    split at w
    · rename_i ts0 e0
      obtain ⟨a, us, a1, a2, a3, a4⟩ := k.slotV e0
      refine ⟨.ref a, a1, M, ev, _, _, k, w, fun ds e h vs H1 k1 r => ?_⟩
      split at h
      · rename_i ts e1
        obtain ⟨l, h⟩ := h
        obtain ⟨a', us', b1, b2, b3, b4⟩ := k1.slotV e1
        obtain rfl : a = a' := by rw [a1] at b1; cases b1; rfl
        exact ⟨M, a, vs, us', ts, ds, _, rfl, by rw [List.length_cons, r.len, l], k1.mkOk, b3, b2, b4, r, h, fun es ts' ⟨n1, n2, n3, hd⟩ p zs H' us2 g0 g1 g2 g3 g4 g5 => f.nx _ hd _ _ _ (k1.take e1 a1 g0 g1 g2 g3 g4 g5 n2 n1 n3)⟩
      · exact h.elim
    · exact w.elim
end
end Z

set_option Elab.async false
set_option linter.all false
set_option maxRecDepth 100000
namespace Z
open PySem L2
/-! ## 30. complex whole numbers are a ring -/
instance : Add G := ⟨ga⟩
instance : Sub G := ⟨gu⟩
instance : Neg G := ⟨gn⟩
instance : Mul G := ⟨gm⟩
def gnat (n : Nat) : G := ((n : Int), 0)
def gint (n : Int) : G := (n, 0)
def gpow (p : G) : Nat → G
  | 0 => (1, 0)
  | n + 1 => gm (gpow p n) p
theorem gadd (p q : G) : p + q = (p.1 + q.1, p.2 + q.2) := rfl
theorem gmul (p q : G) : p * q = (p.1 * q.1 - p.2 * q.2, p.1 * q.2 + p.2 * q.1) := rfl
instance gring : Lean.Grind.CommRing G where
  natCast := ⟨gnat⟩
  ofNat := fun n => ⟨gnat n⟩
  nsmul := ⟨fun n p => gm (gnat n) p⟩
  npow := ⟨fun p n => gpow p n⟩
  intCast := ⟨gint⟩
  zsmul := ⟨fun n p => gm (gint n) p⟩
  add_zero := fun a => Prod.ext (Int.add_zero _) (Int.add_zero _)
  add_comm := fun a b => Prod.ext (Int.add_comm _ _) (Int.add_comm _ _)
  add_assoc := fun a b c => Prod.ext (Int.add_assoc _ _ _) (Int.add_assoc _ _ _)
  mul_assoc := gm_assoc
  mul_one := gm_one
  one_mul := fun a => by show gm (1, 0) a = a; rw [gm_comm, gm_one]
  left_distrib := fun a b c => Prod.ext (by simp only [gadd, gmul]; grind) (by simp only [gadd, gmul]; grind)
  right_distrib := fun a b c => Prod.ext (by simp only [gadd, gmul]; grind) (by simp only [gadd, gmul]; grind)
  zero_mul := zero_gm
  mul_zero := gm_zero
  pow_zero := fun a => rfl
  pow_succ := fun a n => rfl
  ofNat_succ := fun a => Prod.ext (by show ((a + 1 : Nat) : Int) = (a : Int) + 1; omega) rfl
  ofNat_eq_natCast := fun n => rfl
  nsmul_eq_natCast_mul := fun n a => rfl
  neg_zsmul := fun i a => Prod.ext (by show (-i) * a.1 - 0 * a.2 = -(i * a.1 - 0 * a.2); grind) (by show (-i) * a.2 + 0 * a.1 = -(i * a.2 + 0 * a.1); grind)
  zsmul_natCast_eq_nsmul := fun n a => rfl
  neg_add_cancel := fun a => Prod.ext (Int.add_left_neg _) (Int.add_left_neg _)
  sub_eq_add_neg := fun a b => Prod.ext Int.sub_eq_add_neg Int.sub_eq_add_neg
  mul_comm := gm_comm
  intCast_neg := fun i => rfl
  intCast_ofNat := fun n => rfl
theorem gm_r (a b : G) : gm a b = a * b := rfl
theorem ga_r (a b : G) : ga a b = a + b := rfl
theorem gu_r (a b : G) : gu a b = a - b := rfl
theorem gn_r (a : G) : gn a = -a := rfl
theorem z_r : ((0, 0) : G) = 0 := rfl
theorem o_r : ((1, 0) : G) = 1 := rfl
theorem gmc {k p q : G} (hk : k ≠ 0) (h : k * p = k * q) : p = q := gm_cancel hk h
theorem gz {p q : G} (h : p * q = 0) (hp : p ≠ 0) : q = 0 := gmc hp (by rw [h]; grind)
theorem gnz {p q : G} (hp : p ≠ 0) (hq : q ≠ 0) : p * q ≠ 0 := fun h => hq (gz h hp)
theorem cj_mul (f : Int) (p q : G) : cj f (p * q) = cj f p * cj f q := cj_gm f p q
theorem cj_add (f : Int) (p q : G) : cj f (p + q) = cj f p + cj f q := cj_ga f p q
theorem cj_neg (f : Int) (p : G) : cj f (-p) = -cj f p := by
  unfold cj
  by_cases h : f = 1
  · rw [if_pos h, if_pos h]; rfl
  · rw [if_neg h, if_neg h]
theorem cj_sub (f : Int) (p q : G) : cj f (p - q) = cj f p - cj f q := by
  rw [show p - q = p + -q by grind, cj_add, cj_neg]; grind
theorem cj_zero (f : Int) : cj f 0 = 0 := by
  unfold cj
  by_cases h : f = 1
  · rw [if_pos h]; rfl
  · rw [if_neg h]
theorem cj_one (f : Int) : cj f 1 = 1 := by
  unfold cj
  by_cases h : f = 1
  · rw [if_pos h]; rfl
  · rw [if_neg h]
theorem cj_nz {f : Int} {p : G} (h : p ≠ 0) : cj f p ≠ 0 := cj_ne h
theorem cj_real (f : Int) (r : Int) : cj f (r, 0) = (r, 0) := by
  unfold cj
  by_cases h : f = 1
  · rw [if_pos h]; exact Prod.ext rfl (by show -(0:Int) = 0; omega)
  · rw [if_neg h]
theorem cj_cj2 {f i : Int} (hf : f = 0 ∨ f = 1) (hi : i = 0 ∨ i = 1) (p : G) : cj f (cj i p) = cj ((f + i) % 2) p := by
  rcases hf with rfl | rfl <;> rcases hi with rfl | rfl
  · rfl
  · rfl
  · rfl
  · exact gj_gj p
theorem cj0 (p : G) : cj 0 p = p := rfl
/-! ### the four numbers of a map -/
structure M4 where
  a : G
  b : G
  c : G
  d : G
namespace M4
def mul (A B : M4) : M4 := ⟨A.a * B.a + A.b * B.c, A.a * B.b + A.b * B.d, A.c * B.a + A.d * B.c, A.c * B.b + A.d * B.d⟩
def adj (A : M4) : M4 := ⟨A.d, -A.b, -A.c, A.a⟩
def cj (f : Int) (A : M4) : M4 := ⟨Z.cj f A.a, Z.cj f A.b, Z.cj f A.c, Z.cj f A.d⟩
def sm (g : G) (A : M4) : M4 := ⟨g * A.a, g * A.b, g * A.c, g * A.d⟩
def dt (A : M4) : G := A.a * A.d - A.b * A.c
def one : M4 := ⟨1, 0, 0, 1⟩
end M4
theorem m4_ext {A B : M4} (h1 : A.a = B.a) (h2 : A.b = B.b) (h3 : A.c = B.c) (h4 : A.d = B.d) : A = B := by
  cases A; cases B; simp only at h1 h2 h3 h4; rw [h1, h2, h3, h4]
theorem mul_as (A B C : M4) : (A.mul B).mul C = A.mul (B.mul C) := m4_ext (by simp only [M4.mul]; grind) (by simp only [M4.mul]; grind) (by simp only [M4.mul]; grind) (by simp only [M4.mul]; grind)
theorem mul_one (A : M4) : A.mul M4.one = A := m4_ext (by simp only [M4.mul, M4.one]; grind) (by simp only [M4.mul, M4.one]; grind) (by simp only [M4.mul, M4.one]; grind) (by simp only [M4.mul, M4.one]; grind)
theorem one_mul (A : M4) : M4.one.mul A = A := m4_ext (by simp only [M4.mul, M4.one]; grind) (by simp only [M4.mul, M4.one]; grind) (by simp only [M4.mul, M4.one]; grind) (by simp only [M4.mul, M4.one]; grind)
theorem adj_mul (A B : M4) : (A.mul B).adj = B.adj.mul A.adj := m4_ext (by simp only [M4.mul, M4.adj]; grind) (by simp only [M4.mul, M4.adj]; grind) (by simp only [M4.mul, M4.adj]; grind) (by simp only [M4.mul, M4.adj]; grind)
theorem adj_adj (A : M4) : A.adj.adj = A := m4_ext rfl (by simp only [M4.adj]; grind) (by simp only [M4.adj]; grind) rfl
theorem cjm_mul (f : Int) (A B : M4) : (A.mul B).cj f = (A.cj f).mul (B.cj f) := m4_ext (by simp only [M4.mul, M4.cj, cj_add, cj_mul]) (by simp only [M4.mul, M4.cj, cj_add, cj_mul]) (by simp only [M4.mul, M4.cj, cj_add, cj_mul]) (by simp only [M4.mul, M4.cj, cj_add, cj_mul])
theorem cjm_adj (f : Int) (A : M4) : A.adj.cj f = (A.cj f).adj := m4_ext rfl (by simp only [M4.adj, M4.cj, cj_neg]) (by simp only [M4.adj, M4.cj, cj_neg]) rfl
theorem cjm_cj {f i : Int} (hf : f = 0 ∨ f = 1) (hi : i = 0 ∨ i = 1) (A : M4) : (A.cj i).cj f = A.cj ((f + i) % 2) := m4_ext (cj_cj2 hf hi _) (cj_cj2 hf hi _) (cj_cj2 hf hi _) (cj_cj2 hf hi _)
theorem cjm_self (f : Int) (A : M4) : (A.cj f).cj f = A := m4_ext (cj_cj f _) (cj_cj f _) (cj_cj f _) (cj_cj f _)
theorem cjm_one (f : Int) : M4.one.cj f = M4.one := m4_ext (cj_one f) (cj_zero f) (cj_zero f) (cj_one f)
theorem cjm_sm (f : Int) (g : G) (A : M4) : (A.sm g).cj f = (A.cj f).sm (cj f g) := m4_ext (cj_mul ..) (cj_mul ..) (cj_mul ..) (cj_mul ..)
theorem adj_sm (g : G) (A : M4) : (A.sm g).adj = A.adj.sm g := m4_ext rfl (by simp only [M4.adj, M4.sm]; grind) (by simp only [M4.adj, M4.sm]; grind) rfl
theorem mul_adj (A : M4) : A.mul A.adj = M4.one.sm A.dt := m4_ext (by simp only [M4.mul, M4.adj, M4.sm, M4.one, M4.dt]; grind) (by simp only [M4.mul, M4.adj, M4.sm, M4.one, M4.dt]; grind) (by simp only [M4.mul, M4.adj, M4.sm, M4.one, M4.dt]; grind) (by simp only [M4.mul, M4.adj, M4.sm, M4.one, M4.dt]; grind)
theorem adj_mul' (A : M4) : A.adj.mul A = M4.one.sm A.dt := m4_ext (by simp only [M4.mul, M4.adj, M4.sm, M4.one, M4.dt]; grind) (by simp only [M4.mul, M4.adj, M4.sm, M4.one, M4.dt]; grind) (by simp only [M4.mul, M4.adj, M4.sm, M4.one, M4.dt]; grind) (by simp only [M4.mul, M4.adj, M4.sm, M4.one, M4.dt]; grind)
theorem sm_mul (g : G) (A B : M4) : (A.sm g).mul B = (A.mul B).sm g := m4_ext (by simp only [M4.mul, M4.sm]; grind) (by simp only [M4.mul, M4.sm]; grind) (by simp only [M4.mul, M4.sm]; grind) (by simp only [M4.mul, M4.sm]; grind)
theorem mul_sm (g : G) (A B : M4) : A.mul (B.sm g) = (A.mul B).sm g := m4_ext (by simp only [M4.mul, M4.sm]; grind) (by simp only [M4.mul, M4.sm]; grind) (by simp only [M4.mul, M4.sm]; grind) (by simp only [M4.mul, M4.sm]; grind)
theorem sm_sm (g h : G) (A : M4) : (A.sm h).sm g = A.sm (g * h) := m4_ext (by simp only [M4.sm]; grind) (by simp only [M4.sm]; grind) (by simp only [M4.sm]; grind) (by simp only [M4.sm]; grind)
theorem dt_mul (A B : M4) : (A.mul B).dt = A.dt * B.dt := by simp only [M4.mul, M4.dt]; grind
theorem dt_adj (A : M4) : A.adj.dt = A.dt := by simp only [M4.adj, M4.dt]; grind
theorem dt_cj (f : Int) (A : M4) : (A.cj f).dt = cj f A.dt := by simp only [M4.cj, M4.dt, cj_sub, cj_mul]
theorem dt_sm (g : G) (A : M4) : (A.sm g).dt = g * g * A.dt := by simp only [M4.sm, M4.dt]; grind
/-- the same numbers but for factors -/
def Sim (A B : M4) : Prop := ∃ g h : G, g ≠ 0 ∧ h ≠ 0 ∧ A.sm g = B.sm h
theorem one_ne : (1 : G) ≠ 0 := by intro h; have := congrArg Prod.fst h; cases this
theorem sm_one (A : M4) : A.sm 1 = A := m4_ext (by simp only [M4.sm]; grind) (by simp only [M4.sm]; grind) (by simp only [M4.sm]; grind) (by simp only [M4.sm]; grind)
theorem Sim.refl (A : M4) : Sim A A := ⟨1, 1, one_ne, one_ne, rfl⟩
theorem Sim.of {A B : M4} (h : A = B) : Sim A B := h ▸ Sim.refl A
theorem Sim.symm {A B : M4} (s : Sim A B) : Sim B A := by obtain ⟨g, h, x, y, e⟩ := s; exact ⟨h, g, y, x, e.symm⟩
theorem Sim.trans {A B C : M4} (s : Sim A B) (t : Sim B C) : Sim A C := by
  obtain ⟨g, h, x, y, e⟩ := s
  obtain ⟨k, l, u, v, f⟩ := t
  refine ⟨k * g, h * l, gnz u x, gnz y v, ?_⟩
  rw [← sm_sm, e, sm_sm, show k * h = h * k by grind, ← sm_sm, f, sm_sm]
theorem Sim.smr (A : M4) {g : G} (h : g ≠ 0) : Sim A (A.sm g) := ⟨g, 1, h, one_ne, (sm_one _).symm⟩
theorem Sim.mul {A B C D : M4} (s : Sim A B) (t : Sim C D) : Sim (A.mul C) (B.mul D) := by
  obtain ⟨g, h, x, y, e⟩ := s
  obtain ⟨k, l, u, v, f⟩ := t
  refine ⟨g * k, h * l, gnz x u, gnz y v, ?_⟩
  rw [← sm_sm, ← mul_sm, ← sm_mul, e, f, sm_mul, mul_sm, sm_sm]
theorem Sim.adj {A B : M4} (s : Sim A B) : Sim A.adj B.adj := by
  obtain ⟨g, h, x, y, e⟩ := s
  exact ⟨g, h, x, y, by rw [← adj_sm, e, adj_sm]⟩
theorem Sim.cj {A B : M4} (f : Int) (s : Sim A B) : Sim (A.cj f) (B.cj f) := by
  obtain ⟨g, h, x, y, e⟩ := s
  exact ⟨Z.cj f g, Z.cj f h, cj_nz x, cj_nz y, by rw [← cjm_sm, e, cjm_sm]⟩
theorem Sim.inv (A : M4) (h : A.dt ≠ 0) : Sim (A.mul A.adj) M4.one := by rw [mul_adj]; exact (Sim.smr _ h).symm
theorem Sim.inv' (A : M4) (h : A.dt ≠ 0) : Sim (A.adj.mul A) M4.one := by rw [adj_mul']; exact (Sim.smr _ h).symm
abbrev Fm4 (n : Nat) (A : M4) : Prop := Fm n A.a A.b A.c A.d
theorem Fm4.dtn {n : Nat} {A : M4} (F : Fm4 n A) : A.dt ≠ 0 := F.dt
theorem Fm4.sim {n m : Nat} {A B : M4} (F : Fm4 n A) (F' : Fm4 m B) (s : Sim A B) : A = B := by
  obtain ⟨g, h, x, y, e⟩ := s
  obtain ⟨e1, e2, e3, e4⟩ := F.uniq F' x y (congrArg M4.a e) (congrArg M4.b e) (congrArg M4.c e) (congrArg M4.d e)
  exact m4_ext e1 e2 e3 e4
theorem Fm4.one : Fm4 1 M4.one := ⟨⟨⟨by decide⟩, ⟨by decide⟩, ⟨by decide⟩, ⟨by decide⟩, ⟨by decide⟩, ⟨by decide⟩, ⟨by decide⟩, ⟨by decide⟩⟩, ⟨fun n _ => ⟨n, by rw [gm_comm, gm_one]⟩, fun d q => q (1, 0) (List.mem_cons_self ..)⟩, by decide, by decide⟩
/-! ### places as pairs of numbers -/
structure V2 where
  x : G
  y : G
def vc (p s r : Int) : V2 := ⟨(p, s), (r, 0)⟩
def M4.app (A : M4) (v : V2) : V2 := ⟨A.a * v.x + A.b * v.y, A.c * v.x + A.d * v.y⟩
def V2.cj (f : Int) (v : V2) : V2 := ⟨Z.cj f v.x, Z.cj f v.y⟩
def cr (u v : V2) : G := u.x * v.y - u.y * v.x
def V2.nz (u : V2) : Prop := ¬(u.x = 0 ∧ u.y = 0)
theorem cr_self (u : V2) : cr u u = 0 := by simp only [cr]; grind
theorem cr_sym {u v : V2} (h : cr u v = 0) : cr v u = 0 := by simp only [cr] at *; grind
theorem cr_app (A : M4) (u v : V2) : cr (A.app u) (A.app v) = A.dt * cr u v := by simp only [cr, M4.app, M4.dt]; grind
theorem cr_adj (A : M4) (u v : V2) : cr u (A.adj.app v) = cr (A.app u) v := by simp only [cr, M4.app, M4.adj]; grind
theorem cr_cj (f : Int) (u v : V2) : cr (u.cj f) (v.cj f) = cj f (cr u v) := by simp only [cr, V2.cj, cj_sub, cj_mul]
theorem app_cj (f : Int) (A : M4) (v : V2) : (A.app v).cj f = (A.cj f).app (v.cj f) := by simp only [M4.app, V2.cj, M4.cj, cj_add, cj_mul]
theorem app_mul (A B : M4) (v : V2) : (A.mul B).app v = A.app (B.app v) := by
  simp only [M4.app, M4.mul]
  rw [show (A.a * B.a + A.b * B.c) * v.x + (A.a * B.b + A.b * B.d) * v.y = A.a * (B.a * v.x + B.b * v.y) + A.b * (B.c * v.x + B.d * v.y) by grind, show (A.c * B.a + A.d * B.c) * v.x + (A.c * B.b + A.d * B.d) * v.y = A.c * (B.a * v.x + B.b * v.y) + A.d * (B.c * v.x + B.d * v.y) by grind]
theorem vcj_cj2 {f i : Int} (hf : f = 0 ∨ f = 1) (hi : i = 0 ∨ i = 1) (v : V2) : (v.cj i).cj f = v.cj ((f + i) % 2) := by simp only [V2.cj, cj_cj2 hf hi]
theorem vcj_self (f : Int) (v : V2) : (v.cj f).cj f = v := by simp only [V2.cj, cj_cj]
theorem cr_trans {u w v : V2} (h1 : cr u w = 0) (h2 : cr w v = 0) (hw : w.nz) : cr u v = 0 := by
  have a : w.x * cr u v = 0 := by simp only [cr] at *; grind
  have b : w.y * cr u v = 0 := by simp only [cr] at *; grind
  by_cases z : w.x = 0
  · exact gz b fun y => hw ⟨z, y⟩
  · exact gz a z
theorem app_nz {A : M4} (h : A.dt ≠ 0) {v : V2} (n : v.nz) : (A.app v).nz := fun ⟨z1, z2⟩ => by
  simp only [M4.app] at z1 z2
  have e1 : A.dt * v.x = 0 := by simp only [M4.dt]; grind
  have e2 : A.dt * v.y = 0 := by simp only [M4.dt]; grind
  exact n ⟨gz e1 h, gz e2 h⟩
theorem cjv_nz {f : Int} {v : V2} (n : v.nz) : (v.cj f).nz := fun ⟨z1, z2⟩ => n ⟨by have := congrArg (Z.cj f) z1; simp only [V2.cj, cj_cj, cj_zero] at this; exact this, by have := congrArg (Z.cj f) z2; simp only [V2.cj, cj_cj, cj_zero] at this; exact this⟩
theorem cj_eq0 {f : Int} {p : G} (h : Z.cj f p = 0) : p = 0 := by
  have := congrArg (Z.cj f) h
  rw [cj_cj, cj_zero] at this
  exact this
/-- the same numbers but for factors lead along one pair -/
theorem Sim.app {A B : M4} (s : Sim A B) (v : V2) : cr (A.app v) (B.app v) = 0 := by
  obtain ⟨g, h, x, y, e⟩ := s
  have e1 : g * A.a = h * B.a := congrArg M4.a e
  have e2 : g * A.b = h * B.b := congrArg M4.b e
  have e3 : g * A.c = h * B.c := congrArg M4.c e
  have e4 : g * A.d = h * B.d := congrArg M4.d e
  have : g * cr (A.app v) (B.app v) = 0 := by
    have t : g * cr (A.app v) (B.app v) = (g * A.a * v.x + g * A.b * v.y) * (B.c * v.x + B.d * v.y) - (g * A.c * v.x + g * A.d * v.y) * (B.a * v.x + B.b * v.y) := by simp only [cr, M4.app]; grind
    rw [t, e1, e2, e3, e4]
    grind
  exact gz this x
end Z

set_option Elab.async false
set_option linter.all false
set_option maxRecDepth 100000
set_option synthInstance.maxSize 4000
set_option synthInstance.maxHeartbeats 400000
namespace Z
open PySem L2
/-! ## 31. places as triples -/
abbrev T3 := Int × Int × Int
abbrev pd (t : T3) : PyData := pl t.1 t.2.1 t.2.2
/-- a place -/
def Pt (t : T3) : Prop := t = (1, 0, 0) ∨ (0 < t.2.2 ∧ gcI [t.1, t.2.1, t.2.2] = 1)
structure S3 (n : Nat) (t : T3) : Prop where
  p : Sz n t.1
  s : Sz n t.2.1
  r : Sz n t.2.2
theorem S3.up {n m : Nat} {t : T3} (h : S3 n t) (l : n ≤ m) : S3 m t := ⟨szUp h.p l, szUp h.s l, szUp h.r l⟩
def vt (t : T3) : V2 := ⟨(t.1, t.2.1), (t.2.2, 0)⟩
theorem eqv_pd (t u : T3) : PyData.eqv (pd t) (pd u) = decide (t = u) := by
  rw [show PyData.eqv (pd t) (pd u) = _ from eqv_pl ..]
  have : (t.1 = u.1 ∧ t.2.1 = u.2.1 ∧ t.2.2 = u.2.2) ↔ t = u := ⟨fun ⟨a, b, c⟩ => Prod.ext a (Prod.ext b c), fun h => by rw [h]; exact ⟨rfl, rfl, rfl⟩⟩
  exact decide_eq_decide.mpr this
theorem pd_inj {t u : T3} (h : pd t = pd u) : t = u := by
  have := eqv_pd t u
  rw [h, eqv_pd] at this
  have : decide (u = u) = decide (t = u) := this
  rw [decide_eq_true rfl] at this
  exact of_decide_eq_true this.symm
theorem Pt.of_rt {n : Nat} {p s r : Int} (h : Rt n p s r) : Pt (p, s, r) ∧ S3 n (p, s, r) := ⟨.inr ⟨h.pos, h.one⟩, h.sa, h.sb, h.sr⟩
theorem Pt.far : Pt (1, 0, 0) := .inl rfl
theorem S3.far {n : Nat} (h : 1 ≤ n) : S3 n (1, 0, 0) := ⟨szUp (n := 1) ⟨by decide⟩ h, szUp (n := 1) ⟨by decide⟩ h, szUp (n := 1) ⟨by decide⟩ h⟩
theorem Pt.nz {t : T3} (h : Pt t) : (vt t).nz := fun ⟨z1, z2⟩ => by
  have a : t.1 = 0 := congrArg Prod.fst z1
  have b : t.2.2 = 0 := congrArg Prod.fst z2
  rcases h with h | ⟨h, _⟩
  · rw [h] at a; cases a
  · omega
theorem Pt.uniq {t u : T3} (h : Pt t) (g : Pt u) (e : cr (vt t) (vt u) = 0) : t = u := by
  have e1 : t.1 * u.2.2 = t.2.2 * u.1 := by
    have := congrArg Prod.fst e
    have w : (cr (vt t) (vt u)).1 = (t.1 * u.2.2 - t.2.1 * 0) - (t.2.2 * u.1 - 0 * u.2.1) := rfl
    rw [w] at this
    have z : ((0 : G)).1 = 0 := rfl
    rw [z] at this
    grind
  have e2 : t.2.1 * u.2.2 = t.2.2 * u.2.1 := by
    have := congrArg Prod.snd e
    have w : (cr (vt t) (vt u)).2 = (t.1 * 0 + t.2.1 * u.2.2) - (t.2.2 * u.2.1 + 0 * u.1) := rfl
    rw [w] at this
    have z : ((0 : G)).2 = 0 := rfl
    rw [z] at this
    grind
  rcases h with h | ⟨h, o⟩
  · rcases g with g | ⟨g, o'⟩
    · rw [h, g]
    · rw [h] at e1
      have : (1 : Int) * u.2.2 = 0 * u.1 := e1
      omega
  · rcases g with g | ⟨g, o'⟩
    · rw [g] at e1
      have : t.1 * 0 = t.2.2 * 1 := e1
      omega
    · have r := rd_prop (us := [t.1, t.2.1, t.2.2]) (vs := [u.1, u.2.1, u.2.2]) g h (by
        show [u.2.2 * t.1, u.2.2 * t.2.1, u.2.2 * t.2.2] = [t.2.2 * u.1, t.2.2 * u.2.1, t.2.2 * u.2.2]
        rw [show u.2.2 * t.1 = t.2.2 * u.1 by grind, show u.2.2 * t.2.1 = t.2.2 * u.2.1 by grind, show u.2.2 * t.2.2 = t.2.2 * u.2.2 by grind])
      rw [rd_self o, rd_self o'] at r
      simp only [List.cons.injEq, and_true] at r
      exact Prod.ext r.1 (Prod.ext r.2.1 r.2.2)
/-- the place of a quotient -/
def qt (p q : G) : T3 := if q = (0, 0) then (1, 0, 0) else
  let X := p.1 * q.1 - p.2 * -q.2
  let Y := p.1 * -q.2 + p.2 * q.1
  let W := q.1 * q.1 + q.2 * q.2
  (X / gcI [X, Y, W], Y / gcI [X, Y, W], W / gcI [X, Y, W])
def qp (p q : G) : PyData := if q = (0, 0) then pl 1 0 0 else tup (rd [p.1 * q.1 - p.2 * -q.2, p.1 * -q.2 + p.2 * q.1, q.1 * q.1 + q.2 * q.2])
theorem qp_qt (p q : G) : qp p q = pd (qt p q) := by
  unfold qp qt
  by_cases z : q = (0, 0)
  · rw [if_pos z, if_pos z]
  · rw [if_neg z, if_neg z]; rfl
theorem qt_ok {n : Nat} {p q : G} (h : ¬(p = 0 ∧ q = 0)) (p1 : Sz n p.1) (p2 : Sz n p.2) (q1 : Sz n q.1) (q2 : Sz n q.2) : Pt (qt p q) ∧ S3 (2 * n + 1) (qt p q) ∧ cr (vt (qt p q)) ⟨p, q⟩ = 0 := by
  unfold qt
  by_cases z : q = (0, 0)
  · rw [if_pos z]
    refine ⟨.inl rfl, S3.far (by omega), ?_⟩
    subst z
    show ((1, 0) : G) * (0, 0) - (0, 0) * p = 0
    rw [z_r]
    grind
  · rw [if_neg z]
    have np : 0 < q.1 * q.1 + q.2 * q.2 := nm_pos z
    have h1 : max (n + n) (n + n) + 1 ≤ 2 * n + 1 := by omega
    have X : Sz (2 * n + 1) (p.1 * q.1 - p.2 * -q.2) := szUp inferInstance h1
    have Y : Sz (2 * n + 1) (p.1 * -q.2 + p.2 * q.1) := szUp inferInstance h1
    have W : Sz (2 * n + 1) (q.1 * q.1 + q.2 * q.2) := szUp inferInstance h1
    obtain ⟨x, y, w, g, e, rt, hg, g1, g2, g3⟩ := rd3 X Y W np
    have e' : ([_, _, _] : List Int) = [x, y, w] := e
    simp only [List.cons.injEq, and_true] at e'
    obtain ⟨ea, eb, ec⟩ := e'
    simp only at ea eb ec ⊢
    rw [ea, eb, ec]
    refine ⟨.inr ⟨rt.pos, rt.one⟩, ⟨rt.sa, rt.sb, rt.sr⟩, ?_⟩
    have gn : ((g, 0) : G) ≠ 0 := fun z => by have : g = 0 := congrArg Prod.fst z; omega
    refine gz (p := (g, 0)) ?_ gn
    have ew : ((g, 0) : G) * cr (vt (x, y, w)) ⟨p, q⟩ = ((g * x, g * y) : G) * q - (g * w, 0) * p := by
      have t1 : ((g * x, g * y) : G) = (g, 0) * (x, y) := Prod.ext (by show g * x = g * x - 0 * y; grind) (by show g * y = g * y + 0 * x; grind)
      have t2 : ((g * w, 0) : G) = (g, 0) * (w, 0) := Prod.ext (by show g * w = g * w - 0 * 0; grind) (by show (0 : Int) = g * 0 + 0 * w; grind)
      rw [t1, t2]
      show (g, 0) * ((x, y) * q - (w, 0) * p) = _
      grind
    rw [ew, g1, g2, g3]
    exact Prod.ext (by show (p.1 * q.1 - p.2 * -q.2) * q.1 - (p.1 * -q.2 + p.2 * q.1) * q.2 - ((q.1 * q.1 + q.2 * q.2) * p.1 - 0 * p.2) = 0; grind) (by show (p.1 * q.1 - p.2 * -q.2) * q.2 + (p.1 * -q.2 + p.2 * q.1) * q.1 - ((q.1 * q.1 + q.2 * q.2) * p.2 + 0 * p.1) = 0; grind)
/-- where a map's numbers lead a place -/
def ldp (f : Int) (a b c d : G) (p s r : Int) : PyData := qp (ga (gm a (cj f (p, s))) (b.1 * r, b.2 * r)) (ga (gm c (cj f (p, s))) (d.1 * r, d.2 * r))
def lt (f : Int) (A : M4) (t : T3) : T3 := qt (ga (gm A.a (cj f (t.1, t.2.1))) (A.b.1 * t.2.2, A.b.2 * t.2.2)) (ga (gm A.c (cj f (t.1, t.2.1))) (A.d.1 * t.2.2, A.d.2 * t.2.2))
theorem ldp_lt (f : Int) (A : M4) (t : T3) : ldp f A.a A.b A.c A.d t.1 t.2.1 t.2.2 = pd (lt f A t) := qp_qt _ _
abbrev mp4 (f : Int) (A : M4) : PyData := mp f A.a A.b A.c A.d
abbrev S44 (n : Nat) (A : M4) : Prop := S4 n A.a A.b A.c A.d
theorem rl_mul (b : G) (r : Int) : ((b.1 * r, b.2 * r) : G) = b * (r, 0) := Prod.ext (by show b.1 * r = b.1 * r - b.2 * 0; grind) (by show b.2 * r = b.1 * 0 + b.2 * r; grind)
theorem lt_ok {f : Int} {n m : Nat} {A : M4} {t : T3} (S : S44 n A) (h : A.dt ≠ 0) (T : Pt t) (T' : S3 m t) : Pt (lt f A t) ∧ S3 (2 * (n + m + 2) + 1) (lt f A t) ∧ cr (vt (lt f A t)) (A.app ((vt t).cj f)) = 0 := by
  obtain ⟨k1, k2⟩ := cj_sz (f := f) (p := (t.1, t.2.1)) T'.p T'.s
  have a := app_nz h (cjv_nz (f := f) T.nz)
  obtain ⟨_, _, _, _, _, _, _, _⟩ := S
  have tr := T'.r
  have hb : max (max (n + m) (n + m) + 1) (n + m) + 1 ≤ n + m + 2 := by omega
  have e1 : ∀ (u v : G), Sz n u.1 → Sz n u.2 → Sz n v.1 → Sz n v.2 → Sz (n + m + 2) (ga (gm u (cj f (t.1, t.2.1))) (v.1 * t.2.2, v.2 * t.2.2)).1 ∧ Sz (n + m + 2) (ga (gm u (cj f (t.1, t.2.1))) (v.1 * t.2.2, v.2 * t.2.2)).2 := fun u v h1 h2 h3 h4 =>
    ⟨szUp (inferInstance : Sz _ ((u.1 * (cj f (t.1, t.2.1)).1 - u.2 * (cj f (t.1, t.2.1)).2) + v.1 * t.2.2)) hb, szUp (inferInstance : Sz _ ((u.1 * (cj f (t.1, t.2.1)).2 + u.2 * (cj f (t.1, t.2.1)).1) + v.2 * t.2.2)) hb⟩
  have ex : A.app ((vt t).cj f) = ⟨ga (gm A.a (cj f (t.1, t.2.1))) (A.b.1 * t.2.2, A.b.2 * t.2.2), ga (gm A.c (cj f (t.1, t.2.1))) (A.d.1 * t.2.2, A.d.2 * t.2.2)⟩ := by
    rw [rl_mul, rl_mul]
    show (⟨A.a * cj f (t.1, t.2.1) + A.b * cj f (t.2.2, 0), A.c * cj f (t.1, t.2.1) + A.d * cj f (t.2.2, 0)⟩ : V2) = _
    rw [cj_real]
    rfl
  obtain ⟨x1, x2⟩ := e1 A.a A.b inferInstance inferInstance inferInstance inferInstance
  obtain ⟨y1, y2⟩ := e1 A.c A.d inferInstance inferInstance inferInstance inferInstance
  have nz : ¬(ga (gm A.a (cj f (t.1, t.2.1))) (A.b.1 * t.2.2, A.b.2 * t.2.2) = 0 ∧ ga (gm A.c (cj f (t.1, t.2.1))) (A.d.1 * t.2.2, A.d.2 * t.2.2) = 0) := fun z => a (by rw [ex]; exact z)
  have q := qt_ok nz x1 x2 y1 y2
  rw [ex]
  exact q
theorem sz_any (x : Int) : ∃ n, Sz n x := ⟨x.natAbs.log2 + 1, ⟨Nat.lt_log2_self⟩⟩
theorem S3.any (t : T3) : ∃ n, S3 n t := by
  obtain ⟨a, ha⟩ := sz_any t.1
  obtain ⟨b, hb⟩ := sz_any t.2.1
  obtain ⟨c, hc⟩ := sz_any t.2.2
  exact ⟨max a (max b c), szUp ha (by omega), szUp hb (by omega), szUp hc (by omega)⟩
theorem S44.any (A : M4) : ∃ n, S44 n A := by
  obtain ⟨n1, h1⟩ := sz_any A.a.1
  obtain ⟨n2, h2⟩ := sz_any A.a.2
  obtain ⟨n3, h3⟩ := sz_any A.b.1
  obtain ⟨n4, h4⟩ := sz_any A.b.2
  obtain ⟨n5, h5⟩ := sz_any A.c.1
  obtain ⟨n6, h6⟩ := sz_any A.c.2
  obtain ⟨n7, h7⟩ := sz_any A.d.1
  obtain ⟨n8, h8⟩ := sz_any A.d.2
  exact ⟨n1 + n2 + n3 + n4 + n5 + n6 + n7 + n8, szUp h1 (by omega), szUp h2 (by omega), szUp h3 (by omega), szUp h4 (by omega), szUp h5 (by omega), szUp h6 (by omega), szUp h7 (by omega), szUp h8 (by omega)⟩
theorem lt_pt {f : Int} {A : M4} {t : T3} (h : A.dt ≠ 0) (T : Pt t) : Pt (lt f A t) := by
  obtain ⟨n, S⟩ := S44.any A
  obtain ⟨m, S'⟩ := S3.any t
  exact (lt_ok S h T S').1
theorem lt_cr {f : Int} {A : M4} {t : T3} (h : A.dt ≠ 0) (T : Pt t) : cr (vt (lt f A t)) (A.app ((vt t).cj f)) = 0 := by
  obtain ⟨n, S⟩ := S44.any A
  obtain ⟨m, S'⟩ := S3.any t
  exact (lt_ok S h T S').2.2
/-- unlike places go to unlike places -/
theorem lt_inj {f : Int} {A : M4} {t u : T3} (h : A.dt ≠ 0) (T : Pt t) (U : Pt u) (e : lt f A t = lt f A u) : t = u := by
  refine T.uniq U ?_
  have a := cr_sym (lt_cr (f := f) h T)
  have b := lt_cr (f := f) h U
  rw [← e] at b
  have c := cr_trans a b (lt_pt h T).nz
  rw [cr_app, cr_cj] at c
  exact cj_eq0 (gz c h)
theorem Sim.dt {A B : M4} (s : Sim A B) (h : B.dt ≠ 0) : A.dt ≠ 0 := fun z => by
  obtain ⟨g, k, x, y, e⟩ := s
  have e2 := congrArg M4.dt e
  rw [dt_sm, dt_sm, z] at e2
  exact gnz (gnz y y) h (by rw [← e2]; grind)
/-- the way back leads back -/
theorem lt_back {f : Int} {A B : M4} {t : T3} (h : A.dt ≠ 0) (s : Sim B (A.adj.cj f)) (T : Pt t) : lt f B (lt f A t) = t := by
  have hB : B.dt ≠ 0 := s.dt (by rw [dt_cj, dt_adj]; exact cj_nz h)
  have P := lt_pt (f := f) h T
  refine (lt_pt hB P).uniq T ?_
  have a := lt_cr (f := f) hB P
  refine cr_trans a ?_ (app_nz hB (cjv_nz P.nz))
  refine cr_trans (s.app _) ?_ (app_nz (by rw [dt_cj, dt_adj]; exact cj_nz h) (cjv_nz P.nz))
  rw [← app_cj]
  have w : cr ((A.adj.app (vt (lt f A t))).cj f) (((vt t).cj f).cj f) = 0 := by
    rw [cr_cj, show cr (A.adj.app (vt (lt f A t))) ((vt t).cj f) = 0 from cr_sym (by rw [cr_adj]; exact cr_sym (lt_cr h T)), cj_zero]
  rw [vcj_self] at w
  exact w
/-- one map after another -/
theorem lt_mul {f i : Int} {A B C : M4} {t : T3} (hf : f = 0 ∨ f = 1) (hi : i = 0 ∨ i = 1) (hA : A.dt ≠ 0) (hB : B.dt ≠ 0) (s : Sim C (A.mul (B.cj f))) (T : Pt t) : lt ((f + i) % 2) C t = lt f A (lt i B t) := by
  have hM : (A.mul (B.cj f)).dt ≠ 0 := by rw [dt_mul, dt_cj]; exact gnz hA (cj_nz hB)
  have hC : C.dt ≠ 0 := s.dt hM
  have P := lt_pt (f := i) hB T
  refine (lt_pt hC T).uniq (lt_pt hA P) ?_
  have nt := cjv_nz (f := (f + i) % 2) T.nz
  refine cr_trans (lt_cr hC T) ?_ (app_nz hC nt)
  refine cr_trans (s.app _) ?_ (app_nz hM nt)
  refine cr_sym (cr_trans (lt_cr hA P) ?_ (app_nz hA (cjv_nz P.nz)))
  rw [app_mul, cr_app, ← vcj_cj2 hf hi, ← app_cj, cr_cj, lt_cr hB T, cj_zero]
  grind
theorem lt_stay {t : T3} (T : Pt t) : lt 0 M4.one t = t := by
  have h : M4.one.dt ≠ 0 := by show (1 : G) * 1 - 0 * 0 ≠ 0; rw [show (1 : G) * 1 - 0 * 0 = 1 by grind]; exact one_ne
  refine (lt_pt h T).uniq T ?_
  have a := lt_cr (f := 0) h T
  have e : M4.one.app ((vt t).cj 0) = vt t := by
    show (⟨1 * (vt t).x + 0 * (vt t).y, 0 * (vt t).x + 1 * (vt t).y⟩ : V2) = _
    rw [show 1 * (vt t).x + 0 * (vt t).y = (vt t).x by grind, show 0 * (vt t).x + 1 * (vt t).y = (vt t).y by grind]
  rw [e] at a
  exact a
end Z

set_option Elab.async false
set_option linter.all false
set_option maxRecDepth 100000
set_option synthInstance.maxSize 4000
set_option synthInstance.maxHeartbeats 400000
namespace Z
open PySem L2
/-! ## 32. the form of a map's numbers -/
theorem nrm_ex {n : Nat} {A : M4} (S : S44 n A) (h : A.dt ≠ 0) : ∃ X : M4, Fm4 (n + 1) X ∧ Sim X A := by
  obtain ⟨a, b, c, d⟩ := A
  have hz : dtm a b c d ≠ (0, 0) := h
  obtain ⟨g, gc⟩ := gc_ex' [a, b, c, d]
  have hg : g ≠ (0, 0) := gc.ne (by
    by_cases y : a = (0, 0)
    · refine ⟨b, by simp, fun z => led_nz hz ?_⟩
      unfold led
      rw [if_neg (fun n => n y)]
      exact z
    · exact ⟨a, by simp, y⟩)
  obtain ⟨x, hx⟩ := gc.dv a (by simp)
  obtain ⟨y, hy⟩ := gc.dv b (by simp)
  obtain ⟨z, hz'⟩ := gc.dv c (by simp)
  obtain ⟨w, hw⟩ := gc.dv d (by simp)
  have dn : dtm x y z w ≠ (0, 0) := fun e => hz (by rw [hx, hy, hz', hw, dtm_gm, e, gm_zero])
  have sx := sz_fac hg hx S.a1 S.a2
  have sy := sz_fac hg hy S.b1 S.b2
  have sz := sz_fac hg hz' S.c1 S.c2
  have sw := sz_fac hg hw S.d1 S.d2
  have S' : S4 (n + 1) x y z w := ⟨sx.1, sx.2, sy.1, sy.2, sz.1, sz.2, sw.1, sw.2⟩
  have gc1 : GC [x, y, z, w] (1, 0) := by
    have g0 : GC [a, b, c, d, (0, 0)] g := gc.snoc (GC.zero g)
    exact g0.quot (fun k _ _ _ _ => gdv_zero k) hg hx hy hz' hw
  have ln := led_nz dn
  obtain ⟨k, hk, ek⟩ := qf_tk (led x y)
  have F := Fm.turn S' gc1 dn ln ek
  obtain ⟨D, hD, fD⟩ := tk_fac g hg k
  exact ⟨⟨tk k x, tk k y, tk k z, tk k w⟩, F, D, 1, hD, one_ne, by
    rw [sm_one]
    exact m4_ext (hx.trans (fD x)).symm (hy.trans (fD y)).symm (hz'.trans (fD z)).symm (hw.trans (fD w)).symm⟩
open Classical in
noncomputable def nrm (A : M4) : M4 := if h : ∃ n X, Fm4 n X ∧ Sim X A then (Classical.choose_spec h).choose else M4.one
theorem nrm_sim {A : M4} (h : A.dt ≠ 0) : Sim (nrm A) A := by
  obtain ⟨n, S⟩ := S44.any A
  obtain ⟨X, F, s⟩ := nrm_ex S h
  have e : ∃ n X, Fm4 n X ∧ Sim X A := ⟨_, X, F, s⟩
  unfold nrm
  rw [dif_pos e]
  exact (Classical.choose_spec e).choose_spec.2
theorem nrm_fm {n : Nat} {A : M4} (S : S44 n A) (h : A.dt ≠ 0) : Fm4 (n + 1) (nrm A) := by
  obtain ⟨X, F, s⟩ := nrm_ex S h
  have e : ∃ n X, Fm4 n X ∧ Sim X A := ⟨_, X, F, s⟩
  have e2 : nrm A = X := by
    unfold nrm
    rw [dif_pos e]
    obtain ⟨F', s'⟩ := (Classical.choose_spec e).choose_spec
    exact F'.sim F (s'.trans s.symm)
  rw [e2]
  exact F
theorem nrm_of {n : Nat} {A X : M4} (h : A.dt ≠ 0) (F : Fm4 n X) (s : Sim X A) : X = nrm A := by
  obtain ⟨m, S⟩ := S44.any A
  exact F.sim (nrm_fm S h) (s.trans (nrm_sim h).symm)
theorem nrm_eq {A B : M4} (h : B.dt ≠ 0) (s : Sim A B) : nrm A = nrm B := by
  obtain ⟨m, S⟩ := S44.any A
  exact nrm_of h (nrm_fm S (s.dt h)) ((nrm_sim (s.dt h)).trans s)
theorem nrm_self {n : Nat} {A : M4} (F : Fm4 n A) : nrm A = A := (nrm_of F.dt F (Sim.refl A)).symm
theorem nrm_dt {A : M4} (h : A.dt ≠ 0) : (nrm A).dt ≠ 0 := (nrm_sim h).dt h
/-- one map after another one, the way back -/
noncomputable def aft (f : Int) (A B : M4) : M4 := nrm (A.mul (B.cj f))
noncomputable def bck (f : Int) (A : M4) : M4 := nrm (A.adj.cj f)
theorem dtMul {f : Int} {A B : M4} (h : A.dt ≠ 0) (g : B.dt ≠ 0) : (A.mul (B.cj f)).dt ≠ 0 := by rw [dt_mul, dt_cj]; exact gnz h (cj_nz g)
theorem dtAdj {f : Int} {A : M4} (h : A.dt ≠ 0) : (A.adj.cj f).dt ≠ 0 := by rw [dt_cj, dt_adj]; exact cj_nz h
theorem aft_dt {f : Int} {A B : M4} (h : A.dt ≠ 0) (g : B.dt ≠ 0) : (aft f A B).dt ≠ 0 := nrm_dt (dtMul h g)
theorem bck_dt {f : Int} {A : M4} (h : A.dt ≠ 0) : (bck f A).dt ≠ 0 := nrm_dt (dtAdj h)
theorem aft_fm {f : Int} {n : Nat} {A B : M4} (F : Fm4 n A) (F' : Fm4 n B) : Fm4 (2 * n + 3) (aft f A B) := nrm_fm (F.sz.mul (F'.sz.cj (f := f))) (dtMul F.dt F'.dt)
theorem bck_fm {f : Int} {n : Nat} {A : M4} (F : Fm4 n A) : Fm4 (n + 1) (bck f A) := nrm_fm (F.sz.adj.cj (f := f)) (dtAdj F.dt)
theorem bck_bck {f : Int} {n : Nat} {A : M4} (F : Fm4 n A) : bck f (bck f A) = A := by
  have h := F.dt
  refine (nrm_of (dtAdj (bck_dt h)) F ?_).symm
  have s := (nrm_sim (dtAdj (f := f) h)).adj.cj f
  rw [show (A.adj.cj f).adj.cj f = A by rw [← cjm_adj, adj_adj, cjm_self]] at s
  exact s.symm
theorem bck_aft {f : Int} {A : M4} (h : A.dt ≠ 0) : aft f (bck f A) A = M4.one := by
  refine (nrm_of (dtMul (bck_dt h) h) Fm4.one ?_).symm
  have s : Sim ((bck f A).mul (A.cj f)) ((A.adj.cj f).mul (A.cj f)) := (nrm_sim (dtAdj (f := f) h)).mul (Sim.refl (A.cj f))
  have e : (A.adj.cj f).mul (A.cj f) = ((A.cj f).adj).mul (A.cj f) := by rw [cjm_adj]
  rw [e] at s
  refine (s.trans (Sim.inv' _ ?_)).symm
  rw [dt_cj]
  exact cj_nz h
theorem aft_bck {f : Int} {A : M4} (h : A.dt ≠ 0) : aft f A (bck f A) = M4.one := by
  refine (nrm_of (dtMul h (bck_dt h)) Fm4.one ?_).symm
  have s := (Sim.refl A).mul ((nrm_sim (dtAdj (f := f) h)).cj f)
  rw [cjm_self] at s
  exact (s.trans (Sim.inv A h)).symm
theorem aft_as {f i : Int} {A B C : M4} (hf : f = 0 ∨ f = 1) (hi : i = 0 ∨ i = 1) (hA : A.dt ≠ 0) (hB : B.dt ≠ 0) (hC : C.dt ≠ 0) : aft ((f + i) % 2) (aft f A B) C = aft f A (aft i B C) := by
  have s1 := (nrm_sim (dtMul (f := f) hA hB)).mul (Sim.refl (C.cj ((f + i) % 2)))
  have s2 := (Sim.refl A).mul ((nrm_sim (dtMul (f := i) hB hC)).cj f)
  rw [cjm_mul, cjm_cj hf hi, ← mul_as] at s2
  exact nrm_eq (dtMul hA (aft_dt hB hC)) (s1.trans s2.symm)
theorem bck_mul {f i : Int} {A B : M4} (hf : f = 0 ∨ f = 1) (hi : i = 0 ∨ i = 1) (hA : A.dt ≠ 0) (hB : B.dt ≠ 0) : bck ((f + i) % 2) (aft f A B) = aft i (bck i B) (bck f A) := by
  have s1 := (nrm_sim (dtMul (f := f) hA hB)).adj.cj ((f + i) % 2)
  have s2 := (nrm_sim (dtAdj (f := i) hB)).mul ((nrm_sim (dtAdj (f := f) hA)).cj i)
  have e : ((A.mul (B.cj f)).adj).cj ((f + i) % 2) = (B.adj.cj i).mul ((A.adj.cj f).cj i) := by
    rw [adj_mul, cjm_mul, cjm_cj hi hf, ← cjm_adj, show (f + i) % 2 = (i + f) % 2 by rw [Int.add_comm], ← cjm_cj hi hf, cjm_self]
  rw [e] at s1
  exact nrm_eq (dtMul (bck_dt hB) (bck_dt hA)) (s1.trans s2.symm)
/-! ### lists of places -/
theorem noLst_pds (ps : List T3) : noLsts (ps.map pd) = true := noLsts_map (fun _ => rfl) ps
theorem shp_flat {ps : List PyData} (h : ∀ p ∈ ps, p.canLay0 = true ∧ p.depth ≤ 8) : shp (.list ps) ∧ shp (.tuple ps) := by
  have a : ∀ ps : List PyData, (∀ p ∈ ps, p.canLay0 = true ∧ p.depth ≤ 8) → PyData.canLayAll0 ps = true ∧ PyData.depthAll ps ≤ 8 := by
    intro ps
    induction ps with
    | nil => intro _; exact ⟨by simp only [PyData.canLayAll0], by simp only [PyData.depthAll]; omega⟩
    | cons p ps ih =>
      intro h
      obtain ⟨i1, i2⟩ := ih fun q m => h q (List.mem_cons_of_mem _ m)
      obtain ⟨j1, j2⟩ := h p (List.mem_cons_self ..)
      refine ⟨?_, ?_⟩
      · simp only [PyData.canLayAll0, j1, i1, Bool.and_true]
      · simp only [PyData.depthAll]
        omega
  obtain ⟨a1, a2⟩ := a ps h
  have b : (PyData.list ps).depth ≤ 64 ∧ (PyData.tuple ps).depth ≤ 64 := by
    simp only [PyData.depth]
    omega
  unfold shp SeqAt.shaped
  simp only [PyData.canLay0, a1, Bool.true_and, decide_eq_true_eq]
  exact b
theorem shp_pds (ps : List T3) : shp (.list (ps.map pd)) := (shp_flat fun p m => by
  obtain ⟨t, _, rfl⟩ := List.mem_map.mp m
  exact ⟨rfl, show 1 ≤ 8 by decide⟩).1
theorem inD_pds (t : T3) (ps : List T3) : inD (pd t) (ps.map pd) = decide (t ∈ ps) := by
  unfold inD
  rw [List.any_map]
  by_cases h : t ∈ ps
  · rw [decide_eq_true h]
    exact List.any_eq_true.mpr ⟨t, h, by show PyData.eqv (pd t) (pd t) = true; rw [eqv_pd, decide_eq_true rfl]⟩
  · rw [decide_eq_false h]
    refine Bool.eq_false_iff.mpr fun e => h ?_
    obtain ⟨u, m, z⟩ := List.any_eq_true.mp e
    have z : PyData.eqv (pd u) (pd t) = true := z
    rw [eqv_pd] at z
    rw [← of_decide_eq_true z]
    exact m
theorem Pt.isPl {t : T3} (h : Pt t) : isPl t.1 t.2.1 t.2.2 = true := by
  unfold Z.isPl
  rcases h with h | ⟨h1, h2⟩
  · rw [h]; rfl
  · rw [decide_eq_true h1, decide_eq_true h2, Bool.and_self, Bool.or_true]
end Z

set_option Elab.async false
set_option linter.all false
set_option maxRecDepth 100000
namespace Z
open PySem L2 PyProof.Rows
/-! ## 33. enumerate of a tuple -/
/-- the record of a walk that has just begun over what stands at `i` -/
abbrev enRec (i : Addr) : Obj := { cls := .type "enumerate", data := .fields #[.none, .bool false, .ref i, rawInt 0, .none, .none] }
set_option maxHeartbeats 1000000 in
theorem enNew {v : Value} {o : Obj} {G : Heap → Prop} (B : Begins v o G) :
    Meets (Builtin.«enumerate.__new__» ⟨[.type "enumerate", v], []⟩) (fun _ R s => G s.heap ∧ R (.ok (.ret (.ref (s.heap.push o).objs.size))) { s with heap := (s.heap.push o).push (enRec s.heap.objs.size) }) :=
  .of_wp fun prog w A R s ⟨g1, g2⟩ => by
    obtain ⟨hp, gn, dr, tk, os⟩ := s
    have sb := sub_enumerate
    have go : ∀ {A2 : Around} {E Q : Value → Shared → Prop}, Q (.ref hp.objs.size) ⟨hp.push o, gn, dr, tk, os⟩ → wpAny (model prog w) A2 (pyIter v) Q E ⟨hp, gn, dr, tk, os⟩ := fun z => B.iter prog w _ _ ⟨hp, gn, dr, tk, os⟩ _ g1 z
    wp_walk using go
    refine wpAny_stack_any fun _ => wpAny_pure ?_
    split
    · rename_i cl _ _ _ _ _
      cases (cl == Value.type "enumerate") <;> (wp_walk using go) <;> exact ⟨_, rfl, g2⟩
    · wp_walk using go; exact ⟨_, rfl, g2⟩
theorem enCall {prog : Program} {w : World} {A : Around} {E : Value → Shared → Prop} {s : Shared} {v : Value} {o : Obj} {G : Heap → Prop} {Q : Value → Shared → Prop} (B : Begins v o G) (g : G s.heap)
    (k : ∀ h', IsEnum h' (s.heap.objs.size + 1) s.heap.objs.size 0 .none → h'.get? s.heap.objs.size = some o → (∀ b u, s.heap.get? b = some u → h'.get? b = some u) → Q (.ref (s.heap.objs.size + 1)) { s with heap := h' }) :
    wpAny (model prog w) A (call (.type "enumerate") [v]) Q E s := by
  have sz : (s.heap.push o).objs.size = s.heap.objs.size + 1 := Heap.size_push ..
  have en : IsEnum ((s.heap.push o).push (enRec s.heap.objs.size)) (s.heap.objs.size + 1) s.heap.objs.size 0 .none := by
    have q := Heap.get?_push_size (s.heap.push o) (o := enRec s.heap.objs.size) rfl
    rw [sz] at q
    exact q
  have M := enNew B
  refine callType_new F.called_enumerate (by decide) (F.typeCall_enumerate_1 _) (F.newCall_enumerate_1 _) (fun ob => F.args_object_init_2 ob _) F.entry_enumerate_new M ⟨g, ?_⟩
  show _ ∧ _
  rw [sz]
  exact ⟨⟨_, en, rfl⟩, k _ en (Heap.get?_push_of_some _ (Heap.get?_push_size _ B.free)) fun b u q => Heap.get?_push_of_some _ (Heap.get?_push_of_some _ q)⟩
/-- the tuple at a, its items in new pairs with their numbers -/
def IteT (K : PySem.W.Frag) (a : Addr) : It :=
  ⟨fun i H => ∃ (us : List V) (x : V), SqT K H a us ∧ us[i]? = some x, fun i H v H' => ∃ T x, v = .ref T ∧ H T = none ∧ H' = upd H T (.tup [.int (i : Nat), x]) ∧ ∀ us, SqT K H a us → us[i]? = some x, fun i H => ∃ us : List V, SqT K H a us ∧ us.length ≤ i⟩
theorem enTurn {P : Program} {w : World} {K : PySem.W.Frag} {elts : List Expr} {kk : Nat} {tpos : Pos} (a e it : Addr) (nia : a ≠ it) (nea : e ≠ a) :
    Turn P w K (.Tuple elts kk tpos) (IteT K a) [e, it] e (fun i h => (∃ old, IsEnum h e it ((i : Nat) : Int) old) ∧ h.IsTupleIter it a i ∧ e ≠ it) where
  mem := by simp
  obj := fun i h ⟨⟨old, he⟩, ⟨o, o1, o2, o3⟩, _⟩ b hb => by
    rcases List.mem_cons.mp hb with z | hb
    · rw [z]; exact ⟨_, he, fun v q => nomatch q⟩
    · rw [List.mem_singleton.mp hb]; exact ⟨o, o1, fun v q => by rw [o3] at q; cases q⟩
  keep := fun i h h' ⟨⟨old, he⟩, hi, hne⟩ k => ⟨⟨old, k e (by simp) _ he⟩, hi.at fun o q => k it (by simp) o q, hne⟩
  item := by
    intro X hP hw hK hc i pins s σ H E I hf ⟨⟨old, he⟩, hit, hne⟩ ⟨us, x, hq, hx⟩
    subst hP hw hK
    obtain ⟨its, rv, p, hz⟩ := I.tuple hq
    obtain ⟨u, hu, ru⟩ := rv.get hx
    have hel : e < s.heap.objs.size := Heap.lt_size he
    have hil : it < s.heap.objs.size := by obtain ⟨_, q, _⟩ := hit; exact Heap.lt_size q
    have li : i < its.length := by
      by_cases l : i < its.length
      · exact l
      · rw [List.getElem?_eq_none (by omega)] at hu; cases hu
    have D : Draws X.prog X.w X.A.in1 it [it, a] its.toArray.size (fun i v => its.toArray[i]? = some v) (fun i h => h.IsTupleIter it a i ∧ h.IsTuple a its.toArray) := Draws.tuple (A := X.A.in1) (I.ok.hd hc) it a nia its.toArray
    refine wpAny_pyNext_enum_itemD D he ⟨hit, p⟩ (by simpa using li) hne (by simp [hne, nea]) fun x2 h' tk e2 ho st2 hT hsz hk => ?_
    have xu : x2 = u := by
      have e3 : its[i]? = some x2 := by simpa using e2
      rw [hu] at e3
      cases e3
      rfl
    subst xu
    refine ⟨_, rfl, wpAny_letOwnedTupleGo_enum (s := { s with heap := h', toks := tk + 1 }) ho fun h'' he' sb => ?_⟩
    have hT2 : h''.get? s.heap.objs.size = some { cls := .type "tuple", data := .seq #[.int i tk, x2] } := (sb.2 _ (Nat.ne_of_gt hel)).trans hT
    have ob : ObjOk X.prog X.w (upd H s.heap.objs.size (.tup [.int (i : Nat), x])) h'' s.heap.objs.size (.tup [.int (i : Nat), x]) :=
      ⟨show 2 ≤ sizeLine by decide, [.int i tk, x2], .cons ⟨_, rfl⟩ (.cons ru .nil), ⟨_, hT2, rfl, _, rfl⟩⟩
    have J := I.turnedNew (t' := tk + 1) (ch := [e, it]) (fun b o hb q => (sb.2 b (fun z => hb (by simp [z]))).trans (hk b o (fun z => hb (by simp [z])) (fun z => hb (by simp [z])) q)) hf (Nat.le_refl _) ob
    refine ⟨.ref s.heap.objs.size, _, J, rfl, ⟨_, x, rfl, I.hok.fresh (Nat.le_refl _), rfl, fun ys hy => by rw [I.tuple_inj hy hq]; exact hx⟩, ⟨⟨x2, ?_⟩, st2.1.at fun o q => (sb.2 it (Ne.symm hne)).trans q, hne⟩, fun b hb => ?_⟩
    · rw [show ((i + 1 : Nat) : Int) = (i : Int) + 1 by omega]; exact he'
    · have hb2 : b < s.heap.objs.size := by
        rcases List.mem_cons.mp hb with z | hb
        · rw [z]; exact hel
        · rw [List.mem_singleton.mp hb]; exact hil
      rw [upd_ne (Nat.ne_of_lt hb2)]
      exact (hf b hb).1
  done := by
    intro X hP hw hK hc i pins s σ H E I hf ⟨⟨old, he⟩, hit, hne⟩ ⟨us, hq, hx⟩
    subst hP hw hK
    obtain ⟨its, rv, p, hz⟩ := I.tuple hq
    obtain ⟨f0, f1, f2, f3, f4, f5⟩ := hf it (by simp)
    have l := rv.length
    have D : Draws X.prog X.w X.A.in1 it [it, a] 0 (fun _ _ => True) (fun _ h => h.IsTupleIter it a i ∧ h.IsTuple a its.toArray) :=
      ⟨fun _ _ st => let ⟨o, q, _⟩ := st.1; ⟨o, q⟩, fun _ _ _ st k => ⟨st.1.at fun o q => k it (by simp) o q, st.2.at fun o q => k a (by simp) o q⟩, fun j s Q E hj => absurd hj (Nat.not_lt_zero _), fun s Q E st hE => wpAny_nextOf_tuple_end (I.ok.hd hc) st.1 st.2 (by simp; omega) hE⟩
    exact wpAny_pyNext_enum_endD D he ⟨hit, p⟩ fun h' eb => ⟨rfl, I.turned (t' := s.toks) (fun b o hb q => eb b o hb q) f0 f1 f3 f4 f5⟩
  self := fun A i s Q E ⟨⟨_, he⟩, _⟩ h => wpAny_pyIter_enum he h
def iEnT (K : PySem.W.Frag) (ta : TA) : TI := fun σ H R => ta σ H fun vs H1 => ∃ a us, vs = [.ref a] ∧ SqT K H1 a us ∧ R (IteT K a) H1
theorem pi_enT {X : Cx} {e : Expr} {ta : TA} {p pos tpos : Pos} {elts : List Expr} {kk : Nat} (hg : Gl X "enumerate") (hm : X.mg "enumerate" = none) (ha : PA X [e] ta) (h1 : starEach [e] X.env = [(false, eval e X.env)] := by rfl) :
    PI X (.Tuple elts kk tpos) (.Call (.Name "enumerate" p) [e] [] pos) (iEnT X.K ta) := by
  refine ⟨fun pins s σ H R I h => ?_⟩
  refine Call_ (ld_blt I hg hm boot_enumerate (PyProof.Rows.callWith_type1 (thn (ha.run pos pins s σ H _ I h) fun us s1 ⟨vs, H1, I1, r1, a, xs, ex, hq, q⟩ => ?_) h1 rfl))
  subst ex
  cases r1 with
  | cons r rr =>
    cases rr
    cases r
    obtain ⟨its, rv, pt, hz⟩ := I1.tuple hq
    have la : a < s1.heap.objs.size := by obtain ⟨o, q, _⟩ := id pt; exact Heap.lt_size q
    refine enCall (begins_tuple a its.toArray) pt fun h' he hi hk => wpAny_pyIter_enum he ?_
    have J : Inv X pins σ H1 { s1 with heap := h' } := I1.kept (t' := s1.toks) hk
    refine ⟨s1.heap.objs.size + 1, [s1.heap.objs.size + 1, s1.heap.objs.size], _, _, H1, rfl, J, enTurn a (s1.heap.objs.size + 1) s1.heap.objs.size (Nat.ne_of_lt la) (Nat.ne_of_gt (Nat.lt_succ_of_lt la)), ⟨⟨.none, he⟩, ⟨_, hi, rfl, rfl⟩, Nat.succ_ne_self _⟩, fun b hb => ?_, q⟩
    have lb : s1.heap.objs.size ≤ b := by
      rcases List.mem_cons.mp hb with z | hb
      · rw [z]; exact Nat.le_succ _
      · rw [List.mem_singleton.mp hb]; exact Nat.le_refl _
    exact I1.fpOk lb (I1.hok.fresh lb)
def enD (k : Nat) : List PyData → List PyData
  | [] => []
  | d :: ds => .tuple [.int (k : Nat), d] :: enD (k + 1) ds
theorem enD_len : ∀ (ds : List PyData) (k : Nat), (enD k ds).length = ds.length
  | [], _ => rfl
  | d :: ds, k => by show (enD (k + 1) ds).length + 1 = _; rw [enD_len ds]; rfl
theorem enD_get : ∀ {ds : List PyData} {k i : Nat} {d : PyData}, (enD k ds)[i]? = some d → ∃ x, ds[i]? = some x ∧ d = .tuple [.int ((k + i : Nat) : Int), x]
  | [], k, i, d, h => by simp [enD] at h
  | x :: ds, k, 0, d, h => by
    simp only [enD, List.getElem?_cons_zero, Option.some.injEq] at h
    exact ⟨x, rfl, h.symm⟩
  | x :: ds, k, i + 1, d, h => by
    simp only [enD, List.getElem?_cons_succ] at h
    obtain ⟨y, e1, e2⟩ := enD_get h
    exact ⟨y, by simpa using e1, by rw [e2, show k + 1 + i = k + (i + 1) by omega]⟩
def diE (u : Wa) : Wa := fun ev Q => u ev fun ds e => match ds with
  | [.tuple xs] => Q (enD 0 xs) e
  | _ => False
theorem walks_en {K : PySem.W.Frag} {a : Addr} {xs : List PyData} : Walks K (IteT K a) [(.ref a, .tuple xs)] (enD 0 xs) := by
  intro c M σ H ev pd i k
  have t := k.top
  cases t with
  | tup h r =>
    rename_i vs
    refine ⟨fun l => ⟨vs, sqT_up msk_sub h, ?_⟩, fun d e => ?_⟩
    · rw [enD_len] at l
      rw [r.len]
      exact l
    · obtain ⟨x, ex, rfl⟩ := enD_get e
      obtain ⟨v, e1, e2⟩ := r.get i ex
      refine ⟨⟨vs, v, sqT_up msk_sub h, e1⟩, fun w H' yl => ?_⟩
      obtain ⟨T, v', rfl, hT, rfl, z1⟩ := yl
      have y1 := z1 vs (sqT_up msk_sub h)
      rw [e1] at y1
      cases y1
      refine ⟨k.newTup hT (.cons (by rw [Nat.zero_add]; exact .int _) (.cons e2 .nil)), fun b o q => ?_⟩
      have n : b ≠ T := fun z => by rw [z, hT] at q; cases q
      rw [upd_ne n]
      exact q
theorem di_en {X : Cx} {c : Cf} {pos p tpos : Pos} {elts : List Expr} {kk : Nat} {a : Expr} {u : Wa} (hg : Gl X "enumerate") (hm : X.mg "enumerate" = none) (ha : DA X c [a] u) (h1 : starEach [a] X.env = [(false, eval a X.env)] := by rfl) :
    DI X c (.Tuple elts kk tpos) (.Call (.Name "enumerate" p) [a] [] pos) (diE u) :=
  piM (pi_enT hg hm ha h1) fun σ H Q ⟨M, ev, pd, R, k, w, q⟩ => ⟨M, ev, pd, _, k, w, fun ds e y vs H1 k1 r => by
    split at y
    · cases r with
      | cons r1 r2 =>
        cases r2
        cases r1 with
        | tup g1 s1 => exact ⟨_, _, rfl, sqT_up msk_sub g1, q _ e y [_] H1 _ (k1.push (.tup g1 s1)) walks_en⟩
    · exact y.elim⟩
end Z

set_option Elab.async false
set_option linter.all false
set_option maxRecDepth 100000
set_option synthInstance.maxSize 4000
set_option synthInstance.maxHeartbeats 400000
namespace Z
open PySem L2
/-! ## 34. the map through three places -/
def frm (u v w : V2) : M4 := ⟨cr w v * u.x, cr u w * v.x, cr w v * u.y, cr u w * v.y⟩
theorem frm_dt (u v w : V2) : (frm u v w).dt = cr w v * cr u w * cr u v := by simp only [frm, M4.dt, cr]; grind
def thr (f : Int) (a b c x y z : V2) : M4 := (frm x y z).mul ((frm (a.cj f) (b.cj f) (c.cj f)).adj)
theorem thr_1 (a b c x y z : V2) : cr x (((frm x y z).mul (frm a b c).adj).app a) = 0 := by simp only [frm, M4.app, M4.mul, M4.adj, cr]; grind
theorem thr_2 (a b c x y z : V2) : cr y (((frm x y z).mul (frm a b c).adj).app b) = 0 := by simp only [frm, M4.app, M4.mul, M4.adj, cr]; grind
theorem adj_3 (a b c : V2) : (frm a b c).adj.app c = ⟨-(cr a c * cr b c) * 1, -(cr a c * cr b c)⟩ := by
  have h1 : ((frm a b c).adj.app c).x = -(cr a c * cr b c) * 1 := by simp only [frm, M4.app, M4.adj, cr]; grind
  have h2 : ((frm a b c).adj.app c).y = -(cr a c * cr b c) := by simp only [frm, M4.app, M4.adj, cr]; grind
  cases h : (frm a b c).adj.app c
  rw [h] at h1 h2
  simp only at h1 h2
  rw [h1, h2]
theorem frm_11 (x y z : V2) (k : G) : cr z ((frm x y z).app ⟨k * 1, k⟩) = 0 := by simp only [frm, M4.app, cr]; grind
theorem thr_3 (a b c x y z : V2) : cr z (((frm x y z).mul (frm a b c).adj).app c) = 0 := by
  rw [app_mul, adj_3]
  exact frm_11 x y z _
theorem quad_c {r t q x1 y1 x2 y2 x3 y3 : G} (h1 : r * (x1 * x1) + t * (x1 * y1) - q * (y1 * y1) = 0) (h2 : r * (x2 * x2) + t * (x2 * y2) - q * (y2 * y2) = 0) (h3 : r * (x3 * x3) + t * (x3 * y3) - q * (y3 * y3) = 0)
    (d12 : x1 * y2 - y1 * x2 ≠ 0) (d13 : x1 * y3 - y1 * x3 ≠ 0) (d23 : x2 * y3 - y2 * x3 ≠ 0) : r = 0 ∧ t = 0 ∧ q = 0 := by
  have n : (x1 * y2 - y1 * x2) * (x1 * y3 - y1 * x3) * (x2 * y3 - y2 * x3) ≠ 0 := gnz (gnz d12 d13) d23
  have er : ((x1 * y2 - y1 * x2) * (x1 * y3 - y1 * x3) * (x2 * y3 - y2 * x3)) * r =
      (r * (x1 * x1) + t * (x1 * y1) - q * (y1 * y1)) * (x2 * y2 * (y3 * y3) - x3 * y3 * (y2 * y2)) - (r * (x2 * x2) + t * (x2 * y2) - q * (y2 * y2)) * (x1 * y1 * (y3 * y3) - x3 * y3 * (y1 * y1)) + (r * (x3 * x3) + t * (x3 * y3) - q * (y3 * y3)) * (x1 * y1 * (y2 * y2) - x2 * y2 * (y1 * y1)) := by grind
  have et : ((x1 * y2 - y1 * x2) * (x1 * y3 - y1 * x3) * (x2 * y3 - y2 * x3)) * t =
      (r * (x2 * x2) + t * (x2 * y2) - q * (y2 * y2)) * (x1 * x1 * (y3 * y3) - x3 * x3 * (y1 * y1)) - (r * (x1 * x1) + t * (x1 * y1) - q * (y1 * y1)) * (x2 * x2 * (y3 * y3) - x3 * x3 * (y2 * y2)) - (r * (x3 * x3) + t * (x3 * y3) - q * (y3 * y3)) * (x1 * x1 * (y2 * y2) - x2 * x2 * (y1 * y1)) := by grind
  have eq : ((x1 * y2 - y1 * x2) * (x1 * y3 - y1 * x3) * (x2 * y3 - y2 * x3)) * q =
      -((r * (x1 * x1) + t * (x1 * y1) - q * (y1 * y1)) * (x2 * x2 * (x3 * y3) - x3 * x3 * (x2 * y2)) - (r * (x2 * x2) + t * (x2 * y2) - q * (y2 * y2)) * (x1 * x1 * (x3 * y3) - x3 * x3 * (x1 * y1)) + (r * (x3 * x3) + t * (x3 * y3) - q * (y3 * y3)) * (x1 * x1 * (x2 * y2) - x2 * x2 * (x1 * y1))) := by grind
  rw [h1, h2, h3] at er et eq
  exact ⟨gz (by rw [er]; grind) n, gz (by rw [et]; grind) n, gz (by rw [eq]; grind) n⟩
/-- two maps that lead three along one pair each are the same -/
theorem uniq3 {A B : M4} {u v w : V2} (hA : A.dt ≠ 0) (hB : B.dt ≠ 0) (n1 : cr u v ≠ 0) (n2 : cr u w ≠ 0) (n3 : cr v w ≠ 0) (h1 : cr (A.app u) (B.app u) = 0) (h2 : cr (A.app v) (B.app v) = 0) (h3 : cr (A.app w) (B.app w) = 0) : Sim A B := by
  have k : ∀ t : V2, cr (A.app t) (B.app t) = 0 → (A.adj.mul B).c * (t.x * t.x) + ((A.adj.mul B).d - (A.adj.mul B).a) * (t.x * t.y) - (A.adj.mul B).b * (t.y * t.y) = 0 := fun t h => by
    rw [← cr_adj, ← app_mul] at h
    simp only [cr, M4.app] at h
    rw [← h]
    grind
  obtain ⟨e1, e2, e3⟩ := quad_c (k u h1) (k v h2) (k w h3) n1 n2 n3
  have ec : A.adj.mul B = M4.one.sm (A.adj.mul B).a := m4_ext (by simp only [M4.sm, M4.one]; grind) (by rw [e3]; simp only [M4.sm, M4.one]; grind) (by rw [e1]; simp only [M4.sm, M4.one]; grind) (by simp only [M4.sm, M4.one]; grind)
  have d : (A.adj.mul B).dt ≠ 0 := by rw [dt_mul, dt_adj]; exact gnz hA hB
  have pn : (A.adj.mul B).a ≠ 0 := fun z => d (by rw [ec, dt_sm, z]; grind)
  refine ⟨(A.adj.mul B).a, A.dt, pn, hA, ?_⟩
  have e4 : B.sm A.dt = A.mul (A.adj.mul B) := by rw [← mul_as, mul_adj, sm_mul, one_mul]
  rw [e4, ec, mul_sm, mul_one, ← ec]
theorem lt_of {f : Int} {A : M4} {t u : T3} (h : A.dt ≠ 0) (T : Pt t) (U : Pt u) (e : cr (vt u) (A.app ((vt t).cj f)) = 0) : lt f A t = u :=
  (lt_pt h T).uniq U (cr_trans (lt_cr h T) (cr_sym e) (app_nz h (cjv_nz T.nz)))
theorem cr_ne {t u : T3} (T : Pt t) (U : Pt u) (n : t ≠ u) : cr (vt t) (vt u) ≠ 0 := fun e => n (T.uniq U e)
theorem cr_cjne {f : Int} {u v : V2} (h : cr u v ≠ 0) : cr (u.cj f) (v.cj f) ≠ 0 := by rw [cr_cj]; exact cj_nz h
/-- three places that are not equal -/
structure Tr (a b c : T3) : Prop where
  pa : Pt a
  pb : Pt b
  pc : Pt c
  ab : a ≠ b
  ac : a ≠ c
  bc : b ≠ c
theorem lt_sim3 {f : Int} {A B : M4} {a b c : T3} (hA : A.dt ≠ 0) (hB : B.dt ≠ 0) (T : Tr a b c) (h1 : lt f A a = lt f B a) (h2 : lt f A b = lt f B b) (h3 : lt f A c = lt f B c) : Sim A B := by
  have k : ∀ t, Pt t → lt f A t = lt f B t → cr (A.app ((vt t).cj f)) (B.app ((vt t).cj f)) = 0 := fun t P e => by
    have e1 := lt_cr (f := f) hA P
    have e2 := lt_cr (f := f) hB P
    rw [← e] at e2
    exact cr_trans (cr_sym e1) e2 (lt_pt hA P).nz
  exact uniq3 hA hB (cr_cjne (cr_ne T.pa T.pb T.ab)) (cr_cjne (cr_ne T.pa T.pc T.ac)) (cr_cjne (cr_ne T.pb T.pc T.bc)) (k a T.pa h1) (k b T.pb h2) (k c T.pc h3)
def mth (f : Int) (a b c x y z : T3) : M4 := thr f (vt a) (vt b) (vt c) (vt x) (vt y) (vt z)
theorem frm_ne {u v w : V2} (h1 : cr u v ≠ 0) (h2 : cr u w ≠ 0) (h3 : cr v w ≠ 0) : (frm u v w).dt ≠ 0 := by
  rw [frm_dt]
  refine gnz (gnz (fun z => h3 ?_) h2) h1
  simp only [cr] at *
  grind
theorem frm_tr {a b c : T3} (T : Tr a b c) (f : Int) : (frm ((vt a).cj f) ((vt b).cj f) ((vt c).cj f)).dt ≠ 0 := frm_ne (cr_cjne (cr_ne T.pa T.pb T.ab)) (cr_cjne (cr_ne T.pa T.pc T.ac)) (cr_cjne (cr_ne T.pb T.pc T.bc))
theorem cj0v (v : V2) : v.cj 0 = v := rfl
theorem mth_dt {f : Int} {a b c x y z : T3} (T : Tr a b c) (U : Tr x y z) : (mth f a b c x y z).dt ≠ 0 := by
  unfold mth thr
  rw [dt_mul, dt_adj]
  exact gnz (frm_tr U 0) (frm_tr T f)
theorem mth_lt {f : Int} {a b c x y z : T3} (T : Tr a b c) (U : Tr x y z) : lt f (mth f a b c x y z) a = x ∧ lt f (mth f a b c x y z) b = y ∧ lt f (mth f a b c x y z) c = z :=
  ⟨lt_of (mth_dt T U) T.pa U.pa (thr_1 _ _ _ _ _ _), lt_of (mth_dt T U) T.pb U.pb (thr_2 _ _ _ _ _ _), lt_of (mth_dt T U) T.pc U.pc (thr_3 _ _ _ _ _ _)⟩
/-- any map that leads the three so is it -/
theorem mth_sim {f : Int} {A : M4} {a b c x y z : T3} (T : Tr a b c) (U : Tr x y z) (hA : A.dt ≠ 0) (h1 : lt f A a = x) (h2 : lt f A b = y) (h3 : lt f A c = z) : Sim A (mth f a b c x y z) := by
  obtain ⟨e1, e2, e3⟩ := mth_lt (f := f) T U
  exact lt_sim3 hA (mth_dt T U) T (h1.trans e1.symm) (h2.trans e2.symm) (h3.trans e3.symm)
noncomputable def mpt (f : Int) (a b c x y z : T3) : M4 := nrm (mth f a b c x y z)
theorem lt_sim {f : Int} {A B : M4} {t : T3} (s : Sim A B) (h : B.dt ≠ 0) (T : Pt t) : lt f A t = lt f B t := by
  refine lt_of (s.dt h) T (lt_pt h T) ?_
  exact cr_trans (lt_cr h T) (cr_sym (s.app _)) (app_nz h (cjv_nz T.nz))
theorem mpt_dt {f : Int} {a b c x y z : T3} (T : Tr a b c) (U : Tr x y z) : (mpt f a b c x y z).dt ≠ 0 := nrm_dt (mth_dt T U)
theorem mpt_lt {f : Int} {a b c x y z : T3} (T : Tr a b c) (U : Tr x y z) : lt f (mpt f a b c x y z) a = x ∧ lt f (mpt f a b c x y z) b = y ∧ lt f (mpt f a b c x y z) c = z := by
  obtain ⟨e1, e2, e3⟩ := mth_lt (f := f) T U
  have s := nrm_sim (mth_dt (f := f) T U)
  exact ⟨(lt_sim s (mth_dt T U) T.pa).trans e1, (lt_sim s (mth_dt T U) T.pb).trans e2, (lt_sim s (mth_dt T U) T.pc).trans e3⟩
theorem mpt_of {n : Nat} {f : Int} {A : M4} {a b c x y z : T3} (T : Tr a b c) (U : Tr x y z) (F : Fm4 n A) (h1 : lt f A a = x) (h2 : lt f A b = y) (h3 : lt f A c = z) : A = mpt f a b c x y z :=
  nrm_of (mth_dt T U) F (mth_sim T U F.dt h1 h2 h3)
theorem mpt_eq {f : Int} {A : M4} {a b c x y z : T3} (T : Tr a b c) (U : Tr x y z) (hA : A.dt ≠ 0) (h1 : lt f A a = x) (h2 : lt f A b = y) (h3 : lt f A c = z) : nrm A = mpt f a b c x y z :=
  nrm_eq (mth_dt T U) (mth_sim T U hA h1 h2 h3)
/-! ### mirrors -/
def mir (q l m k : Int) : M4 := ⟨(-l, -m), (-2 * k, 0), (2 * q, 0), (l, -m)⟩
theorem mir_dt {q l m k : Int} (h : 0 < l * l + m * m - 4 * (q * k)) : (mir q l m k).dt ≠ 0 := fun z => by
  have e : (mir q l m k).dt.1 = ((-l) * l - (-m) * (-m)) - ((-2 * k) * (2 * q) - 0 * 0) := rfl
  rw [z] at e
  have e0 : ((0 : G)).1 = 0 := rfl
  rw [e0] at e
  grind
/-- the value of a row at a place -/
def vl (q l m k : Int) (t : T3) : Int := q * (t.1 * t.1 + t.2.1 * t.2.1) + (l * t.1 + m * t.2.1 + k * t.2.2) * t.2.2
theorem mir_keeps {q l m k : Int} {t : T3} (h : vl q l m k t = 0) : cr (vt t) ((mir q l m k).app ((vt t).cj 1)) = 0 := by
  obtain ⟨p, s, r⟩ := t
  simp only [vl] at h
  have e : (vt (p, s, r)).cj 1 = ⟨(p, -s), (r, -0)⟩ := rfl
  rw [e]
  refine Prod.ext ?_ ?_
  · show (p * ((2 * q * p - 0 * -s) + (l * r - -m * -0)) - s * ((2 * q * -s + 0 * p) + (l * -0 + -m * r))) - (r * ((-l * p - -m * -s) + (-2 * k * r - 0 * -0)) - 0 * ((-l * -s + -m * p) + (-2 * k * -0 + 0 * r))) = 0
    grind
  · show (p * ((2 * q * -s + 0 * p) + (l * -0 + -m * r)) + s * ((2 * q * p - 0 * -s) + (l * r - -m * -0))) - (r * ((-l * -s + -m * p) + (-2 * k * -0 + 0 * r)) + 0 * ((-l * p - -m * -s) + (-2 * k * r - 0 * -0))) = 0
    grind
theorem mir_lt {q l m k : Int} {t : T3} (hd : 0 < l * l + m * m - 4 * (q * k)) (T : Pt t) (h : vl q l m k t = 0) : lt 1 (mir q l m k) t = t := lt_of (mir_dt hd) T T (mir_keeps h)
/-! ### the round through three places -/
def dt3 (a b c d e f g h i : Int) : Int := a * (e * i - f * h) + b * (f * g - d * i) + c * (d * h - e * g)
def pf0 (t : T3) : Int := t.1 * t.1 + t.2.1 * t.2.1
def pf1 (t : T3) : Int := t.1 * t.2.2
def pf2 (t : T3) : Int := t.2.1 * t.2.2
def pf3 (t : T3) : Int := t.2.2 * t.2.2
def mn0 (a b c : T3) : Int := dt3 (pf1 a) (pf2 a) (pf3 a) (pf1 b) (pf2 b) (pf3 b) (pf1 c) (pf2 c) (pf3 c)
def mn1 (a b c : T3) : Int := dt3 (pf0 a) (pf2 a) (pf3 a) (pf0 b) (pf2 b) (pf3 b) (pf0 c) (pf2 c) (pf3 c)
def mn2 (a b c : T3) : Int := dt3 (pf0 a) (pf1 a) (pf3 a) (pf0 b) (pf1 b) (pf3 b) (pf0 c) (pf1 c) (pf3 c)
def mn3 (a b c : T3) : Int := dt3 (pf0 a) (pf1 a) (pf2 a) (pf0 b) (pf1 b) (pf2 b) (pf0 c) (pf1 c) (pf2 c)
def nx (t u : T3) : Int := (t.1 * u.2.2 - u.1 * t.2.2) * (t.1 * u.2.2 - u.1 * t.2.2) + (t.2.1 * u.2.2 - u.2.1 * t.2.2) * (t.2.1 * u.2.2 - u.2.1 * t.2.2)
set_option maxHeartbeats 4000000 in
theorem mn_disc (a b c : T3) : mn1 a b c * mn1 a b c + mn2 a b c * mn2 a b c + 4 * (mn0 a b c * mn3 a b c) = nx a b * nx a c * nx b c := by
  obtain ⟨p, s, r⟩ := a
  obtain ⟨u, v, w⟩ := b
  obtain ⟨x, y, z⟩ := c
  simp only [mn0, mn1, mn2, mn3, dt3, pf0, pf1, pf2, pf3, nx]
  grind
theorem mn_a (a b c : T3) : vl (mn0 a b c) (-mn1 a b c) (mn2 a b c) (-mn3 a b c) a = 0 := by simp only [vl, mn0, mn1, mn2, mn3, dt3, pf0, pf1, pf2, pf3]; grind
theorem mn_b (a b c : T3) : vl (mn0 a b c) (-mn1 a b c) (mn2 a b c) (-mn3 a b c) b = 0 := by simp only [vl, mn0, mn1, mn2, mn3, dt3, pf0, pf1, pf2, pf3]; grind
theorem mn_c (a b c : T3) : vl (mn0 a b c) (-mn1 a b c) (mn2 a b c) (-mn3 a b c) c = 0 := by simp only [vl, mn0, mn1, mn2, mn3, dt3, pf0, pf1, pf2, pf3]; grind
theorem nx_pos {t u : T3} (T : Pt t) (U : Pt u) (n : t ≠ u) : 0 < nx t u := by
  have h := cr_ne T U n
  have e : cr (vt t) (vt u) = (t.1 * u.2.2 - u.1 * t.2.2, t.2.1 * u.2.2 - u.2.1 * t.2.2) := Prod.ext (by show (t.1 * u.2.2 - t.2.1 * 0) - (t.2.2 * u.1 - 0 * u.2.1) = _; grind) (by show (t.1 * 0 + t.2.1 * u.2.2) - (t.2.2 * u.2.1 + 0 * u.1) = _; grind)
  rw [e] at h
  exact nm_pos h
theorem mn_pos {a b c : T3} (T : Tr a b c) : 0 < mn1 a b c * mn1 a b c + mn2 a b c * mn2 a b c + 4 * (mn0 a b c * mn3 a b c) := by
  rw [mn_disc]
  exact Int.mul_pos (Int.mul_pos (nx_pos T.pa T.pb T.ab) (nx_pos T.pa T.pc T.ac)) (nx_pos T.pb T.pc T.bc)
theorem Tr.rot {a b c : T3} (T : Tr a b c) : Tr b c a := ⟨T.pb, T.pc, T.pa, T.bc, T.ab.symm, T.ac.symm⟩
theorem Tr.rev {a b c : T3} (T : Tr a b c) : Tr c b a := ⟨T.pc, T.pb, T.pa, T.bc.symm, T.ac.symm, T.ab.symm⟩
abbrev t3 (a b c : T3) : PyData := .tuple [pd a, pd b, pd c]
/-- two names at once, of slots that may be stored into -/
theorem gT2_fr {i j : Nat} {d1 d2 : PyData} {ev : Ev} {Q : Ev → Prop} {s1 s2 : Option Sl} (e1 : ev[i]? = some s1) (h1 : fr s1) (e2 : (ev.set i (some (.val d1)))[j]? = some s2) (h2 : fr s2) (q : Q ((ev.set i (some (.val d1))).set j (some (.val d2)))) :
    gT 2 (gsC (gN i) (gsC (gN j) gsN)) (.tuple [d1, d2]) ev Q := by
  refine ⟨rfl, ?_⟩
  show gN i d1 ev (fun e => gN j d2 e (fun e => Q e))
  exact gN_fr e1 h1 (gN_fr e2 h2 q)
end Z

set_option Elab.async false
set_option linter.all false
set_option maxRecDepth 100000
namespace Z
open PySem L2 PyProof.Rows
/-! ## 35. a tuple from its end -/
theorem bkAdj (n : Nat) : Builtin.Slice.sliceAdjust none none (-1) (n : Int) = ((n : Int) - 1, -1) := by
  unfold Builtin.Slice.sliceAdjust
  have h : ((-1 : Int) < 0) := by omega
  simp only [h, if_true]
theorem bkPlaces (n : Nat) : Builtin.Slice.slicePlaces ((n : Int) - 1) (-1) (-1) = n := by
  unfold Builtin.Slice.slicePlaces
  have h : ¬ ((-1 : Int) > 0) := by omega
  simp only [h, if_false, show (- -1 : Int) = 1 from rfl, Int.ediv_one]
  split <;> omega
theorem bkPick (xs : List Value) : ((List.range xs.length).filterMap fun (m : Nat) => xs.toArray[(((xs.length : Nat) : Int) - 1 + (m : Int) * -1).toNat]?) = xs.reverse := by
  apply List.ext_getElem?
  intro i
  have all : ∀ k, k ≤ xs.length → ((List.range k).filterMap fun (m : Nat) => xs.toArray[(((xs.length : Nat) : Int) - 1 + (m : Int) * -1).toNat]?) = xs.reverse.take k := by
    intro k
    induction k with
    | zero => intro _; simp
    | succ k ih =>
      intro hk
      have i2 := ih (by omega)
      rw [List.range_succ, List.filterMap_append, i2]
      have e1 : (((xs.length : Nat) : Int) - 1 + (k : Int) * -1).toNat = xs.length - 1 - k := by omega
      have l2 : k < xs.reverse.length := by rw [List.length_reverse]; omega
      have e2 : xs.toArray[(((xs.length : Nat) : Int) - 1 + (k : Int) * -1).toNat]? = some (xs.reverse[k]) := by
        rw [e1, List.getElem_reverse, List.getElem?_toArray, List.getElem?_eq_getElem (by omega)]
      rw [List.take_succ_eq_append_getElem l2]
      simp only [List.filterMap_cons, e2, List.filterMap_nil]
  rw [all xs.length (Nat.le_refl _), List.take_of_length_le (by rw [List.length_reverse]; exact Nat.le_refl _)]
section
variable {prog : Program} {w : World} {A : Around} {E : Value → Shared → Prop} {s : Shared}
theorem bkApplied {sl : Addr} {vl vu vs : Value} {n : Nat} {Q : Int × Int × Nat → Shared → Prop} (hs : s.heap.IsSliceOf sl vl vu vs) (pl : IsPart vl none) (pu : IsPart vu none) (ps : IsPart vs (some (-1)))
    (h : Q ((n : Int) - 1, -1, n) s) : wpAny (model prog w) A (Builtin.Slice.sliceApplied (.ref sl) (pure (n : Int))) Q E s := by
  obtain ⟨ob, o1, o2, o3⟩ := id hs
  unfold Builtin.Slice.sliceApplied Builtin.Slice.sliceFields
  refine wpAny_bind (wpAny_bind (wpAny_field o1 o3 (x := vl) rfl (wpAny_bind (wpAny_field o1 o3 (x := vu) rfl (wpAny_bind (wpAny_field o1 o3 (x := vs) rfl (wpAny_pure ?_)))))))
  refine wpAny_bind (HT.slicePart_ ps ?_)
  show wpAny _ _ (if ((-1 : Int) == 0) = true then _ else _) _ _ s
  rw [if_neg (by decide)]
  refine wpAny_bind (HT.slicePart_ pl (wpAny_bind (HT.slicePart_ pu (wpAny_bind (wpAny_pure ?_)))))
  show wpAny _ _ (match Builtin.Slice.sliceAdjust none none (-1) (n : Int) with | (x, y) => pure (x, (-1 : Int), Builtin.Slice.slicePlaces x y (-1))) _ _ s
  rw [bkAdj]
  show wpAny _ _ (pure ((n : Int) - 1, (-1 : Int), Builtin.Slice.slicePlaces ((n : Int) - 1) (-1) (-1))) _ _ s
  rw [bkPlaces]
  exact wpAny_pure h
theorem bkItem {t sl : Addr} {items : List Value} {vl vu vs : Value} {Q : Value → Shared → Prop} (ht : IsTup s.heap t items.toArray) (hs : s.heap.IsSliceOf sl vl vu vs) (pl : IsPart vl none) (pu : IsPart vu none) (ps : IsPart vs (some (-1)))
    (h : Q (.ref s.heap.objs.size) { s with heap := s.heap.push { cls := .type "tuple", data := .seq items.reverse.toArray } })
    (hsz : items.length ≤ sizeLine) : wpAny (model prog w) A (getItem (.ref t) (.ref sl)) Q E s := by
  have fits : sizeOk (.seq items.reverse.toArray) := by
    show items.reverse.toArray.size ≤ sizeLine
    rw [List.size_toArray, List.length_reverse]
    exact hsz
  obtain ⟨ob, o1, o2, o3⟩ := id hs
  have ty : s.TypeIs (.ref sl) "slice" := ⟨ob, o1, o2⟩
  unfold getItem
  try with_reducible refine wpAny_holding ?_
  first | refine wpAny_bind (wpAny_pure ?_) | skip
  refine wpAny_bind (wpAny_sequenceKey ht.typeIs (by decide) ?_)
  refine wpAny_bind (wpAny_callSpecial?_slot (name := Str.ofString "__getitem__") ht.typeIs PyProof.Rows.slot_tuple_getitem (wpAny_call_entry PyProof.Rows.slot_tuple_getitem ht.typeIs entry_tuple_getitem ?_ (args_tuple_getitem _ _)))
  show wpAny _ _ (Builtin.Tuple.tupleItemsOf (.ref t) >>= _) _ _ s
  refine wpAny_bind (tupleItemsOf_ ht (wpAny_bind (wpAny_typeOf ty ?_)))
  rw [if_pos (by decide)]
  refine wpAny_bind (bkApplied (n := items.toArray.size) hs pl pu ps ?_)
  show wpAny _ _ (if ((((items.toArray.size : Nat) : Int) - 1) == 0 && (-1 : Int) == 1 && items.toArray.size == items.toArray.size) = true then _ else _) _ _ s
  rw [if_neg (by intro q; rw [Bool.and_eq_true, Bool.and_eq_true] at q; exact absurd q.1.2 (by decide))]
  rw [List.size_toArray, bkPick]
  first
    | exact wpAny_bind (m := Builtin.Tuple.tupleExact _) (wpAny_newObj_type (wpAny_pure ⟨_, rfl, wpAny_pure h⟩) fits)
    | exact wpAny_bind (m := Builtin.Tuple.tupleExact _) (wpAny_newObj_type (wpAny_bind (wpAny_pure (wpAny_pure ⟨_, rfl, wpAny_pure h⟩))) fits)
    | exact wpAny_bind (wpAny_bind (m := Builtin.Tuple.tupleExact _) (wpAny_newObj_type (wpAny_pure (wpAny_pure ⟨_, rfl, wpAny_pure h⟩)) fits))
    | exact wpAny_bind (wpAny_bind (m := Builtin.Tuple.tupleExact _) (wpAny_newObj_type (wpAny_pure ⟨_, rfl, wpAny_pure h⟩) fits))
end
def tRevT (K : PySem.W.Frag) (te : TE) : TE := fun σ H Q => te σ H fun x H1 => ∃ a us, x = .ref a ∧ SqT K H1 a us ∧ ∀ p, H1 p = none → Q (.ref p) (upd H1 p (.tup us.reverse))
theorem pe_revT {X : Cx} {e : Expr} {te : TE} {k : Nat} {p1 p2 p3 pos : Pos} (he : PE X e te) : PE X (.Subscript e (.Slice none none (some (.UnaryOp .USub (.Constant (.int 1) k p1) p2)) p3) pos) (tRevT X.K te) := by
  refine ⟨fun pins s σ H Q I h => Subscript_ (thn (he.run pins s σ H _ I h) fun v s1 ⟨x, H1, I1, r1, a, us, ex, hx, q⟩ => ?_)⟩
  subst ex
  cases r1
  have st : PO X (some (.UnaryOp .USub (.Constant (.int 1) k p1) p2)) (tPart (tUn (rU fun i => .int (-i)) (tC (.int 1)))) := po_some (pe_un un_neg pe_int)
  refine wpAny_Slice (thn (po_none.run pins s1 σ H1 (fun o G => o = none ∧ G = H1) I1 ⟨rfl, rfl⟩) fun va s2 ⟨_, _, I2, pa, ea, ga⟩ => ?_)
  subst ea ga
  refine thn (po_none.run pins s2 σ _ (fun o G => o = none ∧ G = _) I2 ⟨rfl, rfl⟩) fun vb s3 ⟨_, _, I3, pb, eb, gb⟩ => ?_
  subst eb gb
  refine thn (st.run pins s3 σ _ (fun o G => o = some (-1) ∧ G = _) I3 ⟨1, rfl, -1, rfl, rfl, rfl⟩) fun vc s4 ⟨_, _, I4, pc, ec, gc⟩ => ?_
  subst ec gc
  have J := I4.kept (h' := s4.heap.push { cls := .type "slice", data := .fields #[va, vb, vc] }) (t' := s4.toks) fun b ob q => Heap.get?_push_of_some _ q
  obtain ⟨its, r, ht, hz⟩ := J.tuple hx
  have hl := r.length
  show wpAny (model X.prog X.w) X.A (subscriptTail e (.Slice none none (some (.UnaryOp .USub (.Constant (.int 1) k p1) p2)) p3) (.ref a) (.ref s4.heap.objs.size)) (EP X pins σ Q) X.xe _
  refine tail_any (ops := [.ref a, .ref s4.heap.objs.size]) ht.typeIs (PyProof.Rows.slot_tuple_getitem.lookup) ?_ (by with_unfolding_all rfl)
  refine bkItem ht (Heap.IsSliceOf.new _ va vb vc) pa pb pc ?_ (by rw [← hl]; exact hz)
  refine ⟨.ref _, _, J.laid (t' := s4.toks) (o := .tup us.reverse) (fun b ob q => Heap.get?_push_of_some _ q) (Nat.le_refl _) ?_, rfl, q _ (J.hok.fresh (Nat.le_refl _))⟩
  exact ⟨by rw [List.length_reverse]; exact hz, _, r.reverse, IsTup.new _ _⟩
def fRev2 : PyData → (PyData → Prop) → Prop
  | .tuple ds, Q => Q (.tuple ds.reverse)
  | _, _ => False
theorem de_revT {X : Cx} {c : Cf} {e : Expr} {w : Wx} {jc : Nat} {p1 p2 p3 pos : Pos} (ha : DE X c e w) : DE X c (.Subscript e (.Slice none none (some (.UnaryOp .USub (.Constant (.int 1) jc p1) p2)) p3) pos) (dU fRev2 w) := peM (pe_revT ha) fun σ H Q ⟨M, ev, pd, R, k, w, q⟩ =>
  ⟨M, ev, pd, _, k, w, fun d e h v H1 k1 => by
    have t := k1.top
    unfold fRev2 at h
    split at h
    · cases t with
      | tup t1 t2 => exact ⟨_, _, rfl, sqT_up msk_sub t1, fun p' hp' => q _ e h _ _ (k1.pop1.newTup hp' (dzAll_rev t2))⟩
    · exact h.elim⟩
theorem fl01 (f i : Int) : (f + i) % 2 = 0 ∨ (f + i) % 2 = 1 := by omega
theorem sz01 {f : Int} (hf : f = 0 ∨ f = 1) : Sz 1 f := ⟨by rcases hf with rfl | rfl <;> decide⟩
end Z

set_option Elab.async false
set_option linter.all false
set_option maxRecDepth 100000
set_option synthInstance.maxSize 4000
set_option synthInstance.maxHeartbeats 400000
namespace Z
open PySem L2
/-! ## 36. ratios of four places -/
def ap (t u : T3) : G := (t.1 * u.2.2 - u.1 * t.2.2, t.2.1 * u.2.2 - u.2.1 * t.2.2)
theorem ap_cr (t u : T3) : ap t u = cr (vt t) (vt u) := Prod.ext (by show _ = (t.1 * u.2.2 - t.2.1 * 0) - (t.2.2 * u.1 - 0 * u.2.1); simp only [ap]; grind) (by show _ = (t.1 * 0 + t.2.1 * u.2.2) - (t.2.2 * u.2.1 + 0 * u.1); simp only [ap]; grind)
theorem ap_sz {n m : Nat} {t u : T3} (s : S3 n t) (s' : S3 n u) (h : 2 * n + 1 ≤ m) : Sz m (ap t u).1 ∧ Sz m (ap t u).2 := by
  obtain ⟨_, _, _⟩ := s
  obtain ⟨_, _, _⟩ := s'
  have a : max (n + n) (n + n) + 1 ≤ m := by omega
  exact ⟨szUp (inferInstance : Sz _ (t.1 * u.2.2 - u.1 * t.2.2)) a, szUp (inferInstance : Sz _ (t.2.1 * u.2.2 - u.2.1 * t.2.2)) a⟩
theorem ap_ne {t u : T3} (T : Pt t) (U : Pt u) (n : t ≠ u) : ap t u ≠ 0 := by rw [ap_cr]; exact cr_ne T U n
theorem ap_neg (t u : T3) : ap u t = -ap t u := by rw [ap_cr, ap_cr]; simp only [cr]; grind
theorem qt_par {p q p' q' : G} (h : ¬(p = 0 ∧ q = 0)) (h' : ¬(p' = 0 ∧ q' = 0)) (e : p * q' - q * p' = 0) : qt p q = qt p' q' := by
  have szs : ∀ x : G, ∃ n, Sz n x.1 ∧ Sz n x.2 := fun x => by
    obtain ⟨a, ha⟩ := sz_any x.1
    obtain ⟨b, hb⟩ := sz_any x.2
    exact ⟨a + b, szUp ha (by omega), szUp hb (by omega)⟩
  obtain ⟨n1, s1, s2⟩ := szs p
  obtain ⟨n2, s3, s4⟩ := szs q
  obtain ⟨n3, s5, s6⟩ := szs p'
  obtain ⟨n4, s7, s8⟩ := szs q'
  obtain ⟨P, _, c⟩ := qt_ok (n := n1 + n2) h (szUp s1 (by omega)) (szUp s2 (by omega)) (szUp s3 (by omega)) (szUp s4 (by omega))
  obtain ⟨P', _, c'⟩ := qt_ok (n := n3 + n4) h' (szUp s5 (by omega)) (szUp s6 (by omega)) (szUp s7 (by omega)) (szUp s8 (by omega))
  refine P.uniq P' ?_
  exact cr_trans c (cr_trans (w := ⟨p', q'⟩) e (cr_sym c') h') h
theorem qt_any {p q : G} (h : ¬(p = 0 ∧ q = 0)) : Pt (qt p q) ∧ cr (vt (qt p q)) ⟨p, q⟩ = 0 := by
  obtain ⟨n1, s1⟩ := sz_any p.1
  obtain ⟨n2, s2⟩ := sz_any p.2
  obtain ⟨n3, s3⟩ := sz_any q.1
  obtain ⟨n4, s4⟩ := sz_any q.2
  obtain ⟨P, _, c⟩ := qt_ok (n := n1 + n2 + n3 + n4) h (szUp s1 (by omega)) (szUp s2 (by omega)) (szUp s3 (by omega)) (szUp s4 (by omega))
  exact ⟨P, c⟩
theorem qt_inv {p q p' q' : G} (h : ¬(p = 0 ∧ q = 0)) (h' : ¬(p' = 0 ∧ q' = 0)) (e : qt p q = qt p' q') : p * q' - q * p' = 0 := by
  obtain ⟨P, c⟩ := qt_any h
  obtain ⟨P', c'⟩ := qt_any h'
  rw [← e] at c'
  exact cr_trans (u := ⟨p, q⟩) (v := ⟨p', q'⟩) (cr_sym c) c' P.nz
/-- the conjugate -/
def tj (t : T3) : T3 := (t.1, -t.2.1, t.2.2)
theorem qt_gj {p q : G} : qt (gj p) (gj q) = tj (qt p q) := by
  unfold qt
  by_cases z : q = (0, 0)
  · rw [if_pos z, if_pos (by rw [z]; rfl)]
    rfl
  · rw [if_neg z, if_neg (gj_ne z)]
    have e1 : (gj p).1 * (gj q).1 - (gj p).2 * -(gj q).2 = p.1 * q.1 - p.2 * -q.2 := by simp only [gj]; grind
    have e2 : (gj p).1 * -(gj q).2 + (gj p).2 * (gj q).1 = -(p.1 * -q.2 + p.2 * q.1) := by simp only [gj]; grind
    have e3 : (gj q).1 * (gj q).1 + (gj q).2 * (gj q).2 = q.1 * q.1 + q.2 * q.2 := by simp only [gj]; grind
    simp only [e1, e2, e3]
    generalize p.1 * q.1 - p.2 * -q.2 = X
    generalize hY : p.1 * -q.2 + p.2 * q.1 = Y
    generalize q.1 * q.1 + q.2 * q.2 = W
    have eg : gcI [X, -Y, W] = gcI [X, Y, W] := by
      show ((Int.gcd (Int.gcd (Int.gcd 0 X : Int) (-Y) : Int) W : Nat) : Int) = ((Int.gcd (Int.gcd (Int.gcd 0 X : Int) Y : Int) W : Nat) : Int)
      rw [Int.gcd_neg]
    rw [eg]
    have dv : gcI [X, Y, W] ∣ Y := (gcF_dvd [X, Y, W] 0).2 Y (by simp)
    have : -Y / gcI [X, Y, W] = -(Y / gcI [X, Y, W]) := Int.neg_ediv_of_dvd dv
    rw [this]
    rfl
theorem tj_tj (t : T3) : tj (tj t) = t := Prod.ext rfl (Prod.ext (Int.neg_neg _) rfl)
theorem qt_real {p q : G} (hq : q ≠ 0) : (qt p q).2.1 = 0 ↔ p.1 * -q.2 + p.2 * q.1 = 0 := by
  have z : ¬ q = (0, 0) := hq
  unfold qt
  rw [if_neg z]
  show (p.1 * -q.2 + p.2 * q.1) / gcI [p.1 * q.1 - p.2 * -q.2, p.1 * -q.2 + p.2 * q.1, q.1 * q.1 + q.2 * q.2] = 0 ↔ _
  have dv := (gcF_dvd [p.1 * q.1 - p.2 * -q.2, p.1 * -q.2 + p.2 * q.1, q.1 * q.1 + q.2 * q.2] 0).2 (p.1 * -q.2 + p.2 * q.1) (by simp)
  have e := Int.mul_ediv_cancel' dv
  constructor
  · intro h
    rw [h, Int.mul_zero] at e
    exact e.symm
  · intro h
    rw [h, Int.zero_ediv]
/-- four places that are not equal -/
structure Qd (a b c d : T3) : Prop where
  tr : Tr a b c
  p4 : Pt d
  ad : a ≠ d
  bd : b ≠ d
  cd : c ≠ d
def up4 (a b c d : T3) : G := ap a c * ap b d
def lo4 (a b c d : T3) : G := ap b c * ap a d
def rt4 (a b c d : T3) : T3 := qt (up4 a b c d) (lo4 a b c d)
section
variable {a b c d : T3}
theorem Qd.up (h : Qd a b c d) : up4 a b c d ≠ 0 := gnz (ap_ne h.tr.pa h.tr.pc h.tr.ac) (ap_ne h.tr.pb h.p4 h.bd)
theorem Qd.lo (h : Qd a b c d) : lo4 a b c d ≠ 0 := gnz (ap_ne h.tr.pb h.tr.pc h.tr.bc) (ap_ne h.tr.pa h.p4 h.ad)
theorem Qd.nz (h : Qd a b c d) : ¬(up4 a b c d = 0 ∧ lo4 a b c d = 0) := fun z => h.up z.1
theorem Qd.pt (h : Qd a b c d) : Pt (rt4 a b c d) := (qt_any h.nz).1
theorem Qd.s12 (h : Qd a b c d) : Qd b a d c := ⟨⟨h.tr.pb, h.tr.pa, h.p4, h.tr.ab.symm, h.bd, h.ad⟩, h.tr.pc, h.tr.bc, h.tr.ac, h.cd.symm⟩
theorem Qd.s13 (h : Qd a b c d) : Qd c d a b := ⟨⟨h.tr.pc, h.p4, h.tr.pa, h.cd, h.tr.ac.symm, h.ad.symm⟩, h.tr.pb, h.tr.bc.symm, h.bd.symm, h.tr.ab⟩
theorem Qd.sw (h : Qd a b c d) : Qd b a c d := ⟨⟨h.tr.pb, h.tr.pa, h.tr.pc, h.tr.ab.symm, h.tr.bc, h.tr.ac⟩, h.p4, h.bd, h.ad, h.cd⟩
theorem Qd.zu (h : Qd a b c d) : Qd d a c b := ⟨⟨h.p4, h.tr.pa, h.tr.pc, h.ad.symm, h.cd.symm, h.tr.ac⟩, h.tr.pb, h.bd.symm, h.tr.ab, h.tr.bc.symm⟩
theorem rt4_12 (a b c d : T3) : rt4 b a d c = rt4 a b c d := by
  unfold rt4
  rw [show up4 b a d c = up4 a b c d by unfold up4; grind, show lo4 b a d c = lo4 a b c d by unfold lo4; grind]
theorem rt4_13 (a b c d : T3) : rt4 c d a b = rt4 a b c d := by
  unfold rt4
  rw [show up4 c d a b = up4 a b c d by unfold up4; rw [ap_neg a c, ap_neg b d]; grind, show lo4 c d a b = lo4 a b c d by unfold lo4; rw [ap_neg a d, ap_neg b c]; grind]
theorem rt4_sw (h : Qd a b c d) : rt4 b a c d = qt ((rt4 a b c d).2.2, 0) ((rt4 a b c d).1, (rt4 a b c d).2.1) := by
  obtain ⟨P, e⟩ := qt_any h.nz
  refine qt_par h.sw.nz (fun z => P.nz ⟨z.2, z.1⟩) ?_
  have e : (vt (rt4 a b c d)).x * lo4 a b c d - (vt (rt4 a b c d)).y * up4 a b c d = 0 := e
  show up4 b a c d * (vt (rt4 a b c d)).x - lo4 b a c d * (vt (rt4 a b c d)).y = 0
  have e1 : up4 b a c d = lo4 a b c d := rfl
  have e2 : lo4 b a c d = up4 a b c d := rfl
  rw [e1, e2]
  grind
def im (p q : G) : Int := p.1 * -q.2 + p.2 * q.1
theorem pluck (a b c d : T3) : up4 d a c b = -(up4 a b c d) + lo4 a b c d ∧ lo4 d a c b = -up4 a b c d := by
  constructor
  · simp only [up4, lo4, ap_cr, cr]; grind
  · simp only [up4, lo4, ap_cr, cr]; grind
theorem rt4_zu (h : Qd a b c d) : (rt4 d a c b).2.1 = 0 ↔ (rt4 a b c d).2.1 = 0 := by
  unfold rt4
  rw [qt_real h.zu.lo, qt_real h.lo]
  obtain ⟨e1, e2⟩ := pluck a b c d
  rw [e1, e2]
  generalize up4 a b c d = p
  generalize lo4 a b c d = q
  have : (-p + q).1 * -(-p).2 + (-p + q).2 * (-p).1 = p.1 * -q.2 + p.2 * q.1 := by
    show (-p.1 + q.1) * -(-p.2) + (-p.2 + q.2) * -p.1 = _
    grind
  rw [this]
theorem det4 (a b c d : T3) : vl (mn0 a b c) (-mn1 a b c) (mn2 a b c) (-mn3 a b c) d = im (up4 a b c d) (lo4 a b c d) ∨ vl (mn0 a b c) (-mn1 a b c) (mn2 a b c) (-mn3 a b c) d = -im (up4 a b c d) (lo4 a b c d) := by
  first
  | (left; simp only [im, up4, lo4, gmul, ap, vl, mn0, mn1, mn2, mn3, dt3, pf0, pf1, pf2, pf3]; grind)
  | (right; simp only [im, up4, lo4, gmul, ap, vl, mn0, mn1, mn2, mn3, dt3, pf0, pf1, pf2, pf3]; grind)
theorem on_round (h : Qd a b c d) : vl (mn0 a b c) (-mn1 a b c) (mn2 a b c) (-mn3 a b c) d = 0 ↔ (rt4 a b c d).2.1 = 0 := by
  unfold rt4
  rw [qt_real h.lo]
  show _ ↔ im (up4 a b c d) (lo4 a b c d) = 0
  rcases det4 a b c d with e | e <;> rw [e]
  omega
/-! ### led on -/
theorem par_sc {u v : V2} (h : cr u v = 0) (hu : u.nz) (hv : v.nz) : ∃ α β : G, α ≠ 0 ∧ β ≠ 0 ∧ α * u.x = β * v.x ∧ α * u.y = β * v.y := by
  have h : u.x * v.y - u.y * v.x = 0 := h
  by_cases z : u.x = 0
  · have uy : u.y ≠ 0 := fun y => hu ⟨z, y⟩
    have vx : v.x = 0 := gz (p := u.y) (by grind) uy
    have vy : v.y ≠ 0 := fun y => hv ⟨vx, y⟩
    exact ⟨v.y, u.y, vy, uy, by rw [z, vx]; grind, by grind⟩
  · have vx : v.x ≠ 0 := fun y => by
      have : v.y = 0 := gz (p := u.x) (by grind) z
      exact hv ⟨y, this⟩
    exact ⟨v.x, u.x, vx, z, by grind, by grind⟩
theorem Qd.led {f : Int} {A : M4} (h : Qd a b c d) (hA : A.dt ≠ 0) : Qd (lt f A a) (lt f A b) (lt f A c) (lt f A d) :=
  ⟨⟨lt_pt hA h.tr.pa, lt_pt hA h.tr.pb, lt_pt hA h.tr.pc, fun e => h.tr.ab (lt_inj hA h.tr.pa h.tr.pb e), fun e => h.tr.ac (lt_inj hA h.tr.pa h.tr.pc e), fun e => h.tr.bc (lt_inj hA h.tr.pb h.tr.pc e)⟩, lt_pt hA h.p4, fun e => h.ad (lt_inj hA h.tr.pa h.p4 e), fun e => h.bd (lt_inj hA h.tr.pb h.p4 e), fun e => h.cd (lt_inj hA h.tr.pc h.p4 e)⟩
theorem lt_sc {f : Int} {A : M4} {t : T3} (hA : A.dt ≠ 0) (T : Pt t) : ∃ α β : G, α ≠ 0 ∧ β ≠ 0 ∧ α * (vt (lt f A t)).x = β * (A.app ((vt t).cj f)).x ∧ α * (vt (lt f A t)).y = β * (A.app ((vt t).cj f)).y :=
  par_sc (lt_cr hA T) (lt_pt hA T).nz (app_nz hA (cjv_nz T.nz))
theorem cr_sc {u v u' v' : V2} {α β γ δ : G} (e1 : α * u.x = β * u'.x) (e2 : α * u.y = β * u'.y) (e3 : γ * v.x = δ * v'.x) (e4 : γ * v.y = δ * v'.y) : α * γ * cr u v = β * δ * cr u' v' := by
  have : α * γ * cr u v = (α * u.x) * (γ * v.y) - (α * u.y) * (γ * v.x) := by simp only [cr]; grind
  rw [this, e1, e2, e3, e4]
  simp only [cr]
  grind
theorem rt4_led {f : Int} {A : M4} (hf : f = 0 ∨ f = 1) (h : Qd a b c d) (hA : A.dt ≠ 0) : rt4 (lt f A a) (lt f A b) (lt f A c) (lt f A d) = if f = 1 then tj (rt4 a b c d) else rt4 a b c d := by
  obtain ⟨α1, β1, n1, m1', x1, y1⟩ := lt_sc (f := f) hA h.tr.pa
  obtain ⟨α2, β2, n2, m2', x2, y2⟩ := lt_sc (f := f) hA h.tr.pb
  obtain ⟨α3, β3, n3, m3', x3, y3⟩ := lt_sc (f := f) hA h.tr.pc
  obtain ⟨α4, β4, n4, m4', x4, y4⟩ := lt_sc (f := f) hA h.p4
  have k : ∀ (t u : T3), cr (A.app ((vt t).cj f)) (A.app ((vt u).cj f)) = A.dt * cj f (ap t u) := fun t u => by rw [cr_app, cr_cj, ap_cr]
  have e13 := cr_sc x1 y1 x3 y3
  have e24 := cr_sc x2 y2 x4 y4
  have e23 := cr_sc x2 y2 x3 y3
  have e14 := cr_sc x1 y1 x4 y4
  rw [k, ← ap_cr] at e13 e24 e23 e14
  have eq : rt4 (lt f A a) (lt f A b) (lt f A c) (lt f A d) = qt (cj f (up4 a b c d)) (cj f (lo4 a b c d)) := by
    refine qt_par (h.led hA).nz (fun z => h.up (cj_eq0 z.1)) ?_
    have np : α1 * α2 * α3 * α4 ≠ 0 := gnz (gnz (gnz n1 n2) n3) n4
    refine gz (p := α1 * α2 * α3 * α4) ?_ np
    have eu : α1 * α2 * α3 * α4 * up4 (lt f A a) (lt f A b) (lt f A c) (lt f A d) = β1 * β2 * β3 * β4 * A.dt * A.dt * cj f (up4 a b c d) := by
      unfold up4
      rw [cj_mul, show α1 * α2 * α3 * α4 * (ap (lt f A a) (lt f A c) * ap (lt f A b) (lt f A d)) = (α1 * α3 * ap (lt f A a) (lt f A c)) * (α2 * α4 * ap (lt f A b) (lt f A d)) by grind, e13, e24]
      grind
    have el : α1 * α2 * α3 * α4 * lo4 (lt f A a) (lt f A b) (lt f A c) (lt f A d) = β1 * β2 * β3 * β4 * A.dt * A.dt * cj f (lo4 a b c d) := by
      unfold lo4
      rw [cj_mul, show α1 * α2 * α3 * α4 * (ap (lt f A b) (lt f A c) * ap (lt f A a) (lt f A d)) = (α2 * α3 * ap (lt f A b) (lt f A c)) * (α1 * α4 * ap (lt f A a) (lt f A d)) by grind, e23, e14]
      grind
    generalize cj f (up4 a b c d) = U at *
    generalize cj f (lo4 a b c d) = L at *
    generalize up4 (lt f A a) (lt f A b) (lt f A c) (lt f A d) = U' at *
    generalize lo4 (lt f A a) (lt f A b) (lt f A c) (lt f A d) = L' at *
    have : α1 * α2 * α3 * α4 * (U' * L - L' * U) = (α1 * α2 * α3 * α4 * U') * L - (α1 * α2 * α3 * α4 * L') * U := by grind
    rw [this, eu, el]
    grind
  rw [eq]
  rcases hf with rfl | rfl
  · rw [if_neg (by decide)]; rfl
  · rw [if_pos rfl]
    exact qt_gj
/-- the fourth place is told by the ratio -/
theorem rt4_inj {e : T3} (h : Qd a b c d) (h' : Qd a b c e) (q : rt4 a b c d = rt4 a b c e) : d = e := by
  have w := qt_inv h.nz h'.nz q
  refine h.p4.uniq h'.p4 ?_
  have k : ap a c * ap b c * (ap a b * ap d e) = up4 a b c d * lo4 a b c e - lo4 a b c d * up4 a b c e ∨ ap a c * ap b c * (ap a b * ap d e) = -(up4 a b c d * lo4 a b c e - lo4 a b c d * up4 a b c e) := by
    first
    | (left; simp only [up4, lo4, ap_cr, cr]; grind)
    | (right; simp only [up4, lo4, ap_cr, cr]; grind)
  have z : ap a c * ap b c * (ap a b * ap d e) = 0 := by
    rcases k with k | k
    · rw [k, w]
    · rw [k, w]; grind
  have z2 := gz z (gnz (ap_ne h.tr.pa h.tr.pc h.tr.ac) (ap_ne h.tr.pb h.tr.pc h.tr.bc))
  have z3 := gz z2 (ap_ne h.tr.pa h.tr.pb h.tr.ab)
  rw [ap_cr] at z3
  exact z3
/-- a map that leads three leads the fourth just if the ratios are equal -/
theorem rt4_fourth {f : Int} {A : M4} {x y z w : T3} (hf : f = 0 ∨ f = 1) (h : Qd a b c d) (h' : Qd x y z w) (hA : A.dt ≠ 0) (e1 : lt f A a = x) (e2 : lt f A b = y) (e3 : lt f A c = z) : lt f A d = w ↔ (if f = 1 then tj (rt4 a b c d) else rt4 a b c d) = rt4 x y z w := by
  have k := rt4_led hf h hA
  have Q := h.led (f := f) hA
  rw [e1, e2, e3] at k Q
  rw [← k]
  exact ⟨fun e => by rw [e], fun e => rt4_inj Q h' e⟩
/-! ### the law's own ratio -/
def awn (t u : T3) : G := if t = (1, 0, 0) ∨ u = (1, 0, 0) then (1, 0) else ap t u
def awd (t u : T3) : Int := if t = (1, 0, 0) ∨ u = (1, 0, 0) then 1 else t.2.2 * u.2.2
def rho (t : T3) : G := if t = (1, 0, 0) then 1 else (t.2.2, 0)
def eps (t : T3) : G := if t = (1, 0, 0) then -1 else 1
theorem aw_eq {t u : T3} (n : t ≠ u) : ap t u * (awd t u, 0) = awn t u * rho t * rho u * eps u := by
  unfold awd awn rho eps
  by_cases z : t = (1, 0, 0)
  · have y : u ≠ (1, 0, 0) := fun y => n (z.trans y.symm)
    rw [if_pos (.inl z), if_pos (.inl z), if_pos z, if_neg y, if_neg y, z]
    have e : ap (1, 0, 0) u = (u.2.2, 0) := Prod.ext (by show 1 * u.2.2 - u.1 * 0 = _; grind) (by show 0 * u.2.2 - u.2.1 * 0 = 0; grind)
    rw [e, o_r]
    grind
  · by_cases y : u = (1, 0, 0)
    · rw [if_pos (.inr y), if_pos (.inr y), if_neg z, if_pos y, if_pos y, y]
      have e : ap t (1, 0, 0) = -((t.2.2, 0) : G) := Prod.ext (by show t.1 * 0 - 1 * t.2.2 = -t.2.2; grind) (by show t.2.1 * 0 - 0 * t.2.2 = -0; grind)
      rw [e, o_r]
      grind
    · have zy : ¬(t = (1, 0, 0) ∨ u = (1, 0, 0)) := fun h => h.elim z y
      rw [if_neg zy, if_neg zy, if_neg z, if_neg y, if_neg y]
      have e : ((t.2.2 * u.2.2, 0) : G) = (t.2.2, 0) * (u.2.2, 0) := Prod.ext (by show _ = t.2.2 * u.2.2 - 0 * 0; grind) (by show (0 : Int) = t.2.2 * 0 + 0 * u.2.2; grind)
      rw [e]
      grind
theorem awn_ne {t u : T3} (T : Pt t) (U : Pt u) (n : t ≠ u) : awn t u ≠ 0 := by
  unfold awn
  by_cases z : t = (1, 0, 0) ∨ u = (1, 0, 0)
  · rw [if_pos z]; exact one_ne
  · rw [if_neg z]; exact ap_ne T U n
theorem awd_ne {t u : T3} (T : Pt t) (U : Pt u) : awd t u ≠ 0 := by
  unfold awd
  by_cases z : t = (1, 0, 0) ∨ u = (1, 0, 0)
  · rw [if_pos z]; decide
  · rw [if_neg z]
    have a : 0 < t.2.2 := by
      rcases T with h | h
      · exact absurd (.inl h) z
      · exact h.1
    have b : 0 < u.2.2 := by
      rcases U with h | h
      · exact absurd (.inr h) z
      · exact h.1
    have := Int.mul_pos a b
    omega
/-- numbers and places of the law's ratio -/
def abv (a b c d : T3) : G := awn a c * awn b d
def blw (a b c d : T3) : G := awn b c * awn a d
def upw (a b c d : T3) : Int := awd b c * awd a d
def dnw (a b c d : T3) : Int := awd a c * awd b d
theorem rt4_law (h : Qd a b c d) : qt ((abv a b c d).1 * upw a b c d, (abv a b c d).2 * upw a b c d) ((blw a b c d).1 * dnw a b c d, (blw a b c d).2 * dnw a b c d) = rt4 a b c d := by
  have r2 : ∀ x y : Int, ((x * y, 0) : G) = (x, 0) * (y, 0) := fun x y => Prod.ext (by show _ = x * y - 0 * 0; grind) (by show (0 : Int) = x * 0 + 0 * y; grind)
  have nn : ∀ x : Int, x ≠ 0 → ((x, 0) : G) ≠ 0 := fun x h z => h (congrArg Prod.fst z)
  rw [rl_mul, rl_mul]
  refine qt_par (fun z => ?_) h.nz ?_
  · refine gnz (gnz (awn_ne h.tr.pa h.tr.pc h.tr.ac) (awn_ne h.tr.pb h.p4 h.bd)) (nn _ ?_) z.1
    exact Int.mul_ne_zero (awd_ne h.tr.pb h.tr.pc) (awd_ne h.tr.pa h.p4)
  · have e1 := aw_eq h.tr.ac
    have e2 := aw_eq h.bd
    have e3 := aw_eq h.tr.bc
    have e4 := aw_eq h.ad
    have t1 : up4 a b c d * (dnw a b c d, 0) = abv a b c d * (rho a * rho b * rho c * rho d * eps c * eps d) := by
      unfold up4 dnw abv
      rw [r2, show ap a c * ap b d * ((awd a c, 0) * (awd b d, 0)) = (ap a c * (awd a c, 0)) * (ap b d * (awd b d, 0)) by grind, e1, e2]
      grind
    have t2 : lo4 a b c d * (upw a b c d, 0) = blw a b c d * (rho a * rho b * rho c * rho d * eps c * eps d) := by
      unfold lo4 upw blw
      rw [r2, show ap b c * ap a d * ((awd b c, 0) * (awd a d, 0)) = (ap b c * (awd b c, 0)) * (ap a d * (awd a d, 0)) by grind, e3, e4]
      grind
    have : abv a b c d * (upw a b c d, 0) * lo4 a b c d - blw a b c d * (dnw a b c d, 0) * up4 a b c d = abv a b c d * (lo4 a b c d * (upw a b c d, 0)) - blw a b c d * (up4 a b c d * (dnw a b c d, 0)) := by grind
    rw [this, t1, t2]
    grind
end
theorem vl_mul {g q l m k A B C D : Int} {t : T3} (hg : g ≠ 0) (e1 : g * q = A) (e2 : g * l = B) (e3 : g * m = C) (e4 : g * k = D) (h : vl A B C D t = 0) : vl q l m k t = 0 := by
  have e : g * vl q l m k t = vl A B C D t := by rw [← e1, ← e2, ← e3, ← e4]; simp only [vl]; grind
  rw [h] at e
  rcases Int.mul_eq_zero.mp e with z | z
  · exact absurd z hg
  · exact z
theorem vl_iff {g q l m k A B C D : Int} {t : T3} (hg : g ≠ 0) (e1 : g * q = A) (e2 : g * l = B) (e3 : g * m = C) (e4 : g * k = D) : vl q l m k t = 0 ↔ vl A B C D t = 0 := ⟨fun h => by
  have e : g * vl q l m k t = vl A B C D t := by rw [← e1, ← e2, ← e3, ← e4]; simp only [vl]; grind
  rw [← e, h, Int.mul_zero], vl_mul hg e1 e2 e3 e4⟩
theorem lt_qt (f : Int) (A : M4) (t : T3) : lt f A t = qt (A.app ((vt t).cj f)).x (A.app ((vt t).cj f)).y := by
  unfold lt
  rw [rl_mul, rl_mul]
  show qt (A.a * cj f (t.1, t.2.1) + A.b * (t.2.2, 0)) (A.c * cj f (t.1, t.2.1) + A.d * (t.2.2, 0)) = qt (A.a * cj f (t.1, t.2.1) + A.b * cj f (t.2.2, 0)) (A.c * cj f (t.1, t.2.1) + A.d * cj f (t.2.2, 0))
  rw [cj_real]
/-- the same place told by longer numbers goes to the same one -/
theorem lt_par {f : Int} {A : M4} {t u : T3} (h : A.dt ≠ 0) (n : (vt t).nz) (n' : (vt u).nz) (e : cr (vt t) (vt u) = 0) : lt f A t = lt f A u := by
  rw [lt_qt, lt_qt]
  refine qt_par (app_nz h (cjv_nz n)) (app_nz h (cjv_nz n')) ?_
  have : cr (A.app ((vt t).cj f)) (A.app ((vt u).cj f)) = 0 := by rw [cr_app, cr_cj, e, cj_zero]; grind
  exact this
theorem qd_of {n : Nat} {ps : List T3} (l : ps.length = 4) (d : ps.Nodup) (h : ∀ t ∈ ps, Pt t ∧ S3 n t) : ∃ a b c e, ps = [a, b, c, e] ∧ Qd a b c e ∧ (S3 n a ∧ S3 n b ∧ S3 n c ∧ S3 n e) := by
  obtain ⟨a, b, c, e, rfl⟩ : ∃ a b c e, ps = [a, b, c, e] := by
    match ps, l with
    | [a, b, c, e], _ => exact ⟨a, b, c, e, rfl⟩
  simp only [List.nodup_cons, List.mem_cons, List.not_mem_nil, or_false, not_or, not_false_eq_true, List.nodup_nil, and_true] at d
  exact ⟨a, b, c, e, rfl, ⟨⟨(h a (by simp)).1, (h b (by simp)).1, (h c (by simp)).1, d.1.1, d.1.2.1, d.2.1.1⟩, (h e (by simp)).1, d.1.2.2, d.2.1.2, d.2.2⟩, (h a (by simp)).2, (h b (by simp)).2, (h c (by simp)).2, (h e (by simp)).2⟩
end Z

set_option Elab.async false
set_option linter.all false
set_option maxRecDepth 100000
set_option synthInstance.maxSize 4000
set_option synthInstance.maxHeartbeats 400000
namespace Z
open PySem L2
/-! ## 37. rounds are told by their form -/
theorem posL_neg2 : ∀ {xs : List Int}, posL xs = true → posL (xs.map (0 - ·)) = false
  | [], h => rfl
  | y :: ys, h => by
    have h : (if y = 0 then posL ys else decide (0 < y)) = true := h
    show (if 0 - y = 0 then posL (ys.map (0 - ·)) else decide (0 < 0 - y)) = false
    by_cases z : y = 0
    · rw [if_pos z] at h
      rw [if_pos (by omega)]
      exact posL_neg2 h
    · rw [if_neg z] at h
      rw [if_neg (by omega)]
      have := of_decide_eq_true h
      exact decide_eq_false (by omega)
theorem map_neg2 (us : List Int) : (us.map (0 - ·)).map (0 - ·) = us := by
  rw [List.map_map]
  have : us.map ((0 - ·) ∘ (0 - ·)) = us.map id := List.map_congr_left fun u _ => by show 0 - (0 - u) = u; omega
  rw [this, List.map_id]
theorem rd_neg (us : List Int) : rd (us.map (0 - ·)) = (rd us).map (0 - ·) := by
  unfold rd
  rw [show gcI (us.map (0 - ·)) = gcI us from gcF_neg us 0, List.map_map, List.map_map]
  exact List.map_congr_left fun u hu => by
    show (0 - u) / gcI us = 0 - u / gcI us
    rw [Int.zero_sub, Int.zero_sub]
    exact Int.neg_ediv_of_dvd ((gcF_dvd us 0).2 u hu)
theorem fm_neg {us : List Int} (h : gcI us ≠ 0) : fm (us.map (0 - ·)) = fm us := by
  unfold fm
  rw [rd_neg]
  by_cases p : posL (rd us) = true
  · rw [if_pos p, posL_neg2 p, if_neg (by decide), map_neg2]
  · rw [if_neg p, posL_neg (rd_nz h) (by simpa using p), if_pos rfl]
theorem fm_fm {us : List Int} (h : gcI us ≠ 0) : fm (fm us) = fm us := by
  have key : ∀ vs : List Int, gcI vs = 1 → posL vs = true → fm vs = vs := fun vs a b => by unfold fm; rw [rd_self a, if_pos b]
  have o := gc_rd h
  by_cases p : posL (rd us) = true
  · have e : fm us = rd us := by unfold fm; rw [if_pos p]
    rw [e]
    exact key _ o p
  · have e : fm us = (rd us).map (0 - ·) := by unfold fm; rw [if_neg p]
    rw [e]
    refine key _ ?_ (posL_neg (rd_nz h) (by simpa using p))
    exact (gcF_neg (rd us) 0).trans o
theorem vl_neg (q l m k : Int) (t : T3) : vl (0 - q) (0 - l) (0 - m) (0 - k) t = 0 - vl q l m k t := by simp only [vl]; grind
def sg (v : Int) : Int := if 0 < v then 1 else if v < 0 then -1 else 0
theorem sg_neg (v : Int) : sg (0 - v) = 0 - sg v := by
  unfold sg
  by_cases a : 0 < v
  · rw [if_pos a, if_neg (by omega), if_pos (by omega)]; rfl
  · rw [if_neg a]
    by_cases b : v < 0
    · rw [if_pos b, if_pos (by omega)]; rfl
    · rw [if_neg b, if_neg (by omega), if_neg (by omega)]; rfl
theorem mn_rot (a b c : T3) : mn0 c a b = mn0 a b c ∧ mn1 c a b = mn1 a b c ∧ mn2 c a b = mn2 a b c ∧ mn3 c a b = mn3 a b c := by
  simp only [mn0, mn1, mn2, mn3, dt3]
  refine ⟨?_, ?_, ?_, ?_⟩ <;> grind
theorem mn_sw (a b c : T3) : mn0 b a c = 0 - mn0 a b c ∧ mn1 b a c = 0 - mn1 a b c ∧ mn2 b a c = 0 - mn2 a b c ∧ mn3 b a c = 0 - mn3 a b c := by
  simp only [mn0, mn1, mn2, mn3, dt3]
  refine ⟨?_, ?_, ?_, ?_⟩ <;> grind
/-- whether three places lie in a row -/
def dp (a b c : T3) : Int := a.1 * (b.2.1 * c.2.2 - c.2.1 * b.2.2) - a.2.1 * (b.1 * c.2.2 - c.1 * b.2.2) + a.2.2 * (b.1 * c.2.1 - c.1 * b.2.1)
def lie (a b c : T3) : Bool := decide ((1, 0, 0) ∈ [a, b, c]) || decide (dp a b c = 0)
theorem mn0_dp (a b c : T3) : mn0 a b c = a.2.2 * b.2.2 * c.2.2 * dp a b c := by simp only [mn0, dt3, pf1, pf2, pf3, dp]; grind
theorem lie_iff {a b c : T3} (T : Tr a b c) : lie a b c = decide (mn0 a b c = 0) := by
  unfold lie
  by_cases f : (1, 0, 0) ∈ [a, b, c]
  · rw [decide_eq_true f, Bool.true_or]
    refine (decide_eq_true ?_).symm
    rw [mn0_dp]
    simp only [List.mem_cons, List.not_mem_nil, or_false] at f
    rcases f with f | f | f <;> rw [← f] <;> simp
  · rw [decide_eq_false f, Bool.false_or]
    simp only [List.mem_cons, List.not_mem_nil, or_false, not_or] at f
    have pos : ∀ {t : T3}, Pt t → ¬(1, 0, 0) = t → 0 < t.2.2 := fun P n => by
      rcases P with h | h
      · exact absurd h.symm n
      · exact h.1
    have p := Int.mul_pos (Int.mul_pos (pos T.pa f.1) (pos T.pb f.2.1)) (pos T.pc f.2.2)
    refine decide_eq_decide.mpr ⟨fun h => by rw [mn0_dp, h, Int.mul_zero], fun h => ?_⟩
    rw [mn0_dp] at h
    rcases Int.mul_eq_zero.mp h with z | z
    · omega
    · exact z
end Z

set_option Elab.async false
set_option linter.all false
set_option maxRecDepth 100000
namespace Z
open PySem L2
/-! ## 38. new lists handed back: as values, and as the second of two stored at once -/
section
variable {X : Cx} {c : Cf} {k kg n : Nat} {x : Str} {ps : List Str} {p pos : Pos} {e : Expr} {es : List Expr} {u : Wa}
/-- f(t, e, ..) as a value -/
def dFnU (i n : Nat) (C : Cu) (u : Wa) : Wx := fun ev Q => match ev[i]? with
  | some (some (.own _)) => u ev fun ds e => match e[i]? with
    | some (some (.own ts)) => ds.length + 1 = n ∧ C ts ds fun es ts' => Q (.list es) (e.set i (some (.own ts')))
    | _ => False
  | _ => False
theorem de_fnU {i : Nat} {C : Cu} (F : Cl X.prog X.w X.K X.mg X.base kg x ps (spU X.K n C)) (hk : kg ≤ k) (hr : Room k X.A) (hG : X.A.guards = some []) (hg : Gl X x) (ho : PE X e (tVar i)) (ha : DA X c es u) (h2 : (x == ("__debug__" : Str)) = false := by decide) (h3 : starEach (e :: es) X.env = (false, eval e X.env) :: starEach es X.env := by rfl) (h4 : (backTo pos (starEach es X.env)).any (·.1) = false := by rfl) :
    DE X c (.Call (.Name x p) (e :: es) [] pos) (dFnU i n C u) := peM (pe_cG F hk hr hG hg (pa_cons ho ha h3) h2 h3 h4) fun σ H Q ⟨M, ev, pd, R, k, w, q⟩ => by
  unfold dFnU at w
  split at w
  · rename_i ts0 e0
    obtain ⟨a, us, a1, a2, a3, a4⟩ := k.slotV e0
    refine ⟨.ref a, a1, M, ev, _, _, k, w, fun ds e h vs H1 k1 r => ?_⟩
    split at h
    · rename_i ts e1
      obtain ⟨l, h⟩ := h
      obtain ⟨a', us', b1, b2, b3, b4⟩ := k1.slotV e1
      obtain rfl : a = a' := by rw [a1] at b1; cases b1; rfl
      refine ⟨M, a, vs, us', ts, ds, _, rfl, by rw [List.length_cons, r.len, l], k1.mkOk, b3, b2, b4, r, h, fun es ts' hd p zs H' us2 g0 g1 g2 g3 g4 g5 => q _ _ hd _ H' ?_⟩
      have m0 := k1.free g0
      exact (k1.write e1 a1 g1 g2 g3).push (.lst (sq_lst (msk_of g4 m0)) g5)
    · exact h.elim
  · exact w.elim
theorem Ok.take2 {K : PySem.W.Frag} {M : Mz} {σ : Sg} {H1 H' : Hp} {ev : Ev} {pd : List (V × PyData)} {v : V} {d : PyData} (k1 : Ok K c M σ H1 ev ((v, d) :: pd)) {i j t : Nat} {a p : Addr} {ts ts' es : List PyData} {us' zs : List V} (e1 : ev[t]? = some (some (.own ts))) (a1 : σ[t]? = some (some (.ref a)))
    (g0 : H1 p = none) (g1 : ∀ b o, H1 b = some o → b ≠ a → H' b = some o) (g2 : H' a = some (.lst us')) (g3 : DzAll K (msk M H') us' ts') (g4 : H' p = some (.lst zs)) (g5 : DzAll K (msk M H') zs es) (nt : noLsts ts' = true) (ne : noLsts es = true)
    (n1 : notOwn (ev.set t (some (.own ts'))) i) (n2 : notOwn ((ev.set t (some (.own ts'))).set i (some (.val d))) j) :
    Ok K c (stM M p (1, none)) ((σ.set i (some v)).set j (some (.ref p))) H' (((ev.set t (some (.own ts'))).set i (some (.val d))).set j (some (.own es))) pd := by
  have hmp : (M p).1 = 0 := k1.free g0
  obtain ⟨a', vs, y1, y2, y3, y4, y5⟩ := k1.own t ts e1
  obtain rfl : a' = a := by rw [a1] at y1; cases y1; rfl
  have nap : a' ≠ p := ne_of_none y4 g0
  let Hm : Hp := fun b => if b = p then none else H' b
  have hm_off : ∀ {b : Addr}, b ≠ p → Hm b = H' b := fun n => if_neg n
  have hm_at : Hm p = none := if_pos rfl
  have vp : msk M H' p = some (.lst zs) := msk_of g4 hmp
  have off : ∀ b o, msk M H' b = some o → b ≠ p → msk M Hm b = some o := fun b o q n => by
    obtain ⟨q1, q2⟩ := msk_ok q
    exact msk_of (by rw [hm_off n]; exact q1) q2
  have w := k1.write e1 a1 (H' := Hm) (us := us') (es := ts') (fun b o q n => by rw [hm_off (ne_of_none q g0)]; exact g1 b o q n) (by rw [hm_off nap]; exact g2) (g3.off vp off nt)
  have r := ((w.set n1 w.top).pop1).ownNew (i := j) (p := p) (vs := zs) (ds := es) n2 hm_at (g5.off vp off ne)
  have eH : upd Hm p (.lst zs) = H' := by
    funext b
    by_cases z : b = p
    · rw [z, upd_same, g4]
    · rw [upd_ne z, hm_off z]
  rw [eH] at r
  exact r
/-- a, x = e, f(t, ..), x an own list from now on -/
def wParU (i j t n : Nat) (w : Wx) (C : Cu) (u : Wa) : Ws := fun E ev => w ev fun d e => match e[t]? with
  | some (some (.own _)) => u e fun ds e2 => match e2[t]? with
    | some (some (.own ts)) => ds.length + 1 = n ∧ C ts ds fun es ts' => noLsts es = true ∧ noLsts ts' = true ∧ notOwn (e2.set t (some (.own ts'))) i ∧ notOwn ((e2.set t (some (.own ts'))).set i (some (.val d))) j ∧ E.nx (((e2.set t (some (.own ts'))).set i (some (.val d))).set j (some (.own es)))
    | _ => False
  | _ => False
theorem ds_parU {i j t : Nat} {y z : Str} {a : Expr} {w : Wx} {C : Cu} {py pz pt p2 : Pos} {kt k2 pt2} (F : Cl X.prog X.w X.K X.mg X.base kg x ps (spU X.K n C)) (hk : kg ≤ k) (hr : Room k X.A) (hG : X.A.guards = some []) (hg : Gl X x) (hc : X.calm = true) (hN : X.N.Nodup) (hi : X.N[i]? = some y) (hj : X.N[j]? = some z) (hij : i ≠ j)
    (hy : X.env.scope.names.lookup y = some .local) (hz : X.env.scope.names.lookup z = some .local) (ha : DE X c a w) (ho : PE X e (tVar t)) (hu : DA X c es u)
    (hw : swappedStores [.Tuple [.Name y py, .Name z pz] kt pt] (.Tuple [a, .Call (.Name x p) (e :: es) [] p2] k2 pt2) X.env = pure (some [y, z]))
    (g2 : starEach [a, .Call (.Name x p) (e :: es) [] p2] X.env = (false, eval a X.env) :: starEach [.Call (.Name x p) (e :: es) [] p2] X.env := by rfl)
    (g3 : starEach [.Call (.Name x p) (e :: es) [] p2] X.env = (false, eval (.Call (.Name x p) (e :: es) [] p2) X.env) :: starEach [] X.env := by rfl)
    (h2 : (x == ("__debug__" : Str)) = false := by decide) (h3 : starEach (e :: es) X.env = (false, eval e X.env) :: starEach es X.env := by rfl) (h4 : (backTo p2 (starEach es X.env)).any (·.1) = false := by rfl)
    (hs : swapsWithSole [.Tuple [.Name y py, .Name z pz] kt pt] (.Tuple [a, .Call (.Name x p) (e :: es) [] p2] k2 pt2) pos.line X.env = pure false := by rfl) :
    DS X c (.Assign [.Tuple [.Name y py, .Name z pz] kt pt] (.Tuple [a, .Call (.Name x p) (e :: es) [] p2] k2 pt2) pos) (wParU i j t n w C u) :=
  psM (ps_par hc hN hi hj hij hy hz (pa_cons ha (pa_cons (pe_cG F hk hr hG hg (pa_cons ho hu h3) h2 h3 h4) pa_nil g3) g2) hw hs) fun De σ H ⟨M, ev, pd, R, k, h, f⟩ =>
    ⟨M, ev, pd, _, k, h, fun d e q v H1 k1 => by
      split at q
      · rename_i ts0 e0
        obtain ⟨a, us, a1, a2, a3, a4⟩ := k1.slotV e0
        refine ⟨.ref a, a1, M, e, _, _, k1, q, fun ds e2 h vs H2 k2 r => ?_⟩
        split at h
        · rename_i ts e1
          obtain ⟨l, h⟩ := h
          obtain ⟨a', us', b1, b2, b3, b4⟩ := k2.slotV e1
          obtain rfl : a = a' := by rw [a1] at b1; cases b1; rfl
          exact ⟨M, a, vs, us', ts, ds, _, rfl, by rw [List.length_cons, r.len, l], k2.mkOk, b3, b2, b4, r, h, fun es ts' ⟨m1, m2, m3, m4, hd⟩ p zs H' us2 g0 g1 g2 g3 g4 g5 => ⟨v, .ref p, rfl, f.nx _ hd _ _ _ (k2.take2 e1 a1 g0 g1 g2 g3 g4 g5 m2 m1 m3 m4)⟩⟩
        · exact h.elim
      · exact q.elim⟩
end
end Z

set_option autoImplicit false
namespace Z
/-! ### rows led back by maps -/
/-- the value of a row's form on two complex numbers -/
def vO (q l m k : Int) (x y : G) : Int := q * (x.1 * x.1 + x.2 * x.2) + (l * (x.1 * y.1 + x.2 * y.2) + m * (x.2 * y.1 - x.1 * y.2)) + k * (y.1 * y.1 + y.2 * y.2)
/-- the middle numbers -/
def sO (q l m k : Int) (A : M4) : G :=
  (2 * q * (A.a.1 * A.b.1 + A.a.2 * A.b.2) + 2 * k * (A.c.1 * A.d.1 + A.c.2 * A.d.2) + (l * (A.a.1 * A.d.1 + A.a.2 * A.d.2) + m * (A.a.2 * A.d.1 - A.a.1 * A.d.2)) + (l * (A.b.1 * A.c.1 + A.b.2 * A.c.2) - m * (A.b.1 * A.c.2 - A.b.2 * A.c.1)),
   2 * q * (A.a.2 * A.b.1 - A.a.1 * A.b.2) + 2 * k * (A.c.2 * A.d.1 - A.c.1 * A.d.2) + (l * (A.a.2 * A.d.1 - A.a.1 * A.d.2) - m * (A.a.1 * A.d.1 + A.a.2 * A.d.2)) + (l * (A.b.1 * A.c.2 - A.b.2 * A.c.1) + m * (A.b.1 * A.c.1 + A.b.2 * A.c.2)))
/-- rows as four numbers -/
abbrev R4 := Int × Int × Int × Int
def dsc (r : R4) : Int := r.2.1 * r.2.1 + r.2.2.1 * r.2.2.1 - 4 * (r.1 * r.2.2.2)
/-- a row led back by a map -/
def rlb (f : Int) (A : M4) (r : R4) : R4 := (vO r.1 r.2.1 r.2.2.1 r.2.2.2 A.a A.c, (sO r.1 r.2.1 r.2.2.1 r.2.2.2 A).1, if f = 1 then (sO r.1 r.2.1 r.2.2.1 r.2.2.2 A).2 else 0 - (sO r.1 r.2.1 r.2.2.1 r.2.2.2 A).2, vO r.1 r.2.1 r.2.2.1 r.2.2.2 A.b A.d)
set_option maxHeartbeats 4000000 in
theorem dsc_rlb (f : Int) (A : M4) (r : R4) : dsc (rlb f A r) = nm A.dt * dsc r := by
  obtain ⟨⟨a1, a2⟩, ⟨b1, b2⟩, ⟨c1, c2⟩, ⟨d1, d2⟩⟩ := A
  obtain ⟨q, l, m, k⟩ := r
  have e : dsc (rlb f ⟨(a1, a2), (b1, b2), (c1, c2), (d1, d2)⟩ (q, l, m, k)) = dsc (rlb 1 ⟨(a1, a2), (b1, b2), (c1, c2), (d1, d2)⟩ (q, l, m, k)) := by
    by_cases z : f = 1
    · rw [z]
    · simp only [dsc, rlb, if_neg z, if_pos, Int.zero_sub, Int.neg_mul_neg]
  rw [e]
  have h : nm (M4.dt ⟨(a1, a2), (b1, b2), (c1, c2), (d1, d2)⟩) = ((a1 * d1 - a2 * d2) - (b1 * c1 - b2 * c2)) * ((a1 * d1 - a2 * d2) - (b1 * c1 - b2 * c2)) + ((a1 * d2 + a2 * d1) - (b1 * c2 + b2 * c1)) * ((a1 * d2 + a2 * d1) - (b1 * c2 + b2 * c1)) := rfl
  rw [h]
  simp only [dsc, rlb, vO, sO, if_pos]
  grind
def prR (r s : R4) : Int := r.2.1 * s.2.1 + r.2.2.1 * s.2.2.1 - 2 * (r.1 * s.2.2.2 + s.1 * r.2.2.2)
theorem dsc_pr (r : R4) : prR r r = dsc r := by simp only [prR, dsc]; grind
theorem nm_dt (a1 a2 b1 b2 c1 c2 d1 d2 : Int) : nm (M4.dt ⟨(a1, a2), (b1, b2), (c1, c2), (d1, d2)⟩) = ((a1 * d1 - a2 * d2) - (b1 * c1 - b2 * c2)) * ((a1 * d1 - a2 * d2) - (b1 * c1 - b2 * c2)) + ((a1 * d2 + a2 * d1) - (b1 * c2 + b2 * c1)) * ((a1 * d2 + a2 * d1) - (b1 * c2 + b2 * c1)) := rfl
set_option maxHeartbeats 4000000 in
theorem pr_rlb (f : Int) (A : M4) (r s : R4) : prR (rlb f A r) (rlb f A s) = nm A.dt * prR r s := by
  obtain ⟨⟨a1, a2⟩, ⟨b1, b2⟩, ⟨c1, c2⟩, ⟨d1, d2⟩⟩ := A
  obtain ⟨q, l, m, k⟩ := r
  obtain ⟨q2, l2, m2, k2⟩ := s
  have e : prR (rlb f ⟨(a1, a2), (b1, b2), (c1, c2), (d1, d2)⟩ (q, l, m, k)) (rlb f ⟨(a1, a2), (b1, b2), (c1, c2), (d1, d2)⟩ (q2, l2, m2, k2)) = prR (rlb 1 ⟨(a1, a2), (b1, b2), (c1, c2), (d1, d2)⟩ (q, l, m, k)) (rlb 1 ⟨(a1, a2), (b1, b2), (c1, c2), (d1, d2)⟩ (q2, l2, m2, k2)) := by
    by_cases z : f = 1
    · rw [z]
    · simp only [prR, rlb, if_neg z, if_pos, Int.zero_sub, Int.neg_mul_neg]
  rw [e, nm_dt]
  simp only [prR, rlb, vO, sO, if_pos]
  grind
set_option maxHeartbeats 4000000 in
theorem vO_rlb (f : Int) (A : M4) (r : R4) (v : V2) : vO (rlb f A r).1 (rlb f A r).2.1 (rlb f A r).2.2.1 (rlb f A r).2.2.2 v.x v.y = vO r.1 r.2.1 r.2.2.1 r.2.2.2 (A.app (v.cj f)).x (A.app (v.cj f)).y := by
  obtain ⟨⟨a1, a2⟩, ⟨b1, b2⟩, ⟨c1, c2⟩, ⟨d1, d2⟩⟩ := A
  obtain ⟨q, l, m, k⟩ := r
  obtain ⟨⟨x1, x2⟩, ⟨y1, y2⟩⟩ := v
  by_cases z : f = 1
  · subst z
    have e : (M4.app ⟨(a1, a2), (b1, b2), (c1, c2), (d1, d2)⟩ (V2.cj 1 ⟨(x1, x2), (y1, y2)⟩)) = ⟨((a1 * x1 - a2 * -x2) + (b1 * y1 - b2 * -y2), (a1 * -x2 + a2 * x1) + (b1 * -y2 + b2 * y1)), ((c1 * x1 - c2 * -x2) + (d1 * y1 - d2 * -y2), (c1 * -x2 + c2 * x1) + (d1 * -y2 + d2 * y1))⟩ := rfl
    rw [e]
    simp only [rlb, vO, sO, if_pos]
    grind
  · have e : (V2.cj f ⟨(x1, x2), (y1, y2)⟩) = ⟨(x1, x2), (y1, y2)⟩ := by simp only [V2.cj, cj, if_neg z]
    have e' : (M4.app ⟨(a1, a2), (b1, b2), (c1, c2), (d1, d2)⟩ ⟨(x1, x2), (y1, y2)⟩) = ⟨((a1 * x1 - a2 * x2) + (b1 * y1 - b2 * y2), (a1 * x2 + a2 * x1) + (b1 * y2 + b2 * y1)), ((c1 * x1 - c2 * x2) + (d1 * y1 - d2 * y2), (c1 * x2 + c2 * x1) + (d1 * y2 + d2 * y1))⟩ := rfl
    rw [e, e']
    simp only [rlb, vO, sO, if_neg z]
    grind
/-- the form of a row on two complex numbers -/
def vR (r : R4) (v : V2) : Int := vO r.1 r.2.1 r.2.2.1 r.2.2.2 v.x v.y
theorem vR_rlb (f : Int) (A : M4) (r : R4) (v : V2) : vR (rlb f A r) v = vR r (A.app (v.cj f)) := vO_rlb f A r v
theorem vR_vt (r : R4) (t : T3) : vR r (vt t) = vl r.1 r.2.1 r.2.2.1 r.2.2.2 t := by
  obtain ⟨q, l, m, k⟩ := r
  obtain ⟨p, s, w⟩ := t
  simp only [vR, vO, vt, vl]
  grind
/-- rows are told apart by their forms -/
theorem vR_ext {r s : R4} (h : ∀ v : V2, vR r v = vR s v) : r = s := by
  obtain ⟨q, l, m, k⟩ := r
  obtain ⟨q2, l2, m2, k2⟩ := s
  have h1 := h ⟨(1, 0), (0, 0)⟩
  have h2 := h ⟨(0, 0), (1, 0)⟩
  have h3 := h ⟨(1, 0), (1, 0)⟩
  have h4 := h ⟨(0, 1), (1, 0)⟩
  simp only [vR, vO] at h1 h2 h3 h4
  have e1 : q = q2 := by omega
  have e2 : k = k2 := by omega
  have e3 : l = l2 := by omega
  have e4 : m = m2 := by omega
  rw [e1, e2, e3, e4]
theorem vR_mul (c : G) (r : R4) (v : V2) : vR r ⟨c * v.x, c * v.y⟩ = nm c * vR r v := by
  obtain ⟨c1, c2⟩ := c
  obtain ⟨q, l, m, k⟩ := r
  obtain ⟨⟨x1, x2⟩, ⟨y1, y2⟩⟩ := v
  have e : (⟨((c1, c2) : G) * (x1, x2), ((c1, c2) : G) * (y1, y2)⟩ : V2) = ⟨(c1 * x1 - c2 * x2, c1 * x2 + c2 * x1), (c1 * y1 - c2 * y2, c1 * y2 + c2 * y1)⟩ := rfl
  show vR (q, l, m, k) ⟨((c1, c2) : G) * (x1, x2), ((c1, c2) : G) * (y1, y2)⟩ = _
  rw [e]
  have n : nm ((c1, c2) : G) = c1 * c1 + c2 * c2 := rfl
  rw [n]
  simp only [vR, vO]
  grind
/-- led back by one map and then by another: led back by the first after the other -/
theorem rlb_mul {f i : Int} (hf : f = 0 ∨ f = 1) (hi : i = 0 ∨ i = 1) (A B : M4) (r : R4) : rlb i B (rlb f A r) = rlb ((f + i) % 2) (A.mul (B.cj f)) r := vR_ext fun v => by
  rw [vR_rlb, vR_rlb, vR_rlb, app_cj, app_mul, vcj_cj2 hf hi]
def smR (c : Int) (r : R4) : R4 := (c * r.1, c * r.2.1, c * r.2.2.1, c * r.2.2.2)
theorem vR_sm (c : Int) (r : R4) (v : V2) : vR (smR c r) v = c * vR r v := by simp only [vR, vO, smR]; grind
theorem rlb_smr (f : Int) (A : M4) (c : Int) (r : R4) : rlb f A (smR c r) = smR c (rlb f A r) := vR_ext fun v => by rw [vR_rlb, vR_sm, vR_sm, vR_rlb]
theorem rlb_sma (f : Int) (A : M4) (g : G) (r : R4) : rlb f (A.sm g) r = smR (nm g) (rlb f A r) := vR_ext fun v => by
  rw [vR_rlb, vR_sm, vR_rlb, ← vR_mul]
  congr 1
  simp only [M4.app, M4.sm]
  rw [show g * A.a * (v.cj f).x + g * A.b * (v.cj f).y = g * (A.a * (v.cj f).x + A.b * (v.cj f).y) by grind, show g * A.c * (v.cj f).x + g * A.d * (v.cj f).y = g * (A.c * (v.cj f).x + A.d * (v.cj f).y) by grind]
theorem rlb_one (r : R4) : rlb 0 M4.one r = r := vR_ext fun v => by
  rw [vR_rlb]
  congr 1
  have e : v.cj 0 = v := by simp only [V2.cj, cj]; rfl
  rw [e]
  obtain ⟨x, y⟩ := v
  simp only [M4.app, M4.one]
  rw [show (1 : G) * x + 0 * y = x by grind, show (0 : G) * x + 1 * y = y by grind]
/-- three equations hold four numbers but for a factor -/
theorem cramer4 {q l m k a0 a1 a2 a3 b0 b1 b2 b3 c0 c1 c2 c3 : Int} (h1 : q * a0 + l * a1 + m * a2 + k * a3 = 0) (h2 : q * b0 + l * b1 + m * b2 + k * b3 = 0) (h3 : q * c0 + l * c1 + m * c2 + k * c3 = 0) :
    l * dt3 a1 a2 a3 b1 b2 b3 c1 c2 c3 = -(q * dt3 a0 a2 a3 b0 b2 b3 c0 c2 c3) ∧ m * dt3 a1 a2 a3 b1 b2 b3 c1 c2 c3 = q * dt3 a0 a1 a3 b0 b1 b3 c0 c1 c3 ∧ k * dt3 a1 a2 a3 b1 b2 b3 c1 c2 c3 = -(q * dt3 a0 a1 a2 b0 b1 b2 c0 c1 c2) ∧
    m * dt3 a0 a2 a3 b0 b2 b3 c0 c2 c3 = -(l * dt3 a0 a1 a3 b0 b1 b3 c0 c1 c3) ∧ k * dt3 a0 a2 a3 b0 b2 b3 c0 c2 c3 = l * dt3 a0 a1 a2 b0 b1 b2 c0 c1 c2 ∧ k * dt3 a0 a1 a3 b0 b1 b3 c0 c1 c3 = -(m * dt3 a0 a1 a2 b0 b1 b2 c0 c1 c2) := by
  simp only [dt3]
  refine ⟨?_, ?_, ?_, ?_, ?_, ?_⟩
  all_goals grind
end Z

set_option autoImplicit false
namespace Z
def fmR (r : R4) : List Int := fm [r.1, r.2.1, r.2.2.1, r.2.2.2]
theorem gcR {r : R4} (h : 0 < dsc r) : gcI [r.1, r.2.1, r.2.2.1, r.2.2.2] ≠ 0 := gc4_ne h
theorem fm_up {us : List Int} {c : Int} (hc : 0 < c) : fm (us.map (c * ·)) = fm us := by
  unfold fm
  rw [rd_scale hc]
theorem fmR_sm {c : Int} (hc : c ≠ 0) {r : R4} (h : gcI [r.1, r.2.1, r.2.2.1, r.2.2.2] ≠ 0) : fmR (smR c r) = fmR r := by
  by_cases z : 0 < c
  · exact fm_up (us := [r.1, r.2.1, r.2.2.1, r.2.2.2]) z
  · have z : 0 < -c := by omega
    have e := fm_up (us := [r.1, r.2.1, r.2.2.1, r.2.2.2]) z
    have g : gcI ([r.1, r.2.1, r.2.2.1, r.2.2.2].map (-c * ·)) ≠ 0 := by
      rw [gc_mul (by omega)]
      exact Int.mul_ne_zero (by omega) h
    rw [← fm_neg g] at e
    have e2 : (([r.1, r.2.1, r.2.2.1, r.2.2.2].map (-c * ·)).map (0 - ·)) = [c * r.1, c * r.2.1, c * r.2.2.1, c * r.2.2.2] := by
      simp only [List.map_cons, List.map_nil, Int.zero_sub, Int.neg_mul, Int.neg_neg]
    rw [e2] at e
    exact e
theorem dsc_ne {r : R4} (h : 0 < dsc r) : r.1 ≠ 0 ∨ r.2.1 ≠ 0 ∨ r.2.2.1 ≠ 0 := by
  by_cases a : r.1 = 0
  · by_cases b : r.2.1 = 0
    · by_cases c : r.2.2.1 = 0
      · exfalso
        unfold dsc at h
        rw [a, b, c] at h
        simp at h
      · exact .inr (.inr c)
    · exact .inr (.inl b)
  · exact .inl a
/-- rows but for a factor have one form -/
theorem fmR_prop {r s : R4} (hr : 0 < dsc r) (hs : 0 < dsc s) (h1 : r.1 * s.2.1 = r.2.1 * s.1) (h2 : r.1 * s.2.2.1 = r.2.2.1 * s.1) (h3 : r.1 * s.2.2.2 = r.2.2.2 * s.1) (h4 : r.2.1 * s.2.2.1 = r.2.2.1 * s.2.1) (h5 : r.2.1 * s.2.2.2 = r.2.2.2 * s.2.1) (h6 : r.2.2.1 * s.2.2.2 = r.2.2.2 * s.2.2.1) : fmR r = fmR s := by
  have gr := gcR hr
  have gs := gcR hs
  have fin : ∀ x y : Int, smR y r = smR x s → y ≠ 0 → fmR r = fmR s := fun x y e hy => by
    have a := fmR_sm hy gr
    by_cases z : x = 0
    · exfalso
      have d := congrArg dsc e
      rw [z] at d
      have d1 : dsc (smR y r) = y * y * dsc r := by simp only [dsc, smR]; grind
      have d2 : dsc (smR 0 s) = 0 := by simp only [dsc, smR]; grind
      rw [d1, d2] at d
      rcases Int.mul_eq_zero.mp d with d | d
      · rcases Int.mul_eq_zero.mp d with d | d <;> exact hy d
      · omega
    · rw [← a, e, fmR_sm z gs]
  have ext : ∀ {a b c d a' b' c' d' : Int}, a = a' → b = b' → c = c' → d = d' → ((a, b, c, d) : R4) = (a', b', c', d') := fun h1 h2 h3 h4 => by rw [h1, h2, h3, h4]
  rcases dsc_ne hs with z | z | z
  · exact fin r.1 s.1 (ext (Int.mul_comm ..) (by grind) (by grind) (by grind)) z
  · exact fin r.2.1 s.2.1 (ext (by grind) (by grind) (by grind) (by grind)) z
  · exact fin r.2.2.1 s.2.2.1 (ext (by grind) (by grind) (by grind) (by grind)) z
/-- the row through three places -/
def thrR (a b c : T3) : R4 := (mn0 a b c, -mn1 a b c, mn2 a b c, -mn3 a b c)
theorem thr_pos {a b c : T3} (T : Tr a b c) : 0 < dsc (thrR a b c) := by
  have := mn_pos T
  have e : dsc (thrR a b c) = mn1 a b c * mn1 a b c + mn2 a b c * mn2 a b c + 4 * (mn0 a b c * mn3 a b c) := by simp only [dsc, thrR]; grind
  omega
/-- a row that three places lie on is the row through them -/
theorem thr_uniq {a b c : T3} {r : R4} (T : Tr a b c) (hr : 0 < dsc r) (h1 : vR r (vt a) = 0) (h2 : vR r (vt b) = 0) (h3 : vR r (vt c) = 0) : fmR r = fmR (thrR a b c) := by
  rw [vR_vt] at h1 h2 h3
  have k : ∀ t : T3, vl r.1 r.2.1 r.2.2.1 r.2.2.2 t = r.1 * pf0 t + r.2.1 * pf1 t + r.2.2.1 * pf2 t + r.2.2.2 * pf3 t := fun t => by simp only [vl, pf0, pf1, pf2, pf3]; grind
  rw [k] at h1 h2 h3
  obtain ⟨e1, e2, e3, e4, e5, e6⟩ := cramer4 h1 h2 h3
  refine fmR_prop hr (thr_pos T) ?_ ?_ ?_ ?_ ?_ ?_
  all_goals simp only [thrR, mn0, mn1, mn2, mn3]
  all_goals grind
end Z

set_option autoImplicit false
set_option linter.all false
namespace Z
open PySem L2
/-! ## 41. rounds in their form, led by maps -/
abbrev lsR (r : R4) : List Int := [r.1, r.2.1, r.2.2.1, r.2.2.2]
def toR : List Int → R4
  | [x, y, z, w] => (x, y, z, w)
  | _ => (0, 0, 0, 0)
def nf (r : R4) : R4 := toR (fmR r)
theorem fm_len (us : List Int) : (fm us).length = us.length := by
  unfold fm rd
  split <;> simp
theorem toR_ls : ∀ {us : List Int}, us.length = 4 → us = lsR (toR us)
  | [_, _, _, _], _ => rfl
theorem fmR_nf (r : R4) : fmR r = lsR (nf r) := toR_ls (fm_len _)
/-- a round in its form -/
structure Rd (n : Nat) (r : R4) : Prop where
  one : gcI (lsR r) = 1
  pos : 0 < dsc r
  up : posL (lsR r) = true
  s1 : Sz n r.1
  s2 : Sz n r.2.1
  s3 : Sz n r.2.2.1
  s4 : Sz n r.2.2.2
theorem dsc2 (r : R4) : r.2.1 * r.2.1 + r.2.2.1 * r.2.2.1 - 2 * (r.1 * r.2.2.2 + r.1 * r.2.2.2) = dsc r := by unfold dsc; grind
theorem Rd.rn {n : Nat} {r : R4} (h : Rd n r) : Rn n r.1 r.2.1 r.2.2.1 r.2.2.2 := ⟨⟨h.one, by rw [dsc2]; exact h.pos, h.s1, h.s2, h.s3, h.s4⟩, by rw [posL4]; exact h.up⟩
theorem Rd.of {n : Nat} {r : R4} (h : Rn n r.1 r.2.1 r.2.2.1 r.2.2.2) : Rd n r := ⟨h.row.one, by rw [← dsc2]; exact h.row.pos, by rw [← posL4]; exact h.up, h.row.sq, h.row.sl, h.row.sm, h.row.sk⟩
theorem Rd.up' {n m : Nat} {r : R4} (h : Rd n r) (l : n ≤ m) : Rd m r := ⟨h.one, h.pos, h.up, szUp h.s1 l, szUp h.s2 l, szUp h.s3 l, szUp h.s4 l⟩
abbrev SR (n : Nat) (r : R4) : Prop := Sz n r.1 ∧ Sz n r.2.1 ∧ Sz n r.2.2.1 ∧ Sz n r.2.2.2
theorem Rd.sr {n : Nat} {r : R4} (h : Rd n r) : SR n r := ⟨h.s1, h.s2, h.s3, h.s4⟩
theorem SR.up {n m : Nat} {r : R4} (h : SR n r) (l : n ≤ m) : SR m r := ⟨szUp h.1 l, szUp h.2.1 l, szUp h.2.2.1 l, szUp h.2.2.2 l⟩
theorem SR.any (r : R4) : ∃ n, SR n r := by
  obtain ⟨a, h1⟩ := sz_any r.1
  obtain ⟨b, h2⟩ := sz_any r.2.1
  obtain ⟨c, h3⟩ := sz_any r.2.2.1
  obtain ⟨d, h4⟩ := sz_any r.2.2.2
  exact ⟨a + b + c + d, szUp h1 (by omega), szUp h2 (by omega), szUp h3 (by omega), szUp h4 (by omega)⟩
theorem nf_ok {n : Nat} {r : R4} (s : SR n r) (d : 0 < dsc r) : Rd n (nf r) ∧ ∃ g, g ≠ 0 ∧ smR g (nf r) = r := by
  obtain ⟨q, l, m, k, g, e, h, hg, e1, e2, e3, e4⟩ := fm_any s.1 s.2.1 s.2.2.1 s.2.2.2 d
  have z : nf r = (q, l, m, k) := by unfold nf fmR; rw [e]; rfl
  rw [z]
  exact ⟨Rd.of h, g, hg, Prod.ext e1 (Prod.ext e2 (Prod.ext e3 e4))⟩
theorem nf_sc {r : R4} (d : 0 < dsc r) : ∃ g, g ≠ 0 ∧ smR g (nf r) = r := let ⟨_, s⟩ := SR.any r; (nf_ok s d).2
theorem nf_pos {r : R4} (d : 0 < dsc r) : 0 < dsc (nf r) := let ⟨_, s⟩ := SR.any r; (nf_ok s d).1.pos
theorem nf_sm {c : Int} (hc : c ≠ 0) {r : R4} (d : 0 < dsc r) : nf (smR c r) = nf r := by unfold nf; rw [fmR_sm hc (gcR d)]
theorem nf_self {n : Nat} {r : R4} (h : Rd n r) : nf r = r := by
  unfold nf fmR fm
  rw [rd_self h.one, if_pos h.up]
  rfl
theorem nf_nf {r : R4} (d : 0 < dsc r) : nf (nf r) = nf r := let ⟨_, s⟩ := SR.any r; nf_self (nf_ok s d).1
theorem fmR_self {n : Nat} {r : R4} (h : Rd n r) : fmR r = lsR r := by rw [fmR_nf, nf_self h]
theorem nf_of {r s : R4} (e : fmR r = fmR s) : nf r = nf s := by unfold nf; rw [e]
theorem dsc_rlbp {f : Int} {A : M4} {r : R4} (h : A.dt ≠ 0) (d : 0 < dsc r) : 0 < dsc (rlb f A r) := by
  rw [dsc_rlb]
  exact Int.mul_pos (nm_pos h) d
theorem rlb_sim {f : Int} {A B : M4} {r : R4} (s : Sim A B) (h : B.dt ≠ 0) (d : 0 < dsc r) : nf (rlb f A r) = nf (rlb f B r) := by
  have hA := s.dt h
  obtain ⟨g, k, x, y, e⟩ := s
  have a : nf (rlb f (A.sm g) r) = nf (rlb f A r) := by rw [rlb_sma]; exact nf_sm (Int.ne_of_gt (nm_pos x)) (dsc_rlbp hA d)
  have b : nf (rlb f (B.sm k) r) = nf (rlb f B r) := by rw [rlb_sma]; exact nf_sm (Int.ne_of_gt (nm_pos y)) (dsc_rlbp h d)
  rw [← a, e, b]
theorem rlb_nf {f : Int} {A : M4} {r : R4} (h : A.dt ≠ 0) (d : 0 < dsc r) : nf (rlb f A (nf r)) = nf (rlb f A r) := by
  obtain ⟨g, hg, e⟩ := nf_sc d
  have p := nf_pos d
  generalize nf r = s at *
  rw [← e, rlb_smr, nf_sm hg (dsc_rlbp h p)]
/-- the round to which a map leads a round -/
noncomputable def ldr (f : Int) (A : M4) (r : R4) : R4 := nf (rlb f (bck f A) r)
theorem ldr_pos {f : Int} {A : M4} {r : R4} (h : A.dt ≠ 0) (d : 0 < dsc r) : 0 < dsc (ldr f A r) := nf_pos (dsc_rlbp (bck_dt h) d)
theorem ldr_aft {f i : Int} {A B : M4} {r : R4} (hf : f = 0 ∨ f = 1) (hi : i = 0 ∨ i = 1) (hA : A.dt ≠ 0) (hB : B.dt ≠ 0) (d : 0 < dsc r) : ldr ((f + i) % 2) (aft f A B) r = ldr f A (ldr i B r) := by
  unfold ldr
  rw [bck_mul hf hi hA hB, rlb_nf (bck_dt hA) (dsc_rlbp (bck_dt hB) d), rlb_mul hi hf, Int.add_comm f i]
  exact rlb_sim (nrm_sim (dtMul (bck_dt hB) (bck_dt hA))) (dtMul (bck_dt hB) (bck_dt hA)) d
theorem ldr_one {n : Nat} {r : R4} (R : Rd n r) : ldr 0 M4.one r = r := by
  have e : bck 0 M4.one = M4.one := by
    unfold bck
    have : M4.one.adj.cj 0 = M4.one := m4_ext rfl rfl rfl rfl
    rw [this]
    exact nrm_self Fm4.one
  unfold ldr
  rw [e, rlb_one, nf_self R]
theorem ff0 {f : Int} (hf : f = 0 ∨ f = 1) : (f + f) % 2 = 0 := by rcases hf with rfl | rfl <;> rfl
theorem ldr_back {n : Nat} {f : Int} {A : M4} {r : R4} (hf : f = 0 ∨ f = 1) (hA : A.dt ≠ 0) (R : Rd n r) : ldr f (bck f A) (ldr f A r) = r := by
  rw [← ldr_aft hf hf (bck_dt hA) hA R.pos, bck_aft hA, ff0 hf, ldr_one R]
theorem ldr_inj {n m : Nat} {f : Int} {A : M4} {r s : R4} (hf : f = 0 ∨ f = 1) (hA : A.dt ≠ 0) (R : Rd n r) (S : Rd m s) : ldr f A r = ldr f A s ↔ r = s := ⟨fun e => by
  have a := ldr_back hf hA R
  rw [e, ldr_back hf hA S] at a
  exact a.symm, fun e => by rw [e]⟩
theorem vR_par {r : R4} {u v : V2} (h : cr u v = 0) (hu : u.nz) (hv : v.nz) : vR r u = 0 ↔ vR r v = 0 := by
  obtain ⟨α, β, ha, hb, e1, e2⟩ := par_sc h hu hv
  have e : nm α * vR r u = nm β * vR r v := by rw [← vR_mul, ← vR_mul, e1, e2]
  have pa := nm_pos ha
  have pb := nm_pos hb
  constructor
  · intro z
    rw [z, Int.mul_zero] at e
    exact (Int.mul_eq_zero.mp e.symm).resolve_left (Int.ne_of_gt pb)
  · intro z
    rw [z, Int.mul_zero] at e
    exact (Int.mul_eq_zero.mp e).resolve_left (Int.ne_of_gt pa)
theorem vR_nf {r : R4} (d : 0 < dsc r) (v : V2) : vR (nf r) v = 0 ↔ vR r v = 0 := by
  obtain ⟨g, hg, e⟩ := nf_sc d
  have q : vR r v = g * vR (nf r) v := by rw [← vR_sm, e]
  rw [q]
  exact ⟨fun z => by rw [z, Int.mul_zero], fun z => (Int.mul_eq_zero.mp z).resolve_left hg⟩
/-- where the round to which a round is led has a place -/
theorem ldr_at {f : Int} {A : M4} {r : R4} {t : T3} (hA : A.dt ≠ 0) (d : 0 < dsc r) (T : Pt t) : vR (ldr f A r) (vt t) = 0 ↔ vR r (vt (lt f (bck f A) t)) = 0 := by
  have hB := bck_dt (f := f) hA
  unfold ldr
  rw [vR_nf (dsc_rlbp hB d), vR_rlb]
  exact vR_par (cr_sym (lt_cr hB T)) (app_nz hB (cjv_nz T.nz)) (lt_pt hB T).nz
theorem lt_bck {f : Int} {A : M4} {t : T3} (hA : A.dt ≠ 0) (T : Pt t) : lt f (bck f A) (lt f A t) = t := lt_back hA (nrm_sim (dtAdj hA)) T
theorem ldr_lt {f : Int} {A : M4} {r : R4} {t : T3} (hA : A.dt ≠ 0) (d : 0 < dsc r) (T : Pt t) : vR (ldr f A r) (vt (lt f A t)) = 0 ↔ vR r (vt t) = 0 := by
  rw [ldr_at hA d (lt_pt hA T), lt_bck hA T]
theorem vR_far (r : R4) : vR r (vt (1, 0, 0)) = r.1 := by
  show r.1 * (1 * 1 + 0 * 0) + (r.2.1 * (1 * 0 + 0 * 0) + r.2.2.1 * (0 * 0 - 1 * 0)) + r.2.2.2 * (0 * 0 + 0 * 0) = r.1
  grind
theorem ldr_far {f : Int} {A : M4} {r : R4} (hA : A.dt ≠ 0) (d : 0 < dsc r) : (ldr f A r).1 = 0 ↔ vR r (vt (lt f (bck f A) (1, 0, 0))) = 0 := by
  rw [← vR_far, ldr_at hA d Pt.far]
theorem Tr.led {f : Int} {A : M4} {a b c : T3} (T : Tr a b c) (h : A.dt ≠ 0) : Tr (lt f A a) (lt f A b) (lt f A c) := ⟨lt_pt h T.pa, lt_pt h T.pb, lt_pt h T.pc, fun e => T.ab (lt_inj h T.pa T.pb e), fun e => T.ac (lt_inj h T.pa T.pc e), fun e => T.bc (lt_inj h T.pb T.pc e)⟩
theorem thr_vR (a b c : T3) : vR (thrR a b c) (vt a) = 0 ∧ vR (thrR a b c) (vt b) = 0 ∧ vR (thrR a b c) (vt c) = 0 := by
  refine ⟨?_, ?_, ?_⟩
  · rw [vR_vt]; exact mn_a a b c
  · rw [vR_vt]; exact mn_b a b c
  · rw [vR_vt]; exact mn_c a b c
theorem ldr_thr {f : Int} {A : M4} {a b c : T3} (T : Tr a b c) (h : A.dt ≠ 0) : ldr f A (nf (thrR a b c)) = nf (thrR (lt f A a) (lt f A b) (lt f A c)) := by
  have p := thr_pos T
  have p' := nf_pos p
  obtain ⟨x, y, z⟩ := thr_vR a b c
  have e := thr_uniq (r := ldr f A (nf (thrR a b c))) (T.led h) (ldr_pos h p') ((ldr_lt h p' T.pa).mpr ((vR_nf p _).mpr x)) ((ldr_lt h p' T.pb).mpr ((vR_nf p _).mpr y)) ((ldr_lt h p' T.pc).mpr ((vR_nf p _).mpr z))
  have e := nf_of e
  unfold ldr at e ⊢
  rw [nf_nf (dsc_rlbp (bck_dt h) p')] at e
  exact e
theorem prR_sm (g h : Int) (r s : R4) : prR (smR g r) (smR h s) = g * h * prR r s := by simp only [prR, smR]; grind
/-- what two rounds make together stays but for factors -/
theorem ldr_pr {f : Int} {A : M4} {r s : R4} (h : A.dt ≠ 0) (d : 0 < dsc r) (d' : 0 < dsc s) : ∃ k l : Int, 0 < k ∧ 0 < l ∧
    k * (prR (ldr f A r) (ldr f A s) * prR (ldr f A r) (ldr f A s)) = l * (prR r s * prR r s) ∧ k * (prR (ldr f A r) (ldr f A r) * prR (ldr f A s) (ldr f A s)) = l * (prR r r * prR s s) := by
  have hB := bck_dt (f := f) h
  have a := pr_rlb f (bck f A) r s
  have a1 := pr_rlb f (bck f A) r r
  have a2 := pr_rlb f (bck f A) s s
  obtain ⟨g, hg, e⟩ := nf_sc (dsc_rlbp (f := f) hB d)
  obtain ⟨k, hk, e'⟩ := nf_sc (dsc_rlbp (f := f) hB d')
  unfold ldr
  have pn := nm_pos hB
  generalize nf (rlb f (bck f A) r) = x at *
  generalize nf (rlb f (bck f A) s) = y at *
  rw [← e, ← e', prR_sm] at a
  rw [← e, prR_sm] at a1
  rw [← e', prR_sm] at a2
  generalize prR x y = u at *
  generalize prR x x = v at *
  generalize prR y y = w at *
  generalize nm (bck f A).dt = N at *
  have sqp : ∀ {z : Int}, z ≠ 0 → 0 < z * z := fun {z} n => by
    rcases Int.lt_or_gt_of_ne n with q | q
    · exact Int.mul_pos_of_neg_of_neg q q
    · exact Int.mul_pos q q
  refine ⟨(g * k) * (g * k), N * N, sqp (Int.mul_ne_zero hg hk), Int.mul_pos pn pn, ?_, ?_⟩
  · have : (g * k) * (g * k) * (u * u) = (g * k * u) * (g * k * u) := by grind
    rw [this, a]; grind
  · have : (g * k) * (g * k) * (v * w) = (g * g * v) * (k * k * w) := by grind
    rw [this, a1, a2]; grind
theorem sg_sc {k l x y : Int} (hk : 0 < k) (hl : 0 < l) (e : k * x = l * y) : sg x = sg y := by
  have pos : ∀ {c z : Int}, 0 < c → (0 < c * z ↔ 0 < z) := fun {c z} h => ⟨fun q => by
    apply Classical.byContradiction
    intro n
    have : c * z ≤ c * 0 := Int.mul_le_mul_of_nonneg_left (by omega) (by omega)
    omega, fun q => Int.mul_pos h q⟩
  have neg : ∀ {c z : Int}, 0 < c → (c * z < 0 ↔ z < 0) := fun {c z} h => by
    have p := pos (c := c) (z := -z) h
    rw [Int.mul_neg] at p
    omega
  have a1 := pos (z := x) hk
  have a2 := neg (z := x) hk
  have b1 := pos (z := y) hl
  have b2 := neg (z := y) hl
  unfold sg
  rw [e] at a1 a2
  by_cases p : 0 < y
  · rw [if_pos p, if_pos (a1.mp (b1.mpr p))]
  · rw [if_neg p, if_neg (fun z => p (b1.mp (a1.mpr z)))]
    by_cases p' : y < 0
    · rw [if_pos p', if_pos (a2.mp (b2.mpr p'))]
    · rw [if_neg p', if_neg (fun z => p' (b2.mp (a2.mpr z)))]
/-- sizes of a row led back -/
theorem rlb_szn {f : Int} {A : M4} {r : R4} {n m : Nat} (S : S44 n A) (s : SR m r) : SR (m + 2 * n + 8) (rlb f A r) := by
  obtain ⟨⟨a1, a2⟩, ⟨b1, b2⟩, ⟨c1, c2⟩, ⟨d1, d2⟩⟩ := A
  obtain ⟨q, l, p, k⟩ := r
  obtain ⟨A1, A2, B1, B2, C1, C2, D1, D2⟩ := S
  obtain ⟨s1, s2, s3, s4⟩ := s
  have A1 : Sz n a1 := A1
  have A2 : Sz n a2 := A2
  have B1 : Sz n b1 := B1
  have B2 : Sz n b2 := B2
  have C1 : Sz n c1 := C1
  have C2 : Sz n c2 := C2
  have D1 : Sz n d1 := D1
  have D2 : Sz n d2 := D2
  have s1 : Sz m q := s1
  have s2 : Sz m l := s2
  have s3 : Sz m p := s3
  have s4 : Sz m k := s4
  have t2 : ∀ {x y : Int}, Sz (2 * n) x → Sz (2 * n) y → Sz (2 * n + 1) (x + y) := fun {x y} a b => szUp (inferInstance : Sz _ (x + y)) (by omega)
  have t2' : ∀ {x y : Int}, Sz (2 * n) x → Sz (2 * n) y → Sz (2 * n + 1) (x - y) := fun {x y} a b => szUp (inferInstance : Sz _ (x - y)) (by omega)
  have mu : ∀ {x y : Int}, Sz n x → Sz n y → Sz (2 * n) (x * y) := fun {x y} a b => szUp (inferInstance : Sz _ (x * y)) (by omega)
  have ml : ∀ {x y : Int}, Sz m x → Sz (2 * n + 1) y → Sz (m + 2 * n + 1) (x * y) := fun {x y} a b => szUp (inferInstance : Sz _ (x * y)) (by omega)
  have dl : ∀ {x y : Int}, Sz m x → Sz (2 * n + 1) y → Sz (m + 2 * n + 3) (2 * x * y) := fun {x y} a b => by
    have h2 : Sz 2 (2 : Int) := ⟨by decide⟩
    exact szUp (inferInstance : Sz _ (2 * x * y)) (by omega)
  have ad : ∀ {j : Nat} {x y : Int}, Sz j x → Sz j y → Sz (j + 1) (x + y) := fun {j x y} a b => szUp (inferInstance : Sz _ (x + y)) (by omega)
  have sb : ∀ {j : Nat} {x y : Int}, Sz j x → Sz j y → Sz (j + 1) (x - y) := fun {j x y} a b => szUp (inferInstance : Sz _ (x - y)) (by omega)
  have v : ∀ {x1 x2 y1 y2 : Int}, Sz n x1 → Sz n x2 → Sz n y1 → Sz n y2 → Sz (m + 2 * n + 8) (vO q l p k (x1, x2) (y1, y2)) := fun {x1 x2 y1 y2} g1 g2 h1 h2 => by
    refine szUp (show Sz (m + 2 * n + 4) (q * (x1 * x1 + x2 * x2) + (l * (x1 * y1 + x2 * y2) + p * (x2 * y1 - x1 * y2)) + k * (y1 * y1 + y2 * y2)) from ?_) (by omega)
    exact ad (ad (szUp (ml s1 (t2 (mu g1 g1) (mu g2 g2))) (by omega)) (ad (ml s2 (t2 (mu g1 h1) (mu g2 h2))) (ml s3 (t2' (mu g2 h1) (mu g1 h2))))) (szUp (ml s4 (t2 (mu h1 h1) (mu h2 h2))) (by omega))
  have w1 : Sz (m + 2 * n + 7) (sO q l p k ⟨(a1, a2), (b1, b2), (c1, c2), (d1, d2)⟩).1 := by
    refine szUp (show Sz (m + 2 * n + 6) (2 * q * (a1 * b1 + a2 * b2) + 2 * k * (c1 * d1 + c2 * d2) + (l * (a1 * d1 + a2 * d2) + p * (a2 * d1 - a1 * d2)) + (l * (b1 * c1 + b2 * c2) - p * (b1 * c2 - b2 * c1))) from ?_) (by omega)
    exact ad (ad (ad (dl s1 (t2 (mu A1 B1) (mu A2 B2))) (dl s4 (t2 (mu C1 D1) (mu C2 D2)))) (szUp (ad (ml s2 (t2 (mu A1 D1) (mu A2 D2))) (ml s3 (t2' (mu A2 D1) (mu A1 D2)))) (by omega))) (szUp (sb (ml s2 (t2 (mu B1 C1) (mu B2 C2))) (ml s3 (t2' (mu B1 C2) (mu B2 C1)))) (by omega))
  have w2 : Sz (m + 2 * n + 7) (sO q l p k ⟨(a1, a2), (b1, b2), (c1, c2), (d1, d2)⟩).2 := by
    refine szUp (show Sz (m + 2 * n + 6) (2 * q * (a2 * b1 - a1 * b2) + 2 * k * (c2 * d1 - c1 * d2) + (l * (a2 * d1 - a1 * d2) - p * (a1 * d1 + a2 * d2)) + (l * (b1 * c2 - b2 * c1) + p * (b1 * c1 + b2 * c2))) from ?_) (by omega)
    exact ad (ad (ad (dl s1 (t2' (mu A2 B1) (mu A1 B2))) (dl s4 (t2' (mu C2 D1) (mu C1 D2)))) (szUp (sb (ml s2 (t2' (mu A2 D1) (mu A1 D2))) (ml s3 (t2 (mu A1 D1) (mu A2 D2)))) (by omega))) (szUp (ad (ml s2 (t2' (mu B1 C2) (mu B2 C1))) (ml s3 (t2 (mu B1 C1) (mu B2 C2)))) (by omega))
  refine ⟨v A1 A2 C1 C2, szUp w1 (by omega), ?_, v B1 B2 D1 D2⟩
  show Sz (m + 2 * n + 8) (if f = 1 then _ else 0 - _)
  split
  · exact szUp w2 (by omega)
  · rw [Int.zero_sub]; exact szUp (ngS w2) (by omega)
theorem ldr_ok {f : Int} {n m : Nat} {A : M4} {r : R4} (F : Fm4 n A) (s : SR m r) (d : 0 < dsc r) : Rd (m + 2 * n + 10) (ldr f A r) :=
  (nf_ok (rlb_szn (bck_fm (f := f) F).sz s) (dsc_rlbp (bck_dt F.dt) d)).1.up' (by omega)
/-! complex numbers and how wide they are -/
class GS (n : outParam Nat) (p : G) : Prop where
  a : Sz n p.1
  b : Sz n p.2
instance gs_fst {n : Nat} {p : G} [h : GS n p] : Sz n p.1 := h.a
instance gs_snd {n : Nat} {p : G} [h : GS n p] : Sz n p.2 := h.b
instance gs_mk {n m : Nat} {x y : Int} [a : Sz n x] [b : Sz m y] : GS (max n m) (x, y) := ⟨szUp a (Nat.le_max_left ..), szUp b (Nat.le_max_right ..)⟩
instance gs_gm {n m : Nat} {p q : G} [a : GS n p] [b : GS m q] : GS (n + m + 1) (gm p q) := by
  refine ⟨szUp (inferInstance : Sz _ (p.1 * q.1 - p.2 * q.2)) (by omega), szUp (inferInstance : Sz _ (p.1 * q.2 + p.2 * q.1)) (by omega)⟩
instance gs_gj {n : Nat} {p : G} [a : GS n p] : GS n (gj p) := ⟨a.a, ngS a.b⟩
instance gs_ga {n m : Nat} {p q : G} [a : GS n p] [b : GS m q] : GS (max n m + 1) (ga p q) := ⟨(inferInstance : Sz _ (p.1 + q.1)), (inferInstance : Sz _ (p.2 + q.2))⟩
instance gs_gu {n m : Nat} {p q : G} [a : GS n p] [b : GS m q] : GS (max n m + 1) (gu p q) := ⟨(inferInstance : Sz _ (p.1 - q.1)), (inferInstance : Sz _ (p.2 - q.2))⟩
instance gs_nm {n : Nat} {p : G} [a : GS n p] : Sz (2 * n + 1) (nm p) := szUp (inferInstance : Sz _ (p.1 * p.1 + p.2 * p.2)) (by omega)
theorem S4.gs {n : Nat} {a b c d : G} (S : S4 n a b c d) : GS n a ∧ GS n b ∧ GS n c ∧ GS n d := ⟨⟨S.a1, S.a2⟩, ⟨S.b1, S.b2⟩, ⟨S.c1, S.c2⟩, ⟨S.d1, S.d2⟩⟩
theorem sg0 {v : Int} : sg v = 0 ↔ v = 0 := by
  unfold sg
  constructor
  · intro z
    by_cases a : 0 < v
    · rw [if_pos a] at z; omega
    · rw [if_neg a] at z
      by_cases b : v < 0
      · rw [if_pos b] at z; omega
      · omega
  · intro z; rw [z]; rfl
theorem sgS (v : Int) : Sz 2 (sg v) := ⟨by
  unfold sg
  by_cases a : 0 < v
  · rw [if_pos a]; decide
  · rw [if_neg a]
    by_cases b : v < 0
    · rw [if_pos b]; decide
    · rw [if_neg b]; decide⟩
theorem eqv_R (r s : R4) : PyData.eqv (rw4 r.1 r.2.1 r.2.2.1 r.2.2.2) (rw4 s.1 s.2.1 s.2.2.1 s.2.2.2) = decide (r = s) := by
  obtain ⟨a, b, c, d⟩ := r
  obtain ⟨x, y, z, w⟩ := s
  have e : decide (((a, b, c, d) : R4) = (x, y, z, w)) = (decide (a = x) && (decide (b = y) && (decide (c = z) && decide (d = w)))) := by
    by_cases h1 : a = x <;> by_cases h2 : b = y <;> by_cases h3 : c = z <;> by_cases h4 : d = w <;> simp [h1, h2, h3, h4]
  rw [e]
  simp [PyData.eqv, PyData.eqvAll]
  rfl
def toT : PyData → T3
  | .tuple [.int p, .int s, .int r] => (p, s, r)
  | _ => (0, 0, 0)
theorem toT_pd (t : T3) : toT (pd t) = t := rfl
/-- a comprehension over places that makes a thing of each -/
theorem lc_pds {i : Nat} {el : Wx} {g : T3 → PyData} {ps : List T3} {ds acc : List PyData} {ev : Ev} {Q : List PyData → Ev → Prop} (e : ev[i]? = some none) (l : acc.length + ps.length ≤ 1000)
    (hds : ds = ps.map pd) (h : ∀ t ∈ ps, ∀ R : PyData → Ev → Prop, R (g t) (ev.set i (some (.val (pd t)))) → el (ev.set i (some (.val (pd t)))) R) (q : Q (acc ++ ps.map g) ev) : lcD [i] (gN i) dYes el ds acc ev Q := by
  subst hds
  refine lc_map (f := fun d => g (toT d)) e (by rw [List.length_map]; exact l) (fun d hd R r => ?_) ?_
  · obtain ⟨t, m, rfl⟩ := List.mem_map.mp hd
    exact h t m R r
  · rw [List.map_map]
    exact q
theorem lc_none {i : Nat} {t : Wt} {el : Wx} {ps : List T3} {ds acc : List PyData} {ev : Ev} {Q : List PyData → Ev → Prop} (e : ev[i]? = some none) (l : acc.length + ps.length ≤ 1000)
    (hds : ds = ps.map pd) (h : ∀ u ∈ ps, ∀ R : Bool → Ev → Prop, R false (ev.set i (some (.val (pd u)))) → t (ev.set i (some (.val (pd u)))) R) (q : Q acc ev) : lcD [i] (gN i) t el ds acc ev Q := by
  subst hds
  refine lc_keep (p := fun _ => false) (f := id) e (by rw [List.length_map]; exact l) (fun d hd R r => ?_) (fun d hd hp => by cases hp) ?_
  · obtain ⟨t, m, rfl⟩ := List.mem_map.mp hd
    exact h t m R r
  · rw [show (ps.map pd).filter (fun _ => false) = [] from List.filter_eq_nil_iff.mpr fun _ _ => by decide, List.map_nil, List.append_nil]
    exact q
theorem tr_of3 {n : Nat} {ps : List T3} (l : ps.length = 3) (d : ps.Nodup) (h : ∀ t ∈ ps, Pt t ∧ S3 n t) : ∃ a b c, ps = [a, b, c] ∧ Tr a b c ∧ (S3 n a ∧ S3 n b ∧ S3 n c) := by
  obtain ⟨a, b, c, rfl⟩ : ∃ a b c, ps = [a, b, c] := by
    match ps, l with
    | [a, b, c], _ => exact ⟨a, b, c, rfl⟩
  simp only [List.nodup_cons, List.mem_cons, List.not_mem_nil, or_false, not_or, not_false_eq_true, List.nodup_nil, and_true] at d
  exact ⟨a, b, c, rfl, ⟨(h a (by simp)).1, (h b (by simp)).1, (h c (by simp)).1, d.1.1, d.1.2, d.2⟩, (h a (by simp)).2, (h b (by simp)).2, (h c (by simp)).2⟩
theorem pt_of2 {n : Nat} {ps : List T3} (l : ps.length = 2) (d : ps.Nodup) (h : ∀ t ∈ ps, Pt t ∧ S3 n t) : ∃ a b, ps = [a, b] ∧ a ≠ b ∧ (Pt a ∧ Pt b) ∧ (S3 n a ∧ S3 n b) := by
  obtain ⟨a, b, rfl⟩ : ∃ a b, ps = [a, b] := by
    match ps, l with
    | [a, b], _ => exact ⟨a, b, rfl⟩
  simp only [List.nodup_cons, List.mem_cons, List.not_mem_nil, or_false, not_or, not_false_eq_true, List.nodup_nil, and_true] at d
  exact ⟨a, b, rfl, d, ⟨(h a (by simp)).1, (h b (by simp)).1⟩, (h a (by simp)).2, (h b (by simp)).2⟩
theorem mem3 {α : Type} {a b c t : α} {P : α → Prop} (m : t ∈ [a, b, c]) (h1 : P a) (h2 : P b) (h3 : P c) : P t := by
  simp only [List.mem_cons, List.not_mem_nil, or_false] at m
  rcases m with rfl | rfl | rfl <;> assumption
theorem mem4 {α : Type} {a b c d t : α} {P : α → Prop} (m : t ∈ [a, b, c, d]) (h1 : P a) (h2 : P b) (h3 : P c) (h4 : P d) : P t := by
  simp only [List.mem_cons, List.not_mem_nil, or_false] at m
  rcases m with rfl | rfl | rfl | rfl <;> assumption
end Z

set_option autoImplicit false
set_option linter.all false
namespace Z
open PySem L2
/-! ## 42. rounds that share places -/
abbrev rwR (r : R4) : PyData := rw4 r.1 r.2.1 r.2.2.1 r.2.2.2
def mxR (x : Int) (r : R4) (y : Int) (s : R4) : R4 := (x * r.1 + y * s.1, x * r.2.1 + y * s.2.1, x * r.2.2.1 + y * s.2.2.1, x * r.2.2.2 + y * s.2.2.2)
theorem dsc_mx (x : Int) (r : R4) (y : Int) (s : R4) : dsc (mxR x r y s) = x * x * dsc r + 2 * (x * y * prR r s) + y * y * dsc s := by simp only [dsc, mxR, prR]; grind
theorem pr_mx (x : Int) (r : R4) (y : Int) (s t : R4) : prR t (mxR x r y s) = x * prR t r + y * prR t s := by simp only [mxR, prR]; grind
theorem pr_sym (r s : R4) : prR r s = prR s r := by simp only [prR]; grind
theorem vR_mx (x : Int) (r : R4) (y : Int) (s : R4) (v : V2) : vR (mxR x r y s) v = x * vR r v + y * vR s v := by simp only [vR, vO, mxR]; grind
theorem pr_smr (g : Int) (r s : R4) : prR r (smR g s) = g * prR r s := by simp only [prR, smR]; grind
theorem dsc_sm (g : Int) (r : R4) : dsc (smR g r) = g * g * dsc r := by simp only [dsc, smR]; grind
theorem smR_inj {g : Int} (hg : g ≠ 0) {r s : R4} (h : smR g r = smR g s) : r = s := by
  have c : ∀ {a b : Int}, g * a = g * b → a = b := fun e => Int.eq_of_mul_eq_mul_left hg e
  exact Prod.ext (c (congrArg (·.1) h)) (Prod.ext (c (congrArg (·.2.1) h)) (Prod.ext (c (congrArg (·.2.2.1) h)) (c (congrArg (·.2.2.2) h))))
theorem smR_one (r : R4) : smR 1 r = r := by simp only [smR, Int.one_mul]
abbrev zR : R4 := (0, 0, 0, 0)
/-- a row with two places is one of a round -/
theorem two_pos {r : R4} {a b : T3} (A : Pt a) (B : Pt b) (n : a ≠ b) (ha : vR r (vt a) = 0) (hb : vR r (vt b) = 0) (hr : r ≠ zR) : 0 < dsc r := by
  rw [vR_vt] at ha hb
  obtain ⟨q, l, m, k⟩ := r
  have rr : ∀ t : T3, Pt t → 0 ≤ t.2.2 ∧ (t.2.2 = 0 → t = (1, 0, 0)) := fun t T => by
    rcases T with rfl | ⟨p, _⟩
    · exact ⟨by decide, fun _ => rfl⟩
    · exact ⟨by omega, fun z => by omega⟩
  have A' := rr a A
  have B' := rr b B
  by_cases hq : q = 0
  · subst hq
    show 0 < l * l + m * m - 4 * (0 * k)
    have z : 4 * (0 * k) = 0 := by omega
    rw [z, Int.sub_zero]
    apply ne_sq
    rintro ⟨rfl, rfl⟩
    have hk : k ≠ 0 := fun z => hr (by rw [z])
    have one : ∀ t : T3, vl 0 0 0 k t = 0 → t.2.2 = 0 := fun t h => by
      have e : k * (t.2.2 * t.2.2) = 0 := by
        have : vl 0 0 0 k t = k * (t.2.2 * t.2.2) := by simp only [vl]; grind
        rw [← this]; exact h
      exact (Int.mul_eq_zero.mp ((Int.mul_eq_zero.mp e).resolve_left hk)).elim id id
    exact n ((A'.2 (one a ha)).trans (B'.2 (one b hb)).symm)
  · have ha : vl q l m k a = 0 := ha
    have hb : vl q l m k b = 0 := hb
    have id4 : ∀ t : T3, (2 * q * t.1 + l * t.2.2) * (2 * q * t.1 + l * t.2.2) + (2 * q * t.2.1 + m * t.2.2) * (2 * q * t.2.1 + m * t.2.2) = 4 * q * vl q l m k t + dsc (q, l, m, k) * (t.2.2 * t.2.2) := fun t => by simp only [vl, dsc]; grind
    have ia := id4 a
    have ib := id4 b
    rw [ha, Int.mul_zero, Int.zero_add] at ia
    rw [hb, Int.mul_zero, Int.zero_add] at ib
    apply Classical.byContradiction
    intro np
    have nn : ∀ t : T3, 0 ≤ t.2.2 * t.2.2 := fun t => sq0 _
    have zz : ∀ t : T3, (2 * q * t.1 + l * t.2.2) * (2 * q * t.1 + l * t.2.2) + (2 * q * t.2.1 + m * t.2.2) * (2 * q * t.2.1 + m * t.2.2) = dsc (q, l, m, k) * (t.2.2 * t.2.2) → 2 * q * t.1 + l * t.2.2 = 0 ∧ 2 * q * t.2.1 + m * t.2.2 = 0 := fun t e => by
      have le : dsc (q, l, m, k) * (t.2.2 * t.2.2) ≤ 0 := Int.mul_nonpos_of_nonpos_of_nonneg (by omega) (nn t)
      have s1 := sq0 (2 * q * t.1 + l * t.2.2)
      have s2 := sq0 (2 * q * t.2.1 + m * t.2.2)
      have z1 : (2 * q * t.1 + l * t.2.2) * (2 * q * t.1 + l * t.2.2) = 0 := by omega
      have z2 : (2 * q * t.2.1 + m * t.2.2) * (2 * q * t.2.1 + m * t.2.2) = 0 := by omega
      exact ⟨(Int.mul_eq_zero.mp z1).elim id id, (Int.mul_eq_zero.mp z2).elim id id⟩
    obtain ⟨a1, a2⟩ := zz a ia
    obtain ⟨b1, b2⟩ := zz b ib
    apply n
    apply A.uniq B
    rw [← ap_cr]
    have c : ∀ {x : Int}, 2 * q * x = 0 → x = 0 := fun e => (Int.mul_eq_zero.mp e).resolve_left (by omega)
    refine Prod.ext (c ?_) (c ?_)
    · show 2 * q * (a.1 * b.2.2 - b.1 * a.2.2) = 0
      grind
    · show 2 * q * (a.2.1 * b.2.2 - b.2.1 * a.2.2) = 0
      grind
theorem dsc_z : dsc zR = 0 := rfl
/-- two rounds through two places meet in just them -/
theorem meet2 {n m : Nat} {r s : R4} {a b : T3} (R : Rd n r) (S : Rd m s) (A : Pt a) (B : Pt b) (nab : a ≠ b) (h1 : vR r (vt a) = 0) (h2 : vR r (vt b) = 0) (h3 : vR s (vt a) = 0) (h4 : vR s (vt b) = 0) (ne : r ≠ s) : prR r s * prR r s < dsc r * dsc s := by
  have x0 : mxR (dsc s) r (-prR r s) s ≠ zR := fun z => by
    have e : smR (dsc s) r = smR (prR r s) s := by
      have f : ∀ {u v : Int}, dsc s * u + -prR r s * v = 0 → dsc s * u = prR r s * v := fun {u v} h => by
        rw [Int.neg_mul] at h; omega
      exact Prod.ext (f (congrArg (·.1) z)) (Prod.ext (f (congrArg (·.2.1) z)) (Prod.ext (f (congrArg (·.2.2.1) z)) (f (congrArg (·.2.2.2) z))))
    have d := congrArg dsc e
    rw [dsc_sm, dsc_sm] at d
    have p : 0 < dsc s * dsc s * dsc r := Int.mul_pos (Int.mul_pos S.pos S.pos) R.pos
    by_cases j : prR r s = 0
    · rw [j] at d
      rw [d] at p
      omega
    · have q := congrArg nf e
      rw [nf_sm (Int.ne_of_gt S.pos) R.pos, nf_sm j S.pos, nf_self R, nf_self S] at q
      exact ne q
  have p := two_pos A B nab (by rw [vR_mx, h1, h3]; omega) (by rw [vR_mx, h2, h4]; omega) x0
  have e : dsc (mxR (dsc s) r (-prR r s) s) = dsc s * (dsc r * dsc s - prR r s * prR r s) := by rw [dsc_mx]; grind
  rw [e] at p
  have := Int.pos_of_mul_pos_right p S.pos
  omega
/-- how many places two rounds share -/
def shD (r s : R4) : PyData := if r = s then .none else .int (1 - sg (prR r s * prR r s - prR r r * prR s s))
theorem shD_sym (r s : R4) : shD s r = shD r s := by
  unfold shD
  rw [pr_sym s r, Int.mul_comm (prR s s)]
  by_cases z : r = s
  · rw [if_pos z, if_pos z.symm]
  · rw [if_neg z, if_neg fun e => z e.symm]
theorem shD_self (r : R4) : shD r r = .none := if_pos rfl
theorem shD_2 {r s : R4} (n : r ≠ s) (h : prR r s * prR r s < dsc r * dsc s) : shD r s = .int 2 := by
  unfold shD
  rw [if_neg n, dsc_pr, dsc_pr]
  unfold sg
  rw [if_neg (by omega), if_pos (by omega)]
  rfl
theorem shD_0 {r s : R4} (n : r ≠ s) (h : dsc r * dsc s < prR r s * prR r s) : shD r s = .int 0 := by
  unfold shD
  rw [if_neg n, dsc_pr, dsc_pr]
  unfold sg
  rw [if_pos (by omega)]
  rfl
theorem shD_1 {r s : R4} (n : r ≠ s) (h : prR r s * prR r s = dsc r * dsc s) : shD r s = .int 1 := by
  unfold shD
  rw [if_neg n, dsc_pr, dsc_pr, h, Int.sub_self]
  rfl
theorem shD_sz (r s : R4) : shD r s = .none ∨ ∃ y : Int, shD r s = .int y ∧ Sz 4 y := by
  unfold shD
  by_cases z : r = s
  · rw [if_pos z]; exact .inl rfl
  · rw [if_neg z]
    have := sgS (prR r s * prR r s - prR r r * prR s s)
    have t1 : Sz 1 (1 : Int) := ⟨by decide⟩
    exact .inr ⟨_, rfl, szUp (inferInstance : Sz _ (1 - sg (prR r s * prR r s - prR r r * prR s s))) (by decide)⟩
/-- the middle of a row -/
def mdl (r : R4) : T3 := qt (-r.2.1, -r.2.2.1) (2 * r.1, 0)
theorem mdl_far {r : R4} (h : r.1 = 0) : mdl r = (1, 0, 0) := by
  unfold mdl qt
  rw [h]
  exact if_pos rfl
theorem mdl_nz {r : R4} (h : r.1 ≠ 0) : ((2 * r.1, 0) : G) ≠ (0, 0) := fun z => by
  have := congrArg Prod.fst z
  have : 2 * r.1 = 0 := this
  omega
theorem mdl_sm {c : Int} (hc : c ≠ 0) (r : R4) : mdl (smR c r) = mdl r := by
  by_cases h : r.1 = 0
  · rw [mdl_far h, mdl_far (show c * r.1 = 0 by rw [h, Int.mul_zero])]
  · have h' : (smR c r).1 ≠ 0 := Int.mul_ne_zero hc h
    refine qt_par (fun z => mdl_nz h' z.2) (fun z => mdl_nz h z.2) ?_
    refine Prod.ext ?_ ?_
    · show (-(c * r.2.1) * (2 * r.1) - -(c * r.2.2.1) * 0) - (2 * (c * r.1) * -r.2.1 - 0 * -r.2.2.1) = 0
      grind
    · show (-(c * r.2.1) * 0 + -(c * r.2.2.1) * (2 * r.1)) - (2 * (c * r.1) * -r.2.2.1 + 0 * -r.2.1) = 0
      grind
theorem mdl_rd {r : R4} {k a b c : Int} (h : r.1 ≠ 0) (hk : 0 < k) (h1 : k * a = -r.2.1 * (2 * r.1)) (h2 : k * b = -r.2.2.1 * (2 * r.1)) (h3 : k * c = 2 * r.1 * (2 * r.1)) : tup (rd [a, b, c]) = pd (mdl r) := by
  unfold mdl
  rw [← qp_qt]
  unfold qp
  rw [if_neg (mdl_nz h)]
  exact congrArg tup (rd_of3 (x := (-r.2.1) * (2 * r.1) - (-r.2.2.1) * -0) (y := (-r.2.1) * -0 + (-r.2.2.1) * (2 * r.1)) (z := 2 * r.1 * (2 * r.1) + 0 * 0) k 1 hk (by decide) (by rw [h1]; grind) (by rw [h2]; grind) (by rw [h3]; grind) rfl)
theorem mdl_pt {r : R4} : Pt (mdl r) := by
  by_cases h : r.1 = 0
  · rw [mdl_far h]; exact Pt.far
  · exact (qt_any fun z => mdl_nz h z.2).1
theorem tup_inj {a b c : Int} {us : List Int} (h : tup us = pl a b c) : us = [a, b, c] := by
  match us, h with
  | [x, y, z], h => cases h; rfl
theorem mdl_sz {n : Nat} {r : R4} (hn : 1 ≤ n) (s1 : Sz n r.1) (s2 : Sz n r.2.1) (s3 : Sz n r.2.2.1) : S3 (n + 2) (mdl r) := by
  by_cases h : r.1 = 0
  · rw [mdl_far h]; exact S3.far (by omega)
  · have t2 : Sz 2 (2 : Int) := ⟨by decide⟩
    have c1 : Sz (n + 2) (2 * r.1) := szUp (inferInstance : Sz _ (2 * r.1)) (by omega)
    have key : ∀ {x y z : Int}, tup (rd [x, y, z]) = pd (mdl r) → Sz (n + 2) x → Sz (n + 2) y → Sz (n + 2) z → S3 (n + 2) (mdl r) := fun {x y z} e s1 s2 s3 => by
      have e := tup_inj e
      have q := rd_sz (all3 s1 s2 s3)
      rw [e] at q
      exact ⟨q _ (by simp), q _ (by simp), q _ (by simp)⟩
    by_cases p : 0 < r.1
    · exact key (mdl_rd (k := 2 * r.1) (a := -r.2.1) (b := -r.2.2.1) (c := 2 * r.1) h (by omega) (by grind) (by grind) rfl) (szUp (ngS s2) (by omega)) (szUp (ngS s3) (by omega)) c1
    · have c2 : Sz (n + 2) (-2 * r.1) := by rw [Int.neg_mul]; exact ngS c1
      exact key (mdl_rd (k := -2 * r.1) (a := r.2.1) (b := r.2.2.1) (c := -2 * r.1) h (by omega) (by grind) (by grind) (by grind)) (szUp s2 (by omega)) (szUp s3 (by omega)) c2
/-- the row of a single place -/
def sptR (t : T3) : R4 := (t.2.2 * t.2.2, 0 - 2 * t.1 * t.2.2, 0 - 2 * t.2.1 * t.2.2, t.1 * t.1 + t.2.1 * t.2.1)
theorem pr_spt (r : R4) (t : T3) : prR r (sptR t) = -2 * vR r (vt t) := by
  rw [vR_vt]
  simp only [prR, sptR, vl]; grind
theorem dsc_spt (t : T3) : dsc (sptR t) = 0 := by simp only [dsc, sptR]; grind
theorem spt_nz {t : T3} (T : Pt t) : sptR t ≠ zR := fun z => by
  have e1 : t.2.2 * t.2.2 = 0 := congrArg (·.1) z
  have e2 : t.1 * t.1 + t.2.1 * t.2.1 = 0 := congrArg (·.2.2.2) z
  have r0 : t.2.2 = 0 := (Int.mul_eq_zero.mp e1).elim id id
  rcases T with rfl | ⟨p, _⟩
  · exact absurd e2 (by decide)
  · omega
theorem mdl_spt {t : T3} (T : Pt t) : mdl (sptR t) = t := by
  by_cases h : t.2.2 = 0
  · have f : t = (1, 0, 0) := by
      rcases T with z | ⟨p, _⟩
      · exact z
      · omega
    rw [mdl_far (show t.2.2 * t.2.2 = 0 by rw [h]; rfl), f]
  · have h' : (sptR t).1 ≠ 0 := Int.mul_ne_zero h h
    obtain ⟨P, e⟩ := qt_any (p := (-(sptR t).2.1, -(sptR t).2.2.1)) (q := (2 * (sptR t).1, 0)) (fun z => mdl_nz h' z.2)
    refine P.uniq T (cr_trans e ?_ (fun z => mdl_nz h' z.2))
    refine Prod.ext ?_ ?_
    · show (-(0 - 2 * t.1 * t.2.2) * t.2.2 - -(0 - 2 * t.2.1 * t.2.2) * 0) - (2 * (t.2.2 * t.2.2) * t.1 - 0 * t.2.1) = 0
      grind
    · show (-(0 - 2 * t.1 * t.2.2) * 0 + -(0 - 2 * t.2.1 * t.2.2) * t.2.2) - (2 * (t.2.2 * t.2.2) * t.2.1 + 0 * t.1) = 0
      grind
/-- the row of the place at which two rounds touch -/
def tcR (r s : R4) : R4 := mxR (prR r s) r (-prR r r) s
def tcD (r s : R4) : PyData := if r ≠ s ∧ prR r s * prR r s = dsc r * dsc s then pd (mdl (tcR r s)) else .none
theorem tc_sym (r s : R4) (d : 0 < dsc r) (d' : 0 < dsc s) (h : prR r s * prR r s = dsc r * dsc s) : mdl (tcR s r) = mdl (tcR r s) := by
  have p : 0 < prR r s * prR r s := by rw [h]; exact Int.mul_pos d d'
  have j : prR r s ≠ 0 := fun z => by rw [z] at p; exact absurd p (by decide)
  rw [← mdl_sm j (tcR s r), ← mdl_sm (c := -dsc s) (by omega) (tcR r s)]
  congr 1
  have f : ∀ u v : Int, prR r s * (prR s r * v + -prR s s * u) = -dsc s * (prR r s * u + -prR r r * v) := fun u v => by
    rw [pr_sym s r, dsc_pr, dsc_pr]
    have : prR r s * (prR r s * v + -dsc s * u) = prR r s * prR r s * v - prR r s * dsc s * u := by grind
    rw [this, h]
    grind
  exact Prod.ext (f _ _) (Prod.ext (f _ _) (Prod.ext (f _ _) (f _ _)))
theorem tcD_sym {r s : R4} (d : 0 < dsc r) (d' : 0 < dsc s) : tcD s r = tcD r s := by
  unfold tcD
  rw [pr_sym s r, Int.mul_comm (dsc s)]
  by_cases z : r ≠ s ∧ prR r s * prR r s = dsc r * dsc s
  · rw [if_pos z, if_pos ⟨fun e => z.1 e.symm, z.2⟩, tc_sym r s d d' z.2]
  · rw [if_neg z, if_neg fun y => z ⟨fun e => y.1 e.symm, y.2⟩]
theorem tcD_no {r s : R4} (h : ¬(r ≠ s ∧ prR r s * prR r s = dsc r * dsc s)) : tcD r s = .none := if_neg h
theorem tcD_yes {r s : R4} (n : r ≠ s) (h : prR r s * prR r s = dsc r * dsc s) : tcD r s = pd (mdl (tcR r s)) := if_pos ⟨n, h⟩
/-- a round mixed with a place of its own touches it there -/
theorem touch {n : Nat} {r : R4} {t : T3} {x y : Int} (R : Rd n r) (T : Pt t) (h : vR r (vt t) = 0) (hx : 0 < x) (hy : y ≠ 0) :
    0 < dsc (mxR x r y (sptR t)) ∧ r ≠ nf (mxR x r y (sptR t)) ∧ prR r (nf (mxR x r y (sptR t))) * prR r (nf (mxR x r y (sptR t))) = dsc r * dsc (nf (mxR x r y (sptR t))) ∧ mdl (tcR r (nf (mxR x r y (sptR t)))) = t := by
  have jp : prR r (sptR t) = 0 := by rw [pr_spt, h]; rfl
  have D := R.pos
  have dw : dsc (mxR x r y (sptR t)) = x * x * dsc r := by rw [dsc_mx, jp, dsc_spt]; grind
  have pw : 0 < dsc (mxR x r y (sptR t)) := by rw [dw]; exact Int.mul_pos (Int.mul_pos hx hx) D
  have jw : prR r (mxR x r y (sptR t)) = x * dsc r := by rw [pr_mx, jp, dsc_pr]; grind
  obtain ⟨g, hg, e⟩ := nf_sc pw
  generalize hs : nf (mxR x r y (sptR t)) = s at *
  have j1 : g * prR r s = x * dsc r := by rw [← pr_smr, e, jw]
  have d1 : g * g * dsc s = x * x * dsc r := by rw [← dsc_sm, e, dw]
  have gg : g * g ≠ 0 := Int.mul_ne_zero hg hg
  refine ⟨pw, fun z => ?_, ?_, ?_⟩
  · subst z
    rw [dsc_pr] at j1
    have gx : g = x := Int.eq_of_mul_eq_mul_right (Int.ne_of_gt D) j1
    subst gx
    have f : ∀ {u v : Int}, g * u = g * u + y * v → v = 0 := fun {u v} k => (Int.mul_eq_zero.mp (show y * v = 0 by omega)).resolve_left hy
    exact spt_nz T (Prod.ext (f (congrArg (·.1) e)) (Prod.ext (f (congrArg (·.2.1) e)) (Prod.ext (f (congrArg (·.2.2.1) e)) (f (congrArg (·.2.2.2) e)))))
  · apply Int.eq_of_mul_eq_mul_left gg
    have a : g * g * (prR r s * prR r s) = (g * prR r s) * (g * prR r s) := by grind
    have b : g * g * (dsc r * dsc s) = dsc r * (g * g * dsc s) := by grind
    rw [a, b, j1, d1]
    grind
  · rw [← mdl_sm hg, ← mdl_spt T, ← mdl_sm (c := -(dsc r * y)) (fun z => by
      have : dsc r * y = 0 := by omega
      exact (Int.mul_eq_zero.mp this).elim (fun z => by omega) hy) (sptR t)]
    congr 1
    have f : ∀ {u v w : Int}, g * v = x * u + y * w → g * (prR r s * u + -prR r r * v) = -(dsc r * y) * w := fun {u v w} k => by
      have : g * (prR r s * u + -prR r r * v) = g * prR r s * u - prR r r * (g * v) := by grind
      rw [this, j1, k, dsc_pr]
      grind
    exact Prod.ext (f (congrArg (·.1) e)) (Prod.ext (f (congrArg (·.2.1) e)) (Prod.ext (f (congrArg (·.2.2.1) e)) (f (congrArg (·.2.2.2) e))))
/-- a round about the same middle -/
def abt (r : R4) (b : Int) : R4 := (r.1, r.2.1, r.2.2.1, r.2.2.2 - b)
theorem Rd.q0 {n : Nat} {r : R4} (R : Rd n r) : 0 ≤ r.1 := by
  rcases R.rn.q0 with h | h <;> omega
theorem about {n : Nat} {r : R4} {b : Int} (R : Rd n r) (hb : 0 < b) : 0 < dsc (abt r b) ∧ r ≠ nf (abt r b) ∧
    (r.1 ≠ 0 → dsc r * dsc (nf (abt r b)) < prR r (nf (abt r b)) * prR r (nf (abt r b))) ∧ (r.1 = 0 → prR r (nf (abt r b)) * prR r (nf (abt r b)) = dsc r * dsc (nf (abt r b)) ∧ mdl (tcR r (nf (abt r b))) = (1, 0, 0)) := by
  have D := R.pos
  have q0 := R.q0
  have dw : dsc (abt r b) = dsc r + 4 * (r.1 * b) := by simp only [dsc, abt]; grind
  have qb : 0 ≤ r.1 * b := Int.mul_nonneg q0 (by omega)
  have pw : 0 < dsc (abt r b) := by rw [dw]; omega
  have jw : prR r (abt r b) = dsc r + 2 * (r.1 * b) := by simp only [prR, dsc, abt]; grind
  obtain ⟨g, hg, e⟩ := nf_sc pw
  generalize hs : nf (abt r b) = s at *
  have j1 : g * prR r s = dsc r + 2 * (r.1 * b) := by rw [← pr_smr, e, jw]
  have d1 : g * g * dsc s = dsc r + 4 * (r.1 * b) := by rw [← dsc_sm, e, dw]
  have gg : 0 < g * g := by
    rcases Int.lt_or_gt_of_ne hg with q | q
    · exact Int.mul_pos_of_neg_of_neg q q
    · exact Int.mul_pos q q
  have a : g * g * (prR r s * prR r s) = (g * prR r s) * (g * prR r s) := by grind
  have c : g * g * (dsc r * dsc s) = dsc r * (g * g * dsc s) := by grind
  rw [j1] at a
  rw [d1] at c
  refine ⟨pw, fun z => ?_, fun z => ?_, fun z => ?_⟩
  · subst z
    have e2 : g * r.2.1 = r.2.1 := congrArg (·.2.1) e
    have e3 : g * r.2.2.1 = r.2.2.1 := congrArg (·.2.2.1) e
    have e1 : g * r.1 = r.1 := congrArg (·.1) e
    have e4 : g * r.2.2.2 = r.2.2.2 - b := congrArg (·.2.2.2) e
    have one : ∀ {u : Int}, g * u = u → u ≠ 0 → g = 1 := fun {u} k n => Int.eq_of_mul_eq_mul_right n (by rw [k]; omega)
    have g1 : g = 1 := by
      rcases dsc_ne D with n | n | n
      · exact one e1 n
      · exact one e2 n
      · exact one e3 n
    rw [g1] at e4
    omega
  · have p : 0 < r.1 * b := Int.mul_pos (by omega) hb
    have lt : g * g * (dsc r * dsc s) < g * g * (prR r s * prR r s) := by
      rw [a, c]
      have : (dsc r + 2 * (r.1 * b)) * (dsc r + 2 * (r.1 * b)) = dsc r * (dsc r + 4 * (r.1 * b)) + 4 * (r.1 * b * (r.1 * b)) := by grind
      rw [this]
      have := Int.mul_pos p p
      omega
    exact Int.lt_of_mul_lt_mul_left lt (Int.le_of_lt gg)
  · refine ⟨?_, ?_⟩
    · apply Int.eq_of_mul_eq_mul_left (Int.ne_of_gt gg)
      rw [a, c, z]
      grind
    · have s0 : s.1 = 0 := (Int.mul_eq_zero.mp (show g * s.1 = 0 from (congrArg (·.1) e).trans z)).resolve_left hg
      apply mdl_far
      show prR r s * r.1 + -prR r r * s.1 = 0
      rw [z, s0]
      omega
def crL (r s : R4) : List Int := rd [prR r s * prR r s, prR r r * prR s s]
theorem crL_sym (r s : R4) : crL s r = crL r s := by unfold crL; rw [pr_sym s r, Int.mul_comm (prR s s)]
theorem prR_sz {n : Nat} {r s : R4} (h : SR n r) (h' : SR n s) : Sz (2 * n + 6) (prR r s) := by
  obtain ⟨_, _, _, _⟩ := h
  obtain ⟨_, _, _, _⟩ := h'
  have t2 : Sz 2 (2 : Int) := ⟨by decide⟩
  exact szUp (inferInstance : Sz _ (r.2.1 * s.2.1 + r.2.2.1 * s.2.2.1 - 2 * (r.1 * s.2.2.2 + s.1 * r.2.2.2))) (by omega)
theorem crL_sz {n : Nat} {r s : R4} (R : Rd n r) (S : Rd n s) : ∃ x z, crL r s = [x, z] ∧ Sz (4 * n + 12) x ∧ Sz (4 * n + 12) z := by
  have a := prR_sz R.sr S.sr
  have b := prR_sz R.sr R.sr
  have c := prR_sz S.sr S.sr
  obtain ⟨x, z, _, e, sx, sz, _⟩ := rd2 (n := 4 * n + 12) (A := prR r s * prR r s) (C := prR r r * prR s s) (szUp (inferInstance : Sz _ (prR r s * prR r s)) (by omega)) (szUp (inferInstance : Sz _ (prR r r * prR s s)) (by omega)) (by rw [dsc_pr, dsc_pr]; exact Int.mul_pos R.pos S.pos)
  exact ⟨x, z, e, sx, sz⟩
theorem mxR_sz {n a : Nat} {x y : Int} {r s : R4} (sx : Sz a x) (sy : Sz a y) (h : SR n r) (h' : SR n s) : SR (n + a + 1) (mxR x r y s) := by
  obtain ⟨_, _, _, _⟩ := h
  obtain ⟨_, _, _, _⟩ := h'
  exact ⟨szUp (inferInstance : Sz _ (x * r.1 + y * s.1)) (by omega), szUp (inferInstance : Sz _ (x * r.2.1 + y * s.2.1)) (by omega), szUp (inferInstance : Sz _ (x * r.2.2.1 + y * s.2.2.1)) (by omega), szUp (inferInstance : Sz _ (x * r.2.2.2 + y * s.2.2.2)) (by omega)⟩
end Z

set_option autoImplicit false
set_option linter.all false
namespace Z
open PySem L2
/-! ## 43. a comprehension with two names over pairs -/
theorem set_back2 {ev : Ev} {i j : Nat} {x y : Option Sl} (n : i ≠ j) (e : ev[i]? = some none) (e' : ev[j]? = some none) : wipeD ((ev.set i x).set j y) [i, j] = ev := by
  show (((ev.set i x).set j y).set j none).set i none = ev
  have hi : i < ev.length := by
    by_cases z : i < ev.length
    · exact z
    · rw [List.getElem?_eq_none (by omega)] at e; cases e
  have hj : j < ev.length := by
    by_cases z : j < ev.length
    · exact z
    · rw [List.getElem?_eq_none (by omega)] at e'; cases e'
  apply List.ext_getElem?
  intro k
  by_cases b : i = k
  · subst b
    rw [List.getElem?_set_self (by simpa using hi), e]
  · rw [List.getElem?_set_ne b]
    by_cases a : j = k
    · subst a
      rw [List.getElem?_set_self (by simpa using hj), e']
    · rw [List.getElem?_set_ne a, List.getElem?_set_ne a, List.getElem?_set_ne b]
theorem lc_map2 {i j : Nat} {el : Wx} {f : PyData → PyData → PyData} (n : i ≠ j) : ∀ {ps : List (PyData × PyData)} {ds acc : List PyData} {ev : Ev} {Q : List PyData → Ev → Prop}, ev[i]? = some none → ev[j]? = some none → ds = ps.map (fun p => .tuple [p.1, p.2]) → acc.length + ps.length ≤ 1000 →
    (∀ p ∈ ps, ∀ R : PyData → Ev → Prop, R (f p.1 p.2) ((ev.set i (some (.val p.1))).set j (some (.val p.2))) → el ((ev.set i (some (.val p.1))).set j (some (.val p.2))) R) → Q (acc ++ ps.map (fun p => f p.1 p.2)) ev → lcD [i, j] (gT 2 (gsC (gN i) (gsC (gN j) gsN))) dYes el ds acc ev Q
  | [], ds, acc, ev, Q, _, _, hds, l, _, q => by
    subst hds
    rw [List.map_nil, List.append_nil] at q
    exact ⟨l, q⟩
  | p :: ps, ds, acc, ev, Q, e, e', hds, l, h, q => by
    subst hds
    refine ⟨rfl, ?_⟩
    have e2 : (ev.set i (some (.val p.1)))[j]? = some none := by rw [List.getElem?_set_ne n]; exact e'
    refine gs_fr e fr_none ?_
    refine gs_fr e2 fr_none ?_
    refine (show el ((ev.set i (some (.val p.1))).set j (some (.val p.2))) (fun y e3 => acc.length < 1000 ∧ lcD [i, j] (gT 2 (gsC (gN i) (gsC (gN j) gsN))) dYes el (ps.map (fun p => .tuple [p.1, p.2])) (acc ++ [y]) (wipeD e3 [i, j]) Q) from ?_)
    refine h p (List.mem_cons_self ..) _ ⟨by rw [List.length_cons] at l; omega, ?_⟩
    rw [set_back2 n e e']
    refine lc_map2 n e e' rfl (by rw [List.length_append, List.length_cons, List.length_nil]; rw [List.length_cons] at l; omega) (fun d' m R r => h d' (List.mem_cons_of_mem _ m) R r) ?_
    rw [List.append_assoc]
    exact q
theorem sh_up {w n k w' n' k' : Nat} {d : PyData} (a : Sh w n k d) (h1 : w ≤ w') (h2 : n ≤ n') (h3 : k ≤ k') (hw : w ≤ 1900) : Sh w' n' k' d := ⟨fun _ => a.ok hw, Nat.le_trans a.len h2, Nat.le_trans a.dep h3, a.nd, a.tx⟩
theorem shD_sh (r s : R4) : Sh 4 6 0 (shD r s) := by
  rcases shD_sz r s with e | ⟨y, e, sy⟩
  · rw [e]; exact sh_up sh_none (by decide) (by decide) (by decide) (by decide)
  · rw [e]; exact (inferInstance : Sh 4 (4 + 2) 0 (.int y))
theorem pd_sh {n m : Nat} {t : T3} (s : S3 n t) (h : n ≤ m) (hm : m ≤ 1900) : Sh m (3 * m + 15) 1 (pd t) := by
  obtain ⟨_, _, _⟩ := s.up h
  exact sh_up (inferInstance : Sh _ _ _ (pd t)) (by omega) (by omega) (by omega) (by omega)
end Z

set_option autoImplicit false
set_option linter.all false
namespace Z
open PySem L2
/-! ## 44. mirrors as maps -/
def mirR (r : R4) : M4 := mir r.1 r.2.1 r.2.2.1 r.2.2.2
noncomputable def mi (r : R4) : M4 := nrm (mirR r)
theorem mirR_dt {r : R4} (d : 0 < dsc r) : (mirR r).dt ≠ 0 := mir_dt d
theorem mi_sim {r : R4} (d : 0 < dsc r) : Sim (mi r) (mirR r) := nrm_sim (mirR_dt d)
theorem mi_dt {r : R4} (d : 0 < dsc r) : (mi r).dt ≠ 0 := nrm_dt (mirR_dt d)
theorem mirR_sz {n : Nat} {r : R4} (s : SR n r) : S44 (n + 2) (mirR r) := by
  have z : Sz (n + 2) (0 : Int) := szUp (n := 0) ⟨by decide⟩ (Nat.zero_le _)
  haveI t2 : Sz 2 (2 : Int) := ⟨by decide⟩
  haveI t3 : Sz 2 (-2 : Int) := ⟨by decide⟩
  obtain ⟨s1, s2, s3, s4⟩ := s
  exact ⟨szUp (ngS s2) (by omega), szUp (ngS s3) (by omega), szUp (inferInstance : Sz _ (-2 * r.2.2.2)) (by omega), z, szUp (inferInstance : Sz _ (2 * r.1)) (by omega), z, szUp s2 (by omega), szUp (ngS s3) (by omega)⟩
theorem mi_fm {n : Nat} {r : R4} (s : SR n r) (d : 0 < dsc r) : Fm4 (n + 3) (mi r) := nrm_fm (mirR_sz s) (mirR_dt d)
theorem mirR_back (r : R4) : (mirR r).adj.cj 1 = (mirR r).sm ((-1, 0) : G) := by
  refine m4_ext ?_ ?_ ?_ ?_ <;> refine Prod.ext ?_ ?_
  all_goals simp only [mirR, mir, M4.adj, M4.cj, M4.sm, cj, gmul, gj, if_pos]
  all_goals (try simp only [← gn_r, gn])
  all_goals grind
theorem bck_mi {r : R4} (d : 0 < dsc r) : bck 1 (mi r) = mi r := by
  have s : Sim ((mi r).adj.cj 1) (mirR r) := ((mi_sim d).adj.cj 1).trans (by rw [mirR_back]; exact (Sim.smr _ (by decide)).symm)
  exact nrm_eq (mirR_dt d) s
theorem aft_mi {r : R4} (d : 0 < dsc r) : aft 1 (mi r) (mi r) = M4.one := by
  have := aft_bck (f := 1) (mi_dt d)
  rw [bck_mi d] at this
  exact this
theorem lt_mi {r : R4} {t : T3} (d : 0 < dsc r) (T : Pt t) : lt 1 (mi r) t = lt 1 (mirR r) t := lt_sim (mi_sim d) (mirR_dt d) T
/-- the mirror image of a row -/
def mrR (r s : R4) : R4 := mxR (dsc r) s (-2 * prR r s) r
theorem rlb_mir (r s : R4) : rlb 1 (mirR r) s = mrR r s := by
  refine Prod.ext ?_ (Prod.ext ?_ (Prod.ext ?_ ?_))
  all_goals simp only [rlb, vO, sO, mirR, mir, mrR, mxR, dsc, prR, if_pos]
  all_goals grind
theorem mrR_pos {r s : R4} (d : 0 < dsc r) (e : 0 < dsc s) : 0 < dsc (mrR r s) := by rw [← rlb_mir]; exact dsc_rlbp (mirR_dt d) e
theorem ldr_mi {r s : R4} (d : 0 < dsc r) (e : 0 < dsc s) : ldr 1 (mi r) s = nf (mrR r s) := by
  unfold ldr
  rw [bck_mi d, rlb_sim (mi_sim d) (mirR_dt d) e, rlb_mir]
theorem ldr_mi_self {n : Nat} {r : R4} (R : Rd n r) : ldr 1 (mi r) r = r := by
  rw [ldr_mi R.pos R.pos]
  have e : mrR r r = smR (-dsc r) r := by
    refine Prod.ext ?_ (Prod.ext ?_ (Prod.ext ?_ ?_))
    all_goals simp only [mrR, mxR, smR, dsc_pr]
    all_goals grind
  rw [e, nf_sm (by have := R.pos; omega) R.pos, nf_self R]
theorem mi_sm {c : Int} (hc : c ≠ 0) {r : R4} (d : 0 < dsc r) : mi (smR c r) = mi r := by
  have e : mirR (smR c r) = (mirR r).sm (c, 0) := by
    refine m4_ext ?_ ?_ ?_ ?_ <;> refine Prod.ext ?_ ?_
    all_goals simp only [mirR, mir, M4.sm, smR, gmul]
    all_goals grind
  exact nrm_eq (mirR_dt d) (by rw [e]; exact (Sim.smr _ (fun z => hc (congrArg Prod.fst z))).symm)
theorem mi_nf {r : R4} (d : 0 < dsc r) : mi (nf r) = mi r := by
  obtain ⟨g, hg, e⟩ := nf_sc d
  have p := nf_pos d
  generalize nf r = s at *
  rw [← e, mi_sm hg p]
theorem conj0 (A : M4) (r : R4) : A.mul (((mirR r).mul ((A.adj.cj 0).cj 1)).cj 0) = mirR (rlb 0 (A.adj.cj 0) r) := by
  obtain ⟨⟨a1, a2⟩, ⟨b1, b2⟩, ⟨c1, c2⟩, ⟨d1, d2⟩⟩ := A
  refine m4_ext ?_ ?_ ?_ ?_ <;> refine Prod.ext ?_ ?_
  all_goals simp only [mirR, mir, M4.adj, M4.cj, M4.mul, cj, gmul, gadd, gj, rlb, vO, sO, if_pos, if_neg (show ¬(0 : Int) = 1 by decide)]
  all_goals (try simp only [← gn_r, gn, gj])
  all_goals grind
theorem conj1 (A : M4) (r : R4) : A.mul (((mirR r).mul ((A.adj.cj 1).cj 1)).cj 1) = mirR (rlb 1 (A.adj.cj 1) r) := by
  obtain ⟨⟨a1, a2⟩, ⟨b1, b2⟩, ⟨c1, c2⟩, ⟨d1, d2⟩⟩ := A
  refine m4_ext ?_ ?_ ?_ ?_ <;> refine Prod.ext ?_ ?_
  all_goals simp only [mirR, mir, M4.adj, M4.cj, M4.mul, cj, gmul, gadd, gj, rlb, vO, sO, if_pos]
  all_goals (try simp only [← gn_r, gn, gj])
  all_goals grind
/-- a map after a mirror after its back is the mirror in the round to which it leads -/
theorem mi_led {f : Int} {A : M4} {r : R4} (hf : f = 0 ∨ f = 1) (hA : A.dt ≠ 0) (d : 0 < dsc r) : aft f A (aft 1 (mi r) (bck f A)) = mi (ldr f A r) := by
  have hB : (A.adj.cj f).dt ≠ 0 := dtAdj hA
  have e1 : Sim (bck f A) (A.adj.cj f) := nrm_sim hB
  have e2 : Sim (aft 1 (mi r) (bck f A)) ((mirR r).mul ((A.adj.cj f).cj 1)) := (nrm_sim (dtMul (mi_dt d) (bck_dt hA))).trans ((mi_sim d).mul (e1.cj 1))
  have e3 : Sim (A.mul ((aft 1 (mi r) (bck f A)).cj f)) (mirR (rlb f (A.adj.cj f) r)) := by
    have := (Sim.refl A).mul (e2.cj f)
    rcases hf with rfl | rfl
    · rw [conj0] at this; exact this
    · rw [conj1] at this; exact this
  have p := dsc_rlbp (f := f) hB d
  have e4 : aft f A (aft 1 (mi r) (bck f A)) = mi (rlb f (A.adj.cj f) r) := nrm_eq (mirR_dt p) e3
  rw [e4, ← mi_nf p]
  unfold ldr
  rw [rlb_sim e1 hB d]
/-! two mirrors -/
def mm (r s : R4) : M4 := (mirR r).mul ((mirR s).cj 1)
theorem mm_dt {r s : R4} (d : 0 < dsc r) (e : 0 < dsc s) : (mm r s).dt ≠ 0 := dtMul (mirR_dt d) (mirR_dt e)
theorem aft_mm {r s : R4} (d : 0 < dsc r) (e : 0 < dsc s) : aft 1 (mi r) (mi s) = nrm (mm r s) := nrm_eq (mm_dt d e) ((mi_sim d).mul ((mi_sim e).cj 1))
theorem mm_adj (r s : R4) : mm s r = (mm r s).adj := by
  refine m4_ext ?_ ?_ ?_ ?_ <;> refine Prod.ext ?_ ?_
  all_goals simp only [mm, mirR, mir, M4.adj, M4.cj, M4.mul, cj, gmul, gadd, gj, if_pos]
  all_goals (try simp only [← gn_r, gn])
  all_goals grind
theorem mm_a (r s : R4) : (mm r s).a = (r.2.1 * s.2.1 + r.2.2.1 * s.2.2.1 - 4 * (r.2.2.2 * s.1), r.2.2.1 * s.2.1 - r.2.1 * s.2.2.1) := by
  refine Prod.ext ?_ ?_
  all_goals simp only [mm, mirR, mir, M4.cj, M4.mul, cj, gmul, gadd, gj, if_pos]
  all_goals grind
theorem mm_d (r s : R4) : (mm r s).d = (r.2.1 * s.2.1 + r.2.2.1 * s.2.2.1 - 4 * (r.1 * s.2.2.2), r.2.1 * s.2.2.1 - r.2.2.1 * s.2.1) := by
  refine Prod.ext ?_ ?_
  all_goals simp only [mm, mirR, mir, M4.cj, M4.mul, cj, gmul, gadd, gj, if_pos]
  all_goals grind
theorem mm_b (r s : R4) : (mm r s).b = (2 * (r.2.1 * s.2.2.2 - r.2.2.2 * s.2.1), 2 * (r.2.2.1 * s.2.2.2 - r.2.2.2 * s.2.2.1)) := by
  refine Prod.ext ?_ ?_
  all_goals simp only [mm, mirR, mir, M4.cj, M4.mul, cj, gmul, gadd, gj, if_pos]
  all_goals grind
theorem mm_c (r s : R4) : (mm r s).c = (2 * (r.2.1 * s.1 - r.1 * s.2.1), 2 * (r.1 * s.2.2.1 - r.2.2.1 * s.1)) := by
  refine Prod.ext ?_ ?_
  all_goals simp only [mm, mirR, mir, M4.cj, M4.mul, cj, gmul, gadd, gj, if_pos]
  all_goals grind
theorem gsum0 {g h a : G} (n : g * a = h * a) (m : a ≠ 0) : g = h := gmc m (by rw [show a * g = g * a by grind, n]; grind)
/-- two mirrors go in any order just if the rounds are upright or the same -/
theorem mi_swap {n m : Nat} {r s : R4} (R : Rd n r) (S : Rd m s) : aft 1 (mi r) (mi s) = aft 1 (mi s) (mi r) ↔ (r = s ∨ prR r s = 0) := by
  have D := mm_dt R.pos S.pos
  rw [aft_mm R.pos S.pos, aft_mm S.pos R.pos, mm_adj r s]
  constructor
  · intro e
    have D' : (mm r s).adj.dt ≠ 0 := by rw [dt_adj]; exact D
    have si : Sim (mm r s) (mm r s).adj := (nrm_sim D).symm.trans (by rw [e]; exact nrm_sim D')
    have ta : ((mm r s).a + (mm r s).d) = (2 * prR r s, 0) := by
      rw [mm_a, mm_d, gadd]
      refine Prod.ext ?_ ?_
      · simp only [prR]; grind
      · grind
    have eb := mm_b r s
    have ec := mm_c r s
    have ea := mm_a r s
    have ed := mm_d r s
    have D2 : (mm r s).a * (mm r s).d - (mm r s).b * (mm r s).c ≠ 0 := D
    obtain ⟨g, h, hg, hh, q⟩ := si
    have q1 : g * (mm r s).a = h * (mm r s).d := congrArg M4.a q
    have q2 : g * (mm r s).b = h * -(mm r s).b := congrArg M4.b q
    have q3 : g * (mm r s).c = h * -(mm r s).c := congrArg M4.c q
    have q4 : g * (mm r s).d = h * (mm r s).a := congrArg M4.d q
    generalize mm r s = M at *
    have opp : g = -h → prR r s = 0 := fun z => by
      have : h * (M.a + M.d) = 0 := by rw [z] at q1; grind
      have t0 := gz this hh
      rw [ta] at t0
      have := congrArg Prod.fst t0
      have : 2 * prR r s = 0 := this
      omega
    by_cases zb : M.b = 0
    · by_cases zc : M.c = 0
      · rw [zb, zc] at D2
        have aa : M.a ≠ 0 := fun z => D2 (by rw [z]; grind)
        have dd : M.d ≠ 0 := fun z => D2 (by rw [z]; grind)
        have sq : (g - h) * (g + h) = 0 := by
          have : (g * g) * (M.a * M.d) = (h * h) * (M.a * M.d) := by grind
          have := gsum0 this (gnz aa dd)
          grind
        by_cases z : g - h = 0
        · left
          have gh : g = h := by grind
          rw [gh] at q1
          have ad := gmc hh q1
          rw [ea, ed] at ad
          have a1 : r.2.1 * s.2.1 + r.2.2.1 * s.2.2.1 - 4 * (r.2.2.2 * s.1) = r.2.1 * s.2.1 + r.2.2.1 * s.2.2.1 - 4 * (r.1 * s.2.2.2) := congrArg Prod.fst ad
          have a2 : r.2.2.1 * s.2.1 - r.2.1 * s.2.2.1 = r.2.1 * s.2.2.1 - r.2.2.1 * s.2.1 := congrArg Prod.snd ad
          rw [eb] at zb
          rw [ec] at zc
          have b1 : 2 * (r.2.1 * s.2.2.2 - r.2.2.2 * s.2.1) = 0 := congrArg Prod.fst zb
          have b2 : 2 * (r.2.2.1 * s.2.2.2 - r.2.2.2 * s.2.2.1) = 0 := congrArg Prod.snd zb
          have c1 : 2 * (r.2.1 * s.1 - r.1 * s.2.1) = 0 := congrArg Prod.fst zc
          have c2 : 2 * (r.1 * s.2.2.1 - r.2.2.1 * s.1) = 0 := congrArg Prod.snd zc
          have f := fmR_prop R.pos S.pos (by omega) (by omega) (by omega) (by omega) (by omega) (by omega)
          have := nf_of f
          rw [nf_self R, nf_self S] at this
          exact this
        · exact .inr (opp (by have := gz sq z; grind))
      · exact .inr (opp (gsum0 (by rw [q3]; grind) zc))
    · exact .inr (opp (gsum0 (by rw [q2]; grind) zb))
  · rintro (e | e)
    · subst e
      rw [← mm_adj]
    · refine nrm_eq (by rw [dt_adj]; exact D) ?_
      have : (mm r s).adj = (mm r s).sm (-1) := by
        have ta : (mm r s).d = -(mm r s).a := by
          rw [mm_a, mm_d, ← gn_r]
          refine Prod.ext ?_ ?_
          · simp only [gn]; unfold prR at e; grind
          · simp only [gn]; grind
        refine m4_ext ?_ ?_ ?_ ?_
        · show (mm r s).d = -1 * (mm r s).a
          rw [ta]; grind
        · show -(mm r s).b = -1 * (mm r s).b
          grind
        · show -(mm r s).c = -1 * (mm r s).c
          grind
        · show (mm r s).a = -1 * (mm r s).d
          rw [ta]; grind
      rw [this]
      exact Sim.smr _ (by decide)
instance : DecidableEq M4 := fun A B => decidable_of_iff (A.a = B.a ∧ A.b = B.b ∧ A.c = B.c ∧ A.d = B.d) ⟨fun h => m4_ext h.1 h.2.1 h.2.2.1 h.2.2.2, fun h => by subst h; exact ⟨rfl, rfl, rfl, rfl⟩⟩
theorem eqv_M (f i : Int) (A B : M4) : PyData.eqv (mp4 f A) (mp4 i B) = (decide (f = i) && decide (A = B)) := by
  obtain ⟨⟨a1, a2⟩, ⟨b1, b2⟩, ⟨c1, c2⟩, ⟨d1, d2⟩⟩ := A
  obtain ⟨⟨x1, x2⟩, ⟨y1, y2⟩, ⟨z1, z2⟩, ⟨w1, w2⟩⟩ := B
  have e : decide ((⟨(a1, a2), (b1, b2), (c1, c2), (d1, d2)⟩ : M4) = ⟨(x1, x2), (y1, y2), (z1, z2), (w1, w2)⟩) = ((decide (a1 = x1) && decide (a2 = x2)) && ((decide (b1 = y1) && decide (b2 = y2)) && ((decide (c1 = z1) && decide (c2 = z2)) && (decide (d1 = w1) && decide (d2 = w2))))) := by
    rw [← Bool.decide_and, ← Bool.decide_and, ← Bool.decide_and, ← Bool.decide_and, ← Bool.decide_and, ← Bool.decide_and, ← Bool.decide_and]
    apply decide_eq_decide.mpr
    simp only [M4.mk.injEq, Prod.mk.injEq]
  rw [e]
  simp [PyData.eqv, PyData.eqvAll]
  rfl
/-! sizes, more closely -/
theorem m1_sz2 {n m : Nat} {a b e g : G} (a1 : Sz n a.1) (a2 : Sz n a.2) (b1 : Sz n b.1) (b2 : Sz n b.2) (e1 : Sz m e.1) (e2 : Sz m e.2) (g1 : Sz m g.1) (g2 : Sz m g.2) : Sz (n + m + 2) (a * e + b * g).1 ∧ Sz (n + m + 2) (a * e + b * g).2 :=
  ⟨szUp (inferInstance : Sz _ ((a.1 * e.1 - a.2 * e.2) + (b.1 * g.1 - b.2 * g.2))) (by omega), szUp (inferInstance : Sz _ ((a.1 * e.2 + a.2 * e.1) + (b.1 * g.2 + b.2 * g.1))) (by omega)⟩
theorem mul_sz2 {n m : Nat} {A B : M4} (s : S44 n A) (t : S44 m B) : S44 (n + m + 2) (A.mul B) := by
  obtain ⟨a1, a2, b1, b2, c1, c2, d1, d2⟩ := s
  obtain ⟨e1, e2, f1, f2, g1, g2, h1, h2⟩ := t
  have p := m1_sz2 a1 a2 b1 b2 e1 e2 g1 g2
  have q := m1_sz2 a1 a2 b1 b2 f1 f2 h1 h2
  have r := m1_sz2 c1 c2 d1 d2 e1 e2 g1 g2
  have s := m1_sz2 c1 c2 d1 d2 f1 f2 h1 h2
  exact ⟨p.1, p.2, q.1, q.2, r.1, r.2, s.1, s.2⟩
theorem aft_fm2 {f : Int} {n m : Nat} {A B : M4} (F : Fm4 n A) (F' : Fm4 m B) : Fm4 (n + m + 3) (aft f A B) := nrm_fm (mul_sz2 F.sz (F'.sz.cj (f := f))) (dtMul F.dt F'.dt)
theorem pf_sz {n m : Nat} {t : T3} (s : S3 n t) (h : 2 * n + 1 ≤ m) : Sz m (pf0 t) ∧ Sz m (pf1 t) ∧ Sz m (pf2 t) ∧ Sz m (pf3 t) := by
  obtain ⟨s1, s2, s3⟩ := s
  exact ⟨szUp (inferInstance : Sz _ (t.1 * t.1 + t.2.1 * t.2.1)) (by omega), szUp (inferInstance : Sz _ (t.1 * t.2.2)) (by omega), szUp (inferInstance : Sz _ (t.2.1 * t.2.2)) (by omega), szUp (inferInstance : Sz _ (t.2.2 * t.2.2)) (by omega)⟩
theorem dt_sz3 {a b c : Nat} {A B C D E F G H I : Int} (_ : Sz a A) (_ : Sz a B) (_ : Sz a C) (_ : Sz b D) (_ : Sz b E) (_ : Sz b F) (_ : Sz c G) (_ : Sz c H) (_ : Sz c I) : Sz (a + b + c + 3) (dt3 A B C D E F G H I) :=
  szUp (inferInstance : Sz _ (A * (E * I - F * H) + B * (F * G - D * I) + C * (D * H - E * G))) (by omega)
theorem thr_sr3 {n1 n2 n3 : Nat} {a b c : T3} (s1 : S3 n1 a) (s2 : S3 n2 b) (s3 : S3 n3 c) : SR (2 * (n1 + n2 + n3) + 6) (thrR a b c) := by
  obtain ⟨a0, a1, a2, a3⟩ := pf_sz s1 (Nat.le_refl _)
  obtain ⟨b0, b1, b2, b3⟩ := pf_sz s2 (Nat.le_refl _)
  obtain ⟨c0, c1, c2, c3⟩ := pf_sz s3 (Nat.le_refl _)
  exact ⟨szUp (dt_sz3 a1 a2 a3 b1 b2 b3 c1 c2 c3) (by omega), ngS (szUp (dt_sz3 a0 a2 a3 b0 b2 b3 c0 c2 c3) (by omega)), szUp (dt_sz3 a0 a1 a3 b0 b1 b3 c0 c1 c3) (by omega), ngS (szUp (dt_sz3 a0 a1 a2 b0 b1 b2 c0 c1 c2) (by omega))⟩
theorem eqv_bool (a b : Bool) : PyData.eqv (.bool a) (.bool b) = decide (a = b) := by
  simp only [PyData.eqv]
  cases a <;> cases b <;> rfl
/-! a reading that nobody unfolds -/
noncomputable def hid (w : Ws) : Ws := Classical.choose (⟨w, rfl⟩ : ∃ q, q = w)
theorem hid_eq (w : Ws) : hid w = w := Classical.choose_spec (⟨w, rfl⟩ : ∃ q, q = w)
theorem hid_of {w : Ws} {E : Ed} {ev : Ev} (h : w E ev) : hid w E ev := by rw [hid_eq]; exact h
theorem foD_m {α : Type} {d : α → PyData} {g : Wg} {b : Ws} {E : Ed} {ps : List α} {ds : List PyData} {ev : Ev} (I : Ev → Prop) (hds : ds = ps.map d) (step : ∀ t ∈ ps, ∀ (ev : Ev) (E' : Ed), I ev → (∀ ev', I ev' → E'.nx ev') → g (d t) ev fun e => b E' e) (i : I ev) (fin : ∀ ev, I ev → E.nx ev) : foD g b ds E ev := by
  subst hds
  refine foD_inv I (fun v hv ev E' iv nx _ _ _ _ => ?_) i fin
  obtain ⟨t, m, rfl⟩ := List.mem_map.mp hv
  exact step t m ev E' iv nx
end Z

set_option Elab.async false
set_option linter.all false
set_option maxRecDepth 100000
namespace Z
open PySem L2
/-! ## 45. three names at once, the last an own list that is handed back -/
section
variable {X : Cx} {c : Cf} {k kg n : Nat} {x : Str} {ps : List Str} {p pos : Pos} {e : Expr} {es : List Expr} {u : Wa}
theorem Ok.take3 {K : PySem.W.Frag} {M : Mz} {σ : Sg} {H1 H' : Hp} {ev : Ev} {pd : List (V × PyData)} {v w : V} {d d2 : PyData} (k1 : Ok K c M σ H1 ev ((w, d2) :: (v, d) :: pd)) {i j l t : Nat} {a p : Addr} {ts ts' es : List PyData} {us' zs : List V} (e1 : ev[t]? = some (some (.own ts))) (a1 : σ[t]? = some (some (.ref a)))
    (g0 : H1 p = none) (g1 : ∀ b o, H1 b = some o → b ≠ a → H' b = some o) (g2 : H' a = some (.lst us')) (g3 : DzAll K (msk M H') us' ts') (g4 : H' p = some (.lst zs)) (g5 : DzAll K (msk M H') zs es) (nt : noLsts ts' = true) (ne : noLsts es = true)
    (n1 : notOwn (ev.set t (some (.own ts'))) i) (n2 : notOwn ((ev.set t (some (.own ts'))).set i (some (.val d))) j) (n3 : notOwn (((ev.set t (some (.own ts'))).set i (some (.val d))).set j (some (.val d2))) l) :
    Ok K c (stM M p (1, none)) (((σ.set i (some v)).set j (some w)).set l (some (.ref p))) H' ((((ev.set t (some (.own ts'))).set i (some (.val d))).set j (some (.val d2))).set l (some (.own es))) pd := by
  have hmp : (M p).1 = 0 := k1.free g0
  obtain ⟨a', vs, y1, y2, y3, y4, y5⟩ := k1.own t ts e1
  obtain rfl : a' = a := by rw [a1] at y1; cases y1; rfl
  have nap : a' ≠ p := ne_of_none y4 g0
  let Hm : Hp := fun b => if b = p then none else H' b
  have hm_off : ∀ {b : Addr}, b ≠ p → Hm b = H' b := fun n => if_neg n
  have hm_at : Hm p = none := if_pos rfl
  have vp : msk M H' p = some (.lst zs) := msk_of g4 hmp
  have off : ∀ b o, msk M H' b = some o → b ≠ p → msk M Hm b = some o := fun b o q n => by
    obtain ⟨q1, q2⟩ := msk_ok q
    exact msk_of (by rw [hm_off n]; exact q1) q2
  have w0 := k1.write e1 a1 (H' := Hm) (us := us') (es := ts') (fun b o q n => by rw [hm_off (ne_of_none q g0)]; exact g1 b o q n) (by rw [hm_off nap]; exact g2) (g3.off vp off nt)
  have w1 := w0.set n1 w0.pop1.top
  have w2 := w1.set n2 w1.top
  have r := (w2.pop1.pop1).ownNew (i := l) (p := p) (vs := zs) (ds := es) n3 hm_at (g5.off vp off ne)
  have eH : upd Hm p (.lst zs) = H' := by
    funext b
    by_cases z : b = p
    · rw [z, upd_same, g4]
    · rw [upd_ne z, hm_off z]
  rw [eH] at r
  exact r
/-- a, b, x = e1, e2, f(t, ..), x an own list from now on -/
def wPar3U (i j l t n : Nat) (w1 w2 : Wx) (C : Cu) (u : Wa) : Ws := fun E ev => w1 ev fun d e => w2 e fun d2 e => match e[t]? with
  | some (some (.own _)) => u e fun ds e2 => match e2[t]? with
    | some (some (.own ts)) => ds.length + 1 = n ∧ C ts ds fun es ts' => noLsts es = true ∧ noLsts ts' = true ∧ notOwn (e2.set t (some (.own ts'))) i ∧ notOwn ((e2.set t (some (.own ts'))).set i (some (.val d))) j ∧ notOwn (((e2.set t (some (.own ts'))).set i (some (.val d))).set j (some (.val d2))) l ∧ E.nx ((((e2.set t (some (.own ts'))).set i (some (.val d))).set j (some (.val d2))).set l (some (.own es)))
    | _ => False
  | _ => False
theorem ds_par3U {i j l t : Nat} {y z q : Str} {a b : Expr} {w1 w2 : Wx} {C : Cu} {py pz pq pt p2 : Pos} {kt k2 pt2} (F : Cl X.prog X.w X.K X.mg X.base kg x ps (spU X.K n C)) (hk : kg ≤ k) (hr : Room k X.A) (hG : X.A.guards = some []) (hg : Gl X x) (hc : X.calm = true) (hN : X.N.Nodup) (hi : X.N[i]? = some y) (hj : X.N[j]? = some z) (hl : X.N[l]? = some q) (hij : i ≠ j) (hil : i ≠ l) (hjl : j ≠ l)
    (hy : X.env.scope.names.lookup y = some .local) (hz : X.env.scope.names.lookup z = some .local) (hq : X.env.scope.names.lookup q = some .local) (ha : DE X c a w1) (hb : DE X c b w2) (ho : PE X e (tVar t)) (hu : DA X c es u)
    (hw : swappedStores [.Tuple [.Name y py, .Name z pz, .Name q pq] kt pt] (.Tuple [a, b, .Call (.Name x p) (e :: es) [] p2] k2 pt2) X.env = pure (some [y, z, q]))
    (g1 : starEach [a, b, .Call (.Name x p) (e :: es) [] p2] X.env = (false, eval a X.env) :: starEach [b, .Call (.Name x p) (e :: es) [] p2] X.env := by rfl)
    (g2 : starEach [b, .Call (.Name x p) (e :: es) [] p2] X.env = (false, eval b X.env) :: starEach [.Call (.Name x p) (e :: es) [] p2] X.env := by rfl)
    (g3 : starEach [.Call (.Name x p) (e :: es) [] p2] X.env = (false, eval (.Call (.Name x p) (e :: es) [] p2) X.env) :: starEach [] X.env := by rfl)
    (h2 : (x == ("__debug__" : Str)) = false := by decide) (h3 : starEach (e :: es) X.env = (false, eval e X.env) :: starEach es X.env := by rfl) (h4 : (backTo p2 (starEach es X.env)).any (·.1) = false := by rfl)
    (hs : swapsWithSole [.Tuple [.Name y py, .Name z pz, .Name q pq] kt pt] (.Tuple [a, b, .Call (.Name x p) (e :: es) [] p2] k2 pt2) pos.line X.env = pure false := by rfl) :
    DS X c (.Assign [.Tuple [.Name y py, .Name z pz, .Name q pq] kt pt] (.Tuple [a, b, .Call (.Name x p) (e :: es) [] p2] k2 pt2) pos) (wPar3U i j l t n w1 w2 C u) :=
  psM (ps_par3 hc hN hi hj hl hij hil hjl hy hz hq (pa_cons ha (pa_cons hb (pa_cons (pe_cG F hk hr hG hg (pa_cons ho hu h3) h2 h3 h4) pa_nil g3) g2) g1) hw hs) fun De σ H ⟨M, ev, pd, R, k, h, f⟩ =>
    ⟨M, ev, pd, _, k, h, fun d e q v H1 k1 => ⟨M, e, _, _, k1, q, fun d2 e q v2 H1 k1 => by
      split at q
      · rename_i ts0 e0
        obtain ⟨a, us, a1, a2, a3, a4⟩ := k1.slotV e0
        refine ⟨.ref a, a1, M, e, _, _, k1, q, fun ds e2 h vs H2 k2 r => ?_⟩
        split at h
        · rename_i ts e1
          obtain ⟨l, h⟩ := h
          obtain ⟨a', us', b1, b2, b3, b4⟩ := k2.slotV e1
          obtain rfl : a = a' := by rw [a1] at b1; cases b1; rfl
          exact ⟨M, a, vs, us', ts, ds, _, rfl, by rw [List.length_cons, r.len, l], k2.mkOk, b3, b2, b4, r, h, fun es ts' ⟨m1, m2, m3, m4, m5, hd⟩ p zs H' us2 g0 g1 g2 g3 g4 g5 => ⟨v, v2, .ref p, rfl, f.nx _ hd _ _ _ (k2.take3 e1 a1 g0 g1 g2 g3 g4 g5 m2 m1 m3 m4 m5)⟩⟩
        · exact h.elim
      · exact q.elim⟩⟩
end
end Z

set_option autoImplicit false
set_option linter.all false
namespace Z
open PySem L2
/-! ## 46. mirror images -/
theorem mirR_inv {r : R4} {t : T3} (d : 0 < dsc r) (T : Pt t) : lt 1 (mirR r) (lt 1 (mirR r) t) = t :=
  lt_back (mirR_dt d) (by rw [mirR_back]; exact Sim.smr _ (fun z => absurd (congrArg Prod.fst z) (by decide))) T
/-- the place's own cross with its image's numbers -/
theorem mir_app (r : R4) (t : T3) : (mirR r).app ((vt t).cj 1) = ⟨(-r.2.1 * t.1 - r.2.2.1 * t.2.1 - 2 * r.2.2.2 * t.2.2, r.2.1 * t.2.1 - r.2.2.1 * t.1), (2 * r.1 * t.1 + r.2.1 * t.2.2, -(2 * r.1 * t.2.1 + r.2.2.1 * t.2.2))⟩ := by
  have f : ∀ {a b : V2}, a.x = b.x → a.y = b.y → a = b := fun {a b} h1 h2 => by cases a; cases b; cases h1; cases h2; rfl
  refine f (Prod.ext ?_ ?_) (Prod.ext ?_ ?_)
  all_goals simp only [mirR, mir, M4.app, V2.cj, vt, cj, gj, gmul, gadd, if_pos]
  all_goals grind
/-- an image by the middle: the two differences and the square of the radius -/
theorem mir_core {r : R4} {t u : T3} (d : 0 < dsc r) (T : Pt t) (e : lt 1 (mirR r) t = u) :
    (2 * r.1 * t.1 + r.2.1 * t.2.2) * (2 * r.1 * u.1 + r.2.1 * u.2.2) + (2 * r.1 * t.2.1 + r.2.2.1 * t.2.2) * (2 * r.1 * u.2.1 + r.2.2.1 * u.2.2) = dsc r * (t.2.2 * u.2.2) ∧
    (2 * r.1 * t.1 + r.2.1 * t.2.2) * (2 * r.1 * u.2.1 + r.2.2.1 * u.2.2) - (2 * r.1 * t.2.1 + r.2.2.1 * t.2.2) * (2 * r.1 * u.1 + r.2.1 * u.2.2) = 0 ∧
    t.2.2 * (u.1 * r.2.1 + u.2.1 * r.2.2.1) + 2 * r.1 * (u.1 * t.1 + u.2.1 * t.2.1) = u.2.2 * (-r.2.1 * t.1 - r.2.2.1 * t.2.1 - 2 * r.2.2.2 * t.2.2) ∧
    t.2.2 * (u.2.1 * r.2.1 - u.1 * r.2.2.1) + 2 * r.1 * (u.2.1 * t.1 - u.1 * t.2.1) = u.2.2 * (r.2.1 * t.2.1 - r.2.2.1 * t.1) := by
  have c := lt_cr (f := 1) (mirR_dt d) T
  rw [e, mir_app] at c
  have c1 := congrArg Prod.fst c
  have c2 := congrArg Prod.snd c
  have c1 : (u.1 * (2 * r.1 * t.1 + r.2.1 * t.2.2) - u.2.1 * -(2 * r.1 * t.2.1 + r.2.2.1 * t.2.2)) - (u.2.2 * (-r.2.1 * t.1 - r.2.2.1 * t.2.1 - 2 * r.2.2.2 * t.2.2) - 0 * (r.2.1 * t.2.1 - r.2.2.1 * t.1)) = 0 := c1
  have c2 : (u.1 * -(2 * r.1 * t.2.1 + r.2.2.1 * t.2.2) + u.2.1 * (2 * r.1 * t.1 + r.2.1 * t.2.2)) - (u.2.2 * (r.2.1 * t.2.1 - r.2.2.1 * t.1) + 0 * (-r.2.1 * t.1 - r.2.2.1 * t.2.1 - 2 * r.2.2.2 * t.2.2)) = 0 := c2
  clear c e T
  obtain ⟨q, l, m, k⟩ := r
  obtain ⟨p, s, w⟩ := t
  obtain ⟨x, y, v⟩ := u
  simp only [dsc] at *
  refine ⟨?_, ?_, ?_, ?_⟩
  · grind
  · grind
  · grind
  · grind
/-- just the places of the round stay -/
theorem mir_stay {r : R4} {t : T3} (d : 0 < dsc r) (T : Pt t) : lt 1 (mirR r) t = t ↔ vl r.1 r.2.1 r.2.2.1 r.2.2.2 t = 0 := by
  constructor
  · intro e
    obtain ⟨_, _, c, _⟩ := mir_core d T e
    simp only [vl]
    grind
  · intro h
    exact mir_lt d T h
theorem mir_far {r : R4} : lt 1 (mirR r) (1, 0, 0) = mdl r := by
  unfold lt mdl
  have e1 : ga (gm (mirR r).a (cj 1 (1, 0))) ((mirR r).b.1 * 0, (mirR r).b.2 * 0) = (-r.2.1, -r.2.2.1) := by
    simp only [mirR, mir, cj, gj, gm, ga, if_pos]
    refine Prod.ext ?_ ?_ <;> grind
  have e2 : ga (gm (mirR r).c (cj 1 (1, 0))) ((mirR r).d.1 * 0, (mirR r).d.2 * 0) = (2 * r.1, 0) := by
    simp only [mirR, mir, cj, gj, gm, ga, if_pos]
    refine Prod.ext ?_ ?_ <;> grind
  show qt (ga (gm (mirR r).a (cj 1 (1, 0))) ((mirR r).b.1 * 0, (mirR r).b.2 * 0)) (ga (gm (mirR r).c (cj 1 (1, 0))) ((mirR r).d.1 * 0, (mirR r).d.2 * 0)) = _
  rw [e1, e2]
theorem mir_mid {r : R4} (d : 0 < dsc r) : lt 1 (mirR r) (mdl r) = (1, 0, 0) := by rw [← mir_far, mirR_inv d Pt.far]
theorem mir_inj {r : R4} {t u : T3} (d : 0 < dsc r) (T : Pt t) (U : Pt u) (e : lt 1 (mirR r) t = lt 1 (mirR r) u) : t = u := lt_inj (mirR_dt d) T U e
theorem mir_pt {r : R4} {t : T3} (d : 0 < dsc r) (T : Pt t) : Pt (lt 1 (mirR r) t) := lt_pt (mirR_dt d) T
theorem Pt.pos {t : T3} (T : Pt t) (n : t ≠ (1, 0, 0)) : 0 < t.2.2 := by
  rcases T with z | ⟨p, _⟩
  · exact absurd z n
  · exact p
/-- images of rounds -/
theorem mr_back {n m : Nat} {r s : R4} (R : Rd n r) (S : Rd m s) : nf (mrR r (nf (mrR r s))) = s := by
  rw [← ldr_mi R.pos S.pos, ← ldr_mi R.pos (ldr_pos (mi_dt R.pos) S.pos)]
  have := ldr_back (f := 1) (.inr rfl) (mi_dt R.pos) S
  rw [bck_mi R.pos] at this
  exact this
theorem mr_at {r s : R4} {t : T3} (d : 0 < dsc r) (d' : 0 < dsc s) (T : Pt t) (h : vR s (vt t) = 0) : vR (nf (mrR r s)) (vt (lt 1 (mirR r) t)) = 0 := by
  rw [← ldr_mi d d', ← lt_mi d T]
  exact (ldr_lt (mi_dt d) d' T).mpr h
theorem mr_same {n m : Nat} {r s : R4} (R : Rd n r) (S : Rd m s) : nf (mrR r s) = s ↔ (s = r ∨ prR r s = 0) := by
  constructor
  · intro e
    obtain ⟨g, hg, h⟩ := nf_sc (mrR_pos R.pos S.pos)
    rw [e] at h
    by_cases j : prR r s = 0
    · exact .inr j
    · left
      have f : ∀ {u v : Int}, g * v = dsc r * v + -2 * prR r s * u → (g - dsc r) * v = -2 * prR r s * u := fun {u v} k => by rw [Int.sub_mul]; omega
      have e2 : smR (g - dsc r) s = smR (-2 * prR r s) r := Prod.ext (f (congrArg (·.1) h)) (Prod.ext (f (congrArg (·.2.1) h)) (Prod.ext (f (congrArg (·.2.2.1) h)) (f (congrArg (·.2.2.2) h))))
      have n2 : -2 * prR r s ≠ 0 := by omega
      have n1 : g - dsc r ≠ 0 := fun z => by
        have d := congrArg dsc e2
        rw [dsc_sm, dsc_sm, z] at d
        have := Int.mul_eq_zero.mp (show -2 * prR r s * (-2 * prR r s) * dsc r = 0 by rw [← d]; omega)
        rcases this with a | a
        · exact (Int.mul_ne_zero n2 n2) a
        · have := R.pos; omega
      have q := congrArg nf e2
      rw [nf_sm n1 S.pos, nf_sm n2 R.pos, nf_self R, nf_self S] at q
      exact q
  · rintro (e | e)
    · subst e
      rw [← ldr_mi R.pos R.pos]
      exact ldr_mi_self R
    · have : mrR r s = smR (dsc r) s := by
        refine Prod.ext ?_ (Prod.ext ?_ (Prod.ext ?_ ?_))
        all_goals simp only [mrR, mxR, smR, e]
        all_goals omega
      rw [this, nf_sm (Int.ne_of_gt R.pos) S.pos, nf_self S]
theorem mr_cr {r s : R4} (d : 0 < dsc r) (d' : 0 < dsc s) : crL r (nf (mrR r s)) = crL r s := by
  obtain ⟨g, hg, h⟩ := nf_sc (mrR_pos d d')
  generalize nf (mrR r s) = x at *
  have j : g * prR r x = -(dsc r * prR r s) := by
    rw [← pr_smr, h]
    unfold mrR
    rw [pr_mx, dsc_pr]
    grind
  have e : g * g * dsc x = dsc r * dsc r * dsc s := by
    rw [← dsc_sm, h]
    unfold mrR
    rw [dsc_mx, pr_sym s r]
    grind
  have gg : 0 < g * g := by
    rcases Int.lt_or_gt_of_ne hg with q | q
    · exact Int.mul_pos_of_neg_of_neg q q
    · exact Int.mul_pos q q
  refine rd_of2 (g * g) (dsc r * dsc r) gg (Int.mul_pos d d) ?_ ?_ rfl
  · have : g * g * (prR r x * prR r x) = (g * prR r x) * (g * prR r x) := by grind
    rw [this, j]; grind
  · rw [dsc_pr, dsc_pr, dsc_pr]
    have : g * g * (dsc r * dsc x) = dsc r * (g * g * dsc x) := by grind
    rw [this, e]; grind
theorem prR_sz2 {n m : Nat} {r s : R4} (h : SR n r) (h' : SR m s) : Sz (n + m + 6) (prR r s) := by
  obtain ⟨_, _, _, _⟩ := h
  obtain ⟨_, _, _, _⟩ := h'
  have t2 : Sz 2 (2 : Int) := ⟨by decide⟩
  exact szUp (inferInstance : Sz _ (r.2.1 * s.2.1 + r.2.2.1 * s.2.2.1 - 2 * (r.1 * s.2.2.2 + s.1 * r.2.2.2))) (by omega)
theorem mrR_sz2 {n m : Nat} {r s : R4} (h : SR n r) (h' : SR m s) : SR (2 * n + m + 10) (mrR r s) := by
  have j1 : Sz (2 * n + 6) (dsc r) := by rw [← dsc_pr]; exact szUp (prR_sz2 h h) (by omega)
  have j2 := prR_sz2 h h'
  have t2 : Sz 2 (-2 : Int) := ⟨by decide⟩
  have j3 : Sz (n + m + 8) (-2 * prR r s) := szUp (inferInstance : Sz _ (-2 * prR r s)) (by omega)
  obtain ⟨_, _, _, _⟩ := h
  obtain ⟨_, _, _, _⟩ := h'
  exact ⟨szUp (inferInstance : Sz _ (dsc r * s.1 + -2 * prR r s * r.1)) (by omega), szUp (inferInstance : Sz _ (dsc r * s.2.1 + -2 * prR r s * r.2.1)) (by omega), szUp (inferInstance : Sz _ (dsc r * s.2.2.1 + -2 * prR r s * r.2.2.1)) (by omega), szUp (inferInstance : Sz _ (dsc r * s.2.2.2 + -2 * prR r s * r.2.2.2)) (by omega)⟩
theorem vl_szn {n m : Nat} {r : R4} {t : T3} (h : SR n r) (S : S3 m t) : Sz (n + 2 * m + 5) (vl r.1 r.2.1 r.2.2.1 r.2.2.2 t) := by
  obtain ⟨_, _, _, _⟩ := h
  obtain ⟨_, _, _⟩ := S
  exact szUp (inferInstance : Sz _ (r.1 * (t.1 * t.1 + t.2.1 * t.2.1) + (r.2.1 * t.1 + r.2.2.1 * t.2.1 + r.2.2.2 * t.2.2) * t.2.2)) (by omega)
end Z

set_option Elab.async false
set_option linter.all false
set_option maxRecDepth 100000
namespace Z
open PySem L2
/-! ## dict displays: {} and {'x': e} -/
section
variable {X : Cx} {c : Cf} {pos : Pos}
def dDct0 : Wx := fun ev Q => Q (.dict []) ev
theorem de_dct0 : DE X c (.Dict [] [] pos) dDct0 := peM pe_dnewK fun σ H Q ⟨M, ev, pd, R, k, w, q⟩ => fun p hp => q _ ev w _ _ ((k.new hp).push (.dct0 (msk_of upd_same (k.free hp))))
/-- a hidden object is let go -/
theorem Ok.letgo {K : PySem.W.Frag} {M : Mz} {σ : Sg} {H : Hp} {ev : Ev} {pd : List (V × PyData)} (k : Ok K c M σ H ev pd) {D : Addr} {o : HO} (h : (M D).1 = 2) (h0 : c.H0 D = none) (hl : H D = some o) :
    Ok K c (stM M D (0, none)) σ H ev pd ∧ ∀ b u, msk M H b = some u → msk (stM M D (0, none)) H b = some u := by
  have hm : ∀ b u, msk M H b = some u → msk (stM M D (0, none)) H b = some u := msk_less fun a e z => e (by
    by_cases y : a = D
    · rw [y, stM_at]
    · rw [stM_off y]; exact z)
  refine ⟨⟨k.len, fun i d e => ?_, fun i ds e => ?_, k.inj, fun p hp => (k.pend p hp).up hm, k.frame, fun a e => ?_, fun a e => ?_, k.mkd, fun b u e => ?_, k.tank⟩, hm⟩
  · obtain ⟨v, a, b⟩ := k.val i d e
    exact ⟨v, a, b.up hm⟩
  · obtain ⟨a, vs, e1, e2, e3, e4, e5⟩ := k.own i ds e
    have ne : a ≠ D := fun z => by rw [z, h] at e2; cases e2
    exact ⟨a, vs, e1, by rw [stM_off ne]; exact e2, e3, e4, e5.up hm⟩
  · have ne : a ≠ D := fun z => by obtain ⟨o, q⟩ := k.mkd a e; rw [z, h0] at q; cases q
    rw [stM_off ne]; exact k.sub a e
  · by_cases z : a = D
    · rw [z]; exact ⟨_, hl⟩
    · rw [stM_off z] at e; exact k.dom a e
  · by_cases z : b = D
    · subst z
      rw [stM_at] at e
      cases e
    · rw [stM_off z] at e ⊢
      exact k.lk b u e
def dDct1 (s : Str) (w : Wx) : Wx := fun ev Q => w ev fun d e => Q (.dict [(.str s, d)]) e
theorem de_dct1 {s : Str} {j} {kp : Pos} {e : Expr} {w : Wx} (he : DE X c e w) : DE X c (.Dict [some (.Constant (.str s) j kp)] [e] pos) (dDct1 s w) :=
  peM (pe_disp (pps_cons pe_str he pps_nil) rfl rfl (by simp) (Nat.le_of_ble_eq_true rfl)) fun σ H Q ⟨M, ev, pd, R, k, w, q⟩ => fun p hp => by
    have h0 := (k.h0 hp).1
    have pl := k.plain hp
    refine ⟨stM M p (2, some (.dK [])), ev, pd, _, k.lock hp (fun u z => by cases z; exact ⟨rfl, rfl⟩), w, fun d e' h v H1 k1 => ?_⟩
    have l1 : (stM M p (2, some (.dK []))) p = (2, some (.dK [])) := stM_at
    refine ⟨(k1.lk p (.dK []) (by rw [l1])).1, [(.inr s, v)], rfl, Nat.le_of_ble_eq_true rfl, ?_⟩
    refine q _ e' h _ _ ?_
    have k2 := k1.more (D := p) (o := .dK [(.inr s, v)]) (by rw [l1]) h0
    obtain ⟨k3, up3⟩ := k2.letgo (D := p) (o := .dK [(.inr s, v)]) (by rw [stM_at]) h0 upd_same
    have eM : stM (stM (stM M p (2, some (.dK []))) p (2, some (.dK [(.inr s, v)]))) p (0, none) = M := by rw [stM_stM, stM_stM, stM_id pl]
    rw [eM] at k3
    have t3 := k3.top
    refine k3.pop1.push (.dct1 (v := v) ?_ t3)
    exact msk_of upd_same (by rw [pl])
end
/-- no caught exception -/
def isX : PyData → Bool
  | .dict ((.int _, _) :: _) => true
  | _ => false
theorem okE_in {d : PyData} {P : Prop} (h : isX d = false) (p : P) : okE d P := by
  unfold okE
  split
  · exact Bool.noConfusion h
  · exact p
def okv : PyData → Bool
  | .tuple xs => Nat.ble xs.length 1000 && xs.all fun x => !isX x
  | d => !isX d
theorem okv_x {d : PyData} (h : okv d = true) : isX d = false := by
  cases d with
  | dict ps => exact Bool.eq_false_iff.mpr fun z => by rw [show okv (.dict ps) = !isX (.dict ps) from rfl, z] at h; cases h
  | _ => rfl
theorem okv_t {xs : List PyData} (h : okv (.tuple xs) = true) : xs.length ≤ 1000 ∧ ∀ x ∈ xs, isX x = false := by
  have h : (Nat.ble xs.length 1000 && xs.all fun x => !isX x) = true := h
  rw [Bool.and_eq_true] at h
  refine ⟨Nat.le_of_ble_eq_true h.1, fun x m => ?_⟩
  have := List.all_eq_true.mp h.2 x m
  cases z : isX x with
  | false => rfl
  | true => rw [z] at this; cases this
/-- things that a law shows to is_place and its like -/
def okd : PyData → Bool
  | .tuple xs => okv (.tuple xs) && SeqAt.shaped (.list (xs.filter fun d => !whole d))
  | d => okv d
theorem okd_v {d : PyData} (h : okd d = true) : okv d = true := by
  cases d with
  | tuple xs => exact (Bool.and_eq_true _ _ ▸ (show (okv (.tuple xs) && SeqAt.shaped (.list (xs.filter fun d => !whole d))) = true from h)).1
  | _ => exact h
theorem okd_s {xs : List PyData} (h : okd (.tuple xs) = true) : shp (.list (xs.filter fun d => !whole d)) := (Bool.and_eq_true _ _ ▸ (show (okv (.tuple xs) && SeqAt.shaped (.list (xs.filter fun d => !whole d))) = true from h)).2
theorem eqv_none {xs : List PyData} : PyData.eqv (.list (xs.filter fun d => !whole d)) (.list []) = xs.all whole := by
  induction xs with
  | nil => rfl
  | cons x xs ih =>
    rw [List.filter_cons]
    cases z : whole x with
    | true => rw [List.all_cons, z, Bool.true_and]; exact ih
    | false => rw [List.all_cons, z, Bool.false_and]; rfl
end Z

set_option Elab.async false
set_option linter.all false
set_option maxRecDepth 100000
/-! ## own errors with one field: class cn, its __init__(self, fl): self.fl = fl. (After the guide's worked text on an own error; the class, its name and its field are parameters here.) -/
namespace Z
open PySem PySem.W PySem.Calls PyProof.Rows PySem.HandSPX
def xArgs (fl : Str) (p1 p2 : Pos) : Arguments := { posonlyargs := [], args := [{ arg := "self", annotation := none, pos := p1 }, { arg := fl, annotation := none, pos := p2 }], vararg := none, kwonlyargs := [], kw_defaults := [], kwarg := none, defaults := [] }
def xBody (fl : Str) (q1 q2 q3 q4 : Pos) : List Stmt := [.Assign [.Attribute (.Name "self" q1) fl q2] (.Name fl q3) q4]
def xScope (fl : Str) : Scope := { kind := .function, names := [(PySem.Str.ofString "self", .local), (fl, .local)], isGenerator := false, isCoroutine := false, more := [] }
/-- the two fields that the program's errors have -/
def Fld (fl : Str) : Prop := fl = PySem.Str.ofString "given" ∨ fl = PySem.Str.ofString "index"
structure XTxt (K : Frag) (mg : Str → Option Value) (cn qn fl : Str) (C fI : Addr) : Prop where
  fld : Fld fl
  gC : mg cn = some (.ref C)
  cls : ∃ nm q N bs bm sn sub ab col dd k0 k1 k2 k3 k5, K.lookup C = some (excClassObj nm q C N bs bm true sn sub ab col dd k0 k1 k2 k3 k5 "ValueError.__new__") ∧ refsVE bm = true
  sa : findIn K (.ref C) "__setattr__" = some (some (.builtin "object.__setattr__"))
  ga : findIn K (.ref C) "__getattribute__" = some (some (.builtin "BaseException.__getattribute__"))
  gg : findIn K (.ref C) "__getattr__" = some none
  noN : findIn K (.ref C) fl = some none
  iC : findIn K (.ref C) "__init__" = some (some (.ref fI))
  tC : typeIn K (.ref fI) = some (.type "function")
  kC : keepIn K (.ref C) = true
  exC : subIn K (.ref C) (.type "BaseException") = some true
  tyC : typeIn K (.ref C) = some (.type "type")
  hdC : hasDictIn K C = true
  fn : ∃ (oc : Value) (od : Option Addr) (doc pm : Value) (an : Option Addr) (cdv ct : Value) (osl : Array (Option Value)) (p1 p2 q1 q2 q3 q4 : Pos),
    K.lookup fI = some ⟨oc, od, .func (fnOf "__init__" qn (xArgs fl p1 p2) (xBody fl q1 q2 q3 q4) (xScope fl) .none .none doc pm an cdv ct), osl⟩ ∧ codeIn K cdv qn = true
theorem one_size (v : Value) : [v].length ≤ sizeLine := by
  rw [sizeLine_eq]
  exact (by decide : 1 ≤ 16777216)
theorem ldC {M : Model} {s : Shared} {name : Str} {scope : Scope} {L a : Addr} {cd : Value} {m : Str → Option Value} {x : Str} {pos : Pos} {v : Value} {Q : Value → Shared → Prop} {A : Around} {E : Value → Shared → Prop} (hn : s.heap.Ns L m) (hv : m x = some v) (h : Q v s)
    (hk : scope.kind = .function := by rfl) (hl : (envOfC name scope L a cd).kindOf x = some .local := by rfl) (hd : (x == ("__debug__" : Str)) = false := by decide) :
    wpAny M A (eval (.Name x pos) (envOfC name scope L a cd)) Q E s := wpAny_Name (wpAny_loadName_local hk hl hn hv h) hd
/-- what __init__ leaves of a fresh exception at x -/
structure XEnd (fl : Str) (h h' : Heap) (x C dx t1 : Addr) (v : Value) : Prop where
  keep : ∀ b o, b ≠ x → h.get? b = some o → h'.get? b = some o
  obj : h'.get? x = some { cls := .ref C, dict := some dx, data := .fields #[.ref t1, .none, .none, .none, .bool false, .none] }
  dbig : h.objs.size ≤ dx
  dne : dx ≠ x
  ns : h'.Ns1 dx (fun y => if y = fl then some v else none)
/-- a made error -/
structure XMade (fl : Str) (h h' : Heap) (e C d : Addr) (v : Value) : Prop where
  keep : ∀ b o, h.get? b = some o → h'.get? b = some o
  new : h.objs.size ≤ e
  obj : ∃ oe vs, h'.get? e = some oe ∧ oe.cls = .ref C ∧ oe.dict = some d ∧ oe.data = .fields vs ∧ vs[1]? = some .none
  dbig : h.objs.size ≤ d
  dne : d ≠ e
  ns : h'.Ns1 d (fun y => if y = fl then some v else none)
section
variable {prog : Program} {w : World} {A : Around} {E : Value → Shared → Prop} {R : Result → Shared → Prop} {s : Shared} {K : Frag} {mg : Str → Option Value} {cn qn fl : Str} {C fI : Addr}
theorem x_init (T : XTxt K mg cn qn fl C fI) {x t0 : Addr} {v : Value} (X : K.In s.heap) (hlim : s.heap.NoLimit) (hx : s.heap.get? x = some (excO C t0)) (hnx : K.lookup x = none) (hroom : A.depth < recursionLimit)
    (hq : ∀ h' tk dx, XEnd fl s.heap h' x C dx t0 v → R (.ok (.ret .none)) { s with heap := h', toks := tk }) :
    codeAny (model prog w) A (.call (.ref fI) ⟨[.ref x, v], []⟩) R s := by
  obtain ⟨oc, od, doc, pm, an, cdv, ct, osl, p1, p2, q1, q2, q3, q4, ho, hcd⟩ := T.fn
  obtain ⟨nm, q, N, bs, bm, sn, sub, ab, col, dd, k0, k1, k2, k3, k5, hC, hbm⟩ := T.cls
  have hcl : clsIn K C = some { name := nm, bases := bs, mro := .ref C :: bm, ns := N, qualname := q, hasDict := true, slotNames := sn, subclasses := sub, abstract := ab, collection := col, hasDel := false } := by unfold clsIn; rw [hC] <;> rfl
  have hf := T.fld
  have hno := T.noN
  have hsa := T.sa
  clear T
  rcases hf with rfl | rfl
  · refine Att.call_fn (binds := [("self", .ref x), ("given", v)]) X hlim ho hcd hroom (BindsTo.of_eq (by first | rfl | with_unfolding_all rfl)) (by first | rfl | decide | with_unfolding_all rfl) (fun s₁ IC => ?_) rfl rfl rfl
    obtain ⟨h₁, tk₁, rfl⟩ := IC.toInCall.same
    have k : ∀ b o, s.heap.get? b = some o → h₁.get? b = some o := IC.toInCall.keep
    have hn := IC.toInCall.ns
    have hxL : s.heap.objs.size ≠ x := Nat.ne_of_gt (Heap.lt_size hx)
    have X₁ : K.In h₁ := X.keeps k
    have hx₁ := k _ _ hx
    show wpAny _ _ (execs _ _) _ _ _
    refine wpAny_execs_cons (plainObj_wpAny_Assign_Attribute ?_)
    refine ldC (v := v) hn (by first | rfl | with_unfolding_all rfl | kernel_rfl) (ldC (v := .ref x) hn (by first | rfl | with_unfolding_all rfl | kernel_rfl) ?_)
    refine set_plain X₁ (ox := excO C t0) (od := none) ⟨hx₁, rfl, rfl, trivial⟩ hsa ?_
    refine exc_osa X₁ hx₁ hcl (show refsVE (.ref C :: bm) = true from hbm) rfl hno (fun h₃ tk₃ dx k₃ dn dne hx₃ hn₃ => ?_)
    show wpAny _ _ (execs _ _) _ _ _
    have z : s.heap.objs.size < h₁.objs.size := hn.lt
    exact wpAny_execs_nil (hq h₃ tk₃ dx ⟨fun b o hb e => k₃ b o hb (k b o e), hx₃, Nat.le_of_lt (Nat.lt_of_lt_of_le z dn), dne, hn₃⟩)
  · refine Att.call_fn (binds := [("self", .ref x), ("index", v)]) X hlim ho hcd hroom (BindsTo.of_eq (by first | rfl | with_unfolding_all rfl)) (by first | rfl | decide | with_unfolding_all rfl) (fun s₁ IC => ?_) rfl rfl rfl
    obtain ⟨h₁, tk₁, rfl⟩ := IC.toInCall.same
    have k : ∀ b o, s.heap.get? b = some o → h₁.get? b = some o := IC.toInCall.keep
    have hn := IC.toInCall.ns
    have hxL : s.heap.objs.size ≠ x := Nat.ne_of_gt (Heap.lt_size hx)
    have X₁ : K.In h₁ := X.keeps k
    have hx₁ := k _ _ hx
    show wpAny _ _ (execs _ _) _ _ _
    refine wpAny_execs_cons (plainObj_wpAny_Assign_Attribute ?_)
    refine ldC (v := v) hn (by first | rfl | with_unfolding_all rfl | kernel_rfl) (ldC (v := .ref x) hn (by first | rfl | with_unfolding_all rfl | kernel_rfl) ?_)
    refine set_plain X₁ (ox := excO C t0) (od := none) ⟨hx₁, rfl, rfl, trivial⟩ hsa ?_
    refine exc_osa X₁ hx₁ hcl (show refsVE (.ref C :: bm) = true from hbm) rfl hno (fun h₃ tk₃ dx k₃ dn dne hx₃ hn₃ => ?_)
    show wpAny _ _ (execs _ _) _ _ _
    have z : s.heap.objs.size < h₁.objs.size := hn.lt
    exact wpAny_execs_nil (hq h₃ tk₃ dx ⟨fun b o hb e => k₃ b o hb (k b o e), hx₃, Nat.le_of_lt (Nat.lt_of_lt_of_le z dn), dne, hn₃⟩)
theorem x_made (T : XTxt K mg cn qn fl C fI) {v : Value} (X : K.In s.heap) (hlim : s.heap.NoLimit) (hroom : A.depth + 1 < recursionLimit)
    (hq : ∀ h' tk e d, XMade fl s.heap h' e C d v → R (.ok (.ret (.ref e))) { s with heap := h', toks := tk }) :
    codeAny (model prog w) A (.call (.ref C) ⟨[v], []⟩) R s := by
  obtain ⟨nm, q, N, bs, bm, sn, sub, ab, col, dd, k0, k1, k2, k3, k5, hC, hbm⟩ := T.cls
  obtain ⟨hp, g, dr, tk, os⟩ := s
  have k : ∀ b o, hp.get? b = some o → ((hp.push (kdv_tup [v])).push (excO C hp.objs.size)).get? b = some o := fun b o e => Heap.get?_push_of_some _ (Heap.get?_push_of_some _ e)
  have hget : ((hp.push (kdv_tup [v])).push (excO C hp.objs.size)).get? (hp.objs.size + 1) = some (excO C hp.objs.size) := by heap_get
  have hnx : K.lookup (hp.objs.size + 1) = none := by
    cases e : K.lookup (hp.objs.size + 1) with
    | none => rfl
    | some o =>
      have z : hp.get? (hp.objs.size + 1) = some o := X _ _ e
      exact absurd (Nat.lt_of_succ_lt (Heap.lt_size z)) (Nat.lt_irrefl _)
  refine call_own F.excBase_ValueError (fun X => refsVE_contains X bm hbm) (X _ _ hC) (looks_findIn X T.iC) (fun self => bind_fn X self T.tC) (one_size v) ?_
  refine x_init (s := ⟨(hp.push (kdv_tup [v])).push (excO C hp.objs.size), g, dr, tk, os⟩) T (X.keeps k) (hlim.keeps k) hget hnx ?_ fun h' tk' dx ⟨k', hx, dn, dne, hns⟩ => ?_
  · show A.depth + 1 < recursionLimit
    exact hroom
  · have old : ∀ b o, hp.get? b = some o → h'.get? b = some o := fun b o e => k' b o (Nat.ne_of_lt (Nat.lt_succ_of_lt (Heap.lt_size e))) (k b o e)
    have z : hp.objs.size + 1 + 1 ≤ dx := by
      first
        | (simpa only [Heap.size_push] using dn)
        | exact dn
        | (have q := dn; rw [Heap.size_push, Heap.size_push] at q; exact q)
    exact ⟨rfl, hq h' tk' (hp.objs.size + 1) dx ⟨old, Nat.le_succ _, ⟨_, _, hx, rfl, rfl, rfl, rfl⟩, Nat.le_trans (Nat.le_trans (Nat.le_succ _) (Nat.le_succ _)) z, dne, hns⟩⟩
end
end Z

set_option Elab.async false
set_option linter.all false
set_option maxRecDepth 100000
namespace Z
open PySem PySem.Spec PyProof.Rows L2
theorem relO_x {v : V} {v' : Value} (r : RelV v v') (fl f : Str) : RelO (List.lookup f [(fl, v)]) (if f = fl then some v' else none) := by
  by_cases hw : f = fl
  · subst hw
    rw [if_pos rfl]
    have q : List.lookup f [(f, v)] = some v := by simp [List.lookup]
    rw [q]
    exact r
  · rw [if_neg hw]
    have qw : (f == fl) = false := by simpa using hw
    have q2 : List.lookup f [(fl, v)] = none := by simp [List.lookup, qw]
    rw [q2]
    trivial
section
variable {X : Cx} {cn qn fl : Str} {C fI : Addr}
/-- cn(e) -/
def tMkX (C : Addr) (fl : Str) (ta : TA) : L2.St → Hp → XK → Prop := fun σ H Q => ta σ H fun vs H1 => ∃ v, vs = [v] ∧ ∀ d, H1 d = none → Q (.ref C) (some d) (upd H1 d (.xd [(fl, v)]))
theorem pmk_x {a : Expr} {ta : TA} {p pos : Pos} {k : Nat} (T : XTxt X.K X.mg cn qn fl C fI) (hr : Room k X.A) (ha : PA X [a] ta) (hg : Gl X cn) (hdb : (cn == ("__debug__" : Str)) = false)
    (he : starEach (a :: []) X.env = (false, eval a X.env) :: starEach [] X.env := by rfl) (hpl : (backTo pos (starEach [] X.env)).any (·.1) = false := by rfl) :
    PMk X (.Call (.Name cn p) [a] [] pos) (tMkX C fl ta) := by
  intro pins s σ H Q I h
  refine wpAny_Call_Name_kw (ld_glob I hg T.gC ?_ hdb)
  refine PySem.W.callWith_K (h₀ := X.base) I.ok.mod.kin T.kC (thn (ha.run pos pins s σ H _ I h) fun us s1 hh => ?_) he hpl
  obtain ⟨vs, H1, I1, r1, v, ev, q1⟩ := hh
  subst ev
  refine ⟨I1.kIn, ?_⟩
  cases r1 with
  | cons rv rn =>
    rename_i v' us'
    cases rn
    show wpAny _ _ (call (.ref C) [v']) _ _ _
    have hlim := I1.nolimit
    obtain ⟨hp, g, dr, tk, os⟩ := s1
    refine wpAny_call (x_made T I1.kIn hlim (by have := hr.dp; omega) fun h' tk' e d M => ?_)
    show MkP X pins σ Q (.ref e) ⟨h', g, dr, tk', os⟩
    obtain ⟨oe, fv, hoe, hc, hd, hdat, h1⟩ := M.obj
    have hns := M.ns
    obtain ⟨G', g1, g2⟩ := restrict h' fun b => decide (b ≠ e)
    have gk : ∀ b, b ≠ e → G'.get? b = h'.get? b := fun b hb => g1 b (decide_eq_true hb)
    have ge : G'.get? e = none := g2 e (by simp)
    have old : ∀ b o, hp.get? b = some o → G'.get? b = some o := fun b o q => (gk b (Nat.ne_of_lt (Nat.lt_of_lt_of_le (Heap.lt_size q) M.new))).trans (M.keep b o q)
    have ob : ObjOk X.prog X.w (upd H1 d (.xd [(fl, v)])) G' d (.xd [(fl, v)]) :=
      ⟨_, hns.at (fun o q => (gk d M.dne).trans q), fun f => relO_x rv fl f⟩
    have J : Inv X pins σ (upd H1 d (.xd [(fl, v)])) ⟨G', g, dr, tk', os⟩ := I1.laid (t' := tk') old M.dbig ob
    refine ⟨e, oe, fv, ⟨G', g, dr, tk', os⟩, _, .ref C, some d, rfl, J, fun b o q => ?_, ge, hoe, ⟨hc, hd⟩, hdat, h1, ?_, rfl, I1.bare, raises_own T.exC T.tyC, q1 d (I1.hok.fresh M.dbig)⟩
    · by_cases hb : b = e
      · have q' : G'.get? b = some o := q
        rw [hb, ge] at q'; cases q'
      · exact (gk b hb).symm.trans q
    · rw [upd_ne (Ne.symm M.dne)]
      exact I1.hok.fresh M.new
end
/-! ### contracts with errors -/
/-- which errors may leave: class, field, what it holds -/
abbrev Xr := Str → Str → PyData → Prop
abbrev Cx' := List PyData → (PyData → Prop) → Xr → Prop
/-- the field of an error that has none -/
def noF : Str := PySem.Str.ofString ""
theorem Fld.ne {fl : Str} (h : Fld fl) : fl ≠ noF := by
  rcases h with rfl | rfl <;> decide +kernel
/-- what the wish E must take: an error of a class of the text, with its dict -/
def XOk (mg : Str → Option Value) (K : PySem.W.Frag) (Mk : Mz) (keep : Hp → Prop) (XR : Xr) (E : XK) : Prop :=
  (∀ (cn fl : Str) (d : PyData), fl ≠ noF → XR cn fl d → ∀ (C dd : Addr) (v : V) (H' : Hp), mg cn = some (.ref C) → keep H' → (Mk dd).1 = 0 → H' dd = some (.xd [(fl, v)]) → Dz K (msk Mk H') v d → E (.ref C) (some dd) H') ∧
  ∀ (cn : Str), XR cn noF .none → ∀ (C : Addr) (H' : Hp), mg cn = some (.ref C) → keep H' → E (.ref C) none H'
def spX (mg : Str → Option Value) (K : PySem.W.Frag) (n : Nat) (C : Cx') : Sp := fun vs H Q E => ∃ (Mk : Mz) (ds : List PyData) (R : PyData → Prop) (XR : Xr), vs.length = n ∧ MkOk Mk H ∧ DzAll K (msk Mk H) vs ds ∧ C ds R XR ∧
  (∀ d, R d → ∀ v H', (∀ b o, H b = some o → H' b = some o) → Dz K (msk Mk H') v d → Q v H') ∧ XOk mg K Mk (fun H' => ∀ b o, H b = some o → H' b = some o) XR E
/-- what holds within a body: the wish takes the errors XR -/
def XIn (X : Cx) (c : Cf) (XR : Xr) : Prop := ∃ E : XK, Takes X (fun cls d _ H => E cls d H) ∧ XOk X.mg X.K c.Mk (fun H' => ∀ b o, c.H0 b = some o → c.T b = false → H' b = some o) XR E
def wRaise (XR : Xr) (cn fl : Str) (w : Wx) : Ws := fun _ ev => w ev fun d _ => XR cn fl d
section
variable {X : Cx} {c : Cf} {cn qn fl : Str} {C fI : Addr} {XR : Xr} {w : Wx}
theorem ds_raise {a : Expr} {p pos pos2 : Pos} {k : Nat} (hc : X.calm = true) (T : XTxt X.K X.mg cn qn fl C fI) (hr : Room k X.A) (hx : XIn X c XR) (ha : DE X c a w) (hg : Gl X cn) (hdb : (cn == ("__debug__" : Str)) = false := by decide)
    (he : starEach (a :: []) X.env = (false, eval a X.env) :: starEach [] X.env := by rfl) (hpl : (backTo pos (starEach [] X.env)).any (·.1) = false := by rfl) :
    DS X c (.Raise (some (.Call (.Name cn p) [a] [] pos)) none pos2) (wRaise XR cn fl w) := by
  obtain ⟨E, tk, xo⟩ := hx
  exact psM (ps_raise hc tk (pmk_x T hr (da_cons ha da_nil he) hg hdb he hpl)) fun De σ H ⟨M, ev, pd, R, k, h, f⟩ => by
    refine ⟨M, ev, pd, fun ds e => ∃ d, ds = [d] ∧ XR cn fl d, k, ?_, fun ds e' q vs H1 k1 r => ?_⟩
    · show w ev fun d e1 => (∃ d', [d] = [d'] ∧ XR cn fl d')
      have e : (fun (d : PyData) (e1 : Ev) => ∃ d', [d] = [d'] ∧ XR cn fl d') = fun d _ => XR cn fl d := by
        funext d e1
        exact propext ⟨fun ⟨d', z, q⟩ => by cases z; exact q, fun q => ⟨d, rfl, q⟩⟩
      rw [e]
      exact h
    · obtain ⟨d, rfl, q⟩ := q
      cases r with
      | cons rv rn =>
        cases rn
        refine ⟨_, rfl, fun dd hd => xo.1 cn fl d T.fld.ne q C dd _ _ T.gC (fun b o z t => ?_) ?_ upd_same ?_⟩
        · have y := k1.frame b o z t
          rw [upd_ne (ne_of_none y hd)]
          exact y
        · by_cases z : (c.Mk dd).1 = 0
          · exact z
          · exact absurd (k1.free hd) (k1.sub dd z)
        · exact (rv.up (msk_less k1.sub)).up (msk_same fun b o e _ => up_new hd b o e)
end
section
variable {P : Program} {wd : World} {K : PySem.W.Frag} {mg : Str → Option Value} {base : Heap}
/-- THE RULE for a def over data that may raise -/
theorem okX {x qual : Str} {st : Stmt} {f : Addr} {fd : FuncData} {N ps : List Str} {k n m : Nat} {C : Cx'} {w : Xr → Ws} (F : Fun K x qual st f fd) (S : FnScope N ps (defScope st)) (hn : ps.length = n) (hN : N.length = n + m)
    (body : ∀ (XR : Xr) (c : Cf) (cdv : Value) (A : Around) (outer : List Env) (s : Shared) (H : Hp) (E : XK), A.guards = some [] → Room k (A.deeper (PyProof.Rows.envOfC qual (defScope st) s.heap.objs.size f cdv)) →
      XIn (cxOf (L2.CX P wd) P wd K mg base N qual (defScope st) f cdv A outer s H E) c XR → PassesOwn (model P wd) (A.deeper (PyProof.Rows.envOfC qual (defScope st) s.heap.objs.size f cdv)) (PyProof.Rows.envOfC qual (defScope st) s.heap.objs.size f cdv) (cxOf (L2.CX P wd) P wd K mg base N qual (defScope st) f cdv A outer s H E).xe → DSs (cxOf (L2.CX P wd) P wd K mg base N qual (defScope st) f cdv A outer s H E) c (defBody st) (w XR))
    (sem : ∀ ds R XR, C ds R XR → ds.length = n → w XR (edP R) (ev0 m ds)) : FnG P wd K mg base (L2.CX P wd) (k + 1) f fd ps (spX mg K n C) := by
  refine fnG_of F S (fun vs H Q E h => ?_) (fun cdv A outer s H vs Q E hG hr h => ?_)
  · obtain ⟨_, _, _, _, l, _⟩ := h
    rw [l, hn]
  · obtain ⟨Mk, ds, R, XR, l, mk, ra, hC, q, xo⟩ := h
    refine ⟨_, body XR ⟨H, fun _ => false, Mk⟩ cdv A outer s H E hG hr ⟨E, takes_of rfl rfl rfl rfl, fun cn fl d n z C dd v H' g kp md => xo.1 cn fl d n z C dd v H' g (fun b o e => kp b o e rfl) md, fun cn z C H' g kp => xo.2 cn z C H' g (fun b o e => kp b o e rfl)⟩ (passes_of rfl), Mk, ev0 m ds, [], edP R, ⟨?_, fun i d e => ?_, fun i es e => ?_, fun i j a es fs e => ?_, fun p hp => (by cases hp), fun b o e _ => e, fun a e => e, mk.dom, mk.dom, mk.lk, fun a e => (by cases e)⟩, sem ds R XR hC (by rw [← ra.len, l]), ?_⟩
    · unfold L2.start ev0
      rw [List.length_append, List.length_append, List.length_map, List.length_map, List.length_replicate, List.length_replicate, ra.len, hN, ← ra.len, l]
      omega
    · obtain ⟨d', z, e⟩ := ev0_get e
      cases z
      obtain ⟨v, y1, y2⟩ := ra.get i e
      exact ⟨v, start_get y1, y2⟩
    · obtain ⟨d', z, e⟩ := ev0_get e
      cases z
    · obtain ⟨d', z, e⟩ := ev0_get e
      cases z
    · exact ⟨fun ev' h M' σ' H' k' => q _ h _ _ (fun b o e => k'.frame b o e rfl) .non, fun d ev' h M' σ' v H' k' r => q _ h _ _ (fun b o e => k'.frame b o e rfl) r, fun ev' h => h.elim, fun ev' h => h.elim, fun ds ev' h M' σ' p vs H' k' z1 z2 r => q _ h _ _ (fun b o e => k'.frame b o e rfl) (.lst (sq_lst (msk_of z2 (by
          by_cases z : (Mk p).1 = 0
          · exact z
          · obtain ⟨o, y⟩ := mk.dom p z
            rw [show H p = none from z1] at y
            cases y))) r)⟩
end
end Z

set_option Elab.async false
set_option linter.all false
set_option maxRecDepth 100000
namespace Z
open PySem PySem.Spec PyProof.Rows L2
/-! ### calls that may raise -/
structure ClX (P : Program) (wd : World) (K : PySem.W.Frag) (mg : Str → Option Value) (base : Heap) (k : Nat) (x : Str) (ps : List Str) (sp : Sp) : Prop where
  ex : ∃ f fd, mg x = some (.ref f) ∧ PySem.W.keepIn K (.ref f) = true ∧ Binds K fd ps [] ∧ FnG P wd K mg base (L2.CX P wd) k f fd ps sp
section
variable {X : Cx} {c : Cf} {k kg n : Nat} {x : Str} {ps : List Str} {p pos : Pos} {e : Expr} {es : List Expr} {u : Wa}
theorem runGX {f : Addr} {fd : FuncData} {sp : Sp} {args : Args} {us : List Value} {vs : List V} {pins : List (Addr × Obj)} {σ : Sg} {H : Hp} {s : Shared} {Q : VK} {E : XK} (F : FnG X.prog X.w X.K X.mg X.base (L2.CX X.prog X.w) kg f fd ps sp) (hk : kg ≤ k) (hr : Room k X.A) (hG : X.A.guards = some [])
    (hx : PassesAt (L2.CX X.prog X.w) X σ E) (I : Inv X pins σ H s) (hb : BindsTo s fd args (ps.zip us)) (r : Vals vs us) (h : sp vs H Q E) : codeAny (model X.prog X.w) X.A (.call (.ref f) args) (fun rr s' => match rr with
      | .ok (.ret v) => EP X pins σ Q v s'
      | .ok _ => False
      | .error e => X.xe e s') s :=
  codeAny_mono (F.go X.A X.stack s H args us vs Q E hG (hr.mono hk) I.env0 hb r h) fun rr s' hq => by
    cases rr with
    | error e => exact hx pins H s e s' I hq
    | ok fl => cases fl with
      | ret v => exact I.after hq
      | next => exact hq.elim
      | brk => exact hq.elim
      | cont => exact hq.elim
theorem callGX {f : Addr} {args : Args} {us : List Value} {kw : List (Str × Value)} {pins : List (Addr × Obj)} {σ : Sg} {s : Shared} {Q : VK} (h : codeAny (model X.prog X.w) X.A (.call (.ref f) ⟨us, kw⟩) (fun rr s' => match rr with
      | .ok (.ret v) => EP X pins σ Q v s'
      | .ok _ => False
      | .error e => X.xe e s') s) : wpAny (model X.prog X.w) X.A (call (.ref f) us kw) (EP X pins σ Q) X.xe s := wpAny_call (codeAny_mono h fun rr s' hq => by
    cases rr with
    | error e => exact hq
    | ok fl => cases fl with
      | ret v => exact hq
      | next => exact hq.elim
      | brk => exact hq.elim
      | cont => exact hq.elim)
/-- f(e, ..): it may raise what W takes -/
theorem pe_cX {sp : Sp} {t : TA} {W : WX} (F : ClX X.prog X.w X.K X.mg X.base kg x ps sp) (tk : Takes X W) (hk : kg ≤ k) (hr : Room k X.A) (hG : X.A.guards = some []) (hg : Gl X x) (ha : PA X (e :: es) t) (h2 : (x == ("__debug__" : Str)) = false) (h3 : starEach (e :: es) X.env = (false, eval e X.env) :: starEach es X.env) (h4 : (backTo pos (starEach es X.env)).any (·.1) = false) :
    PE X (.Call (.Name x p) (e :: es) [] pos) (fun σ H Q => t σ H fun vs H1 => sp vs H1 Q (WE W σ)) := by
  obtain ⟨f, fd, hm, hkp, hb, F⟩ := F.ex
  constructor
  intro pins s σ H Q I h
  apply wpAny_Call_Name_kw
  apply ld_glob I hg hm _ h2
  refine PySem.W.callWith_K (h₀ := X.base) I.ok.mod.kin hkp (thn (ha.run pos pins s σ H _ I h) ?_) h3 h4
  rintro us s1 ⟨vs, H1, I1, r, q⟩
  refine ⟨I1.kIn, ?_⟩
  have ar := F.ar _ _ _ _ q
  have b := hb s1 us I1.kIn (by rw [List.append_nil, ← r.length, ar])
  rw [List.append_nil] at b
  exact callGX (args := ⟨us, []⟩) (us := us) (kw := []) (runGX F hk hr hG (passAt tk σ) I1 b r q)
def dFnX (XR : Xr) (n : Nat) (C : Cx') (u : Wa) : Wx := fun ev Q => u ev fun ds e => ds.length = n ∧ C ds (fun d => Q d e) XR
theorem XOk.imp {mg : Str → Option Value} {K : PySem.W.Frag} {Mk Mk' : Mz} {kp kp' : Hp → Prop} {XR : Xr} {E : XK} (h : XOk mg K Mk kp XR E) (h1 : ∀ H, kp' H → kp H) (h2 : ∀ a, (Mk a).1 ≠ 0 → (Mk' a).1 ≠ 0) : XOk mg K Mk' kp' XR E := ⟨fun cn fl d n z C dd v H' g q md e r =>
  h.1 cn fl d n z C dd v H' g (h1 _ q) (by
    by_cases y : (Mk dd).1 = 0
    · exact y
    · exact absurd md (h2 dd y)) e (r.up (msk_less h2)), fun cn z C H' g q => h.2 cn z C H' g (h1 _ q)⟩
/-- within a def that may raise: a call of one -/
theorem de_fnX {XR : Xr} {C : Cx'} (F : ClX X.prog X.w X.K X.mg X.base kg x ps (spX X.mg X.K n C)) (hx : XIn X c XR) (hk : kg ≤ k) (hr : Room k X.A) (hG : X.A.guards = some []) (hg : Gl X x) (ha : DA X c (e :: es) u) (h2 : (x == ("__debug__" : Str)) = false := by decide) (h3 : starEach (e :: es) X.env = (false, eval e X.env) :: starEach es X.env := by rfl) (h4 : (backTo pos (starEach es X.env)).any (·.1) = false := by rfl) :
    DE X c (.Call (.Name x p) (e :: es) [] pos) (dFnX XR n C u) := by
  obtain ⟨E, tk, xo⟩ := hx
  exact peM (pe_cX F tk hk hr hG hg ha h2 h3 h4) fun σ H Q ⟨M, ev, pd, R, k, w, q⟩ =>
    ⟨M, ev, pd, _, k, w, fun ds e ⟨l, h1⟩ vs H1 k1 r => ⟨M, ds, _, XR, by rw [r.len, l], k1.mkOk, r, h1, fun d hd v H' g z => q d e hd v H' ((k1.grow g).push z),
      xo.imp (fun H' g b o z t => g b o (k1.frame b o z t)) k1.sub⟩⟩
end
end Z

set_option Elab.async false
set_option linter.all false
set_option maxRecDepth 100000
namespace Z
open PySem PySem.Spec PyProof.Rows L2
/-! ### try: f(..), except T as e: .. -/
theorem Ok.unset {K : PySem.W.Frag} {c : Cf} {M : Mz} {σ : Sg} {H : Hp} {ev : Ev} {pd : List (V × PyData)} (k : Ok K c M σ H ev pd) {i : Nat} (h : notOwn ev i) : Ok K c M (σ.set i none) H (ev.set i none) pd where
  len := by rw [List.length_set, List.length_set]; exact k.len
  val := fun j e z => by
    rcases get_set z with ⟨rfl, z1, z2⟩ | ⟨n, z⟩
    · cases z1
    · obtain ⟨u, a, b⟩ := k.val j e z
      exact ⟨u, by rw [List.getElem?_set_ne n]; exact a, b⟩
  own := fun j ds z => by
    rcases get_set z with ⟨rfl, z1, z2⟩ | ⟨n, z⟩
    · cases z1
    · obtain ⟨a, vs, e1, e2⟩ := k.own j ds z
      exact ⟨a, vs, by rw [List.getElem?_set_ne n]; exact e1, e2⟩
  inj := fun j l a ds es z1 z2 z3 z4 => by
    rcases get_set z1 with ⟨rfl, y, _⟩ | ⟨n1, z1⟩
    · cases y
    rcases get_set z2 with ⟨rfl, y, _⟩ | ⟨n2, z2⟩
    · cases y
    rw [List.getElem?_set_ne n1] at z3
    rw [List.getElem?_set_ne n2] at z4
    exact k.inj j l a ds es z1 z2 z3 z4
  pend := k.pend
  frame := k.frame
  sub := k.sub
  dom := k.dom
  mkd := k.mkd
  lk := k.lk
  tank := fun a t => by
    obtain ⟨m, e1, ds, e2⟩ := k.tank a t
    have n : i ≠ 0 := fun z => h.no (by rw [z]; exact e2)
    exact ⟨m, by rw [List.getElem?_set_ne n]; exact e1, ds, by rw [List.getElem?_set_ne n]; exact e2⟩
/-- a caught exception with a field, as data -/
def excD (a dd : Nat) (fl : Str) (g : PyData) : PyData := .dict [(.int a, .int dd), (.str fl, g)]
def edS (i : Nat) (E : Ed) : Ed := { nx := fun e => notOwn e i ∧ E.nx (e.set i none), rt := E.rt, bk := fun e => notOwn e i ∧ E.bk (e.set i none), ct := fun e => notOwn e i ∧ E.ct (e.set i none), rl := E.rl }
def wTry (n : Nat) (C : Cx') (i : Nat) (u : Wa) (ks : Str → Str → Prop) (ws : Str → Str → Nat → Nat → Ws) : Ws := fun E ev => u ev fun ds e => ds.length = n ∧ C ds (fun _ => E.nx e) fun cn fl g => ks cn fl ∧ notOwn e i ∧ ∀ a dd : Nat, ws cn fl a dd (edS i E) (e.set i (some (.val (excD a dd fl g))))
section
variable {X : Cx} {c : Cf} {k kg n i : Nat} {x nm T : Str} {cT : Value} {ps : List Str} {p pos pos0 pos1 pos2 pos' np : Pos} {e : Expr} {es : List Expr} {u : Wa} {b₀ : Stmt} {suite : List Stmt} {ks : Str → Str → Prop} {ws : Str → Str → Nat → Nat → Ws}
/-- what a suite knows: its exception's class and dict -/
def tSu (K : PySem.W.Frag) (mg : Str → Option Value) (c : Cf) (ks : Str → Str → Prop) (ws : Str → Str → Nat → Nat → Ws) (a : Addr) (cls : Value) (d : Option Addr) : TS := fun De σ H => ∃ (cn fl : Str) (C dd : Addr), cls = .ref C ∧ d = some dd ∧ mg cn = some (.ref C) ∧ ks cn fl ∧ tS K c (ws cn fl a dd) De σ H
theorem ds_tryCall {C : Cx'} (hs : X.stack = X.env :: X.outer) (hf : X.env.frame = some X.env.locals) (hN : X.N.Nodup) (hi : X.N[i]? = some nm) (hln : X.env.kindOf nm = some .local) (hc : Names X T cT)
    (F : ClX X.prog X.w X.K X.mg X.base kg x ps (spX X.mg X.K n C)) (hk : kg ≤ k) (hr : Room k X.A) (hG : X.A.guards = some []) (hg : Gl X x)
    (hk0 : ∀ cn, ¬ks cn noF) (hcat : ∀ cn fl C, ks cn fl → X.mg cn = some (.ref C) → PySem.W.exmOne X.K (.ref C) cT = some true)
    (ha : ∀ (pn : List (Addr × Obj)) (xe : Value → Shared → Prop), DA (X.tr pn xe) c (e :: es) u)
    (hsu : ∀ (cn fl : Str) (C dd a : Addr) (oe : Obj) (pn : List (Addr × Obj)), ks cn fl → X.mg cn = some (.ref C) → Zc (.ref C) (some dd) oe → (∃ vs, oe.data = .fields vs) → DSs (X.suite a ((a, oe) :: pn)) c (b₀ :: suite) (ws cn fl a dd))
    (h2 : (x == ("__debug__" : Str)) = false := by decide) (h3 : starEach (e :: es) X.env = (false, eval e X.env) :: starEach es X.env := by rfl) (h4 : (backTo pos1 (starEach es X.env)).any (·.1) = false := by rfl)
    (hsw : swapsWith (.Call (.Name x p) (e :: es) [] pos1) none pos2.line X.env = pure false := by rfl) :
    DS X c (.Try [.Expr (.Call (.Name x p) (e :: es) [] pos1) pos2] [.ExceptHandler (some (.Name T np)) (some nm) (b₀ :: suite) pos'] [] [] pos) (wTry n C i u ks ws) := by
  have tr := ps_try_as (X := X) (x := T) (n := nm) (c := cT) (i := i) (body := [.Expr (.Call (.Name x p) (e :: es) [] pos1) pos2]) (suite := suite) (b₀ := b₀) (np := np) (pos := pos) (pos' := pos')
    (tb := fun W => tDrop (fun σ H Q => tA X.K c u σ H fun vs H1 => spX X.mg X.K n C vs H1 Q (WE W σ))) (ts := tSu X.K X.mg c ks ws) (Wout := fun _ _ _ _ => False) hs hf hN hi hln hc takes0
    (fun W pn xe tk _ => pss_one (ps_expr (by exact (pe_cX (X := X.tr pn xe) F tk hk hr hG hg (ha pn xe) h2 h3 h4)) hsw))
    (fun a oe cls d pn hz hfd => ⟨fun pins s σ H D I h => by
      obtain ⟨cn, fl, C, dd, rfl, rfl, hmg, hks, q⟩ := h
      exact (hsu cn fl C dd a oe pn hks hmg hz hfd).run pins s σ H D I q⟩)
  refine psM tr fun De σ H ⟨M, ev, pd, R, k, h, f⟩ => ?_
  refine ⟨M, ev, pd, _, k, h, fun ds e' ⟨l, h1⟩ vs H1 k1 r => ⟨M, ds, fun _ => R.nx e', _, by rw [r.len, l], k1.mkOk, r, h1, fun d hd v H' g z => f.nx e' hd M σ H' (k1.grow g), ?_⟩⟩
  refine ⟨?_, fun cn ⟨hks, _⟩ => absurd hks (hk0 cn)⟩
  intro cn fl g _ ⟨hks, no, hw⟩ C dd v H' hmg kp md hdd rz
  refine ⟨true, hcat cn fl C hks hmg, fun _ a hA => ⟨cn, fl, C, dd, rfl, rfl, hmg, hks, M, e'.set i (some (.val (excD a dd fl g))), pd, edS i R, (k1.grow kp).set no (.exc (msk_of hdd md) rz), hw a dd, ?_⟩, fun q => Bool.noConfusion q⟩
  exact ⟨fun ev' ⟨no', q⟩ M' σ' H'' k' => f.nx _ q M' _ H'' (k'.unset no'), f.rt, fun ev' ⟨no', q⟩ M' σ' H'' k' => f.bk _ q M' _ H'' (k'.unset no'), fun ev' ⟨no', q⟩ M' σ' H'' k' => f.ct _ q M' _ H'' (k'.unset no'), f.rl⟩
end
end Z

set_option Elab.async false
set_option linter.all false
set_option maxRecDepth 100000
namespace Z
open PySem PySem.Spec PyProof.Rows L2
/-! ### in an except suite: isinstance(e, T), e.f, for an exception with a dict -/
def rIsX (K : PySem.W.Frag) (D a dd : Addr) : List V → Hp → VK → Prop := fun xs H Q => ∃ (c : V) (cv : Value) (b : Bool) (fs : List (Str × V)), xs = [.ref a, c] ∧ (∀ u, RelV c u → u = cv) ∧ H dd = some (.xd fs) ∧ PySem.W.kitOne K (.ref D) cv = some b ∧ Q (.bl b) H
theorem call_isX {X : Cx} {a D dd : Addr} {oe : Obj} {pn : List (Addr × Obj)} (C : ExcC X.K D) (hz : Zc (.ref D) (some dd) oe) (hf : ∃ vs, oe.data = .fields vs) : CallR (X.suite a ((a, oe) :: pn)) (.builtin "isinstance") (rIsX X.K D a dd) := by
  intro pins s σ H xs us Q I r h
  obtain ⟨c, cv, b, fs, rfl, hcv, hdd, e, q⟩ := h
  cases r with
  | cons rx rr =>
    cases rr with
    | cons rt rr =>
      cases rr
      cases rx
      have ec := hcv _ rt
      subst ec
      obtain ⟨hget, _⟩ := I.pin (a, oe) (List.mem_append.mpr (.inl List.mem_cons_self))
      obtain ⟨vs, hv⟩ := hf
      have hx : ObjOk X.prog X.w H s.heap dd (.xd fs) := I.hok dd _ hdd
      obtain ⟨mA, hns, hr⟩ := hx
      obtain ⟨od, ho, hl⟩ := lookIn_ns hns
      have J : PySem.W.InstAt s.heap a oe D (some od) := ⟨hget, hz.1, by unfold PySem.W.notCls; rw [hv] <;> rfl, by rw [hz.2]; exact ho⟩
      obtain ⟨cd, hc, _⟩ := PySem.W.any_some C.hd
      exact PySem.W.kia_one (PySem.W.kitx_exc (by rw [hc]; rfl) C.hg C.hk C.hs C.ha C.hn C.ht C.hm) I.kIn J e (fun z => nomatch z) fun tk => ⟨.bl b, H, I.kept (t' := tk) fun _ _ z => z, rfl, q⟩
/-- the caught exception, as data -/
def excAt (a dd : Nat) : PyData → Prop → Prop
  | .dict [(.int a', .int dd'), (.str _, _)], P => a' = (a : Int) ∧ dd' = (dd : Int) ∧ P
  | _, _ => False
theorem excAt_inv {K : PySem.W.Frag} {H : Hp} {a dd : Nat} {v : V} {d : PyData} {P : Prop} (r : Dz K H v d) (h : excAt a dd d P) : v = .ref a ∧ (∃ fl u g, d = excD a dd fl g ∧ H dd = some (.xd [(fl, u)]) ∧ Dz K H u g) ∧ P := by
  cases r with
  | exc q r =>
    obtain ⟨h1, h2, p⟩ := h
    have e1 := Int.ofNat.inj h1
    have e2 := Int.ofNat.inj h2
    subst e1; subst e2
    exact ⟨rfl, ⟨_, _, _, rfl, q, r⟩, p⟩
  | _ => exact h.elim
def dIsX (a dd : Nat) (b : Bool) (w : Wx) : Wx := fun ev Q => w ev fun d e => excAt a dd d (Q (.bool b) e)
section
variable {X : Cx} {c : Cf} {p p2 pos : Pos} {e : Expr} {w : Wx} {a D dd : Addr} {oe : Obj} {pn : List (Addr × Obj)}
theorem de_isX (T : Str) {cT : V} {uT : Value} {b : Bool} (C : ExcC X.K D) (hz : Zc (.ref D) (some dd) oe) (hf : ∃ vs, oe.data = .fields vs) (hT : PE (X.suite a ((a, oe) :: pn)) (.Name T p2) (tC cT)) (hc : ∀ u, RelV cT u → u = uT) (hk : PySem.W.kitOne X.K (.ref D) uT = some b)
    (hg : Gl X "isinstance") (hm : X.mg "isinstance" = none) (ha : DE (X.suite a ((a, oe) :: pn)) c e w)
    (h3 : starEach [e, .Name T p2] X.env = (false, eval e X.env) :: starEach [.Name T p2] X.env := by rfl) (h5 : starEach [.Name T p2] X.env = (false, eval (.Name T p2) X.env) :: starEach [] X.env := by rfl) (h4 : (backTo pos (starEach [.Name T p2] X.env)).any (·.1) = false := by rfl) :
    DE (X.suite a ((a, oe) :: pn)) c (.Call (.Name "isinstance" p) [e, .Name T p2] [] pos) (dIsX a dd b w) :=
  peM (pe_callB (X := X.suite a ((a, oe) :: pn)) (call_isX C hz hf) hg hm (by decide +kernel) (pa_cons ha (pa_cons hT pa_nil h5) h3) (by decide) (by decide) h3 h4) fun σ H Q ⟨M, ev, pd, R, k, w, q⟩ =>
    ⟨M, ev, pd, _, k, w, fun d e h v H1 k1 => by
      obtain ⟨rfl, ⟨fl, u, g, rfl, h1, h2⟩, p⟩ := excAt_inv k1.top h
      exact ⟨cT, uT, b, _, rfl, hc, msk_sub _ _ h1, hk, q _ e p _ _ (k1.pop1.push (.bl _))⟩⟩
def gvD (fl : Str) : PyData → (PyData → Prop) → Prop
  | .dict [(.int _, .int _), (.str fl', g)], Q => fl' = fl ∧ Q g
  | _, _ => False
def dGv (a dd : Nat) (fl : Str) (w : Wx) : Wx := fun ev Q => w ev fun d e => excAt a dd d (gvD fl d fun g => Q g e)
theorem de_given (fl : Str) (T : XfC X.K D) (hno : PySem.W.findIn X.K (.ref D) fl = some none) (hz : Zc (.ref D) (some dd) oe) (hf : ∃ vs, oe.data = .fields vs) (ha : DE (X.suite a ((a, oe) :: pn)) c e w) (hb : attributeBase e fl X.env (eval e X.env) = eval e X.env := by rfl) :
    DE (X.suite a ((a, oe) :: pn)) c (.Attribute e fl pos) (dGv a dd fl w) :=
  peM (pe_xf T hno hz hf ha hb) fun σ H Q ⟨M, ev, pd, R, k, w, q⟩ => ⟨M, ev, pd, _, k, w, fun d e h v H1 k1 => by
    obtain ⟨rfl, ⟨fl', u, g, rfl, h1, h2⟩, p⟩ := excAt_inv k1.top h
    obtain ⟨rfl, p⟩ : fl' = fl ∧ R g e := p
    exact ⟨rfl, rfl, dd, _, u, rfl, msk_sub _ _ h1, by simp [List.lookup], q _ e p _ _ (k1.pop1.push h2)⟩⟩
end
end Z

set_option Elab.async false
set_option linter.all false
set_option maxRecDepth 100000
namespace Z
open PySem PySem.Spec PyProof.Rows L2
/-! ### l.count(x), l.index(x) -/
def rCountD (K : PySem.W.Frag) : V → List V → Hp → VK → Prop := fun x xs H Q => ∃ (a : Addr) (y : V) (d : PyData) (ds : List PyData), x = V.ref a ∧ xs = [y] ∧ Dp K H (V.ref a) (.list ds) ∧ Dp K H y d ∧
  SeqAt.shaped (.list ds) = true ∧ SeqAt.shaped d = true ∧ Q (.int ((ds.countP fun z => PyData.eqv z d : Nat) : Int)) H
section
variable {X : Cx} {c : Cf}
theorem mt_countD (hu : X.A.units + 65 < cLine) : MtR X "list.count" (rCountD X.K) := by
  intro pins s σ H x xs v us Q I rx rxs h
  obtain ⟨a, y, d, ds, rfl, rfl, hl, hy, sl, sd, q⟩ := h
  cases rx
  cases rxs with
  | cons ry rt =>
    rename_i uy ut
    cases rt
    obtain ⟨bs, r1⟩ := Dp.reads I d y uy hy ry
    have hxs : PyData.canLayAll0 ds = true := SeqAt.canLay_of_shaped sl
    have hroom : X.A.units + 1 + min (PyData.depthAll ds) d.depth < cLine := room_in_shaped sd hu
    cases hl with
    | lst hs ha =>
      obtain ⟨its, rv, ⟨⟨cls, dd, data, sls⟩, n, ho, hc, hdn, hdt⟩, hlen⟩ := I.list hs
      simp only at hc hdt
      subst hc hdt
      obtain ⟨as, h4⟩ := Dp.readsAll I ds _ its ha rv
      have hmap : its.map (SeqAt.readOf s.heap) = ds := SeqAt.readsAll_map ds its as hxs h4
      have ec : its.toArray.toList.countP (fun u => PyData.eqv (SeqAt.readOf s.heap u) d) = ds.countP fun z => PyData.eqv z d := by
        rw [← hmap, List.countP_map]
        rfl
      refine call_meets PySem.F.slot_list_count ⟨_, ho, rfl⟩ PySem.F.entry_list_count (PySem.F.args_list_count_2 _ _)
        (SeqAt.list_countAt a its.toArray n dd sls uy (fun u => PyData.eqv (SeqAt.readOf s.heap u) d)) ⟨ho, SeqAt.items_eqAt (vs := its.toArray) (show ReadsAll s.heap its.toArray.toList ds as from h4) r1 hxs (SeqAt.canLay_of_shaped sd) hroom, ?_⟩
      refine ⟨.int ((ds.countP fun z => PyData.eqv z d : Nat) : Int), H, I.tok _, ⟨s.toks, ?_⟩, q⟩
      show Value.int ((its.toArray.toList.countP (fun u => PyData.eqv (SeqAt.readOf s.heap u) d) : Nat) : Int) s.toks = _
      rw [ec]
/-- l.count(x), l.index(x), l a list that is data -/
def fCount : PyData → PyData → (PyData → Prop) → Prop
  | .list ds, d, Q => shp (.list ds) ∧ shp d ∧ Q (.int ((ds.countP fun z => PyData.eqv z d : Nat) : Int))
  | _, _, _ => False
def ixD (d : PyData) : List PyData → Option Nat
  | [] => none
  | z :: r => if PyData.eqv z d = true then some 0 else (ixD d r).map (· + 1)
def fIndex : PyData → PyData → (PyData → Prop) → Prop
  | .list ds, d, Q => shp (.list ds) ∧ shp d ∧ match ixD d ds with
    | some j => Q (.int (j : Nat))
    | none => False
  | _, _, _ => False
theorem ixD_ok {d : PyData} : ∀ {ds : List PyData} {j : Nat}, ixD d ds = some j → (∃ z, ds[j]? = some z ∧ PyData.eqv z d = true) ∧ ∀ (m : Nat) (z' : PyData), m < j → ds[m]? = some z' → PyData.eqv z' d = false
  | [], j, h => by cases h
  | z :: r, j, h => by
    unfold ixD at h
    by_cases e : PyData.eqv z d = true
    · rw [if_pos e] at h
      cases h
      exact ⟨⟨z, rfl, e⟩, fun m z' l => absurd l (Nat.not_lt_zero _)⟩
    · rw [if_neg e] at h
      cases y : ixD d r with
      | none => rw [y] at h; cases h
      | some i =>
        rw [y] at h
        cases h
        obtain ⟨⟨z1, q1, q2⟩, q3⟩ := ixD_ok y
        refine ⟨⟨z1, q1, q2⟩, fun m z' l w => ?_⟩
        cases m with
        | zero => cases w; exact Bool.eq_false_iff.mpr e
        | succ m => exact q3 m z' (Nat.lt_of_succ_lt_succ l) w
def lstP : PyData → Prop
  | .list _ => True
  | _ => False
def dMet (f : PyData → PyData → (PyData → Prop) → Prop) (wo we : Wx) : Wx := fun ev Q => wo ev fun x e1 => lstP x ∧ we e1 fun y e2 => f x y fun z => Q z e2
variable {o e : Expr} {wo we : Wx} {apos cpos : Pos}
theorem lst_of {K : PySem.W.Frag} {H : Hp} {v : V} {d : PyData} (r : Dz K H v d) (h : lstP d) : ∃ a xs ds, v = .ref a ∧ d = .list ds ∧ SqL K H a xs := by
  cases r with
  | lst q r => exact ⟨_, _, _, rfl, rfl, q⟩
  | _ => exact h.elim
theorem de_count (ho : DE X c o wo) (he : DE X c e we) (hu : X.A.units + 65 < cLine)
    (p : ∀ {to : TE} {t : TA}, PE X o to → PA X [e] t → PE X (.Call (.Attribute o "count" apos) [e] [] cpos) (tBM X.K "list" (rCountD X.K) to t))
    (h1 : starEach [e] X.env = (false, eval e X.env) :: starEach [] X.env := by rfl) : DE X c (.Call (.Attribute o "count" apos) [e] [] cpos) (dMet fCount wo we) :=
  peM (p ho (pa_cons he pa_nil h1)) fun σ H Q ⟨M, ev, pd, R, k, w, q⟩ => by
    refine ⟨M, ev, pd, _, k, w, fun x e1 h v H1 k1 => ?_⟩
    obtain ⟨l, h⟩ := h
    obtain ⟨a, xs, ds, rfl, rfl, hs⟩ := lst_of (unm k1.top) l
    refine ⟨.inl ⟨rfl, xs, hs⟩, M, e1, _, _, k1, h, fun y e2 h2 u H2 k2 => ?_⟩
    obtain ⟨s1, s2, h2⟩ : shp (.list ds) ∧ shp y ∧ R (.int ((ds.countP fun z => PyData.eqv z y : Nat) : Int)) e2 := h2
    exact ⟨a, u, y, ds, rfl, rfl, (unm k2.pop1.top).dp (shp_nd s1), (unm k2.top).dp (shp_nd s2), s1, s2, q _ e2 h2 _ _ (k2.pop1.pop1.push (.int _))⟩
theorem de_index (ho : DE X c o wo) (he : DE X c e we) (hu : X.A.units + 65 < cLine)
    (p : ∀ {to : TE} {t : TA}, PE X o to → PA X [e] t → PE X (.Call (.Attribute o "index" apos) [e] [] cpos) (tBM X.K "list" (rIndexD X.K) to t))
    (h1 : starEach [e] X.env = (false, eval e X.env) :: starEach [] X.env := by rfl) : DE X c (.Call (.Attribute o "index" apos) [e] [] cpos) (dMet fIndex wo we) :=
  peM (p ho (pa_cons he pa_nil h1)) fun σ H Q ⟨M, ev, pd, R, k, w, q⟩ => by
    refine ⟨M, ev, pd, _, k, w, fun x e1 h v H1 k1 => ?_⟩
    obtain ⟨l, h⟩ := h
    obtain ⟨a, xs, ds, rfl, rfl, hs⟩ := lst_of (unm k1.top) l
    refine ⟨.inl ⟨rfl, xs, hs⟩, M, e1, _, _, k1, h, fun y e2 h2 u H2 k2 => ?_⟩
    obtain ⟨s1, s2, h2⟩ := h2
    split at h2
    · rename_i j e
      obtain ⟨⟨z, q1, q2⟩, q3⟩ := ixD_ok e
      exact ⟨a, u, y, ds, j, z, rfl, rfl, (unm k2.pop1.top).dp (shp_nd s1), (unm k2.top).dp (shp_nd s2), s1, s2, q1, q2, q3, q _ e2 h2 _ _ (k2.pop1.pop1.push (.int _))⟩
    · exact h2.elim
end
end Z

set_option Elab.async false
set_option linter.all false
set_option maxRecDepth 100000
namespace Z
open PySem PySem.Spec PyProof.Rows L2
theorem room65A {n : Nat} {A : Around} (r : Room n A) : A.units + 65 < cLine := by have := r.un; omega
/-- no error may leave -/
def noX : Xr := fun _ _ _ => False
theorem hxNo {X : Cx} {c : Cf} : XIn X c noX := ⟨fun _ _ _ => False, takes0, fun _ _ _ _ z => z.elim, fun _ z => z.elim⟩
/-- what the text says of the error classes ks (class, field): which names of classes T they are (sub cn T) -/
structure ErrT (K : PySem.W.Frag) (mg : Str → Option Value) (ks : Str → Str → Prop) (ts fs : List Str) (sub : Str → Str → Bool) (top : Str) : Prop where
  cat : ∀ cn fl C CT, ks cn fl → mg cn = some (.ref C) → mg top = some (.ref CT) → PySem.W.exmOne K (.ref C) (.ref CT) = some true
  exc : ∀ cn fl C, ks cn fl → mg cn = some (.ref C) → ExcC K C
  xf : ∀ cn fl C, ks cn fl → mg cn = some (.ref C) → XfC K C
  no : ∀ cn fl C f, ks cn fl → mg cn = some (.ref C) → f ∈ fs → PySem.W.findIn K (.ref C) f = some none
  kit : ∀ cn fl C T CT, ks cn fl → mg cn = some (.ref C) → T ∈ ts → mg T = some (.ref CT) → PySem.W.kitOne K (.ref C) (.ref CT) = some (sub cn T)
  kitV : ∀ cn fl C, ks cn fl → mg cn = some (.ref C) → PySem.W.kitOne K (.ref C) (.type "ValueError") = some true
section
variable {X : Cx} {c : Cf} {a b : Expr} {wa wb : Wx} {pos : Pos}
theorem dt_neU (hu : X.A.units + 65 < cLine) (ha : DE X c a wa) (hb : DE X c b wb) : DT X c (.Compare a [.NotEq] [b] pos) (dTru (dOp fNe wa wb)) := dt_cmp (OpR.or op_ne (op_neD (Nat.lt_of_succ_lt hu))) rz_ne bl_ne ha hb (nobehind b (by decide) (by decide))
theorem dt_eqU (hu : X.A.units + 65 < cLine) (ha : DE X c a wa) (hb : DE X c b wb) : DT X c (.Compare a [.Eq] [b] pos) (dTru (dOp fEq wa wb)) := dt_cmp (OpR.or op_eq (op_eqD (Nat.lt_of_succ_lt hu))) rz_eq bl_eq ha hb (nobehind b (by decide) (by decide))
theorem rel_ref {a : Addr} : ∀ u : Value, RelV (.ref a) u → u = .ref a := fun u r => r
theorem rel_ty {T : String} : ∀ u : Value, RelV (.ty T) u → u = .type T := fun u r => r
end
end Z

set_option Elab.async false
set_option linter.all false
set_option maxRecDepth 100000
namespace Z
open PySem PySem.Spec PyProof.Rows L2
/-! ### repr of data, or of [text, {}] -/
/-- a datum that may be shown, and what comes after -/
structure RD (d : PyData) (P : Prop) : Prop where
  ok : (d.showable = true ∧ d.shown.length ≤ sizeLine ∧ d.depth ≤ 100 ∧ d.hasDict = false) ∨ (∃ w, d = .list [.str w, .dict []] ∧ d.shown.length ≤ sizeLine)
  p : P
def fReprD : List PyData → (PyData → Prop) → Prop
  | [d], Q => RD d (Q (.str d.shown))
  | _, _ => False
def rReprD (K : PySem.W.Frag) : List V → Hp → VK → Prop := fun vs H Q => ∃ x w, vs = [x] ∧ Dz K H x (.list [.str w, .dict []]) ∧ (PyData.list [.str w, .dict []]).shown.length ≤ sizeLine ∧ Q (.str (PyData.list [.str w, .dict []]).shown) H
theorem cr_reprD {X : Cx} {n : Nat} (hr : Room n X.A) (hG : X.A.guards = some []) : CallR X (.builtin "repr") (rReprD X.K) := by
  intro pins s σ H xs us Q I r h
  obtain ⟨x, w, rfl, hd, g2, q⟩ := h
  have un := hr.un
  cases r with
  | cons ru rn =>
  cases rn
  cases hd with
  | lst q1 q2 =>
  cases ru
  rename_i a xs
  obtain ⟨its, rv, ⟨⟨cls, dd, data, sls⟩, m, ho, hc, hdn, hdt⟩, hlen⟩ := I.list q1
  simp only at hc hdt
  subst hc hdt
  cases q2 with
  | cons q2 q3 =>
  cases q3 with
  | cons q3 q4 =>
  cases q4
  cases q2
  cases rv with
  | cons r1 rv =>
  cases rv with
  | cons r2 rv =>
  cases rv
  obtain ⟨t, rfl⟩ := r1
  cases q3 with
  | dct0 hb =>
  cases r2
  rename_i b
  obtain ⟨_, hs, vs, kv, o, es, ep, go, ed, de, _, pr, _⟩ : ObjOk X.prog X.w H s.heap b (.dK []) := I.hok b _ hb
  cases kv
  have ee : es.toList = [] := by cases h : es.toList with
    | nil => rfl
    | cons y l => rw [h] at pr; cases pr
  have rd : Reads s.heap (.ref b) (.dict []) (b :: [] ++ []) := Reads.dict go ed.1 de (by rw [ee]; exact .nil) (by rw [ee]; exact .nil)
  have rl : ReadsAll s.heap [.str w t, .ref b] [.str w, .dict []] ([] ++ (b :: [] ++ [] ++ [])) := .cons (.str w t) (.cons rd .nil)
  have ns : sysModules ∉ ([] ++ (b :: [] ++ [] ++ []) : List Addr) := by
    intro h
    simp only [List.nil_append, List.append_nil, List.mem_cons, List.not_mem_nil, or_false] at h
    rw [← h] at hs
    cases hs
  have r1 : Reads s.heap (.ref a) (.list [.str w, .dict []]) (a :: ([] ++ (b :: [] ++ [] ++ []))) := Reads.list ho rfl rfl rl
  have hz' : (listText (PyData.shownAll [.str w, .dict []])).length ≤ sizeLine := by simpa only [PyData.shown] using g2
  obtain ⟨bs, hbs, hk⟩ := ReprAllK.of_readsAll (prog := X.prog) (w := X.w) rl (by simp [PyData.showableAll, PyData.showable, PyData.showableKv]) (fun _ => ns) (fun t ht => Nat.le_trans (listText_mem_le ht) hz')
  have hna : a ∉ bs := not_mem_of_deeper r1 (by simp only [PyData.depth]; omega) hbs
  have hdep : PyData.depthAll [.str w, .dict []] ≤ 5 := by simp [PyData.depthAll, PyData.depth, PyData.depthKv]
  have e : listText (PyData.shownAll [.str w, .dict []]) = (PyData.list [.str w, .dict []]).shown := by simp only [PyData.shown]
  refine call_repr_slot (by omega) (⟨_, ho, rfl⟩) F.slot_list_repr.toG ?_
  refine call_list_reprK (h₀ := s.heap) (x := .str w t) (l := [.ref b]) ho rfl rfl hna (by simpa using hk.length_eq) (fun i y e => hk.item i y (by simpa using e)) hG (fun b _ => Clear.nil b) (by show X.A.units + 1 + (_ + 1) < cLine; omega) (fun _ _ e => e) (fun h' u tk k => ⟨_, _, rfl, ?_⟩) hz'
  rw [e]
  exact ⟨.str _, H, I.kept k, ⟨u, rfl⟩, q⟩
theorem rz_reprD {K : PySem.W.Frag} : RZc K (fun vs H Q => rRepr K vs H Q ∨ rReprD K vs H Q) fReprD := by
  intro c M σ H ev pd vs ds R Q k a w q
  unfold fReprD at w
  split at w
  · cases a with
    | cons a b =>
      cases b
      rcases w.ok with o | ⟨w', rfl, o⟩
      · exact .inl ⟨_, _, rfl, (unm a).dp o.2.2.2, o, q _ _ _ w.p (k.push (.str _))⟩
      · exact .inr ⟨_, _, rfl, unm a, o, q _ _ _ w.p (k.push (.str _))⟩
  · exact w.elim
section
variable {X : Cx} {c : Cf} {p pos : Pos} {e : Expr} {es : List Expr} {u : Wa}
theorem de_reprD {n : Nat} (hr : Room n X.A) (hG : X.A.guards = some []) (hg : Gl X "repr") (hm : X.mg "repr" = none) (ha : DA X c (e :: es) u) (h3 : starEach (e :: es) X.env = (false, eval e X.env) :: starEach es X.env := by rfl) (h4 : (backTo pos (starEach es X.env)).any (·.1) = false := by rfl) :
    DE X c (.Call (.Name "repr" p) (e :: es) [] pos) (dCal fReprD u) := de_cB (callR_or (cr_repr hr hG) (cr_reprD hr hG)) rz_reprD hg hm (by decide +kernel) ha (h3 := h3) (h4 := h4)
end
theorem RD_of {w n k : Nat} {d : PyData} {P : Prop} (a : Sh w n k d) (h : w ≤ 1900) (h1 : n ≤ 10000000) (h2 : k ≤ 100) (q : P) : RD d P := ⟨.inl ⟨a.ok h, by have := a.len; rw [sizeLine_eq]; omega, Nat.le_trans a.dep h2, a.nd⟩, q⟩
/-- data that a law keeps and shows -/
def shK (d : PyData) : Prop := d = .dict [] ∨ ∃ w n k, Sh w n k d ∧ w ≤ 1900 ∧ n ≤ 1000000 ∧ k ≤ 50
end Z

set_option Elab.async false
set_option linter.all false
set_option maxRecDepth 100000
/-! ## own errors without a field: class cn(..): pass -/
namespace Z
open PySem PySem.Spec PyProof.Rows L2
structure X0Txt (K : PySem.W.Frag) (mg : Str → Option Value) (cn : Str) (C : Addr) : Prop where
  gC : mg cn = some (.ref C)
  ex : PySem.W.excIn K C [.type "ValueError", .type "Exception", .type "BaseException", .type "object"] "ValueError.__new__" = true
  kC : PySem.W.keepIn K (.ref C) = true
  exC : PySem.W.subIn K (.ref C) (.type "BaseException") = some true
  tyC : PySem.W.typeIn K (.ref C) = some (.type "type")
section
variable {X : Cx} {C : Addr} {bmB : List Value} {B newId initId : String}
theorem pmk_own0 {x : Str} {p pos : Pos} (F : ExcBaseFacts B newId initId bmB) (q : PySem.W.excIn X.K C bmB newId = true) (gC : X.mg x = some (.ref C)) (kC : PySem.W.keepIn X.K (.ref C) = true) (r : Raises X (.ref C)) (hg : Gl X x)
    (hdb : (x == ("__debug__" : Str)) = false) : PMk X (.Call (.Name x p) [] [] pos) (fun _ H Q => Q (.ref C) none H) := by
  intro pins s σ H Q I h
  refine wpAny_Call_Name_kw (ld_glob I hg gC ?_ hdb)
  refine PySem.W.callWith_K0 I.kIn kC ?_
  show wpAny _ _ (call (.ref C) []) _ _ _
  obtain ⟨bm, N, nm, qn, bs, hdct, sn, sub, ab, col, dd, k0, k1, k2, k3, k5, mN, hC, hN, hni, T⟩ := exc_obj I.kIn q
  refine wpAny_call_exc_subT F T hC hN hni (fun h' e hm => ?_) (by show 0 ≤ sizeLine; exact Nat.zero_le _)
  exact mk_of I hm r h (I.hok.gone hm.new)
end
def wRaise0 (XR : Xr) (cn : Str) : Ws := fun _ _ => XR cn noF .none
section
variable {X : Cx} {c : Cf} {cn : Str} {C : Addr} {XR : Xr}
theorem ds_raise0 {p pos pos2 : Pos} (hc : X.calm = true) (T : X0Txt X.K X.mg cn C) (hx : XIn X c XR) (hg : Gl X cn) (hdb : (cn == ("__debug__" : Str)) = false := by decide) :
    DS X c (.Raise (some (.Call (.Name cn p) [] [] pos)) none pos2) (wRaise0 XR cn) := by
  obtain ⟨E, tk, xo⟩ := hx
  exact psM (ps_raise hc tk (pmk_own0 PySem.F.excBase_ValueError T.ex T.gC T.kC (raises_own T.exC T.tyC) hg hdb)) fun De σ H ⟨M, ev, pd, R, k, h, f⟩ => xo.2 cn h C H T.gC (fun b o z t => k.frame b o z t)
end
/-- a caught exception without a field, as data -/
def excN0 (a : Nat) : PyData := .dict [(.int a, .none)]
def wTry0 (n : Nat) (C : Cx') (i : Nat) (u : Wa) (ks : Str → Str → Prop) (ws : Str → Str → Nat → Nat → Ws) (ks0 : Str → Prop) (ws0 : Str → Nat → Ws) : Ws := fun E ev => u ev fun ds e => ds.length = n ∧ C ds (fun _ => E.nx e) fun cn fl g =>
  (fl ≠ noF ∧ ks cn fl ∧ notOwn e i ∧ ∀ a dd : Nat, ws cn fl a dd (edS i E) (e.set i (some (.val (excD a dd fl g))))) ∨ (fl = noF ∧ ks0 cn ∧ notOwn e i ∧ ∀ a : Nat, ws0 cn a (edS i E) (e.set i (some (.val (excN0 a)))))
def wTryO (n : Nat) (C : Cx') (u : Wa) (ks0 : Str → Prop) (w : Ws) : Ws := fun E ev => u ev fun ds e => ds.length = n ∧ C ds (fun _ => E.nx e) fun cn fl g => fl = noF ∧ ks0 cn ∧ w E e
section
variable {X : Cx} {c : Cf} {k kg n i : Nat} {x nm T : Str} {cT : Value} {ps : List Str} {p pos pos0 pos1 pos2 pos' np : Pos} {e : Expr} {es : List Expr} {u : Wa} {b₀ : Stmt} {suite : List Stmt} {ks : Str → Str → Prop} {ws : Str → Str → Nat → Nat → Ws} {ks0 : Str → Prop} {ws0 : Str → Nat → Ws}
def tSu0 (K : PySem.W.Frag) (mg : Str → Option Value) (c : Cf) (ks : Str → Str → Prop) (ws : Str → Str → Nat → Nat → Ws) (ks0 : Str → Prop) (ws0 : Str → Nat → Ws) (a : Addr) (cls : Value) (d : Option Addr) : TS := fun De σ H =>
  tSu K mg c ks ws a cls d De σ H ∨ ∃ (cn : Str) (C : Addr), cls = .ref C ∧ d = none ∧ mg cn = some (.ref C) ∧ ks0 cn ∧ tS K c (ws0 cn a) De σ H
theorem ds_tryCall0 {C : Cx'} (hs : X.stack = X.env :: X.outer) (hf : X.env.frame = some X.env.locals) (hN : X.N.Nodup) (hi : X.N[i]? = some nm) (hln : X.env.kindOf nm = some .local) (hc : Names X T cT)
    (F : ClX X.prog X.w X.K X.mg X.base kg x ps (spX X.mg X.K n C)) (hk : kg ≤ k) (hr : Room k X.A) (hG : X.A.guards = some []) (hg : Gl X x)
    (hcat : ∀ cn fl C, ks cn fl → X.mg cn = some (.ref C) → PySem.W.exmOne X.K (.ref C) cT = some true)
    (hcat0 : ∀ cn C, ks0 cn → X.mg cn = some (.ref C) → PySem.W.exmOne X.K (.ref C) cT = some true)
    (ha : ∀ (pn : List (Addr × Obj)) (xe : Value → Shared → Prop), DA (X.tr pn xe) c (e :: es) u)
    (hsu : ∀ (cn fl : Str) (C dd a : Addr) (oe : Obj) (pn : List (Addr × Obj)), ks cn fl → X.mg cn = some (.ref C) → Zc (.ref C) (some dd) oe → (∃ vs, oe.data = .fields vs) → DSs (X.suite a ((a, oe) :: pn)) c (b₀ :: suite) (ws cn fl a dd))
    (hsu0 : ∀ (cn : Str) (C a : Addr) (oe : Obj) (pn : List (Addr × Obj)), ks0 cn → X.mg cn = some (.ref C) → Zc (.ref C) none oe → (∃ vs, oe.data = .fields vs) → DSs (X.suite a ((a, oe) :: pn)) c (b₀ :: suite) (ws0 cn a))
    (h2 : (x == ("__debug__" : Str)) = false := by decide) (h3 : starEach (e :: es) X.env = (false, eval e X.env) :: starEach es X.env := by rfl) (h4 : (backTo pos1 (starEach es X.env)).any (·.1) = false := by rfl)
    (hsw : swapsWith (.Call (.Name x p) (e :: es) [] pos1) none pos2.line X.env = pure false := by rfl) :
    DS X c (.Try [.Expr (.Call (.Name x p) (e :: es) [] pos1) pos2] [.ExceptHandler (some (.Name T np)) (some nm) (b₀ :: suite) pos'] [] [] pos) (wTry0 n C i u ks ws ks0 ws0) := by
  have tr := ps_try_as (X := X) (x := T) (n := nm) (c := cT) (i := i) (body := [.Expr (.Call (.Name x p) (e :: es) [] pos1) pos2]) (suite := suite) (b₀ := b₀) (np := np) (pos := pos) (pos' := pos')
    (tb := fun W => tDrop (fun σ H Q => tA X.K c u σ H fun vs H1 => spX X.mg X.K n C vs H1 Q (WE W σ))) (ts := tSu0 X.K X.mg c ks ws ks0 ws0) (Wout := fun _ _ _ _ => False) hs hf hN hi hln hc takes0
    (fun W pn xe tk _ => pss_one (ps_expr (by exact (pe_cX (X := X.tr pn xe) F tk hk hr hG hg (ha pn xe) h2 h3 h4)) hsw))
    (fun a oe cls d pn hz hfd => ⟨fun pins s σ H D I h => by
      rcases h with ⟨cn, fl, C, dd, rfl, rfl, hmg, hks, q⟩ | ⟨cn, C, rfl, rfl, hmg, hks, q⟩
      · exact (hsu cn fl C dd a oe pn hks hmg hz hfd).run pins s σ H D I q
      · exact (hsu0 cn C a oe pn hks hmg hz hfd).run pins s σ H D I q⟩)
  refine psM tr fun De σ H ⟨M, ev, pd, R, k, h, f⟩ => ?_
  refine ⟨M, ev, pd, _, k, h, fun ds e' ⟨l, h1⟩ vs H1 k1 r => ⟨M, ds, fun _ => R.nx e', _, by rw [r.len, l], k1.mkOk, r, h1, fun d hd v H' g z => f.nx e' hd M σ H' (k1.grow g), ?_⟩⟩
  refine ⟨fun cn fl g nf hh C dd v H' hmg kp md hdd rz => ?_, fun cn hh C H' hmg kp => ?_⟩
  · rcases hh with ⟨_, hks, no, hw⟩ | ⟨z, _⟩
    · refine ⟨true, hcat cn fl C hks hmg, fun _ a hA => .inl ⟨cn, fl, C, dd, rfl, rfl, hmg, hks, M, e'.set i (some (.val (excD a dd fl g))), pd, edS i R, (k1.grow kp).set no (.exc (msk_of hdd md) rz), hw a dd, ?_⟩, fun q => Bool.noConfusion q⟩
      exact ⟨fun ev' ⟨no', q⟩ M' σ' H'' k' => f.nx _ q M' _ H'' (k'.unset no'), f.rt, fun ev' ⟨no', q⟩ M' σ' H'' k' => f.bk _ q M' _ H'' (k'.unset no'), fun ev' ⟨no', q⟩ M' σ' H'' k' => f.ct _ q M' _ H'' (k'.unset no'), f.rl⟩
    · exact absurd z nf
  · rcases hh with ⟨z, _⟩ | ⟨_, hks, no, hw⟩
    · exact absurd rfl z
    · refine ⟨true, hcat0 cn C hks hmg, fun _ a hA => .inr ⟨cn, C, rfl, rfl, hmg, hks, M, e'.set i (some (.val (excN0 a))), pd, edS i R, (k1.grow kp).set no (.excN a), hw a, ?_⟩, fun q => Bool.noConfusion q⟩
      exact ⟨fun ev' ⟨no', q⟩ M' σ' H'' k' => f.nx _ q M' _ H'' (k'.unset no'), f.rt, fun ev' ⟨no', q⟩ M' σ' H'' k' => f.bk _ q M' _ H'' (k'.unset no'), fun ev' ⟨no', q⟩ M' σ' H'' k' => f.ct _ q M' _ H'' (k'.unset no'), f.rl⟩
theorem ds_tryOnly {C : Cx'} {w : Ws} (hs : X.stack = X.env :: X.outer) (hf : X.env.frame = some X.env.locals) (hc : Names X T cT)
    (F : ClX X.prog X.w X.K X.mg X.base kg x ps (spX X.mg X.K n C)) (hk : kg ≤ k) (hr : Room k X.A) (hG : X.A.guards = some []) (hg : Gl X x)
    (hcat0 : ∀ cn C, ks0 cn → X.mg cn = some (.ref C) → PySem.W.exmOne X.K (.ref C) cT = some true)
    (ha : ∀ (pn : List (Addr × Obj)) (xe : Value → Shared → Prop), DA (X.tr pn xe) c (e :: es) u)
    (hsu0 : ∀ (a : Addr) (oe : Obj) (pn : List (Addr × Obj)), DSs (X.suite a ((a, oe) :: pn)) c (b₀ :: suite) w)
    (h2 : (x == ("__debug__" : Str)) = false := by decide) (h3 : starEach (e :: es) X.env = (false, eval e X.env) :: starEach es X.env := by rfl) (h4 : (backTo pos1 (starEach es X.env)).any (·.1) = false := by rfl)
    (hsw : swapsWith (.Call (.Name x p) (e :: es) [] pos1) none pos2.line X.env = pure false := by rfl) :
    DS X c (.Try [.Expr (.Call (.Name x p) (e :: es) [] pos1) pos2] [.ExceptHandler (some (.Name T np)) none (b₀ :: suite) pos'] [] [] pos) (wTryO n C u ks0 w) := by
  have tr := ps_try_only (X := X) (x := T) (c := cT) (body := [.Expr (.Call (.Name x p) (e :: es) [] pos1) pos2]) (suite := suite) (b₀ := b₀) (np := np) (pos := pos) (pos' := pos')
    (tb := fun W => tDrop (fun σ H Q => tA X.K c u σ H fun vs H1 => spX X.mg X.K n C vs H1 Q (WE W σ))) (ts := fun _ _ _ => tS X.K c w) (Wout := fun _ _ _ _ => False) hs hf hc takes0
    (fun W pn xe tk _ => pss_one (ps_expr (by exact (pe_cX (X := X.tr pn xe) F tk hk hr hG hg (ha pn xe) h2 h3 h4)) hsw))
    (fun a oe cls d pn hz hfd => hsu0 a oe pn)
  refine psM tr fun De σ H ⟨M, ev, pd, R, k, h, f⟩ => ?_
  refine ⟨M, ev, pd, _, k, h, fun ds e' ⟨l, h1⟩ vs H1 k1 r => ⟨M, ds, fun _ => R.nx e', _, by rw [r.len, l], k1.mkOk, r, h1, fun d hd v H' g z => f.nx e' hd M σ H' (k1.grow g), ?_⟩⟩
  refine ⟨fun cn fl g nf hh => absurd hh.1 nf, fun cn hh C H' hmg kp => ?_⟩
  obtain ⟨_, hks, hw⟩ := hh
  exact ⟨true, hcat0 cn C hks hmg, fun _ a hA => ⟨M, e', pd, R, k1.grow kp, hw, f⟩, fun q => Bool.noConfusion q⟩
end
/-! ### in a suite: isinstance(e, T) of an exception without a field; what is never read -/
def excAt0 (a : Nat) : PyData → Prop → Prop
  | .dict [(.int a', .none)], P => a' = (a : Int) ∧ P
  | _, _ => False
theorem excAt0_inv {K : PySem.W.Frag} {H : Hp} {a : Nat} {v : V} {d : PyData} {P : Prop} (r : Dz K H v d) (h : excAt0 a d P) : v = .ref a ∧ d = excN0 a ∧ P := by
  cases r with
  | excN b =>
    obtain ⟨h1, p⟩ := h
    have e1 := Int.ofNat.inj h1
    subst e1
    exact ⟨rfl, rfl, p⟩
  | _ => exact h.elim
def dIsX0 (a : Nat) (b : Bool) (w : Wx) : Wx := fun ev Q => w ev fun d e => excAt0 a d (Q (.bool b) e)
def dNo : Wx := fun _ _ => False
section
variable {X : Cx} {c : Cf} {p p2 pos : Pos} {e : Expr} {w : Wx} {a D : Addr} {oe : Obj} {pn : List (Addr × Obj)}
theorem de_isX0 (T : Str) {cT : V} {uT : Value} {b : Bool} (C : ExcC X.K D) (hz : Zc (.ref D) none oe) (hf : ∃ vs, oe.data = .fields vs) (hT : PE (X.suite a ((a, oe) :: pn)) (.Name T p2) (tC cT)) (hc : ∀ u, RelV cT u → u = uT) (hk : PySem.W.kitOne X.K (.ref D) uT = some b)
    (hg : Gl X "isinstance") (hm : X.mg "isinstance" = none) (ha : DE (X.suite a ((a, oe) :: pn)) c e w)
    (h3 : starEach [e, .Name T p2] X.env = (false, eval e X.env) :: starEach [.Name T p2] X.env := by rfl) (h5 : starEach [.Name T p2] X.env = (false, eval (.Name T p2) X.env) :: starEach [] X.env := by rfl) (h4 : (backTo pos (starEach [.Name T p2] X.env)).any (·.1) = false := by rfl) :
    DE (X.suite a ((a, oe) :: pn)) c (.Call (.Name "isinstance" p) [e, .Name T p2] [] pos) (dIsX0 a b w) :=
  peM (pe_callB (X := X.suite a ((a, oe) :: pn)) (call_isE C hz hf) hg hm (by decide +kernel) (pa_cons ha (pa_cons hT pa_nil h5) h3) (by decide) (by decide) h3 h4) fun σ H Q ⟨M, ev, pd, R, k, w, q⟩ =>
    ⟨M, ev, pd, _, k, w, fun d e h v H1 k1 => by
      obtain ⟨rfl, rfl, p⟩ := excAt0_inv k1.top h
      exact ⟨cT, uT, b, rfl, hc, hk, q _ e p _ _ (k1.pop1.push (.bl _))⟩⟩
theorem de_no : DE X c e dNo := ⟨fun pins s σ H Q I ⟨M, ev, pd, R, k, w, q⟩ => w.elim⟩
end
/-! ### f(a = e, ..) of a def that may raise -/
structure ClKX (P : Program) (wd : World) (K : PySem.W.Frag) (mg : Str → Option Value) (base : Heap) (k : Nat) (x : Str) (ps : List Str) (sp : Sp) : Prop where
  ex : ∃ f fd, mg x = some (.ref f) ∧ PySem.W.keepIn K (.ref f) = true ∧ KBn K fd ps 0 ps (fun _ ws => ws) (fun _ zs => zs) ∧ FnG P wd K mg base (L2.CX P wd) k f fd ps sp
section
variable {X : Cx} {c : Cf} {k kg n : Nat} {x : Str} {ps : List Str} {p pos : Pos} {u : Wa}
theorem pe_cKX {sp : Sp} {t : TA} {W : WX} {kws : List Keyword} (F : ClKX X.prog X.w X.K X.mg X.base kg x ps sp) (tk : Takes X W) (hk : kg ≤ k) (hr : Room k X.A) (hG : X.A.guards = some []) (hg : Gl X x) (ha : PK X kws t) (h1 : (backToKw pos (keywordEach kws X.env)).all (·.1.isSome) = true) (h2 : (backToKw pos (keywordEach kws X.env)).filterMap (·.1) = ps)
    (h3 : (x == ("__debug__" : Str)) = false) (h4 : ((backTo pos (starEach [] X.env)).any (·.1) || (backToKw pos (keywordEach kws X.env)).any (·.1.isNone)) = false) : PE X (.Call (.Name x p) [] kws pos) (fun σ H Q => t σ H fun vs H1 => sp vs H1 Q (WE W σ)) := by
  obtain ⟨f, fd, hm, hkp, hb, F⟩ := F.ex
  constructor
  intro pins s σ H Q I h
  apply wpAny_Call_Name_kw
  apply ld_glob I hg hm _ h3
  refine PySem.W.callWith_KW0 (h₀ := X.base) I.ok.mod.kin hkp h1 (thn (ha.run pos pins s σ H _ I h) ?_) h4
  rintro ws s1 ⟨vs, H1, I1, r, q⟩
  refine ⟨I1.kIn, ?_⟩
  rw [h2]
  have ar := F.ar _ _ _ _ q
  have b := hb.to s1 [] ws I1.kIn rfl (by rw [← r.length, ar])
  exact callGX (args := ⟨[], ps.zip ws⟩) (us := []) (kw := ps.zip ws) (runGX F hk hr hG (passAt tk σ) I1 b r q)
theorem de_fnXK {XR : Xr} {C : Cx'} {kws : List Keyword} (F : ClKX X.prog X.w X.K X.mg X.base kg x ps (spX X.mg X.K n C)) (hx : XIn X c XR) (hk : kg ≤ k) (hr : Room k X.A) (hG : X.A.guards = some []) (hg : Gl X x) (ha : DK X c kws u) (h1 : (backToKw pos (keywordEach kws X.env)).all (·.1.isSome) = true := by rfl) (h2 : (backToKw pos (keywordEach kws X.env)).filterMap (·.1) = ps := by rfl)
    (h3 : (x == ("__debug__" : Str)) = false := by decide) (h4 : ((backTo pos (starEach [] X.env)).any (·.1) || (backToKw pos (keywordEach kws X.env)).any (·.1.isNone)) = false := by rfl) : DE X c (.Call (.Name x p) [] kws pos) (dFnX XR n C u) := by
  obtain ⟨E, tk, xo⟩ := hx
  exact peM (pe_cKX F tk hk hr hG hg ha h1 h2 h3 h4) fun σ H Q ⟨M, ev, pd, R, k, w, q⟩ =>
    ⟨M, ev, pd, _, k, w, fun ds e ⟨l, h1⟩ vs H1 k1 r => ⟨M, ds, _, XR, by rw [r.len, l], k1.mkOk, r, h1, fun d hd v H' g z => q d e hd v H' ((k1.grow g).push z),
      xo.imp (fun H' g b o z t => g b o (k1.frame b o z t)) k1.sub⟩⟩
end
/-- what the text says of the error classes ks0 that have no field -/
structure ErrT0 (K : PySem.W.Frag) (mg : Str → Option Value) (ks0 : Str → Prop) (ts : List Str) (sub : Str → Str → Bool) (top : Str) : Prop where
  cat : ∀ cn C CT, ks0 cn → mg cn = some (.ref C) → mg top = some (.ref CT) → PySem.W.exmOne K (.ref C) (.ref CT) = some true
  exc : ∀ cn C, ks0 cn → mg cn = some (.ref C) → ExcC K C
  kit : ∀ cn C T CT, ks0 cn → mg cn = some (.ref C) → T ∈ ts → mg T = some (.ref CT) → PySem.W.kitOne K (.ref C) (.ref CT) = some (sub cn T)
  kitV : ∀ cn C, ks0 cn → mg cn = some (.ref C) → PySem.W.kitOne K (.ref C) (.type "ValueError") = some true
end Z

set_option synthInstance.maxSize 4000
set_option synthInstance.maxHeartbeats 400000
set_option maxHeartbeats 1000000
set_option Elab.async false
set_option linter.all false
set_option maxRecDepth 100000
namespace Lk13
open PySem L2 Z
local macro_rules | `(tactic| walk_at "sz") => `(tactic| first
  | exact mulC_of inferInstance inferInstance (by decide +kernel)
  | exact divC_of inferInstance (by first | assumption | omega | decide) (by decide +kernel)
  | exact szUp inferInstance (by decide +kernel))
local macro_rules | `(tactic| walk_at "rp") => `(tactic| refine RP_of inferInstance (by decide +kernel) (by decide +kernel) (by decide +kernel) ?_)
local macro_rules | `(tactic| walk_at "go") => `(tactic| repeat' (first
  | exact trivial
  | exact rfl
  | assumption
  | exact Or.inl rfl
  | exact Or.inr ⟨rfl, rfl⟩
  | walk_at "sz"
  | refine And.intro ?_ ?_
  | exact Nat.le_of_ble_eq_true rfl))
local macro_rules | `(tactic| walk_at "all") => `(tactic| repeat' (first
  | exact trivial
  | exact rfl
  | assumption
  | exact Or.inl rfl
  | exact Or.inr ⟨rfl, rfl⟩
  | walk_at "sz"
  | walk_at "rp"
  | refine And.intro ?_ ?_
  | exact Nat.le_of_ble_eq_true rfl
  | refine ⟨_, _, _, _, rfl, ?_⟩
  | refine ⟨_, _, rfl, ?_⟩
  | fail))
local macro_rules | `(tactic| walk_at "mu") => `(tactic| repeat' (first
  | exact trivial
  | walk_at "sz"
  | refine And.intro ?_ ?_))
local macro_rules | `(tactic| walk_at "ne") => `(tactic| (rw [eqv_str, decide_eq_true (p := _ = _) rfl]; refine ite_f rfl ?_))
local macro_rules | `(tactic| walk_at "ob") => `(tactic| repeat (first
  | refine And.intro trivial ?_
  | refine And.intro rfl ?_
  | refine And.intro (Nat.le_of_ble_eq_true rfl) ?_
  | refine And.intro (by walk_at "sz") ?_
  | refine And.intro (Or.inl rfl) ?_
  | refine And.intro (Or.inr ⟨rfl, rfl⟩) ?_))

-- KS0 NoMap
-- TOP NoMap
abbrev ks0 : Str → Prop := fun cn => cn ∈ (["NoMap"] : List Str)
abbrev ets : List Str := []
abbrev efs : List Str := []
abbrev sub : Str → Str → Bool := fun cn T => decide (cn = T)
abbrev etop : Str := "NoMap"

instance szc_0 : Sz 1 (0 : Int) := ⟨by decide⟩
instance szc_1 : Sz 1 (1 : Int) := ⟨by decide⟩
instance szc_2 : Sz 2 (2 : Int) := ⟨by decide⟩
instance szc_3 : Sz 2 (3 : Int) := ⟨by decide⟩
instance szc_4 : Sz 3 (4 : Int) := ⟨by decide⟩
instance szc_5 : Sz 3 (5 : Int) := ⟨by decide⟩
instance szc_7 : Sz 3 (7 : Int) := ⟨by decide⟩
instance szc_8 : Sz 4 (8 : Int) := ⟨by decide⟩
instance szc_9 : Sz 4 (9 : Int) := ⟨by decide⟩
instance szc_10 : Sz 4 (10 : Int) := ⟨by decide⟩
instance szc_18 : Sz 5 (18 : Int) := ⟨by decide⟩
instance szc_19 : Sz 5 (19 : Int) := ⟨by decide⟩
instance szc_37 : Sz 6 (37 : Int) := ⟨by decide⟩
instance szc_53 : Sz 6 (53 : Int) := ⟨by decide⟩
instance szc_99 : Sz 7 (99 : Int) := ⟨by decide⟩
instance szc_2000 : Sz 11 (2000 : Int) := ⟨by decide⟩
instance szc_2003 : Sz 11 (2003 : Int) := ⟨by decide⟩
instance szc_7001 : Sz 13 (7001 : Int) := ⟨by decide⟩
instance szc_9001 : Sz 14 (9001 : Int) := ⟨by decide⟩
instance szc_30011 : Sz 15 (30011 : Int) := ⟨by decide⟩
instance szc_33013 : Sz 16 (33013 : Int) := ⟨by decide⟩
instance szc_51977 : Sz 16 (51977 : Int) := ⟨by decide⟩
instance szc_70001 : Sz 17 (70001 : Int) := ⟨by decide⟩
instance szc_90011 : Sz 17 (90011 : Int) := ⟨by decide⟩
instance szc_1000003 : Sz 20 (1000003 : Int) := ⟨by decide⟩
instance szc_2147483629 : Sz 31 (2147483629 : Int) := ⟨by decide⟩
def c_is_whole : Cp := fun ds R => ∃ d, ds = [d] ∧ isX d = false ∧ R (.bool (whole d))
def c_are_wholes : Cp := fun ds R => ∃ v n, ds = [v, .int n] ∧ okv v = true ∧ R (.bool (areW v n))
def c_common_of : Cp := fun ds R => ∃ us : List Int, ds = [tup us] ∧ R (.int (gcI us))
def c_minus : Cp := fun ds R => ∃ a b c d, ds = [cp a b, cp c d] ∧ (Sm a ∧ Sm b ∧ Sm c ∧ Sm d) ∧ R (cp (a - c) (b - d))
def c_times : Cp := fun ds R => ∃ a b c d, ds = [cp a b, cp c d] ∧ (Sm a ∧ Sm b ∧ Sm c ∧ Sm d) ∧ R (cp (a * c - b * d) (a * d + b * c))
def c_conjugate_of : Cp := fun ds R => ∃ a b, ds = [cp a b] ∧ (Sm a ∧ Sm b) ∧ R (cp a (-b))
def c_norm_of : Cp := fun ds R => ∃ a b, ds = [cp a b] ∧ (Sm a ∧ Sm b) ∧ R (.int (a * a + b * b))
def c_is_quarter : Cp := fun ds R => ∃ a b, ds = [cp a b] ∧ R (.bool (decide (0 < a) && decide (0 ≤ b)))
def c_turned : Cp := fun ds R => ∃ a b, ds = [cp a b] ∧ R (cp (-b) a)
def c_quarter_of : Cp := fun ds R => ∃ a b, ds = [cp a b] ∧ R (cd (qf a b))
def c_exact_quotient : Cp := fun ds R => ∃ a b c d, ds = [cp a b, cp c d] ∧ (Sz 2000 a ∧ Sz 2000 b ∧ Sz 2000 c ∧ Sz 2000 d) ∧ R (od (xq a b c d))
def c_rest_of : Cp := fun ds R => ∃ a b c d, ds = [cp a b, cp c d] ∧ (Sz 2000 a ∧ Sz 2000 b ∧ Sz 2000 c ∧ Sz 2000 d) ∧ 0 < c * c + d * d ∧ ∀ t : G, 2 * nm (les (a, b) t (c, d)) ≤ c * c + d * d → R (cd (les (a, b) t (c, d)))
def c_divisor_of : Cp := fun ds R => ∃ (ps : List G) (n : Nat), ds = [.tuple (ps.map cd)] ∧ ps.length ≤ 1000 ∧ n ≤ 900 ∧ (∀ p ∈ ps, Sz n p.1 ∧ Sz n p.2) ∧ ∀ g : G, GC ps g → qf g.1 g.2 = g → Sz n g.1 → Sz n g.2 → R (cd g)
def c_divisor_of_two : Cp := fun ds R => ∃ a b c d n, ds = [cp a b, cp c d] ∧ (Sz n a ∧ Sz n b ∧ Sz n c ∧ Sz n d) ∧ n ≤ 900 ∧ ∀ x y, GC [(a, b), (c, d)] (x, y) → Sz n x → Sz n y → R (cp x y)
def c_divisor_by_steps : Cp := fun ds R => ∃ a b c d n, ds = [cp a b, cp c d] ∧ (Sz 2000 a ∧ Sz 2000 b) ∧ (Sz n c ∧ Sz n d) ∧ n ≤ 2000 ∧ ∀ x y, GC [(a, b), (c, d)] (x, y) → ((c, d) ≠ ((0, 0) : G) → Sz n x ∧ Sz n y) → ((c, d) = ((0, 0) : G) → x = a ∧ y = b) → R (cp x y)
def c_is_complex : Cp := fun ds R => ∃ v, ds = [v] ∧ okv v = true ∧ R (.bool (areW v 2))
def c_require_complex : Cx' := fun ds R XR => ∃ d, ds = [d] ∧ okv d = true ∧ (areW d 2 = true → R .none) ∧ (areW d 2 = false → XR "InvalidComplex" "given" d)
def c_determinant : Cp := fun ds R => ∃ a b c d : G, ds = [q4 a b c d] ∧ S4 5000 a b c d ∧ R (cd (dtm a b c d))
def c_map_from : Cp := fun ds R => ∃ (f : Int) (a b c d m : G) (n : Nat), ds = [.int f, q4 a b c d, cd m] ∧ S4 n a b c d ∧ (Sz n m.1 ∧ Sz n m.2) ∧ n ≤ 900 ∧ dtm a b c d ≠ (0, 0) ∧ (∀ k, gdv k a → gdv k b → gdv k c → gdv k d → gdv k m) ∧
  ∀ g x y z w : G, g ≠ (0, 0) → a = gm g x → b = gm g y → c = gm g z → d = gm g w → Fm (n + 1) x y z w → R (mp f x y z w)
def flg : PyData → Bool
  | .int i => decide (0 ≤ i) && decide (i ≤ 1)
  | _ => false
def c_is_flag : Cp := fun ds R => ∃ d, ds = [d] ∧ isX d = false ∧ R (.bool (flg d))
def shM : PyData → Bool
  | .tuple [x0, x1, x2, x3, x4] => flg x0 && (areW x1 2 && (areW x2 2 && (areW x3 2 && areW x4 2)))
  | _ => false
def okm : PyData → Bool
  | .tuple xs => Nat.ble xs.length 1000 && xs.all fun x => okd x && okd (.tuple [x])
  | d => !isX d
/-- what a law shows to is_map -/
def MV (d : PyData) : Prop := (∃ (f : Int) (A : M4), d = mp4 f A ∧ (f = 0 ∨ f = 1) ∧ S44 60 A) ∨ (okm d = true ∧ shM d = false)
open Classical in
noncomputable def isMapB (d : PyData) : Bool := decide (∃ (f : Int) (A : M4), d = mp4 f A ∧ (f = 0 ∨ f = 1) ∧ A.dt ≠ 0 ∧ nrm A = A)
def c_is_map : Cp := fun ds R => ∃ d, ds = [d] ∧ MV d ∧ R (.bool (isMapB d))
def c_map_of : Cx' := fun ds R XR => ∃ (f : Int) (A : M4) (n : Nat), ds = [.int f, cd A.a, cd A.b, cd A.c, cd A.d] ∧ (f = 0 ∨ f = 1) ∧ S44 n A ∧ n ≤ 800 ∧ (A.dt = 0 → XR "NoMap" noF .none) ∧ (A.dt ≠ 0 → R (mp4 f (nrm A)))
def c_law_tank : List PyData → (List PyData → Prop) → Prop := fun ds R => ∃ (ns : List Int) (k : Int), ds = [.list (ns.map .int), .int k] ∧ ns.length ≤ 63 ∧ 0 ≤ k ∧ k ≤ 2 ∧ ∀ r s, 0 ≤ r → 0 ≤ s → s < 2147483629 → R [.int r, .int s, .int 0]
def c_law_draw : Ct := fun ts ds R => ∃ b m, Tk b ts ∧ b < 1000000000000 ∧ ds = [.int m] ∧ 0 < m ∧ m < 1000000000 ∧ ∀ k ts', 0 ≤ k → k < m → Tk (b + 1) ts' → R (.int k) ts'
def c_law_pick : Ct := fun ts ds R => ∃ b xs, Tk b ts ∧ b < 1000000000000 ∧ (ds = [.tuple xs] ∨ ds = [.list xs]) ∧ 0 < xs.length ∧ xs.length ≤ 1000 ∧ ∀ x ts', x ∈ xs → Tk (b + 1) ts' → R x ts'
def c_law_rounds : Cp := fun ds R => ∃ ns : List Int, ds = [.list (ns.map .int)] ∧ ns.length ≤ 63 ∧ ∀ k, 2 ≤ k → k ≤ 3 → R (.int k)
def c_law_number : Ct := fun ts ds R => ∃ b, Tk b ts ∧ b < 900000000000 ∧ ds = [] ∧ ∀ x ts', Sz 42 x → Tk (b + 4) ts' → R (.int x) ts'
def c_law_small : Ct := fun ts ds R => ∃ b, Tk b ts ∧ b < 900000000000 ∧ ds = [] ∧ ∀ x ts', -9 ≤ x → x ≤ 9 → Sz 4 x → Tk (b + 2) ts' → R (.int x) ts'
def c_law_less : Cp := fun ds R => ∃ a b c d, ds = [cp a b, cp c d] ∧ (Sm a ∧ Sm b ∧ Sm c ∧ Sm d) ∧ R (cp (a - c) (b - d))
def c_law_times : Cp := fun ds R => ∃ a b c d, ds = [cp a b, cp c d] ∧ (Sm a ∧ Sm b ∧ Sm c ∧ Sm d) ∧ R (cp (a * c - b * d) (a * d + b * c))
def c_law_star : Cp := fun ds R => ∃ a b, ds = [cp a b] ∧ R (cp a (-b))
def c_law_size : Cp := fun ds R => ∃ a b, ds = [cp a b] ∧ (Sm a ∧ Sm b) ∧ R (.int (a * a + b * b))
def c_law_quarter : Cp := fun ds R => ∃ a b, ds = [cp a b] ∧ R (cd (qf a b))
def c_law_over : Cp := fun ds R => ∃ a b c d, ds = [cp a b, cp c d] ∧ (Sz 2000 a ∧ Sz 2000 b ∧ Sz 2000 c ∧ Sz 2000 d) ∧ R (od (xq a b c d))
def c_law_common : Cp := fun ds R => ∃ (ps : List G) (n : Nat), (ds = [.list (ps.map cd)] ∨ ds = [.tuple (ps.map cd)]) ∧ n ≤ 900 ∧ (∀ p ∈ ps, Sz n p.1 ∧ Sz n p.2) ∧ ∀ g : G, GC ps g → Sz n g.1 → Sz n g.2 → R (cd g)
def c_law_is_whole : Cp := fun ds R => ∃ v n, ds = [v, .int n] ∧ okd v = true ∧ R (.bool (areW v n))
def c_law_complex : Ct := fun ts ds R => ∃ b, Tk b ts ∧ b < 800000000000 ∧ ds = [] ∧ ∀ x y ts', Sz 42 x → Sz 42 y → Tk (b + 8) ts' → R (cd (x, y)) ts'
def c_law_little : Ct := fun ts ds R => ∃ b, Tk b ts ∧ b < 700000000000 ∧ ds = [] ∧ ∀ (p : G) ts', Sz 4 p.1 → Sz 4 p.2 → Tk (b + 4) ts' → R (cd p) ts'
def c_law_map : Cp := fun ds R => ∃ (f : Int) (a b c d : G) (n : Nat), (ds = [.int f, .list [cd a, cd b, cd c, cd d]] ∨ ds = [.int f, .tuple [cd a, cd b, cd c, cd d]]) ∧ S4 n a b c d ∧ n ≤ 900 ∧ dtm a b c d ≠ (0, 0) ∧
  ∀ g x y z w : G, g ≠ (0, 0) → a = gm g x → b = gm g y → c = gm g z → d = gm g w → Fm (n + 1) x y z w → R (mp f x y z w)
def c_law_det : Cp := fun ds R => ∃ a b c d : G, (ds = [.list [cd a, cd b, cd c, cd d]] ∨ ds = [.tuple [cd a, cd b, cd c, cd d]]) ∧ S4 5000 a b c d ∧ R (cd (dtm a b c d))
def c_law_four : Ct := fun ts ds R => ∃ b, Tk b ts ∧ b < 600000000000 ∧ ds = [] ∧ ∀ (x y z w : G) ts', S4 4 x y z w → dtm x y z w ≠ (0, 0) → Tk (b + 50) ts' → R (.list [cd x, cd y, cd z, cd w]) ts'
def c_law_is_map : Cp := fun ds R => ∃ d, ds = [d] ∧ MV d ∧ R (.bool (isMapB d))
def c_law_is_along : Cp := fun ds R => ∃ (f : Int) (U B : M4) (n : Nat), ds = [mp4 f U, .list [cd B.a, cd B.b, cd B.c, cd B.d]] ∧ Sim U B ∧ (S44 n U ∧ S44 n B) ∧ n ≤ 900 ∧ R (.bool true)
def c_law_form_right : Cp := fun ds R => ∃ (f : Int) (A : M4) (r : G), ds = [.int f, .list [cd A.a, cd A.b, cd A.c, cd A.d], cd r] ∧ (f = 0 ∨ f = 1) ∧ S44 45 A ∧ GS 45 r ∧ A.dt ≠ 0 ∧ r ≠ (0, 0) ∧ R (.bool true)
def c_law_is_refused : Cp := fun ds R => ∃ (f : Int) (A : M4) (n : Nat), ds = [.int f, .list [cd A.a, cd A.b, cd A.c, cd A.d]] ∧ (f = 0 ∨ f = 1) ∧ S44 n A ∧ n ≤ 800 ∧ A.dt = 0 ∧ R (.bool true)
def c_law_value : Ct := fun ts ds R => ∃ b, Tk b ts ∧ b < 100000000 ∧ ds = [] ∧ ∀ d ts', MV d → Tk (b + 80) ts' → R d ts'
def c_law_right : Ct := fun ts ds R => ∃ b, Tk b ts ∧ b < 1000 ∧ ds = [] ∧ ∀ ts', R (.bool true) ts'
def c_law : Cp := fun ds R => ∃ ns : List Int, ds = [.list (ns.map .int)] ∧ ns.length ≤ 63 ∧ R (.bool true)
/-! ## is_whole -/
abbrev r_is_whole_1 : Ws := (wRet (dAnd (dIsa isInt (dVar 0)) (dNot (dIsa isBool (dVar 0)))))
def w_is_whole : Ws := (wRet (dAnd (dIsa isInt (dVar 0)) (dNot (dIsa isBool (dVar 0)))))
theorem sem_is_whole : ∀ ds R, c_is_whole ds R → ds.length = 1 → w_is_whole (edP R) (ev0 0 ds) := by
  intro ds R h _
  obtain ⟨d, rfl, o, q⟩ := h
  refine okE_in o ?_
  cases d <;> exact q
/-! ## are_wholes -/
abbrev r_are_wholes_2 : Ws := (wRet (dLit (.bool false)))
abbrev r_are_wholes_3 : Ws := (wRet (dCal fAll (daC (dLc [2] (diT (dVar 0)) (gN 2) dYes (dFn 1 c_is_whole (daC (dVar 2) daN))) daN)))
abbrev r_are_wholes_1 : Ws := (wSeq (wIf (dOrT (dNotT (dTru (dIsa isTuple (dVar 0)))) (dTru (dOp fNe (dCal fLen (daC (dVar 0) daN)) (dVar 1)))) r_are_wholes_2 wNx) r_are_wholes_3)
def w_are_wholes : Ws := (wSeq (wIf (dOrT (dNotT (dTru (dIsa isTuple (dVar 0)))) (dTru (dOp fNe (dCal fLen (daC (dVar 0) daN)) (dVar 1)))) (wRet (dLit (.bool false))) wNx) (wRet (dCal fAll (daC (dLc [2] (diT (dVar 0)) (gN 2) dYes (dFn 1 c_is_whole (daC (dVar 2) daN))) daN))))
theorem sem_are_wholes : ∀ ds R, c_are_wholes ds R → ds.length = 2 → w_are_wholes (edP R) (ev0 1 ds) := by
  intro ds R h _
  obtain ⟨v, n, rfl, o, q⟩ := h
  refine okE_in (okv_x o) ?_
  cases v with
  | tuple xs =>
    obtain ⟨hl, hx⟩ := okv_t o
    refine ⟨trivial, Or.inr ⟨rfl, rfl⟩, trivial, ?_⟩
    have e := eqv_int (xs.length : Int) n
    by_cases z : (xs.length : Int) = n
    · have t : tru (.bool (!PyData.eqv (.int (xs.length : Int)) (.int n))) = false := by rw [e, decide_eq_true z]; rfl
      rw [t]
      refine lc_map (f := fun d => .bool (whole d)) rfl (by rw [List.length_nil, Nat.zero_add]; exact hl) (fun d hd R r => ⟨rfl, d, rfl, hx d hd, r⟩) ?_
      have a : (xs.map whole).all id = areW (.tuple xs) n := by
        show _ = (decide ((xs.length : Int) = n) && xs.all whole)
        rw [decide_eq_true z, Bool.true_and, List.all_map]
        rfl
      exact fAll_of (bools_map xs) (by rw [a]; exact q)
    · have t : tru (.bool (!PyData.eqv (.int (xs.length : Int)) (.int n))) = true := by rw [e, decide_eq_false z]; rfl
      rw [t]
      have a : areW (.tuple xs) n = false := by
        show (decide ((xs.length : Int) = n) && xs.all whole) = false
        rw [decide_eq_false z, Bool.false_and]
      rw [a] at q
      exact q
  | _ => exact ⟨trivial, q⟩
/-! ## common_of -/
abbrev r_common_of_3 : Ws := (wAsg (dCal fGcd (daC (dVar 1) (daC (dVar 2) daN))) (gN 1))
abbrev r_common_of_4 : Ws := (wRet (dVar 1))
abbrev r_common_of_2 : Ws := (wSeq (wFor (diT (dVar 0)) (gN 2) r_common_of_3) r_common_of_4)
abbrev r_common_of_1 : Ws := (wSeq (wAsg (dLit (.int 0)) (gN 1)) r_common_of_2)
def w_common_of : Ws := (wSeq (wAsg (dLit (.int 0)) (gN 1)) (wSeq (wFor (diT (dVar 0)) (gN 2) (wAsg (dCal fGcd (daC (dVar 1) (daC (dVar 2) daN))) (gN 1))) (wRet (dVar 1))))
theorem sem_common_of : ∀ ds R, c_common_of ds R → ds.length = 1 → w_common_of (edP R) (ev0 2 ds) := by
  intro ds R h _
  obtain ⟨us, rfl, q⟩ := h
  refine foD_fold (fun s ev => ∃ o, ev = [some (.val (tup us)), some (.val (.int s)), o] ∧ ∀ t, o ≠ some (.own t)) (fun g u => (Int.gcd g u : Int)) (fun u s ev E' i nx => ?_) ⟨none, rfl, fun _ => by simp⟩ (fun ev i => ?_)
  · obtain ⟨o, rfl, ho⟩ := i
    have e : gN 2 (.int u) [some (.val (tup us)), some (.val (.int s)), o] = fun Q => Q [some (.val (tup us)), some (.val (.int s)), some (.val (.int u))] := by
      cases o with
      | none => rfl
      | some s => cases s with
        | val _ => rfl
        | own t => exact absurd rfl (ho t)
    rw [e]
    exact nx _ ⟨_, rfl, fun _ => by simp⟩
  · obtain ⟨o, rfl, ho⟩ := i
    exact q
/-! ## minus -/
abbrev r_minus_1 : Ws := (wRet (dTup (daC (dOp fSub (dOp fIx (dVar 0) (dLit (.int 0))) (dOp fIx (dVar 1) (dLit (.int 0)))) (daC (dOp fSub (dOp fIx (dVar 0) (dLit (.int 1))) (dOp fIx (dVar 1) (dLit (.int 1)))) daN))))
def w_minus : Ws := (wRet (dTup (daC (dOp fSub (dOp fIx (dVar 0) (dLit (.int 0))) (dOp fIx (dVar 1) (dLit (.int 0)))) (daC (dOp fSub (dOp fIx (dVar 0) (dLit (.int 1))) (dOp fIx (dVar 1) (dLit (.int 1)))) daN))))
theorem sem_minus : ∀ ds R, c_minus ds R → ds.length = 2 → w_minus (edP R) (ev0 0 ds) := by
  intro ds R h _
  obtain ⟨a, b, c, d, rfl, ⟨ha, hb, hc, hd⟩, q⟩ := h
  walk_at "go"
/-! ## times -/
abbrev r_times_3 : Ws := (wRet (dTup (daC (dOp fSub (dOp fMul (dVar 2) (dVar 4)) (dOp fMul (dVar 3) (dVar 5))) (daC (dOp fCat (dOp fMul (dVar 2) (dVar 5)) (dOp fMul (dVar 3) (dVar 4))) daN))))
abbrev r_times_2 : Ws := (wSeq (wAsg (dVar 1) (gT 2 (gsC (gN 4) (gsC (gN 5) gsN)))) r_times_3)
abbrev r_times_1 : Ws := (wSeq (wAsg (dVar 0) (gT 2 (gsC (gN 2) (gsC (gN 3) gsN)))) r_times_2)
def w_times : Ws := (wSeq (wAsg (dVar 0) (gT 2 (gsC (gN 2) (gsC (gN 3) gsN)))) (wSeq (wAsg (dVar 1) (gT 2 (gsC (gN 4) (gsC (gN 5) gsN)))) (wRet (dTup (daC (dOp fSub (dOp fMul (dVar 2) (dVar 4)) (dOp fMul (dVar 3) (dVar 5))) (daC (dOp fCat (dOp fMul (dVar 2) (dVar 5)) (dOp fMul (dVar 3) (dVar 4))) daN))))))
theorem sem_times : ∀ ds R, c_times ds R → ds.length = 2 → w_times (edP R) (ev0 4 ds) := by
  intro ds R h _
  obtain ⟨a, b, c, d, rfl, ⟨ha, hb, hc, hd⟩, q⟩ := h
  walk_at "go"
/-! ## conjugate_of -/
abbrev r_conjugate_of_1 : Ws := (wRet (dTup (daC (dOp fIx (dVar 0) (dLit (.int 0))) (daC (dU fNeg (dOp fIx (dVar 0) (dLit (.int 1)))) daN))))
def w_conjugate_of : Ws := (wRet (dTup (daC (dOp fIx (dVar 0) (dLit (.int 0))) (daC (dU fNeg (dOp fIx (dVar 0) (dLit (.int 1)))) daN))))
theorem sem_conjugate_of : ∀ ds R, c_conjugate_of ds R → ds.length = 1 → w_conjugate_of (edP R) (ev0 0 ds) := by
  intro ds R h _
  obtain ⟨a, b, rfl, ⟨ha, hb⟩, q⟩ := h
  walk_at "go"
/-! ## norm_of -/
abbrev r_norm_of_1 : Ws := (wRet (dOp fCat (dOp fMul (dOp fIx (dVar 0) (dLit (.int 0))) (dOp fIx (dVar 0) (dLit (.int 0)))) (dOp fMul (dOp fIx (dVar 0) (dLit (.int 1))) (dOp fIx (dVar 0) (dLit (.int 1))))))
def w_norm_of : Ws := (wRet (dOp fCat (dOp fMul (dOp fIx (dVar 0) (dLit (.int 0))) (dOp fIx (dVar 0) (dLit (.int 0)))) (dOp fMul (dOp fIx (dVar 0) (dLit (.int 1))) (dOp fIx (dVar 0) (dLit (.int 1))))))
theorem sem_norm_of : ∀ ds R, c_norm_of ds R → ds.length = 1 → w_norm_of (edP R) (ev0 0 ds) := by
  intro ds R h _
  obtain ⟨a, b, rfl, ⟨ha, hb⟩, q⟩ := h
  walk_at "go"
/-! ## is_quarter -/
abbrev r_is_quarter_1 : Ws := (wRet (dAnd (dOp fGt (dOp fIx (dVar 0) (dLit (.int 0))) (dLit (.int 0))) (dOp fGe (dOp fIx (dVar 0) (dLit (.int 1))) (dLit (.int 0)))))
def w_is_quarter : Ws := (wRet (dAnd (dOp fGt (dOp fIx (dVar 0) (dLit (.int 0))) (dLit (.int 0))) (dOp fGe (dOp fIx (dVar 0) (dLit (.int 1))) (dLit (.int 0)))))
theorem sem_is_quarter : ∀ ds R, c_is_quarter ds R → ds.length = 1 → w_is_quarter (edP R) (ev0 0 ds) := by
  intro ds R h _
  obtain ⟨a, b, rfl, q⟩ := h
  refine ⟨trivial, ?_⟩
  refine ite_b (fun z => ⟨trivial, ?_⟩) (fun z => ?_)
  · exact rB (R := R) q (by rw [z]; rfl)
  · exact rB (R := R) q (by rw [z]; rfl)
/-! ## turned -/
abbrev r_turned_1 : Ws := (wRet (dTup (daC (dU fNeg (dOp fIx (dVar 0) (dLit (.int 1)))) (daC (dOp fIx (dVar 0) (dLit (.int 0))) daN))))
def w_turned : Ws := (wRet (dTup (daC (dU fNeg (dOp fIx (dVar 0) (dLit (.int 1)))) (daC (dOp fIx (dVar 0) (dLit (.int 0))) daN))))
theorem sem_turned : ∀ ds R, c_turned ds R → ds.length = 1 → w_turned (edP R) (ev0 0 ds) := by
  intro ds R h _
  obtain ⟨a, b, rfl, q⟩ := h
  walk_at "go"
/-! ## quarter_of -/
abbrev r_quarter_of_2 : Ws := (wRet (dVar 0))
abbrev r_quarter_of_4 : Ws := (wAsg (dFn 1 c_turned (daC (dVar 0) daN)) (gN 0))
abbrev r_quarter_of_5 : Ws := (wRet (dVar 0))
abbrev r_quarter_of_3 : Ws := (wSeq (wWhile (dNotT (dTru (dFn 1 c_is_quarter (daC (dVar 0) daN)))) r_quarter_of_4) r_quarter_of_5)
abbrev r_quarter_of_1 : Ws := (wSeq (wIf (dTru (dOp fEq (dVar 0) (dLit (.tuple [(.int 0), (.int 0)])))) r_quarter_of_2 wNx) r_quarter_of_3)
def w_quarter_of : Ws := (wSeq (wIf (dTru (dOp fEq (dVar 0) (dLit (.tuple [(.int 0), (.int 0)])))) (wRet (dVar 0)) wNx) (wSeq (wWhile (dNotT (dTru (dFn 1 c_is_quarter (daC (dVar 0) daN)))) (wAsg (dFn 1 c_turned (daC (dVar 0) daN)) (gN 0))) (wRet (dVar 0))))
theorem qt_step {a b : Int} {n : Nat} {E : Ed} {s : PyData} (h : (0 < a ∧ 0 ≤ b) → E.nx [some (.val (cp a b))]) (g : ¬(0 < a ∧ 0 ≤ b) → whD (dNotT (dTru (dFn 1 c_is_quarter (daC (dVar 0) daN)))) (wAsg (dFn 1 c_turned (daC (dVar 0) daN)) (gN 0)) n E [some (.val (cp (-b) a))]) :
    whD (dNotT (dTru (dFn 1 c_is_quarter (daC (dVar 0) daN)))) (wAsg (dFn 1 c_turned (daC (dVar 0) daN)) (gN 0)) (n + 1) E [some (.val (cp a b))] := by
  refine ⟨rfl, a, b, rfl, trivial, ?_⟩
  refine ite_b (fun z => ?_) (fun z => ?_)
  · refine ⟨rfl, a, b, rfl, ?_⟩
    exact g (fun y => by
      rw [decide_eq_true y.1, decide_eq_true y.2] at z
      cases z)
  · refine h ?_
    have z1 : (decide (0 < a) && decide (0 ≤ b)) = true := by
      cases y : (decide (0 < a) && decide (0 ≤ b))
      · rw [show tru (.bool (decide (0 < a) && decide (0 ≤ b))) = (decide (0 < a) && decide (0 ≤ b)) from rfl, y] at z
        cases z
      · rfl
    rw [Bool.and_eq_true] at z1
    exact ⟨of_decide_eq_true z1.1, of_decide_eq_true z1.2⟩
theorem sem_quarter_of : ∀ ds R, c_quarter_of ds R → ds.length = 1 → w_quarter_of (edP R) (ev0 0 ds) := by
  intro ds R h _
  obtain ⟨a, b, rfl, q⟩ := h
  refine ⟨Or.inr ⟨rfl, rfl⟩, trivial, ?_⟩
  rw [eqv_cp]
  refine ite_b (fun z => ?_) (fun z => ?_)
  · have z0 := of_decide_eq_true z
    have e : qf a b = (a, b) := by unfold qf; rw [if_pos z0]
    rw [e] at q
    exact q
  · have z0 := of_decide_eq_false z
    unfold qf at q
    rw [if_neg z0] at q
    refine ⟨4, ?_⟩
    refine qt_step (s := .none) (fun y => ?_) (fun y => ?_)
    · rw [if_pos y] at q; exact q
    rw [if_neg y] at q
    refine qt_step (s := .none) (fun y => ?_) (fun y => ?_)
    · rw [if_pos y] at q; exact q
    rw [if_neg y] at q
    refine qt_step (s := .none) (fun y => ?_) (fun y => ?_)
    · rw [if_pos y] at q; exact q
    rw [if_neg y] at q
    refine qt_step (s := .none) (fun y => ?_) (fun y => ?_)
    · exact q
    exfalso
    omega
/-! ## exact_quotient -/
abbrev r_exact_quotient_3 : Ws := (wRet (dLit .none))
abbrev r_exact_quotient_6 : Ws := (wRet (dLit .none))
abbrev r_exact_quotient_7 : Ws := (wRet (dTup (daC (dOp fDiv (dVar 3) (dVar 2)) (daC (dOp fDiv (dVar 4) (dVar 2)) daN))))
abbrev r_exact_quotient_5 : Ws := (wSeq (wIf (dOrT (dTru (dOp fMod (dVar 3) (dVar 2))) (dTru (dOp fMod (dVar 4) (dVar 2)))) r_exact_quotient_6 wNx) r_exact_quotient_7)
abbrev r_exact_quotient_4 : Ws := (wSeq (wAsg (dFn 2 c_times (daC (dVar 0) (daC (dFn 1 c_conjugate_of (daC (dVar 1) daN)) daN))) (gT 2 (gsC (gN 3) (gsC (gN 4) gsN)))) r_exact_quotient_5)
abbrev r_exact_quotient_2 : Ws := (wSeq (wIf (dTru (dOp fEq (dVar 2) (dLit (.int 0)))) r_exact_quotient_3 wNx) r_exact_quotient_4)
abbrev r_exact_quotient_1 : Ws := (wSeq (wAsg (dFn 1 c_norm_of (daC (dVar 1) daN)) (gN 2)) r_exact_quotient_2)
def w_exact_quotient : Ws := (wSeq (wAsg (dFn 1 c_norm_of (daC (dVar 1) daN)) (gN 2)) (wSeq (wIf (dTru (dOp fEq (dVar 2) (dLit (.int 0)))) (wRet (dLit .none)) wNx) (wSeq (wAsg (dFn 2 c_times (daC (dVar 0) (daC (dFn 1 c_conjugate_of (daC (dVar 1) daN)) daN))) (gT 2 (gsC (gN 3) (gsC (gN 4) gsN)))) (wSeq (wIf (dOrT (dTru (dOp fMod (dVar 3) (dVar 2))) (dTru (dOp fMod (dVar 4) (dVar 2)))) (wRet (dLit .none)) wNx) (wRet (dTup (daC (dOp fDiv (dVar 3) (dVar 2)) (daC (dOp fDiv (dVar 4) (dVar 2)) daN))))))))
theorem sem_exact_quotient : ∀ ds R, c_exact_quotient ds R → ds.length = 2 → w_exact_quotient (edP R) (ev0 3 ds) := by
  intro ds R h _
  obtain ⟨a, b, c, d, rfl, ⟨ha, hb, hc, hd⟩, q⟩ := h
  refine ⟨rfl, c, d, rfl, ⟨by walk_at "sz", by walk_at "sz"⟩, Or.inr ⟨rfl, rfl⟩, trivial, ?_⟩
  rw [eqv_int]
  unfold xq at q
  refine ite_b (fun z => ?_) (fun z => ?_)
  · rw [if_pos (of_decide_eq_true z)] at q
    exact q
  have z0 := of_decide_eq_false z
  have z1 := nrmP z0
  rw [if_neg z0] at q
  refine ⟨rfl, c, d, rfl, ⟨by walk_at "sz", by walk_at "sz"⟩, rfl, a, b, c, -d, rfl, ⟨by walk_at "sz", by walk_at "sz", by walk_at "sz", by walk_at "sz"⟩, ?_⟩
  have dv : ∀ x : Int, divC x (c * c + d * d) := fun x => divC_of (m := max (2000 + 2000) (2000 + 2000) + 1) inferInstance z1 (by decide)
  refine ⟨rfl, z1, trivial, ?_⟩
  by_cases y : (a * c - b * -d) % (c * c + d * d) = 0
  · refine ite_f (bne_eq_false_iff_eq.mpr y) ?_
    refine ⟨z1, trivial, ?_⟩
    by_cases x : (a * -d + b * c) % (c * c + d * d) = 0
    · refine ite_f (bne_eq_false_iff_eq.mpr x) ?_
      rw [if_pos ⟨y, x⟩] at q
      exact ⟨dv _, dv _, Nat.le_of_ble_eq_true rfl, q⟩
    · refine ite_t (bne_iff_ne.mpr x) ?_
      rw [if_neg (fun n => x n.2)] at q
      exact q
  · refine ite_t (bne_iff_ne.mpr y) ?_
    refine ite_t rfl ?_
    rw [if_neg (fun n => y n.1)] at q
    exact q
/-! ## rest_of -/
abbrev r_rest_of_4 : Ws := (wRet (dFn 2 c_minus (daC (dVar 0) (daC (dFn 2 c_times (daC (dVar 5) (daC (dVar 1) daN))) daN))))
abbrev r_rest_of_3 : Ws := (wSeq (wAsg (dTup (daC (dOp fDiv (dOp fCat (dOp fMul (dLit (.int 2)) (dVar 3)) (dVar 2)) (dOp fMul (dLit (.int 2)) (dVar 2))) (daC (dOp fDiv (dOp fCat (dOp fMul (dLit (.int 2)) (dVar 4)) (dVar 2)) (dOp fMul (dLit (.int 2)) (dVar 2))) daN))) (gN 5)) r_rest_of_4)
abbrev r_rest_of_2 : Ws := (wSeq (wAsg (dFn 2 c_times (daC (dVar 0) (daC (dFn 1 c_conjugate_of (daC (dVar 1) daN)) daN))) (gT 2 (gsC (gN 3) (gsC (gN 4) gsN)))) r_rest_of_3)
abbrev r_rest_of_1 : Ws := (wSeq (wAsg (dFn 1 c_norm_of (daC (dVar 1) daN)) (gN 2)) r_rest_of_2)
def w_rest_of : Ws := (wSeq (wAsg (dFn 1 c_norm_of (daC (dVar 1) daN)) (gN 2)) (wSeq (wAsg (dFn 2 c_times (daC (dVar 0) (daC (dFn 1 c_conjugate_of (daC (dVar 1) daN)) daN))) (gT 2 (gsC (gN 3) (gsC (gN 4) gsN)))) (wSeq (wAsg (dTup (daC (dOp fDiv (dOp fCat (dOp fMul (dLit (.int 2)) (dVar 3)) (dVar 2)) (dOp fMul (dLit (.int 2)) (dVar 2))) (daC (dOp fDiv (dOp fCat (dOp fMul (dLit (.int 2)) (dVar 4)) (dVar 2)) (dOp fMul (dLit (.int 2)) (dVar 2))) daN))) (gN 5)) (wRet (dFn 2 c_minus (daC (dVar 0) (daC (dFn 2 c_times (daC (dVar 5) (daC (dVar 1) daN))) daN)))))))
theorem sem_rest_of : ∀ ds R, c_rest_of ds R → ds.length = 2 → w_rest_of (edP R) (ev0 4 ds) := by
  intro ds R h _
  obtain ⟨a, b, c, d, rfl, ⟨ha, hb, hc, hd⟩, hz, q⟩ := h
  have dv : ∀ x : Int, divC x (2 * (c * c + d * d)) := fun x => divC_of (m := 2 + (max (2000 + 2000) (2000 + 2000) + 1)) inferInstance (by omega) (by decide)
  have sd : ∀ x y : Int, Sz 4005 x → Sz 4100 (x / y) := fun x y s => szUp inferInstance (by decide)
  have s1 : Sz 4100 ((2 * (a * c - b * -d) + (c * c + d * d)) / (2 * (c * c + d * d))) := sd _ _ (szUp inferInstance (by decide))
  have s2 : Sz 4100 ((2 * (a * -d + b * c) + (c * c + d * d)) / (2 * (c * c + d * d))) := sd _ _ (szUp inferInstance (by decide))
  refine ⟨rfl, c, d, rfl, ⟨by walk_at "sz", by walk_at "sz"⟩, rfl, c, d, rfl, ⟨by walk_at "sz", by walk_at "sz"⟩, rfl, a, b, c, -d, rfl, ⟨by walk_at "sz", by walk_at "sz", by walk_at "sz", by walk_at "sz"⟩, rfl, ?_⟩
  refine ⟨by walk_at "sz", by walk_at "sz", dv _, by walk_at "sz", by walk_at "sz", dv _, Nat.le_of_ble_eq_true rfl, ?_⟩
  refine ⟨rfl, _, _, c, d, rfl, ⟨szUp s1 (by decide), szUp s2 (by decide), by walk_at "sz", by walk_at "sz"⟩, ?_⟩
  refine ⟨rfl, a, b, _, _, rfl, ⟨by walk_at "sz", by walk_at "sz", szUp inferInstance (by decide), szUp inferInstance (by decide)⟩, ?_⟩
  exact q (_, _) (rest_nm hz)
/-! ## divisor_of -/
abbrev r_divisor_of_3 : Ws := (wAsg (dFn 2 c_divisor_of_two (daC (dVar 1) (daC (dVar 2) daN))) (gN 1))
abbrev r_divisor_of_4 : Ws := (wRet (dFn 1 c_quarter_of (daC (dVar 1) daN)))
abbrev r_divisor_of_2 : Ws := (wSeq (wFor (diL (dSortK c_norm_of (daC (dVar 0) daN))) (gN 2) r_divisor_of_3) r_divisor_of_4)
abbrev r_divisor_of_1 : Ws := (wSeq (wAsg (dLit (.tuple [(.int 0), (.int 0)])) (gN 1)) r_divisor_of_2)
def w_divisor_of : Ws := (wSeq (wAsg (dLit (.tuple [(.int 0), (.int 0)])) (gN 1)) (wSeq (wFor (diL (dSortK c_norm_of (daC (dVar 0) daN))) (gN 2) (wAsg (dFn 2 c_divisor_of_two (daC (dVar 1) (daC (dVar 2) daN))) (gN 1))) (wRet (dFn 1 c_quarter_of (daC (dVar 1) daN)))))
def nmD (d : PyData) : Int := (toG d).1 * (toG d).1 + (toG d).2 * (toG d).2
theorem sem_divisor_of : ∀ ds R, c_divisor_of ds R → ds.length = 1 → w_divisor_of (edP R) (ev0 2 ds) := by
  intro ds R h _
  obtain ⟨ps, n, rfl, hl, hn, hs, q⟩ := h
  refine ⟨by rw [List.length_map]; exact hl, ⟨nmD, fun x hx R r => ?_⟩, fun ys hp => ?_⟩
  · obtain ⟨p, hp, rfl⟩ := List.mem_map.mp hx
    obtain ⟨h1, h2⟩ := hs p hp
    exact ⟨p.1, p.2, rfl, ⟨szUp h1 (by show n ≤ cap; unfold cap; omega), szUp h2 (by show n ≤ cap; unfold cap; omega)⟩, r⟩
  · obtain ⟨qs, hq, rfl⟩ := perm_cd hp
    refine foD_pre (fun pre ev => ∃ (done : List G) (g : G) (s : Option Sl), pre = done.map cd ∧ ev = [some (.val (.tuple (ps.map cd))), some (.val (cd g)), s] ∧ (∀ t, s ≠ some (.own t)) ∧ GC done g ∧ Sz n g.1 ∧ Sz n g.2) (pre := []) (fun pre d ev E' hd i nx _ _ _ _ => ?_) ⟨[], (0, 0), none, rfl, rfl, fun _ => by simp, GC.nil, szUp (n := 0) ⟨by decide⟩ (Nat.zero_le _), szUp (n := 0) ⟨by decide⟩ (Nat.zero_le _)⟩ (fun ev i => ?_)
    · obtain ⟨done, g, s, rfl, rfl, hns, hg, s1, s2⟩ := i
      obtain ⟨p, hp', rfl⟩ := List.mem_map.mp hd
      obtain ⟨t1, t2⟩ := hs p (hq.mem_iff.mp hp')
      have e : gN 2 (cd p) [some (.val (.tuple (ps.map cd))), some (.val (cd g)), s] = fun Q => Q [some (.val (.tuple (ps.map cd))), some (.val (cd g)), some (.val (cd p))] := by
        cases s with
        | none => rfl
        | some s => cases s with
          | val _ => rfl
          | own t => exact absurd rfl (hns t)
      rw [e]
      refine ⟨rfl, g.1, g.2, p.1, p.2, n, rfl, ⟨s1, s2, t1, t2⟩, hn, fun x y gc sx sy => ?_⟩
      exact nx _ ⟨done ++ [p], (x, y), some (.val (cd p)), by rw [List.map_append]; rfl, rfl, fun _ => by simp, GC.snoc hg gc, sx, sy⟩
    · obtain ⟨done, g, s, e, rfl, hns, hg, s1, s2⟩ := i
      rw [List.nil_append] at e
      have e' := cd_inj e
      subst e'
      refine ⟨rfl, g.1, g.2, rfl, ?_⟩
      obtain ⟨t1, t2⟩ := qf_sz s1 s2
      exact q (qf g.1 g.2) ((hg.perm hq).of_as (qf_as g)) (qf_qf g) t1 t2
/-! ## divisor_of_two -/
abbrev r_divisor_of_two_2 : Ws := (wRet (dVar 1))
abbrev r_divisor_of_two_6 : Ws := (wRet (dFn 2 c_divisor_by_steps (daC (dFn 2 c_divisor_by_steps (daC (dTup (daC (dVar 4) (daC (dLit (.int 0)) daN))) (daC (dVar 0) daN))) (daC (dVar 1) daN))))
abbrev r_divisor_of_two_5 : Ws := (wSeq (wAsg (dFn 1 c_common_of (daC (dTup (daC (dFn 1 c_norm_of (daC (dVar 0) daN)) (daC (dFn 1 c_norm_of (daC (dVar 1) daN)) (daC (dVar 2) (daC (dVar 3) daN))))) daN)) (gN 4)) r_divisor_of_two_6)
abbrev r_divisor_of_two_4 : Ws := (wSeq (wAsg (dFn 2 c_times (daC (dVar 0) (daC (dFn 1 c_conjugate_of (daC (dVar 1) daN)) daN))) (gT 2 (gsC (gN 2) (gsC (gN 3) gsN)))) r_divisor_of_two_5)
abbrev r_divisor_of_two_3 : Ws := (wSeq (wAsg (dFn 2 c_rest_of (daC (dVar 1) (daC (dVar 0) daN))) (gN 1)) r_divisor_of_two_4)
abbrev r_divisor_of_two_1 : Ws := (wSeq (wIf (dTru (dOp fEq (dVar 0) (dLit (.tuple [(.int 0), (.int 0)])))) r_divisor_of_two_2 wNx) r_divisor_of_two_3)
def w_divisor_of_two : Ws := (wSeq (wIf (dTru (dOp fEq (dVar 0) (dLit (.tuple [(.int 0), (.int 0)])))) (wRet (dVar 1)) wNx) (wSeq (wAsg (dFn 2 c_rest_of (daC (dVar 1) (daC (dVar 0) daN))) (gN 1)) (wSeq (wAsg (dFn 2 c_times (daC (dVar 0) (daC (dFn 1 c_conjugate_of (daC (dVar 1) daN)) daN))) (gT 2 (gsC (gN 2) (gsC (gN 3) gsN)))) (wSeq (wAsg (dFn 1 c_common_of (daC (dTup (daC (dFn 1 c_norm_of (daC (dVar 0) daN)) (daC (dFn 1 c_norm_of (daC (dVar 1) daN)) (daC (dVar 2) (daC (dVar 3) daN))))) daN)) (gN 4)) (wRet (dFn 2 c_divisor_by_steps (daC (dFn 2 c_divisor_by_steps (daC (dTup (daC (dVar 4) (daC (dLit (.int 0)) daN))) (daC (dVar 0) daN))) (daC (dVar 1) daN))))))))
theorem sem_divisor_of_two : ∀ ds R, c_divisor_of_two ds R → ds.length = 2 → w_divisor_of_two (edP R) (ev0 3 ds) := by
  intro ds R h _
  obtain ⟨a, b, c, d, n, rfl, ⟨ha, hb, hc, hd⟩, hn, q⟩ := h
  have ha9 : Sz 900 a := szUp ha hn
  have hb9 : Sz 900 b := szUp hb hn
  have hc9 : Sz 900 c := szUp hc hn
  have hd9 : Sz 900 d := szUp hd hn
  refine ⟨Or.inr ⟨rfl, rfl⟩, trivial, ?_⟩
  rw [eqv_cp]
  refine ite_b (fun z => ?_) (fun z => ?_)
  · obtain ⟨rfl, rfl⟩ := of_decide_eq_true z
    exact q c d (GC.zeroL _) hc hd
  · have z0 := of_decide_eq_false z
    have hz : 0 < a * a + b * b := ne_sq z0
    refine ⟨rfl, c, d, a, b, rfl, ⟨by walk_at "sz", by walk_at "sz", by walk_at "sz", by walk_at "sz"⟩, hz, fun t ht => ?_⟩
    obtain ⟨sx, sy⟩ := sz_nm (x := (les (c, d) t (a, b)).1) (y := (les (c, d) t (a, b)).2) ht ha hb
    have fin : ∀ x y : Int, GC [(a, b), les (c, d) t (a, b)] (x, y) → GC [(a, b), (c, d)] (x, y) := fun x y g => (GC.step g).swap
    generalize les (c, d) t (a, b) = o at *
    obtain ⟨x, y⟩ := o
    have sx9 : Sz 900 x := szUp sx hn
    have sy9 : Sz 900 y := szUp sy hn
    refine ⟨rfl, x, y, rfl, ⟨by walk_at "sz", by walk_at "sz"⟩, rfl, a, b, x, -y, rfl, ⟨by walk_at "sz", by walk_at "sz", by walk_at "sz", by walk_at "sz"⟩, rfl, ?_⟩
    refine ⟨rfl, a, b, rfl, ⟨by walk_at "sz", by walk_at "sz"⟩, rfl, x, y, rfl, ⟨by walk_at "sz", by walk_at "sz"⟩, Nat.le_of_ble_eq_true rfl, rfl, [a * a + b * b, x * x + y * y, a * x - b * -y, a * -y + b * x], rfl, ?_⟩
    have dvd : ∀ e : G, gdv e (a, b) → gdv e (x, y) → gdv e (gcI [a * a + b * b, x * x + y * y, a * x - b * -y, a * -y + b * x], 0) := fun e h1 h2 => gdv_whole h1 h2
    have ne : gcI [a * a + b * b, x * x + y * y, a * x - b * -y, a * -y + b * x] ≠ 0 := gc_ne (u := a * a + b * b) (by simp) (by omega)
    have sg : Sz 1900 (gcI [a * a + b * b, x * x + y * y, a * x - b * -y, a * -y + b * x]) := gc_sz (all4 (szUp inferInstance (by decide)) (szUp inferInstance (by decide)) (szUp inferInstance (by decide)) (szUp inferInstance (by decide))) ne
    generalize gcI [a * a + b * b, x * x + y * y, a * x - b * -y, a * -y + b * x] = s at *
    refine ⟨Nat.le_of_ble_eq_true rfl, rfl, s, 0, a, b, n, rfl, ⟨szUp sg (by decide), ⟨by decide⟩⟩, ⟨ha, hb⟩, by omega, fun u v g1 g2 _ => ?_⟩
    obtain ⟨su, sv⟩ := g2 fun y => z0 ⟨congrArg Prod.fst y, congrArg Prod.snd y⟩
    refine ⟨rfl, u, v, x, y, n, rfl, ⟨szUp su (by omega), szUp sv (by omega)⟩, ⟨sx, sy⟩, by omega, fun u' v' g3 g4 g5 => ?_⟩
    have sz : Sz n u' ∧ Sz n v' := by
      by_cases w : (x, y) = ((0, 0) : G)
      · obtain ⟨rfl, rfl⟩ := g5 w
        exact ⟨su, sv⟩
      · exact g4 w
    refine q u' v' (fin _ _ ?_) sz.1 sz.2
    obtain ⟨p1, p2, p3⟩ := gc2.mp g1
    obtain ⟨r1, r2, r3⟩ := gc2.mp g3
    exact gc2.mpr ⟨gdv_trans r1 p2, r2, fun e e1 e2 => r3 e (p3 e (dvd e e1 e2) e1) e2⟩
/-! ## divisor_by_steps -/
abbrev r_divisor_by_steps_2 : Ws := (wPar 0 1 (daC (dVar 1) (daC (dFn 2 c_rest_of (daC (dVar 0) (daC (dVar 1) daN))) daN)))
abbrev r_divisor_by_steps_3 : Ws := (wRet (dVar 0))
abbrev r_divisor_by_steps_1 : Ws := (wSeq (wWhile (dTru (dOp fNe (dVar 1) (dLit (.tuple [(.int 0), (.int 0)])))) r_divisor_by_steps_2) r_divisor_by_steps_3)
def w_divisor_by_steps : Ws := (wSeq (wWhile (dTru (dOp fNe (dVar 1) (dLit (.tuple [(.int 0), (.int 0)])))) (wPar 0 1 (daC (dVar 1) (daC (dFn 2 c_rest_of (daC (dVar 0) (daC (dVar 1) daN))) daN)))) (wRet (dVar 0)))
abbrev T_steps : Wt := dTru (dOp fNe (dVar 1) (dLit (.tuple [(.int 0), (.int 0)])))
abbrev B_steps : Ws := wPar 0 1 (daC (dVar 1) (daC (dFn 2 c_rest_of (daC (dVar 0) (daC (dVar 1) daN))) daN))
theorem steps_loop {n : Nat} {E : Ed} (hn : n ≤ 2000) : ∀ (N : Nat) (a b c d : Int), nm (c, d) < N → Sz 2000 a → Sz 2000 b → Sz n c → Sz n d →
    (∀ x y, GC [(a, b), (c, d)] (x, y) → ((c, d) ≠ ((0, 0) : G) → Sz n x ∧ Sz n y) → ((c, d) = ((0, 0) : G) → x = a ∧ y = b) → E.nx [some (.val (cp x y)), some (.val (cp 0 0))]) →
    whD T_steps B_steps N E [some (.val (cp a b)), some (.val (cp c d))] := by
  intro N
  induction N with
  | zero =>
    intro a b c d h
    have := nm_nn (c, d)
    omega
  | succ N ih =>
    intro a b c d h ha hb hc hd q
    by_cases z : (c, d) = ((0, 0) : G)
    · cases z
      refine ⟨Or.inr ⟨rfl, rfl⟩, trivial, ?_⟩
      refine ite_f (by show (!PyData.eqv (cp 0 0) (cp 0 0)) = false; rw [eqv_cp]; rfl) ?_
      exact q a b (GC.zero _) (fun n => absurd rfl n) (fun _ => ⟨rfl, rfl⟩)
    · have hz : 0 < c * c + d * d := nm_pos z
      have hc2 : Sz 2000 c := szUp hc hn
      have hd2 : Sz 2000 d := szUp hd hn
      refine ⟨Or.inr ⟨rfl, rfl⟩, trivial, ?_⟩
      refine ite_t (by show (!PyData.eqv (cp c d) (cp 0 0)) = true; rw [eqv_cp, decide_eq_false fun y => z (Prod.ext y.1 y.2)]; rfl) ?_
      refine ⟨rfl, a, b, c, d, rfl, ⟨ha, hb, hc2, hd2⟩, hz, fun t ht => ?_⟩
      obtain ⟨sx, sy⟩ := sz_nm (x := (les (a, b) t (c, d)).1) (y := (les (a, b) t (c, d)).2) ht hc hd
      refine ih c d (les (a, b) t (c, d)).1 (les (a, b) t (c, d)).2 ?_ hc2 hd2 sx sy fun x y g g1 g2 => ?_
      · have e : nm (c, d) = c * c + d * d := rfl
        have := nm_nn (les (a, b) t (c, d))
        show nm (les (a, b) t (c, d)) < N
        omega
      · refine q x y (GC.step g) (fun _ => ?_) (fun y => absurd y z)
        by_cases w : les (a, b) t (c, d) = ((0, 0) : G)
        · obtain ⟨rfl, rfl⟩ := g2 w
          exact ⟨hc, hd⟩
        · exact g1 w
theorem sem_divisor_by_steps : ∀ ds R, c_divisor_by_steps ds R → ds.length = 2 → w_divisor_by_steps (edP R) (ev0 0 ds) := by
  intro ds R h _
  obtain ⟨a, b, c, d, n, rfl, ⟨ha, hb⟩, ⟨hc, hd⟩, hn, q⟩ := h
  have h0 := nm_nn (c, d)
  exact ⟨(nm (c, d)).toNat + 1, steps_loop hn _ a b c d (by omega) ha hb hc hd fun x y g g1 g2 => q x y g g1 g2⟩
/-! ## is_complex -/
abbrev r_is_complex_1 : Ws := (wRet (dFn 2 c_are_wholes (daC (dVar 0) (daC (dLit (.int 2)) daN))))
def w_is_complex : Ws := (wRet (dFn 2 c_are_wholes (daC (dVar 0) (daC (dLit (.int 2)) daN))))
theorem sem_is_complex : ∀ ds R, c_is_complex ds R → ds.length = 1 → w_is_complex (edP R) (ev0 0 ds) := by
  intro ds R h _
  obtain ⟨v, rfl, l, q⟩ := h
  exact ⟨rfl, v, 2, rfl, l, q⟩
/-! ## require_complex -/
abbrev r_require_complex_1 (XR : Xr) : Ws := (wIf (dNotT (dTru (dFn 1 c_is_complex (daC (dVar 0) daN)))) (wRaise XR "InvalidComplex" "given" (dVar 0)) wNx)
def w_require_complex (XR : Xr) : Ws := (wIf (dNotT (dTru (dFn 1 c_is_complex (daC (dVar 0) daN)))) (wRaise XR "InvalidComplex" "given" (dVar 0)) wNx)
@[irreducible] noncomputable def q_require_complex_1 (XR : Xr) : Ws := hid (wIf (dNotT (dTru (dFn 1 c_is_complex (daC (dVar 0) daN)))) (wRaise XR "InvalidComplex" "given" (dVar 0)) wNx)
theorem e_require_complex (XR : Xr) : w_require_complex XR = q_require_complex_1 XR := by delta q_require_complex_1; simp only [hid_eq]; with_unfolding_all rfl
theorem sem_require_complex : ∀ ds R XR, c_require_complex ds R XR → ds.length = 1 → w_require_complex XR (edP R) (ev0 0 ds) := by
  intro ds R XR h _
  obtain ⟨d, rfl, o, h1, h2⟩ := h
  rw [e_require_complex]; (show q_require_complex_1 _ _ [_]; delta q_require_complex_1; refine hid_of ?_)
  refine ⟨rfl, d, rfl, o, trivial, ?_⟩
  cases e : areW d 2 with
  | true => exact ite_f rfl (h1 e)
  | false => exact ite_t rfl (h2 e)
/-! ## determinant -/
abbrev r_determinant_2 : Ws := (wRet (dFn 2 c_minus (daC (dFn 2 c_times (daC (dVar 1) (daC (dVar 4) daN))) (daC (dFn 2 c_times (daC (dVar 2) (daC (dVar 3) daN))) daN))))
abbrev r_determinant_1 : Ws := (wSeq (wAsg (dVar 0) (gT 4 (gsC (gN 1) (gsC (gN 2) (gsC (gN 3) (gsC (gN 4) gsN)))))) r_determinant_2)
def w_determinant : Ws := (wSeq (wAsg (dVar 0) (gT 4 (gsC (gN 1) (gsC (gN 2) (gsC (gN 3) (gsC (gN 4) gsN)))))) (wRet (dFn 2 c_minus (daC (dFn 2 c_times (daC (dVar 1) (daC (dVar 4) daN))) (daC (dFn 2 c_times (daC (dVar 2) (daC (dVar 3) daN))) daN)))))
theorem sem_determinant : ∀ ds R, c_determinant ds R → ds.length = 1 → w_determinant (edP R) (ev0 4 ds) := by
  intro ds R h _
  obtain ⟨a, b, c, d, rfl, ⟨_, _, _, _, _, _, _, _⟩, q⟩ := h
  refine ⟨rfl, ?_⟩
  show r_determinant_2 (edP R) [some (.val (q4 a b c d)), some (.val (cd a)), some (.val (cd b)), some (.val (cd c)), some (.val (cd d))]
  refine ⟨rfl, a.1, a.2, d.1, d.2, rfl, ⟨by walk_at "sz", by walk_at "sz", by walk_at "sz", by walk_at "sz"⟩, ?_⟩
  refine ⟨rfl, b.1, b.2, c.1, c.2, rfl, ⟨by walk_at "sz", by walk_at "sz", by walk_at "sz", by walk_at "sz"⟩, ?_⟩
  exact ⟨rfl, _, _, _, _, rfl, ⟨by walk_at "sz", by walk_at "sz", by walk_at "sz", by walk_at "sz"⟩, q⟩
/-! ## map_from -/
abbrev r_map_from_6 : Ws := (wAsg (dCal fTuple (daC (dLc [5] (diT (dVar 1)) (gN 5) dYes (dFn 1 c_turned (daC (dVar 5) daN))) daN)) (gN 1))
abbrev r_map_from_5 : Ws := (wSeq (wAsg (dFn 1 c_turned (daC (dVar 4) daN)) (gN 4)) r_map_from_6)
abbrev r_map_from_7 : Ws := (wRet (dOp fCat (dTup (daC (dVar 0) daN)) (dVar 1)))
abbrev r_map_from_4 : Ws := (wSeq (wWhile (dNotT (dTru (dFn 1 c_is_quarter (daC (dVar 4) daN)))) r_map_from_5) r_map_from_7)
abbrev r_map_from_3 : Ws := (wSeq (wAsg (dIf (dTru (dOp fNe (dOp fIx (dVar 1) (dLit (.int 0))) (dLit (.tuple [(.int 0), (.int 0)])))) (dOp fIx (dVar 1) (dLit (.int 0))) (dOp fIx (dVar 1) (dLit (.int 1)))) (gN 4)) r_map_from_4)
abbrev r_map_from_2 : Ws := (wSeq (wAsg (dCal fTuple (daC (dLc [5] (diT (dVar 1)) (gN 5) dYes (dFn 2 c_exact_quotient (daC (dVar 5) (daC (dVar 3) daN)))) daN)) (gN 1)) r_map_from_3)
abbrev r_map_from_1 : Ws := (wSeq (wAsg (dFn 1 c_divisor_of (daC (dOp fCat (dVar 1) (dTup (daC (dVar 2) daN))) daN)) (gN 3)) r_map_from_2)
def w_map_from : Ws := (wSeq (wAsg (dFn 1 c_divisor_of (daC (dOp fCat (dVar 1) (dTup (daC (dVar 2) daN))) daN)) (gN 3)) (wSeq (wAsg (dCal fTuple (daC (dLc [5] (diT (dVar 1)) (gN 5) dYes (dFn 2 c_exact_quotient (daC (dVar 5) (daC (dVar 3) daN)))) daN)) (gN 1)) (wSeq (wAsg (dIf (dTru (dOp fNe (dOp fIx (dVar 1) (dLit (.int 0))) (dLit (.tuple [(.int 0), (.int 0)])))) (dOp fIx (dVar 1) (dLit (.int 0))) (dOp fIx (dVar 1) (dLit (.int 1)))) (gN 4)) (wSeq (wWhile (dNotT (dTru (dFn 1 c_is_quarter (daC (dVar 4) daN)))) (wSeq (wAsg (dFn 1 c_turned (daC (dVar 4) daN)) (gN 4)) (wAsg (dCal fTuple (daC (dLc [5] (diT (dVar 1)) (gN 5) dYes (dFn 1 c_turned (daC (dVar 5) daN))) daN)) (gN 1)))) (wRet (dOp fCat (dTup (daC (dVar 0) daN)) (dVar 1)))))))
/-- one look at the loop that turns a map's numbers -/
theorem mf_step {f : Int} {a b c d l s m g : G} {sd : Sl} {n : Nat} {E : Ed} {t : Wt} (ht : t = dNotT (dTru (dFn 1 c_is_quarter (daC (dVar 4) daN))))
    (h : isQ l → E.nx [some (.val (.int f)), some (.val (q4 a b c d)), some (.val (cd m)), some (.val (cd g)), some (.val (cd l)), none])
    (k : ¬ isQ l → whD t r_map_from_5 n E [some (.val (.int f)), some (.val (q4 (gt a) (gt b) (gt c) (gt d))), some (.val (cd m)), some (.val (cd g)), some (.val (cd (gt l))), none]) :
    whD t r_map_from_5 (n + 1) E [some (.val (.int f)), some (.val (q4 a b c d)), some (.val (cd m)), some (.val (cd g)), some (.val (cd l)), none] := by
  subst ht
  refine ⟨rfl, l.1, l.2, rfl, trivial, ?_⟩
  refine ite_b (fun z => ?_) (fun z => ?_)
  · refine ⟨rfl, l.1, l.2, rfl, ?_⟩
    refine lc_map (f := fun d => cd (gt (toG d))) rfl (Nat.le_of_ble_eq_true rfl) (fun x hx R r => ?_) ?_
    · rcases List.mem_cons.mp hx with e | hx
      · subst e; exact ⟨rfl, a.1, a.2, rfl, r⟩
      rcases List.mem_cons.mp hx with e | hx
      · subst e; exact ⟨rfl, b.1, b.2, rfl, r⟩
      rcases List.mem_cons.mp hx with e | hx
      · subst e; exact ⟨rfl, c.1, c.2, rfl, r⟩
      · rw [List.mem_singleton.mp hx] at r ⊢; exact ⟨rfl, d.1, d.2, rfl, r⟩
    · exact k (fun y => by
        have : (decide (0 < l.1) && decide (0 ≤ l.2)) = true := by rw [decide_eq_true y.1, decide_eq_true y.2]; rfl
        rw [this] at z
        cases z)
  · refine h ?_
    have z1 : (decide (0 < l.1) && decide (0 ≤ l.2)) = true := by
      cases y : (decide (0 < l.1) && decide (0 ≤ l.2))
      · rw [show tru (.bool (decide (0 < l.1) && decide (0 ≤ l.2))) = (decide (0 < l.1) && decide (0 ≤ l.2)) from rfl, y] at z
        cases z
      · rfl
    rw [Bool.and_eq_true] at z1
    exact ⟨of_decide_eq_true z1.1, of_decide_eq_true z1.2⟩
theorem led_ne {a b c d : G} (h : dtm a b c d ≠ (0, 0)) : led a b ≠ (0, 0) := fun z => h (by
  unfold led at z
  by_cases y : a = (0, 0)
  · rw [if_neg (fun n => n y)] at z
    rw [y, z]
    exact Prod.ext (by simp only [dtm, gu, gm]; grind) (by simp only [dtm, gu, gm]; grind)
  · rw [if_pos y] at z
    exact absurd z y)
theorem qt_some {l : G} (h : l ≠ (0, 0)) (h0 : ¬ isQ l) (h1 : ¬ isQ (gt l)) (h2 : ¬ isQ (gt (gt l))) : isQ (gt (gt (gt l))) := by
  have : ¬ (l.1 = 0 ∧ l.2 = 0) := fun z => h (Prod.ext z.1 z.2)
  unfold isQ gt at *
  simp only at *
  omega
/-- the loop ends with a map in its form -/
theorem mf_loop {f : Int} {m g a b c d x y z w : G} {n : Nat} {E : Ed} (hf : S4 n x y z w ∧ GC [x, y, z, w] (1, 0) ∧ dtm x y z w ≠ (0, 0)) (hg : g ≠ (0, 0)) (ha : a = gm g x) (hb : b = gm g y) (hc : c = gm g z) (hd : d = gm g w)
    (k : ∀ g x y z w : G, g ≠ (0, 0) → a = gm g x → b = gm g y → c = gm g z → d = gm g w → Fm n x y z w → ∀ h l : G, E.nx [some (.val (.int f)), some (.val (q4 x y z w)), some (.val (cd m)), some (.val (cd h)), some (.val (cd l)), none]) (h : G) :
    wWhile (dNotT (dTru (dFn 1 c_is_quarter (daC (dVar 4) daN)))) r_map_from_5 E [some (.val (.int f)), some (.val (q4 x y z w)), some (.val (cd m)), some (.val (cd h)), some (.val (cd (led x y))), none] := by
  have tn : ∀ {a g x : G}, a = gm g x → a = gm (gt (gt (gt g))) (gt x) := fun {a g x} e => by rw [gm_gt, gt_4]; exact e
  have tg : ∀ {g : G}, g ≠ (0, 0) → gt (gt (gt g)) ≠ (0, 0) := fun z => gt_ne (gt_ne (gt_ne z))
  have up : ∀ {x y z w : G}, S4 n x y z w ∧ GC [x, y, z, w] (1, 0) ∧ dtm x y z w ≠ (0, 0) → S4 n (gt x) (gt y) (gt z) (gt w) ∧ GC [gt x, gt y, gt z, gt w] (1, 0) ∧ dtm (gt x) (gt y) (gt z) (gt w) ≠ (0, 0) := fun e => ⟨e.1.gt, e.2.1.gt, by rw [dtm_gt]; exact gn_ne e.2.2⟩
  refine ⟨4, ?_⟩
  refine mf_step (s := x) (sd := .val .none) rfl (fun q => k g x y z w hg ha hb hc hd ⟨hf.1, hf.2.1, hf.2.2, q⟩ _ _) (fun q0 => ?_)
  have f1 := up hf
  refine mf_step (s := x) (sd := .val .none) rfl (fun q => k _ _ _ _ _ (tg hg) (tn ha) (tn hb) (tn hc) (tn hd) ⟨f1.1, f1.2.1, f1.2.2, by rw [led_gt]; exact q⟩ _ _) (fun q1 => ?_)
  have f2 := up f1
  refine mf_step (s := x) (sd := .val .none) rfl (fun q => k _ _ _ _ _ (tg (tg hg)) (tn (tn ha)) (tn (tn hb)) (tn (tn hc)) (tn (tn hd)) ⟨f2.1, f2.2.1, f2.2.2, by rw [led_gt, led_gt]; exact q⟩ _ _) (fun q2 => ?_)
  have f3 := up f2
  refine mf_step (s := x) (sd := .val .none) rfl (fun q => k _ _ _ _ _ (tg (tg (tg hg))) (tn (tn (tn ha))) (tn (tn (tn hb))) (tn (tn (tn hc))) (tn (tn (tn hd))) ⟨f3.1, f3.2.1, f3.2.2, by rw [led_gt, led_gt, led_gt]; exact q⟩ _ _) (fun q3 => ?_)
  exact absurd (qt_some (led_ne hf.2.2) q0 q1 q2) q3
theorem sem_map_from : ∀ ds R, c_map_from ds R → ds.length = 3 → w_map_from (edP R) (ev0 3 ds) := by
  intro ds R h _
  obtain ⟨f, a, b, c, d, m, n, rfl, s, ⟨m1, m2⟩, hn, hz, hm, q⟩ := h
  have cap : n ≤ 900 := hn
  refine ⟨Nat.le_of_ble_eq_true rfl, ?_⟩
  refine ⟨Nat.le_of_ble_eq_true rfl, ?_⟩
  refine ⟨rfl, [a, b, c, d, m], n, rfl, Nat.le_of_ble_eq_true rfl, hn, fun p hp => ?_, fun g gc gq g1 g2 => ?_⟩
  · rcases List.mem_cons.mp hp with e | hp
    · rw [e]; exact ⟨s.a1, s.a2⟩
    rcases List.mem_cons.mp hp with e | hp
    · rw [e]; exact ⟨s.b1, s.b2⟩
    rcases List.mem_cons.mp hp with e | hp
    · rw [e]; exact ⟨s.c1, s.c2⟩
    rcases List.mem_cons.mp hp with e | hp
    · rw [e]; exact ⟨s.d1, s.d2⟩
    · rw [List.mem_singleton.mp hp]; exact ⟨m1, m2⟩
  · have hg : g ≠ (0, 0) := gc.ne (by
      by_cases y : a = (0, 0)
      · refine ⟨b, by simp, fun z => led_ne hz ?_⟩
        unfold led
        rw [if_neg (fun n => n y)]
        exact z
      · exact ⟨a, by simp, y⟩)
    obtain ⟨x, hx⟩ := gc.dv a (by simp)
    obtain ⟨y, hy⟩ := gc.dv b (by simp)
    obtain ⟨z, hz'⟩ := gc.dv c (by simp)
    obtain ⟨w, hw⟩ := gc.dv d (by simp)
    show r_map_from_2 (edP R) [some (.val (.int f)), some (.val (q4 a b c d)), some (.val (cd m)), some (.val (cd g)), none, none]
    have S : ∀ {k : Nat} {i : Int}, Sz k i → k ≤ 2000 → Sz 2000 i := fun h l => szUp h l
    have one : ∀ {u v : G}, u = gm g v → Sz n u.1 → Sz n u.2 → ∀ R' : PyData → Ev → Prop, R' (cd v) [some (.val (.int f)), some (.val (q4 a b c d)), some (.val (cd m)), some (.val (cd g)), none, some (.val (cd u))] →
        dFn 2 c_exact_quotient (daC (dVar 5) (daC (dVar 3) daN)) [some (.val (.int f)), some (.val (q4 a b c d)), some (.val (cd m)), some (.val (cd g)), none, some (.val (cd u))] R' := fun {u v} e s1 s2 R' r => by
      refine ⟨rfl, u.1, u.2, g.1, g.2, rfl, ⟨szUp s1 (by omega), szUp s2 (by omega), szUp g1 (by omega), szUp g2 (by omega)⟩, ?_⟩
      rw [xq_gm (p := v) hg e]
      exact r
    refine lc_map (f := fun d => od (xq (toG d).1 (toG d).2 g.1 g.2)) rfl (Nat.le_of_ble_eq_true rfl) (fun u hu R' r => ?_) ?_
    · rcases List.mem_cons.mp hu with e | hu
      · subst e; exact one hx s.a1 s.a2 R' (by rw [show od (xq (toG (cd a)).1 (toG (cd a)).2 g.1 g.2) = cd x from congrArg od (xq_gm hg hx)] at r; exact r)
      rcases List.mem_cons.mp hu with e | hu
      · subst e; exact one hy s.b1 s.b2 R' (by rw [show od (xq (toG (cd b)).1 (toG (cd b)).2 g.1 g.2) = cd y from congrArg od (xq_gm hg hy)] at r; exact r)
      rcases List.mem_cons.mp hu with e | hu
      · subst e; exact one hz' s.c1 s.c2 R' (by rw [show od (xq (toG (cd c)).1 (toG (cd c)).2 g.1 g.2) = cd z from congrArg od (xq_gm hg hz')] at r; exact r)
      · rw [List.mem_singleton.mp hu] at r ⊢
        exact one hw s.d1 s.d2 R' (by rw [show od (xq (toG (cd d)).1 (toG (cd d)).2 g.1 g.2) = cd w from congrArg od (xq_gm hg hw)] at r; exact r)
    · rw [show [] ++ [cd a, cd b, cd c, cd d].map (fun d => od (xq (toG d).1 (toG d).2 g.1 g.2)) = [cd x, cd y, cd z, cd w] from by
        show [od (xq a.1 a.2 g.1 g.2), od (xq b.1 b.2 g.1 g.2), od (xq c.1 c.2 g.1 g.2), od (xq d.1 d.2 g.1 g.2)] = _
        rw [xq_gm (p := x) hg hx, xq_gm (p := y) hg hy, xq_gm (p := z) hg hz', xq_gm (p := w) hg hw]
        rfl]
      have dn : dtm x y z w ≠ (0, 0) := fun e => hz (by rw [hx, hy, hz', hw, dtm_gm, e, gm_zero])
      have sx := sz_fac hg hx s.a1 s.a2
      have sy := sz_fac hg hy s.b1 s.b2
      have sz := sz_fac hg hz' s.c1 s.c2
      have sw := sz_fac hg hw s.d1 s.d2
      have F : S4 (n + 1) x y z w ∧ GC [x, y, z, w] (1, 0) ∧ dtm x y z w ≠ (0, 0) := ⟨⟨sx.1, sx.2, sy.1, sy.2, sz.1, sz.2, sw.1, sw.2⟩, gc.quot hm hg hx hy hz' hw, dn⟩
      show r_map_from_3 (edP R) [some (.val (.int f)), some (.val (q4 x y z w)), some (.val (cd m)), some (.val (cd g)), none, none]
      have L : ∀ E : Ed, (∀ g x y z w : G, g ≠ (0, 0) → a = gm g x → b = gm g y → c = gm g z → d = gm g w → Fm (n + 1) x y z w → ∀ h l : G, E.nx [some (.val (.int f)), some (.val (q4 x y z w)), some (.val (cd m)), some (.val (cd h)), some (.val (cd l)), none]) →
          wWhile (dNotT (dTru (dFn 1 c_is_quarter (daC (dVar 4) daN)))) r_map_from_5 E [some (.val (.int f)), some (.val (q4 x y z w)), some (.val (cd m)), some (.val (cd g)), some (.val (cd (led x y))), none] := fun E k => mf_loop F hg hx hy hz' hw k g
      have T : ∀ l : G, l = led x y → r_map_from_4 (edP R) [some (.val (.int f)), some (.val (q4 x y z w)), some (.val (cd m)), some (.val (cd g)), some (.val (cd l)), none] := fun l e => by
        subst e
        exact L _ fun g' x' y' z' w' e0 e1 e2 e3 e4 fm h l => ⟨Nat.le_of_ble_eq_true rfl, Nat.le_of_ble_eq_true rfl, q g' x' y' z' w' e0 e1 e2 e3 e4 fm⟩
      refine ⟨Or.inr ⟨rfl, rfl⟩, trivial, ?_⟩
      rw [show PyData.eqv (cd x) (.tuple [.int 0, .int 0]) = decide (x = (0, 0)) from eqv_cd x (0, 0)]
      refine ite_b (fun e => ?_) (fun e => ?_)
      · refine T x ?_
        unfold led
        rw [if_pos (by
          intro z
          rw [decide_eq_true z] at e
          cases e)]
      · refine T y ?_
        unfold led
        rw [if_neg (by
          intro z
          apply z
          exact Classical.byContradiction fun n => by
            rw [decide_eq_false n] at e
            cases e)]
theorem map_from_ok {f : Int} {A : M4} {n : Nat} {R : PyData → Prop} (S : S44 n A) (hn : n ≤ 900) (h : A.dt ≠ 0) {U : M4} (eU : nrm A = U) (q : R (mp4 f U)) : c_map_from [.int f, q4 A.a A.b A.c A.d, .tuple [.int 0, .int 0]] R :=
  ⟨f, A.a, A.b, A.c, A.d, (0, 0), n, rfl, S, ⟨szUp (n := 0) ⟨by decide⟩ (Nat.zero_le _), szUp (n := 0) ⟨by decide⟩ (Nat.zero_le _)⟩, hn, h, fun k _ _ _ _ => gdv_zero k, fun g x y z w hg e1 e2 e3 e4 Fx => by
    have s : Sim ⟨x, y, z, w⟩ A := ⟨g, 1, hg, one_ne, by rw [sm_one]; exact m4_ext e1.symm e2.symm e3.symm e4.symm⟩
    have e : (⟨x, y, z, w⟩ : M4) = nrm A := nrm_of h Fx s
    rw [← eU, ← e] at q
    exact q⟩
/-! ## is_flag -/
abbrev r_is_flag_1 : Ws := (wRet (dAnd (dFn 1 c_is_whole (daC (dVar 0) daN)) (dChain fLe fLe (dLit (.int 0)) (dVar 0) (dLit (.int 1)))))
def w_is_flag : Ws := (wRet (dAnd (dFn 1 c_is_whole (daC (dVar 0) daN)) (dChain fLe fLe (dLit (.int 0)) (dVar 0) (dLit (.int 1)))))
theorem sem_is_flag : ∀ ds R, c_is_flag ds R → ds.length = 1 → w_is_flag (edP R) (ev0 0 ds) := by
  intro ds R h _
  obtain ⟨d, rfl, o, q⟩ := h
  refine ⟨rfl, d, rfl, o, ?_⟩
  cases d with
  | int i =>
    refine (show dChain fLe fLe (dLit (.int 0)) (dVar 0) (dLit (.int 1)) [some (.val (.int i))] (fun d _ => R d) from ?_)
    refine ⟨trivial, ?_⟩
    have q : R (.bool (decide (0 ≤ i) && decide (i ≤ 1))) := q
    refine ite_b (fun z => ?_) (fun z => ?_)
    · rw [show decide (0 ≤ i) = true from z, Bool.true_and] at q
      exact ⟨trivial, q⟩
    · rw [show decide (0 ≤ i) = false from z, Bool.false_and] at q
      exact q
  | _ => exact q
/-! ## is_map -/
abbrev r_is_map_2 : Ws := (wRet (dLit (.bool false)))
abbrev r_is_map_5 : Ws := (wRet (dLit (.bool false)))
abbrev r_is_map_6 : Ws := (wRet (dOp fEq (dVar 0) (dFnD 3 [(.tuple [(.int 0), (.int 0)])] c_map_from (daC (dOp fIx (dVar 0) (dLit (.int 0))) (daC (dVar 1) daN)))))
abbrev r_is_map_4 : Ws := (wSeq (wIf (dOrT (dNotT (dTru (dCal fAll (daC (dLc [2] (diT (dVar 1)) (gN 2) dYes (dFn 1 c_is_complex (daC (dVar 2) daN))) daN)))) (dTru (dOp fEq (dFn 1 c_determinant (daC (dVar 1) daN)) (dLit (.tuple [(.int 0), (.int 0)]))))) r_is_map_5 wNx) r_is_map_6)
abbrev r_is_map_3 : Ws := (wSeq (wAsg (dSl (dVar 0) (doS (dLit (.int 1))) doN) (gN 1)) r_is_map_4)
abbrev r_is_map_1 : Ws := (wSeq (wIf (dOrT (dNotT (dTru (dIsa isTuple (dVar 0)))) (dOrT (dTru (dOp fNe (dCal fLen (daC (dVar 0) daN)) (dLit (.int 5)))) (dNotT (dTru (dFn 1 c_is_flag (daC (dOp fIx (dVar 0) (dLit (.int 0))) daN)))))) r_is_map_2 wNx) r_is_map_3)
def w_is_map : Ws := (wSeq (wIf (dOrT (dNotT (dTru (dIsa isTuple (dVar 0)))) (dOrT (dTru (dOp fNe (dCal fLen (daC (dVar 0) daN)) (dLit (.int 5)))) (dNotT (dTru (dFn 1 c_is_flag (daC (dOp fIx (dVar 0) (dLit (.int 0))) daN)))))) (wRet (dLit (.bool false))) wNx) (wSeq (wAsg (dSl (dVar 0) (doS (dLit (.int 1))) doN) (gN 1)) (wSeq (wIf (dOrT (dNotT (dTru (dCal fAll (daC (dLc [2] (diT (dVar 1)) (gN 2) dYes (dFn 1 c_is_complex (daC (dVar 2) daN))) daN)))) (dTru (dOp fEq (dFn 1 c_determinant (daC (dVar 1) daN)) (dLit (.tuple [(.int 0), (.int 0)]))))) (wRet (dLit (.bool false))) wNx) (wRet (dOp fEq (dVar 0) (dFnD 3 [(.tuple [(.int 0), (.int 0)])] c_map_from (daC (dOp fIx (dVar 0) (dLit (.int 0))) (daC (dVar 1) daN))))))))
@[irreducible] noncomputable def q_is_map_2 : Ws := hid (wRet (dLit (.bool false)))
@[irreducible] noncomputable def q_is_map_5 : Ws := hid (wRet (dLit (.bool false)))
@[irreducible] noncomputable def q_is_map_6 : Ws := hid (wRet (dOp fEq (dVar 0) (dFnD 3 [(.tuple [(.int 0), (.int 0)])] c_map_from (daC (dOp fIx (dVar 0) (dLit (.int 0))) (daC (dVar 1) daN)))))
@[irreducible] noncomputable def q_is_map_4 : Ws := hid (wSeq (wIf (dOrT (dNotT (dTru (dCal fAll (daC (dLc [2] (diT (dVar 1)) (gN 2) dYes (dFn 1 c_is_complex (daC (dVar 2) daN))) daN)))) (dTru (dOp fEq (dFn 1 c_determinant (daC (dVar 1) daN)) (dLit (.tuple [(.int 0), (.int 0)]))))) q_is_map_5 wNx) q_is_map_6)
@[irreducible] noncomputable def q_is_map_3 : Ws := hid (wSeq (wAsg (dSl (dVar 0) (doS (dLit (.int 1))) doN) (gN 1)) q_is_map_4)
@[irreducible] noncomputable def q_is_map_1 : Ws := hid (wSeq (wIf (dOrT (dNotT (dTru (dIsa isTuple (dVar 0)))) (dOrT (dTru (dOp fNe (dCal fLen (daC (dVar 0) daN)) (dLit (.int 5)))) (dNotT (dTru (dFn 1 c_is_flag (daC (dOp fIx (dVar 0) (dLit (.int 0))) daN)))))) q_is_map_2 wNx) q_is_map_3)
theorem e_is_map : w_is_map = q_is_map_1 := by delta q_is_map_1 q_is_map_3 q_is_map_4 q_is_map_6 q_is_map_5 q_is_map_2; simp only [hid_eq]; with_unfolding_all rfl
theorem mp4_inj {f g : Int} {A B : M4} (h : mp4 f A = mp4 g B) : f = g ∧ A = B := by
  have e := eqv_M f g A B
  have e2 := eqv_M g g B B
  rw [h] at e
  rw [e, decide_eq_true (rfl : g = g), decide_eq_true (rfl : B = B), Bool.true_and, Bool.and_eq_true] at e2
  exact ⟨of_decide_eq_true e2.1, of_decide_eq_true e2.2⟩
open Classical in
theorem isMapB_mp {f : Int} {A : M4} (hf : f = 0 ∨ f = 1) : isMapB (mp4 f A) = (!decide (A.dt = 0) && decide (nrm A = A)) := by
  unfold isMapB
  by_cases z : A.dt = 0
  · rw [decide_eq_true z]
    exact decide_eq_false fun ⟨g, B, e, _, n, _⟩ => n (by rw [← (mp4_inj e).2]; exact z)
  · rw [decide_eq_false z, Bool.not_false, Bool.true_and]
    by_cases y : nrm A = A
    · rw [decide_eq_true y]
      exact decide_eq_true ⟨f, A, rfl, hf, z, y⟩
    · rw [decide_eq_false y]
      exact decide_eq_false fun ⟨g, B, e, _, _, n⟩ => y (by rw [(mp4_inj e).2]; exact n)
open Classical in
theorem isMapB_no {d : PyData} (h : shM d = false) : isMapB d = false := by
  unfold isMapB
  refine decide_eq_false fun ⟨f, A, e, hf, _⟩ => ?_
  subst e
  have : shM (mp4 f A) = true := by
    rcases hf with rfl | rfl <;> rfl
  rw [this] at h
  cases h
theorem okm_t {xs : List PyData} (h : okm (.tuple xs) = true) : xs.length ≤ 1000 ∧ ∀ x ∈ xs, okd x = true ∧ okd (.tuple [x]) = true := by
  have h : (Nat.ble xs.length 1000 && xs.all fun x => okd x && okd (.tuple [x])) = true := h
  rw [Bool.and_eq_true] at h
  exact ⟨Nat.le_of_ble_eq_true h.1, fun x m => Bool.and_eq_true_iff.mp (List.all_eq_true.mp h.2 x m)⟩
theorem okm_x {d : PyData} (h : okm d = true) : isX d = false := by
  cases d with
  | dict ps => exact Bool.eq_false_iff.mpr fun z => by rw [show okm (.dict ps) = !isX (.dict ps) from rfl, z] at h; cases h
  | _ => rfl
theorem zero_sz {n : Nat} : Sz n ((0 : Int)) := szUp (n := 0) ⟨by decide⟩ (Nat.zero_le _)
theorem sem_is_map : ∀ ds R, c_is_map ds R → ds.length = 1 → w_is_map (edP R) (ev0 2 ds) := by
  intro ds R h _
  obtain ⟨d, rfl, hd, q⟩ := h
  rw [e_is_map]; (show q_is_map_1 _ [_, _, _]; delta q_is_map_1; refine hid_of ?_)
  rcases hd with ⟨f, A, rfl, hf, S⟩ | ⟨o, n⟩
  · rw [isMapB_mp hf] at q
    refine ⟨trivial, ite_f rfl ?_⟩
    refine ⟨Or.inr ⟨rfl, rfl⟩, trivial, ite_f rfl ?_⟩
    refine ⟨rfl, .int f, rfl, rfl, trivial, ite_f (by rcases hf with rfl | rfl <;> rfl) ?_⟩
    (show q_is_map_3 _ [_, _, _]; delta q_is_map_3; refine hid_of ?_)
    (show q_is_map_4 _ [_, _, _]; delta q_is_map_4; refine hid_of ?_)
    refine (show dCal fAll (daC (dLc [2] (diT (dVar 1)) (gN 2) dYes (dFn 1 c_is_complex (daC (dVar 2) daN))) daN) [some (.val (mp4 f A)), some (.val (q4 A.a A.b A.c A.d)), none] _ from ?_)
    refine all_lc (f := fun d => areW d 2) (ds := [cd A.a, cd A.b, cd A.c, cd A.d]) (by decide) (fun R r => r) rfl (Nat.le_of_ble_eq_true rfl) (fun x hx R r => ⟨rfl, x, rfl, ?_, r⟩) ?_
    · simp only [List.mem_cons, List.not_mem_nil, or_false] at hx
      rcases hx with rfl | rfl | rfl | rfl <;> rfl
    refine ⟨trivial, ite_f rfl ?_⟩
    refine ⟨rfl, A.a, A.b, A.c, A.d, rfl, S.up (by omega), Or.inr ⟨rfl, rfl⟩, trivial, ?_⟩
    rw [show PyData.eqv (cd (dtm A.a A.b A.c A.d)) (.tuple [.int 0, .int 0]) = decide (A.dt = 0) from eqv_cd _ (0, 0)]
    refine ite_b (fun z => ?_) (fun z => ?_)
    · (show q_is_map_5 _ [_, _, _]; delta q_is_map_5; refine hid_of ?_)
      rw [show decide (A.dt = 0) = true from z] at q
      exact q
    · (show q_is_map_6 _ [_, _, _]; delta q_is_map_6; refine hid_of ?_)
      rw [show decide (A.dt = 0) = false from z, Bool.not_false, Bool.true_and] at q
      refine ⟨rfl, map_from_ok S (by decide) (of_decide_eq_false z) rfl ⟨Or.inr ⟨rfl, rfl⟩, ?_⟩⟩
      show R (.bool (PyData.eqv (mp4 f A) (mp4 f (nrm A))))
      rw [eqv_M, decide_eq_true (rfl : f = f), Bool.true_and]
      rw [show decide (A = nrm A) = decide (nrm A = A) from decide_eq_decide.mpr ⟨Eq.symm, Eq.symm⟩]
      exact q
  · rw [isMapB_no n] at q
    refine okE_in (okm_x o) ?_
    cases d with
    | tuple xs =>
      obtain ⟨hl, hx⟩ := okm_t o
      refine ⟨trivial, ite_f rfl ?_⟩
      refine ⟨Or.inr ⟨rfl, rfl⟩, trivial, ?_⟩
      rw [eqv_int]
      by_cases z : (xs.length : Int) = 5
      · refine ite_f (by rw [decide_eq_true z]; rfl) ?_
        match xs, z, hx, n with
        | [x0, x1, x2, x3, x4], _, hx, n =>
          have n : (flg x0 && (areW x1 2 && (areW x2 2 && (areW x3 2 && areW x4 2)))) = false := n
          have h0 := okv_x (okd_v (hx x0 (by simp)).1)
          refine ⟨rfl, x0, rfl, h0, trivial, ?_⟩
          cases y : flg x0 with
          | false => exact ite_t rfl (by (show q_is_map_2 _ [_, _, _]; delta q_is_map_2; refine hid_of ?_); exact q)
          | true =>
            rw [y, Bool.true_and] at n
            refine ite_f rfl ?_
            (show q_is_map_3 _ [_, _, _]; delta q_is_map_3; refine hid_of ?_)
            (show q_is_map_4 _ [_, _, _]; delta q_is_map_4; refine hid_of ?_)
            refine (show dCal fAll (daC (dLc [2] (diT (dVar 1)) (gN 2) dYes (dFn 1 c_is_complex (daC (dVar 2) daN))) daN) [some (.val (.tuple [x0, x1, x2, x3, x4])), some (.val (.tuple [x1, x2, x3, x4])), none] _ from ?_)
            refine all_lc (f := fun d => areW d 2) (ds := [x1, x2, x3, x4]) (by decide) (fun R r => r) rfl (Nat.le_of_ble_eq_true rfl) (fun x m R r => ⟨rfl, x, rfl, okd_v (hx x (by simp only [List.mem_cons, List.not_mem_nil, or_false] at m ⊢; exact .inr m)).1, r⟩) ?_
            have e : (List.map (fun d => areW d 2) [x1, x2, x3, x4]).all id = false := by
              simp only [List.map_cons, List.map_nil, List.all_cons, List.all_nil, Bool.and_true, id]
              exact n
            rw [e]
            refine ⟨trivial, ite_t rfl ?_⟩
            (show q_is_map_5 _ [_, _, _]; delta q_is_map_5; refine hid_of ?_)
            exact q
      · exact ite_t (by rw [decide_eq_false z]; rfl) (by (show q_is_map_2 _ [_, _, _]; delta q_is_map_2; refine hid_of ?_); exact q)
    | _ => exact ⟨trivial, ite_t rfl (by (show q_is_map_2 _ [_, _, _]; delta q_is_map_2; refine hid_of ?_); exact q)⟩
/-! ## map_of -/
abbrev r_map_of_5 (XR : Xr) : Ws := (wDrop (dFnX XR 1 c_require_complex (daC (dVar 6) daN)))
abbrev r_map_of_8 (XR : Xr) : Ws := (wRet (dFnD 3 [(.tuple [(.int 0), (.int 0)])] c_map_from (daC (dVar 0) (daC (dVar 5) daN))))
abbrev r_map_of_6 (XR : Xr) : Ws := (wSeq (wIf (dTru (dOp fEq (dFn 1 c_determinant (daC (dVar 5) daN)) (dLit (.tuple [(.int 0), (.int 0)])))) (wRaise0 XR "NoMap") wNx) (r_map_of_8 XR))
abbrev r_map_of_4 (XR : Xr) : Ws := (wSeq (wFor (diT (dVar 5)) (gN 6) (r_map_of_5 XR)) (r_map_of_6 XR))
abbrev r_map_of_3 (XR : Xr) : Ws := (wSeq (wAsg (dTup (daC (dVar 1) (daC (dVar 2) (daC (dVar 3) (daC (dVar 4) daN))))) (gN 5)) (r_map_of_4 XR))
abbrev r_map_of_1 (XR : Xr) : Ws := (wSeq (wIf (dNotT (dTru (dFn 1 c_is_flag (daC (dVar 0) daN)))) (wRaise XR "InvalidFlag" "given" (dVar 0)) wNx) (r_map_of_3 XR))
def w_map_of (XR : Xr) : Ws := (wSeq (wIf (dNotT (dTru (dFn 1 c_is_flag (daC (dVar 0) daN)))) (wRaise XR "InvalidFlag" "given" (dVar 0)) wNx) (wSeq (wAsg (dTup (daC (dVar 1) (daC (dVar 2) (daC (dVar 3) (daC (dVar 4) daN))))) (gN 5)) (wSeq (wFor (diT (dVar 5)) (gN 6) (wDrop (dFnX XR 1 c_require_complex (daC (dVar 6) daN)))) (wSeq (wIf (dTru (dOp fEq (dFn 1 c_determinant (daC (dVar 5) daN)) (dLit (.tuple [(.int 0), (.int 0)])))) (wRaise0 XR "NoMap") wNx) (wRet (dFnD 3 [(.tuple [(.int 0), (.int 0)])] c_map_from (daC (dVar 0) (daC (dVar 5) daN))))))))
@[irreducible] noncomputable def q_map_of_5 (XR : Xr) : Ws := hid (wDrop (dFnX XR 1 c_require_complex (daC (dVar 6) daN)))
@[irreducible] noncomputable def q_map_of_8 (XR : Xr) : Ws := hid (wRet (dFnD 3 [(.tuple [(.int 0), (.int 0)])] c_map_from (daC (dVar 0) (daC (dVar 5) daN))))
@[irreducible] noncomputable def q_map_of_6 (XR : Xr) : Ws := hid (wSeq (wIf (dTru (dOp fEq (dFn 1 c_determinant (daC (dVar 5) daN)) (dLit (.tuple [(.int 0), (.int 0)])))) (wRaise0 XR "NoMap") wNx) (q_map_of_8 XR))
@[irreducible] noncomputable def q_map_of_4 (XR : Xr) : Ws := hid (wSeq (wFor (diT (dVar 5)) (gN 6) (q_map_of_5 XR)) (q_map_of_6 XR))
@[irreducible] noncomputable def q_map_of_3 (XR : Xr) : Ws := hid (wSeq (wAsg (dTup (daC (dVar 1) (daC (dVar 2) (daC (dVar 3) (daC (dVar 4) daN))))) (gN 5)) (q_map_of_4 XR))
@[irreducible] noncomputable def q_map_of_1 (XR : Xr) : Ws := hid (wSeq (wIf (dNotT (dTru (dFn 1 c_is_flag (daC (dVar 0) daN)))) (wRaise XR "InvalidFlag" "given" (dVar 0)) wNx) (q_map_of_3 XR))
theorem e_map_of (XR : Xr) : w_map_of XR = q_map_of_1 XR := by delta q_map_of_1 q_map_of_3 q_map_of_4 q_map_of_6 q_map_of_8 q_map_of_5; simp only [hid_eq]; with_unfolding_all rfl
theorem sem_map_of : ∀ ds R XR, c_map_of ds R XR → ds.length = 5 → w_map_of XR (edP R) (ev0 2 ds) := by
  intro ds R XR h _
  obtain ⟨f, A, n, rfl, hf, S, hn, h1, h2⟩ := h
  rw [e_map_of]; (show q_map_of_1 _ _ [_, _, _, _, _, _, _]; delta q_map_of_1; refine hid_of ?_)
  refine ⟨rfl, .int f, rfl, rfl, trivial, ite_f (by rcases hf with rfl | rfl <;> rfl) ?_⟩
  (show q_map_of_3 _ _ [_, _, _, _, _, _, _]; delta q_map_of_3; refine hid_of ?_)
  refine ⟨Nat.le_of_ble_eq_true rfl, ?_⟩
  (show q_map_of_4 _ _ [_, _, _, _, _, _, _]; delta q_map_of_4; refine hid_of ?_)
  (show q_map_of_5 _ _ [_, _, _, _, _, _, _]; delta q_map_of_5; refine hid_of ?_)
  refine ⟨rfl, cd A.a, rfl, rfl, fun _ => ?_, fun z => by cases z⟩
  refine (show hid (wDrop (dFnX XR 1 c_require_complex (daC (dVar 6) daN))) _ [_, _, _, _, _, _, _] from ?_)
  refine hid_of ?_
  refine ⟨rfl, cd A.b, rfl, rfl, fun _ => ?_, fun z => by cases z⟩
  refine (show hid (wDrop (dFnX XR 1 c_require_complex (daC (dVar 6) daN))) _ [_, _, _, _, _, _, _] from ?_)
  refine hid_of ?_
  refine ⟨rfl, cd A.c, rfl, rfl, fun _ => ?_, fun z => by cases z⟩
  refine (show hid (wDrop (dFnX XR 1 c_require_complex (daC (dVar 6) daN))) _ [_, _, _, _, _, _, _] from ?_)
  refine hid_of ?_
  refine ⟨rfl, cd A.d, rfl, rfl, fun _ => ?_, fun z => by cases z⟩
  (show q_map_of_6 _ _ [_, _, _, _, _, _, _]; delta q_map_of_6; refine hid_of ?_)
  refine ⟨rfl, A.a, A.b, A.c, A.d, rfl, S.up (by omega), Or.inr ⟨rfl, rfl⟩, trivial, ?_⟩
  rw [show PyData.eqv (cd (dtm A.a A.b A.c A.d)) (.tuple [.int 0, .int 0]) = decide (A.dt = 0) from eqv_cd _ (0, 0)]
  refine ite_b (fun z => ?_) (fun z => ?_)
  · exact h1 (of_decide_eq_true z)
  · (show q_map_of_8 _ _ [_, _, _, _, _, _, _]; delta q_map_of_8; refine hid_of ?_)
    exact ⟨rfl, map_from_ok S (by omega) (of_decide_eq_false z) rfl (h2 (of_decide_eq_false z))⟩
/-! ## law_tank -/
abbrev r_law_tank_3 : Ws := (wAsg (dOp fMod (dCal fInt (daC (dOp fCat (dOp fCat (dOp fMul (dVar 2) (dLit (.int 51977))) (dOp fMod (dCal fInt (daC (dVar 3) daN)) (dLit (.int 2147483629)))) (dLit (.int 37))) daN)) (dLit (.int 2147483629))) (gN 2))
abbrev r_law_tank_6 : Ws := (wRetL (daC (dVar 5) (daC (dOp fMod (dCal fInt (daC (dOp fCat (dOp fCat (dOp fMul (dVar 2) (dLit (.int 33013))) (dOp fMul (dOp fMod (dCal fInt (daC (dVar 4) daN)) (dLit (.int 2147483629))) (dLit (.int 7001)))) (dLit (.int 3))) daN)) (dLit (.int 2147483629))) (daC (dLit (.int 0)) daN))))
abbrev r_law_tank_5 : Ws := (wSeq (wAsg (dIf (dOrT (dTru (dOp fLt (dVar 4) (dLit (.int 0)))) (dTru (dOp fGe (dVar 4) (dOp fPow (dLit (.int 10)) (dLit (.int 18)))))) (dCal fAbs (daC (dVar 4) daN)) (dLit (.int 0))) (gN 5)) r_law_tank_6)
abbrev r_law_tank_4 : Ws := (wSeq (wAsg (dIf (dTru (dOp fLt (dVar 1) (dCal fLen (daC (dVar 0) daN)))) (dCal fInt (daC (dOp fIx (dVar 0) (dVar 1)) daN)) (dVar 2)) (gN 4)) r_law_tank_5)
abbrev r_law_tank_2 : Ws := (wSeq (wFor (diL (dSl (dVar 0) doN (doS (dLit (.int 9))))) (gN 3) r_law_tank_3) r_law_tank_4)
abbrev r_law_tank_1 : Ws := (wSeq (wAsg (dOp fCat (dLit (.int 90011)) (dOp fMul (dLit (.int 2003)) (dVar 1))) (gN 2)) r_law_tank_2)
def w_law_tank : Ws := (wSeq (wAsg (dOp fCat (dLit (.int 90011)) (dOp fMul (dLit (.int 2003)) (dVar 1))) (gN 2)) (wSeq (wFor (diL (dSl (dVar 0) doN (doS (dLit (.int 9))))) (gN 3) (wAsg (dOp fMod (dCal fInt (daC (dOp fCat (dOp fCat (dOp fMul (dVar 2) (dLit (.int 51977))) (dOp fMod (dCal fInt (daC (dVar 3) daN)) (dLit (.int 2147483629)))) (dLit (.int 37))) daN)) (dLit (.int 2147483629))) (gN 2))) (wSeq (wAsg (dIf (dTru (dOp fLt (dVar 1) (dCal fLen (daC (dVar 0) daN)))) (dCal fInt (daC (dOp fIx (dVar 0) (dVar 1)) daN)) (dVar 2)) (gN 4)) (wSeq (wAsg (dIf (dOrT (dTru (dOp fLt (dVar 4) (dLit (.int 0)))) (dTru (dOp fGe (dVar 4) (dOp fPow (dLit (.int 10)) (dLit (.int 18)))))) (dCal fAbs (daC (dVar 4) daN)) (dLit (.int 0))) (gN 5)) (wRetL (daC (dVar 5) (daC (dOp fMod (dCal fInt (daC (dOp fCat (dOp fCat (dOp fMul (dVar 2) (dLit (.int 33013))) (dOp fMul (dOp fMod (dCal fInt (daC (dVar 4) daN)) (dLit (.int 2147483629))) (dLit (.int 7001)))) (dLit (.int 3))) daN)) (dLit (.int 2147483629))) (daC (dLit (.int 0)) daN))))))))
theorem mod_lt (x : Int) : 0 ≤ x % 2147483629 ∧ x % 2147483629 < 2147483629 := ⟨Int.emod_nonneg _ (by decide), Int.emod_lt_of_pos _ (by decide)⟩
theorem cut_ints {ns : List Int} {lo hi : Option Int} {d : PyData} (h : d ∈ cutD (ns.map PyData.int) lo hi) : ∃ i, d = .int i := by
  have h2 := List.mem_of_mem_take h
  have h3 := List.mem_of_mem_drop h2
  obtain ⟨i, _, e⟩ := List.mem_map.mp h3
  exact ⟨i, e.symm⟩
theorem sem_law_tank : ∀ ds R, c_law_tank ds R → ds.length = 2 → w_law_tank (edF R) (ev0 4 ds) := by
  intro ds R h _
  obtain ⟨ns, k, rfl, hl, h0, h2, q⟩ := h
  have sk : Sz 2 k := sz_lt h0 (by omega)
  refine ⟨by walk_at "sz", ?_⟩
  refine foD_inv (fun ev => ∃ (st : Int) (s : Option Sl), ev = [some (.val (.list (ns.map .int))), some (.val (.int k)), some (.val (.int st)), s, none, none] ∧ (0 ≤ st ∧ st < 2147483629) ∧ ∀ t, s ≠ some (.own t)) (fun d hd ev E' i nx ct rt rl bk => ?_) ⟨90011 + 2003 * k, none, rfl, by omega, fun _ => by simp⟩ (fun ev i => ?_)
  · obtain ⟨st, s, rfl, hst, hs⟩ := i
    obtain ⟨j, rfl⟩ := cut_ints hd
    have e : gN 3 (.int j) [some (.val (.list (ns.map .int))), some (.val (.int k)), some (.val (.int st)), s, none, none] = fun Q => Q [some (.val (.list (ns.map .int))), some (.val (.int k)), some (.val (.int st)), some (.val (.int j)), none, none] := by
      cases s with
      | none => rfl
      | some s => cases s with
        | val _ => rfl
        | own t => exact absurd rfl (hs t)
    rw [e]
    have ss : Sz 31 st := sz_lt hst.1 (by omega)
    refine ⟨by walk_at "sz", show (0 : Int) < 2147483629 by decide, show (0 : Int) < 2147483629 by decide, ?_⟩
    exact nx _ ⟨_, _, rfl, mod_lt _, fun _ => by simp⟩
  · obtain ⟨st, s, rfl, hst, hs⟩ := i
    have ss : Sz 31 st := sz_lt hst.1 (by omega)
    have tail : ∀ (o : Int) (s : Option Sl), wSeq (wAsg (dIf (dOrT (dTru (dOp fLt (dVar 4) (dLit (.int 0)))) (dTru (dOp fGe (dVar 4) (dOp fPow (dLit (.int 10)) (dLit (.int 18)))))) (dCal fAbs (daC (dVar 4) daN)) (dLit (.int 0))) (gN 5)) (wRetL (daC (dVar 5) (daC (dOp fMod (dCal fInt (daC (dOp fCat (dOp fCat (dOp fMul (dVar 2) (dLit (.int 33013))) (dOp fMul (dOp fMod (dCal fInt (daC (dVar 4) daN)) (dLit (.int 2147483629))) (dLit (.int 7001)))) (dLit (.int 3))) daN)) (dLit (.int 2147483629))) (daC (dLit (.int 0)) daN)))) (edF R)
        [some (.val (.list (ns.map .int))), some (.val (.int k)), some (.val (.int st)), s, some (.val (.int o)), none] := by
      intro o s
      have so : Sz 31 (o % 2147483629) := sz_lt (mod_lt o).1 (by have := (mod_lt o).2; omega)
      have fin : ∀ r : Int, 0 ≤ r → wRetL (daC (dVar 5) (daC (dOp fMod (dCal fInt (daC (dOp fCat (dOp fCat (dOp fMul (dVar 2) (dLit (.int 33013))) (dOp fMul (dOp fMod (dCal fInt (daC (dVar 4) daN)) (dLit (.int 2147483629))) (dLit (.int 7001)))) (dLit (.int 3))) daN)) (dLit (.int 2147483629))) (daC (dLit (.int 0)) daN))) (edF R)
          [some (.val (.list (ns.map .int))), some (.val (.int k)), some (.val (.int st)), s, some (.val (.int o)), some (.val (.int r))] := fun r hr =>
        ⟨by walk_at "sz", show (0 : Int) < 2147483629 by decide, by walk_at "sz", show (0 : Int) < 2147483629 by decide, Nat.le_of_ble_eq_true rfl, q r _ hr (mod_lt _).1 (mod_lt _).2⟩
      have ab : 0 ≤ (if o < 0 then -o else o) := by split <;> omega
      refine ⟨trivial, trivial, ?_⟩
      refine ite_b (fun z => ?_) (fun z => ?_)
      · exact fin _ ab
      · refine ⟨⟨by decide, by decide, by decide⟩, trivial, trivial, ?_⟩
        refine ite_b (fun z => ?_) (fun z => ?_)
        · exact fin _ ab
        · exact fin 0 (Int.le_refl 0)
    refine ⟨trivial, trivial, ?_⟩
    refine ite_b (fun z => ?_) (fun z => ?_)
    · have z0 : k < ((ns.map PyData.int).length : Int) := of_decide_eq_true z
      obtain ⟨x, hx, ha⟩ := atI_lt (xs := ns.map PyData.int) h0 z0
      obtain ⟨i, _, rfl⟩ := List.mem_map.mp hx
      refine fIx_lst ha ?_
      exact tail i s
    · exact tail st s
/-! ## law_draw -/
abbrev r_law_draw_3 : Ws := (wRet (dVar 2))
abbrev r_law_draw_2 : Ws := (wSeq (wAsg (dCal fDivmod (daC (dOwnIx 0 (dLit (.int 0))) (daC (dVar 1) daN))) (gT 2 (gsC (gSb 0 (dLit (.int 0))) (gsC (gN 2) gsN)))) r_law_draw_3)
abbrev r_law_draw_7 : Ws := (wRet (dOp fMod (dCal fInt (daC (dOp fDiv (dOwnIx 0 (dLit (.int 1))) (dLit (.int 53))) daN)) (dVar 1)))
abbrev r_law_draw_6 : Ws := (wSeq (wAsg (dOp fMod (dCal fInt (daC (dOp fCat (dOp fCat (dOp fMul (dOwnIx 0 (dLit (.int 1))) (dVar 3)) (dOp fMul (dLit (.int 70001)) (dOwnIx 0 (dLit (.int 2))))) (dLit (.int 19))) daN)) (dLit (.int 2147483629))) (gSb 0 (dLit (.int 1)))) r_law_draw_7)
abbrev r_law_draw_5 : Ws := (wSeq (wAsg (dOp fCat (dOp fMod (dCal fInt (daC (dOwnIx 0 (dLit (.int 1))) daN)) (dLit (.int 9001))) (dLit (.int 30011))) (gN 3)) r_law_draw_6)
abbrev r_law_draw_4 : Ws := (wSeq (wAsg (dOp fCat (dOwnIx 0 (dLit (.int 2))) (dLit (.int 1))) (gSb 0 (dLit (.int 2)))) r_law_draw_5)
abbrev r_law_draw_1 : Ws := (wSeq (wIf (dTru (dOp fGt (dOwnIx 0 (dLit (.int 0))) (dLit (.int 0)))) r_law_draw_2 wNx) r_law_draw_4)
def w_law_draw : Ws := (wSeq (wIf (dTru (dOp fGt (dOwnIx 0 (dLit (.int 0))) (dLit (.int 0)))) (wSeq (wAsg (dCal fDivmod (daC (dOwnIx 0 (dLit (.int 0))) (daC (dVar 1) daN))) (gT 2 (gsC (gSb 0 (dLit (.int 0))) (gsC (gN 2) gsN)))) (wRet (dVar 2))) wNx) (wSeq (wAsg (dOp fCat (dOwnIx 0 (dLit (.int 2))) (dLit (.int 1))) (gSb 0 (dLit (.int 2)))) (wSeq (wAsg (dOp fCat (dOp fMod (dCal fInt (daC (dOwnIx 0 (dLit (.int 1))) daN)) (dLit (.int 9001))) (dLit (.int 30011))) (gN 3)) (wSeq (wAsg (dOp fMod (dCal fInt (daC (dOp fCat (dOp fCat (dOp fMul (dOwnIx 0 (dLit (.int 1))) (dVar 3)) (dOp fMul (dLit (.int 70001)) (dOwnIx 0 (dLit (.int 2))))) (dLit (.int 19))) daN)) (dLit (.int 2147483629))) (gSb 0 (dLit (.int 1)))) (wRet (dOp fMod (dCal fInt (daC (dOp fDiv (dOwnIx 0 (dLit (.int 1))) (dLit (.int 53))) daN)) (dVar 1)))))))
theorem sem_law_draw : ∀ ts ds R, c_law_draw ts ds R → ds.length = 1 → w_law_draw (edT R) (some (.own ts) :: ev0 2 ds) := by
  intro ts ds R h _
  obtain ⟨b, m, ⟨r, s, n, rfl, hr, ⟨hs, hs'⟩, hn, hb⟩, hb', rfl, hm, hm', q⟩ := h
  refine ⟨trivial, trivial, ?_⟩
  refine ite_b (fun z => ?_) (fun z => ?_)
  · have z0 : 0 < r := of_decide_eq_true z
    have sm : Sz 30 m := sz_lt (by omega) (by omega)
    refine ⟨⟨hm, by omega⟩, rfl, ?_⟩
    exact q (r % m) _ (Int.emod_nonneg _ (Int.ne_of_gt hm)) (Int.emod_lt_of_pos _ hm) ⟨r / m, s, n, rfl, Int.ediv_nonneg hr (Int.le_of_lt hm), ⟨hs, hs'⟩, hn, by omega⟩
  · have ss : Sz 31 s := sz_lt hs (by omega)
    have sn : Sz 50 (n + 1) := sz_lt (by omega) (by omega)
    have p0 := Int.emod_nonneg s (show (9001 : Int) ≠ 0 by decide)
    have p1 := Int.emod_lt_of_pos s (show (0 : Int) < 9001 by decide)
    have sp : Sz 20 (s % 9001 + 30011) := sz_lt (by omega) (by omega)
    refine ⟨show (0 : Int) < 9001 by decide, ?_⟩
    refine ⟨by walk_at "sz", by walk_at "sz", show (0 : Int) < 2147483629 by decide, ?_⟩
    refine ⟨divC_of (m := 6) ⟨by decide⟩ (by decide) (by decide), hm, ?_⟩
    refine q _ _ (Int.emod_nonneg _ (Int.ne_of_gt hm)) (Int.emod_lt_of_pos _ hm) ⟨r, _, n + 1, rfl, hr, ⟨Int.emod_nonneg _ (by decide), Int.emod_lt_of_pos _ (by decide)⟩, by omega, by omega⟩
/-! ## law_pick -/
abbrev r_law_pick_1 : Ws := (wRet (dOp fIx (dVar 1) (dFnT 0 2 c_law_draw (daC (dCal fLen (daC (dVar 1) daN)) daN))))
def w_law_pick : Ws := (wRet (dOp fIx (dVar 1) (dFnT 0 2 c_law_draw (daC (dCal fLen (daC (dVar 1) daN)) daN))))
theorem sem_law_pick : ∀ ts ds R, c_law_pick ts ds R → ds.length = 1 → w_law_pick (edT R) (some (.own ts) :: ev0 0 ds) := by
  intro ts ds R h _
  obtain ⟨b, xs, tk, hb, e, h0, h1, q⟩ := h
  rcases e with rfl | rfl
  · refine ⟨rfl, b, xs.length, tk, hb, rfl, by omega, by omega, fun k ts' k0 k1 tk' => ?_⟩
    obtain ⟨x, hx, ha⟩ := atI_lt (xs := xs) k0 k1
    exact fIx_tup ha (q x ts' hx tk')
  · refine ⟨rfl, b, xs.length, tk, hb, rfl, by omega, by omega, fun k ts' k0 k1 tk' => ?_⟩
    obtain ⟨x, hx, ha⟩ := atI_lt (xs := xs) k0 k1
    exact fIx_lst ha (q x ts' hx tk')
/-! ## law_rounds -/
abbrev r_law_rounds_1 : Ws := (wRet (dCal fMax2 (daC (dLit (.int 2)) (daC (dCal fMin2 (daC (dCal fLen (daC (dVar 0) daN)) (daC (dLit (.int 3)) daN))) daN))))
def w_law_rounds : Ws := (wRet (dCal fMax2 (daC (dLit (.int 2)) (daC (dCal fMin2 (daC (dCal fLen (daC (dVar 0) daN)) (daC (dLit (.int 3)) daN))) daN))))
theorem sem_law_rounds : ∀ ds R, c_law_rounds ds R → ds.length = 1 → w_law_rounds (edP R) (ev0 0 ds) := by
  intro ds R h _
  obtain ⟨ns, rfl, hl, q⟩ := h
  have goal : R (.int (if (if (3 : Int) < ((ns.map PyData.int).length : Int) then 3 else ((ns.map PyData.int).length : Int)) > 2 then (if (3 : Int) < ((ns.map PyData.int).length : Int) then 3 else ((ns.map PyData.int).length : Int)) else 2)) := q _ (by split <;> omega) (by split <;> split <;> omega)
  exact goal
/-! ## law_number -/
abbrev r_law_number_3 : Ws := (wRet (dOp fSub (dFnT 0 2 c_law_draw (daC (dOp fCat (dOp fMul (dLit (.int 2)) (dVar 1)) (dLit (.int 1))) daN)) (dVar 1)))
abbrev r_law_number_4 : Ws := (wRet (dOp fMul (dOp fCat (dOp fMul (dFnT 0 2 c_law_draw (daC (dLit (.int 1000003)) daN)) (dLit (.int 1000003))) (dFnT 0 2 c_law_draw (daC (dLit (.int 1000003)) daN))) (dOp fSub (dLit (.int 1)) (dOp fMul (dLit (.int 2)) (dFnT 0 2 c_law_draw (daC (dLit (.int 2)) daN))))))
abbrev r_law_number_2 : Ws := (wSeq (wIf (dTru (dOp fGt (dVar 1) (dLit (.int 0)))) r_law_number_3 wNx) r_law_number_4)
abbrev r_law_number_1 : Ws := (wSeq (wAsg (dFnT 0 2 c_law_pick (daC (dTup (daC (dLit (.int 1)) (daC (dLit (.int 2)) (daC (dLit (.int 3)) (daC (dLit (.int 9)) (daC (dLit (.int 9)) (daC (dLit (.int 99)) (daC (dLit (.int 0)) daN)))))))) daN)) (gN 1)) r_law_number_2)
def w_law_number : Ws := (wSeq (wAsg (dFnT 0 2 c_law_pick (daC (dTup (daC (dLit (.int 1)) (daC (dLit (.int 2)) (daC (dLit (.int 3)) (daC (dLit (.int 9)) (daC (dLit (.int 9)) (daC (dLit (.int 99)) (daC (dLit (.int 0)) daN)))))))) daN)) (gN 1)) (wSeq (wIf (dTru (dOp fGt (dVar 1) (dLit (.int 0)))) (wRet (dOp fSub (dFnT 0 2 c_law_draw (daC (dOp fCat (dOp fMul (dLit (.int 2)) (dVar 1)) (dLit (.int 1))) daN)) (dVar 1))) wNx) (wRet (dOp fMul (dOp fCat (dOp fMul (dFnT 0 2 c_law_draw (daC (dLit (.int 1000003)) daN)) (dLit (.int 1000003))) (dFnT 0 2 c_law_draw (daC (dLit (.int 1000003)) daN))) (dOp fSub (dLit (.int 1)) (dOp fMul (dLit (.int 2)) (dFnT 0 2 c_law_draw (daC (dLit (.int 2)) daN))))))))
theorem sem_law_number : ∀ ts ds R, c_law_number ts ds R → ds.length = 0 → w_law_number (edT R) (some (.own ts) :: ev0 1 ds) := by
  intro ts ds R h _
  obtain ⟨b, tk, hb, rfl, q⟩ := h
  refine ⟨by decide, rfl, b, _, tk, by omega, Or.inl rfl, by decide, by decide, fun x ts' hx tk' => ?_⟩
  have hi : ∃ i : Int, x = .int i ∧ 0 ≤ i ∧ i ≤ 99 := by
    simp only [List.mem_cons, List.not_mem_nil, or_false] at hx
    rcases hx with rfl | rfl | rfl | rfl | rfl | rfl | rfl <;> exact ⟨_, rfl, by decide, by decide⟩
  obtain ⟨i, rfl, i0, i1⟩ := hi
  have si : Sz 7 i := sz_lt i0 (by omega)
  refine ⟨trivial, trivial, ?_⟩
  refine ite_b (fun z => ?_) (fun z => ?_)
  · refine ⟨by walk_at "sz", rfl, b + 1, _, tk', by omega, rfl, by omega, by omega, fun k ts2 k0 k1 tk2 => ⟨trivial, ?_⟩⟩
    have sk : Sz 8 k := sz_lt k0 (by omega)
    exact q _ _ (szUp inferInstance (Nat.le_of_ble_eq_true rfl)) (tk2.up (by omega))
  · refine ⟨rfl, b + 1, _, tk', by omega, rfl, by decide, by decide, fun k ts2 k0 k1 tk2 => ?_⟩
    have sk : Sz 20 k := sz_lt k0 (by omega)
    refine ⟨by walk_at "sz", rfl, b + 1 + 1, _, tk2, by omega, rfl, by decide, by decide, fun j ts3 j0 j1 tk3 => ?_⟩
    have sj : Sz 20 j := sz_lt j0 (by omega)
    refine ⟨rfl, b + 1 + 1 + 1, _, tk3, by omega, rfl, by decide, by decide, fun l ts4 l0 l1 tk4 => ?_⟩
    have sl : Sz 1 l := sz_lt l0 (by omega)
    refine ⟨by walk_at "sz", trivial, by walk_at "sz", ?_⟩
    refine q _ _ ?_ (tk4.up (by omega))
    have hl : l = 0 ∨ l = 1 := by omega
    have g0 : 0 ≤ k * 1000003 + j := by omega
    have s1 : Sz 41 (k * 1000003 + j) := sz_lt g0 (by omega)
    rcases hl with rfl | rfl
    · have e : (k * 1000003 + j) * (1 - 2 * 0) = k * 1000003 + j := by omega
      rw [e]; exact szUp s1 (by decide)
    · have e : (k * 1000003 + j) * (1 - 2 * 1) = -(k * 1000003 + j) := by omega
      rw [e]; exact szUp (sz_neg (a := s1)) (by decide)
/-! ## law_small -/
abbrev r_law_small_2 : Ws := (wRet (dOp fSub (dFnT 0 2 c_law_draw (daC (dOp fCat (dOp fMul (dLit (.int 2)) (dVar 1)) (dLit (.int 1))) daN)) (dVar 1)))
abbrev r_law_small_1 : Ws := (wSeq (wAsg (dFnT 0 2 c_law_pick (daC (dTup (daC (dLit (.int 1)) (daC (dLit (.int 2)) (daC (dLit (.int 3)) (daC (dLit (.int 5)) (daC (dLit (.int 9)) daN)))))) daN)) (gN 1)) r_law_small_2)
def w_law_small : Ws := (wSeq (wAsg (dFnT 0 2 c_law_pick (daC (dTup (daC (dLit (.int 1)) (daC (dLit (.int 2)) (daC (dLit (.int 3)) (daC (dLit (.int 5)) (daC (dLit (.int 9)) daN)))))) daN)) (gN 1)) (wRet (dOp fSub (dFnT 0 2 c_law_draw (daC (dOp fCat (dOp fMul (dLit (.int 2)) (dVar 1)) (dLit (.int 1))) daN)) (dVar 1))))
theorem sem_law_small : ∀ ts ds R, c_law_small ts ds R → ds.length = 0 → w_law_small (edT R) (some (.own ts) :: ev0 1 ds) := by
  intro ts ds R h _
  obtain ⟨b, tk, hb, rfl, q⟩ := h
  refine ⟨Nat.le_of_ble_eq_true rfl, rfl, b, _, tk, by omega, Or.inl rfl, by decide, by decide, fun x ts' hx tk' => ?_⟩
  have hi : ∃ i : Int, x = .int i ∧ 1 ≤ i ∧ i ≤ 9 := by
    simp only [List.mem_cons, List.not_mem_nil, or_false] at hx
    rcases hx with rfl | rfl | rfl | rfl | rfl <;> exact ⟨_, rfl, by decide, by decide⟩
  obtain ⟨i, rfl, i0, i1⟩ := hi
  have si : Sz 4 i := sz_lt (by omega) (by omega)
  refine ⟨by walk_at "sz", rfl, b + 1, _, tk', by omega, rfl, by omega, by omega, fun k ts2 k0 k1 tk2 => ⟨trivial, ?_⟩⟩
  exact q _ _ (by omega) (by omega) ⟨by omega⟩ (tk2.up (by omega))
/-! ## law_less -/
abbrev r_law_less_1 : Ws := (wRet (dTup (daC (dOp fSub (dOp fIx (dVar 0) (dLit (.int 0))) (dOp fIx (dVar 1) (dLit (.int 0)))) (daC (dOp fSub (dOp fIx (dVar 0) (dLit (.int 1))) (dOp fIx (dVar 1) (dLit (.int 1)))) daN))))
def w_law_less : Ws := (wRet (dTup (daC (dOp fSub (dOp fIx (dVar 0) (dLit (.int 0))) (dOp fIx (dVar 1) (dLit (.int 0)))) (daC (dOp fSub (dOp fIx (dVar 0) (dLit (.int 1))) (dOp fIx (dVar 1) (dLit (.int 1)))) daN))))
theorem sem_law_less : ∀ ds R, c_law_less ds R → ds.length = 2 → w_law_less (edP R) (ev0 0 ds) := by
  intro ds R h _
  obtain ⟨a, b, c, d, rfl, ⟨ha, hb, hc, hd⟩, q⟩ := h
  walk_at "go"
/-! ## law_times -/
abbrev r_law_times_1 : Ws := (wRet (dTup (daC (dOp fSub (dOp fMul (dOp fIx (dVar 0) (dLit (.int 0))) (dOp fIx (dVar 1) (dLit (.int 0)))) (dOp fMul (dOp fIx (dVar 0) (dLit (.int 1))) (dOp fIx (dVar 1) (dLit (.int 1))))) (daC (dOp fCat (dOp fMul (dOp fIx (dVar 0) (dLit (.int 0))) (dOp fIx (dVar 1) (dLit (.int 1)))) (dOp fMul (dOp fIx (dVar 0) (dLit (.int 1))) (dOp fIx (dVar 1) (dLit (.int 0))))) daN))))
def w_law_times : Ws := (wRet (dTup (daC (dOp fSub (dOp fMul (dOp fIx (dVar 0) (dLit (.int 0))) (dOp fIx (dVar 1) (dLit (.int 0)))) (dOp fMul (dOp fIx (dVar 0) (dLit (.int 1))) (dOp fIx (dVar 1) (dLit (.int 1))))) (daC (dOp fCat (dOp fMul (dOp fIx (dVar 0) (dLit (.int 0))) (dOp fIx (dVar 1) (dLit (.int 1)))) (dOp fMul (dOp fIx (dVar 0) (dLit (.int 1))) (dOp fIx (dVar 1) (dLit (.int 0))))) daN))))
theorem sem_law_times : ∀ ds R, c_law_times ds R → ds.length = 2 → w_law_times (edP R) (ev0 0 ds) := by
  intro ds R h _
  obtain ⟨a, b, c, d, rfl, ⟨ha, hb, hc, hd⟩, q⟩ := h
  walk_at "go"
theorem ltimes_ok {p q : G} {n m : Nat} {R : PyData → Prop} [a : GS n p] [b : GS m q] (hn : n ≤ 20000) (hm : m ≤ 20000) (r : R (cd (gm p q))) : c_law_times [cd p, cd q] R := ⟨p.1, p.2, q.1, q.2, rfl, ⟨szUp a.a hn, szUp a.b hn, szUp b.a hm, szUp b.b hm⟩, r⟩
/-! ## law_star -/
abbrev r_law_star_1 : Ws := (wRet (dTup (daC (dOp fIx (dVar 0) (dLit (.int 0))) (daC (dOp fSub (dLit (.int 0)) (dOp fIx (dVar 0) (dLit (.int 1)))) daN))))
def w_law_star : Ws := (wRet (dTup (daC (dOp fIx (dVar 0) (dLit (.int 0))) (daC (dOp fSub (dLit (.int 0)) (dOp fIx (dVar 0) (dLit (.int 1)))) daN))))
theorem sem_law_star : ∀ ds R, c_law_star ds R → ds.length = 1 → w_law_star (edP R) (ev0 0 ds) := by
  intro ds R h _
  obtain ⟨a, b, rfl, q⟩ := h
  rw [← Int.zero_sub] at q
  walk_at "go"
theorem lstar_ok {p : G} {R : PyData → Prop} (r : R (cd (gj p))) : c_law_star [cd p] R := ⟨p.1, p.2, rfl, r⟩
/-! ## law_size -/
abbrev r_law_size_1 : Ws := (wRet (dOp fCat (dOp fMul (dOp fIx (dVar 0) (dLit (.int 0))) (dOp fIx (dVar 0) (dLit (.int 0)))) (dOp fMul (dOp fIx (dVar 0) (dLit (.int 1))) (dOp fIx (dVar 0) (dLit (.int 1))))))
def w_law_size : Ws := (wRet (dOp fCat (dOp fMul (dOp fIx (dVar 0) (dLit (.int 0))) (dOp fIx (dVar 0) (dLit (.int 0)))) (dOp fMul (dOp fIx (dVar 0) (dLit (.int 1))) (dOp fIx (dVar 0) (dLit (.int 1))))))
theorem sem_law_size : ∀ ds R, c_law_size ds R → ds.length = 1 → w_law_size (edP R) (ev0 0 ds) := by
  intro ds R h _
  obtain ⟨a, b, rfl, ⟨ha, hb⟩, q⟩ := h
  walk_at "go"
theorem lsize_ok {p : G} {n : Nat} {R : PyData → Prop} [a : GS n p] (hn : n ≤ 20000) (r : R (.int (nm p))) : c_law_size [cd p] R := ⟨p.1, p.2, rfl, ⟨szUp a.a hn, szUp a.b hn⟩, r⟩
/-! ## law_quarter -/
abbrev r_law_quarter_4 : Ws := (wRet (dTup (daC (dVar 1) (daC (dVar 2) daN))))
abbrev r_law_quarter_5 : Ws := (wPar 1 2 (daC (dOp fSub (dLit (.int 0)) (dVar 2)) (daC (dVar 1) daN)))
abbrev r_law_quarter_3 : Ws := (wSeq (wIf (dAndT (dTru (dOp fGt (dVar 1) (dLit (.int 0)))) (dTru (dOp fGe (dVar 2) (dLit (.int 0))))) r_law_quarter_4 wNx) r_law_quarter_5)
abbrev r_law_quarter_6 : Ws := (wRet (dTup (daC (dLit (.int 0)) (daC (dLit (.int 0)) daN))))
abbrev r_law_quarter_2 : Ws := (wSeq (wFor (diR1 (daC (dLit (.int 4)) daN)) (gN 3) r_law_quarter_3) r_law_quarter_6)
abbrev r_law_quarter_1 : Ws := (wSeq (wAsg (dVar 0) (gT 2 (gsC (gN 1) (gsC (gN 2) gsN)))) r_law_quarter_2)
def w_law_quarter : Ws := (wSeq (wAsg (dVar 0) (gT 2 (gsC (gN 1) (gsC (gN 2) gsN)))) (wSeq (wFor (diR1 (daC (dLit (.int 4)) daN)) (gN 3) (wSeq (wIf (dAndT (dTru (dOp fGt (dVar 1) (dLit (.int 0)))) (dTru (dOp fGe (dVar 2) (dLit (.int 0))))) (wRet (dTup (daC (dVar 1) (daC (dVar 2) daN)))) wNx) (wPar 1 2 (daC (dOp fSub (dLit (.int 0)) (dVar 2)) (daC (dVar 1) daN))))) (wRet (dTup (daC (dLit (.int 0)) (daC (dLit (.int 0)) daN))))))
abbrev B_quarter : Ws := wSeq (wIf (dAndT (dTru (dOp fGt (dVar 1) (dLit (.int 0)))) (dTru (dOp fGe (dVar 2) (dLit (.int 0))))) (wRet (dTup (daC (dVar 1) (daC (dVar 2) daN)))) wNx) (wPar 1 2 (daC (dOp fSub (dLit (.int 0)) (dVar 2)) (daC (dVar 1) daN)))
theorem lq_step {x : PyData} {a b j : Int} {ds : List PyData} {s : Option Sl} {E : Ed} (hs : s = none ∨ ∃ v, s = some (.val v)) (h1 : 0 < a → 0 ≤ b → ∀ ev, E.rt (cp a b) ev) (h2 : ¬(0 < a ∧ 0 ≤ b) → foD (gN 3) B_quarter ds E [some (.val x), some (.val (.int (0 - b))), some (.val (.int a)), some (.val (.int j))]) :
    foD (gN 3) B_quarter (.int j :: ds) E [some (.val x), some (.val (.int a)), some (.val (.int b)), s] := by
  have goal : ∀ (E' : Ed), E'.rt = E.rt → E'.nx = foD (gN 3) B_quarter ds E → B_quarter E' [some (.val x), some (.val (.int a)), some (.val (.int b)), some (.val (.int j))] := fun E' e1 e2 => by
    refine ⟨trivial, trivial, ?_⟩
    by_cases z : 0 < a
    · refine ite_t (decide_eq_true z) ⟨trivial, trivial, ?_⟩
      by_cases y : 0 ≤ b
      · refine ite_t (decide_eq_true y) ⟨Nat.le_of_ble_eq_true rfl, ?_⟩
        show E'.rt (cp a b) _
        rw [e1]
        exact h1 z y _
      · refine ite_f (decide_eq_false y) ⟨trivial, ?_⟩
        show E'.nx _
        rw [e2]
        exact h2 fun n => y n.2
    · refine ite_f (decide_eq_false z) ?_
      refine ite_f rfl ⟨trivial, ?_⟩
      show E'.nx _
      rw [e2]
      exact h2 fun n => z n.1
  rcases hs with rfl | ⟨v, rfl⟩ <;> exact goal _ rfl rfl
theorem sem_law_quarter : ∀ ds R, c_law_quarter ds R → ds.length = 1 → w_law_quarter (edP R) (ev0 3 ds) := by
  intro ds R h _
  obtain ⟨a, b, rfl, q⟩ := h
  have qq : ∀ a b : Int, 0 < a → 0 ≤ b → qf a b = (a, b) := fun a b h1 h2 => by
    unfold qf
    rw [if_neg (by omega), if_pos ⟨h1, h2⟩]
  have tn : ∀ a b : Int, qf (0 - b) a = qf a b := fun a b => by rw [Int.zero_sub]; exact qf_turn a b
  refine ⟨rfl, ⟨by decide, by decide⟩, ?_⟩
  have e : rngD 0 (4 : Int).toNat = [.int 0, .int 1, .int 2, .int 3] := rfl
  rw [e]
  refine lq_step (.inl rfl) (fun h1 h2 _ => ?_) fun n1 => lq_step (.inr ⟨_, rfl⟩) (fun h1 h2 _ => ?_) fun n2 => lq_step (.inr ⟨_, rfl⟩) (fun h1 h2 _ => ?_) fun n3 => lq_step (.inr ⟨_, rfl⟩) (fun h1 h2 _ => ?_) fun n4 => ?_
  · rw [qq _ _ h1 h2] at q
    exact q
  · have g := qq _ _ h1 h2
    rw [tn] at g
    rw [g] at q
    exact q
  · have g := qq _ _ h1 h2
    rw [tn, tn] at g
    rw [g] at q
    exact q
  · have g := qq _ _ h1 h2
    rw [tn, tn, tn] at g
    rw [g] at q
    exact q
  · have za : a = 0 := by omega
    have zb : b = 0 := by omega
    subst za zb
    exact ⟨Nat.le_of_ble_eq_true rfl, q⟩
/-! ## law_over -/
abbrev r_law_over_3 : Ws := (wRet (dLit .none))
abbrev r_law_over_5 : Ws := (wRet (dIf (dAndT (dTru (dOp fEq (dOp fMod (dCal fInt (daC (dVar 3) daN)) (dVar 2)) (dLit (.int 0)))) (dTru (dOp fEq (dOp fMod (dCal fInt (daC (dVar 4) daN)) (dVar 2)) (dLit (.int 0))))) (dTup (daC (dOp fDiv (dVar 3) (dVar 2)) (daC (dOp fDiv (dVar 4) (dVar 2)) daN))) (dLit .none)))
abbrev r_law_over_4 : Ws := (wSeq (wAsg (dFn 2 c_law_times (daC (dVar 0) (daC (dFn 1 c_law_star (daC (dVar 1) daN)) daN))) (gT 2 (gsC (gN 3) (gsC (gN 4) gsN)))) r_law_over_5)
abbrev r_law_over_2 : Ws := (wSeq (wIf (dTru (dOp fEq (dVar 2) (dLit (.int 0)))) r_law_over_3 wNx) r_law_over_4)
abbrev r_law_over_1 : Ws := (wSeq (wAsg (dFn 1 c_law_size (daC (dVar 1) daN)) (gN 2)) r_law_over_2)
def w_law_over : Ws := (wSeq (wAsg (dFn 1 c_law_size (daC (dVar 1) daN)) (gN 2)) (wSeq (wIf (dTru (dOp fEq (dVar 2) (dLit (.int 0)))) (wRet (dLit .none)) wNx) (wSeq (wAsg (dFn 2 c_law_times (daC (dVar 0) (daC (dFn 1 c_law_star (daC (dVar 1) daN)) daN))) (gT 2 (gsC (gN 3) (gsC (gN 4) gsN)))) (wRet (dIf (dAndT (dTru (dOp fEq (dOp fMod (dCal fInt (daC (dVar 3) daN)) (dVar 2)) (dLit (.int 0)))) (dTru (dOp fEq (dOp fMod (dCal fInt (daC (dVar 4) daN)) (dVar 2)) (dLit (.int 0))))) (dTup (daC (dOp fDiv (dVar 3) (dVar 2)) (daC (dOp fDiv (dVar 4) (dVar 2)) daN))) (dLit .none))))))
theorem sem_law_over : ∀ ds R, c_law_over ds R → ds.length = 2 → w_law_over (edP R) (ev0 3 ds) := by
  intro ds R h _
  obtain ⟨a, b, c, d, rfl, ⟨ha, hb, hc, hd⟩, q⟩ := h
  refine ⟨rfl, c, d, rfl, ⟨by walk_at "sz", by walk_at "sz"⟩, Or.inr ⟨rfl, rfl⟩, trivial, ?_⟩
  rw [eqv_int]
  unfold xq at q
  refine ite_b (fun z => ?_) (fun z => ?_)
  · rw [if_pos (of_decide_eq_true z)] at q
    exact q
  have z0 := of_decide_eq_false z
  have z1 := nrmP z0
  rw [if_neg z0] at q
  refine ⟨rfl, c, d, rfl, rfl, a, b, c, -d, rfl, ⟨by walk_at "sz", by walk_at "sz", by walk_at "sz", by walk_at "sz"⟩, ?_⟩
  have dv : ∀ x : Int, divC x (c * c + d * d) := fun x => divC_of (m := max (2000 + 2000) (2000 + 2000) + 1) inferInstance z1 (by decide)
  refine ⟨rfl, z1, Or.inr ⟨rfl, rfl⟩, trivial, ?_⟩
  rw [eqv_int]
  by_cases y : (a * c - b * -d) % (c * c + d * d) = 0
  · refine ite_t (decide_eq_true y) ?_
    refine ⟨z1, Or.inr ⟨rfl, rfl⟩, trivial, ?_⟩
    rw [eqv_int]
    by_cases x : (a * -d + b * c) % (c * c + d * d) = 0
    · refine ite_t (decide_eq_true x) ?_
      rw [if_pos ⟨y, x⟩] at q
      exact ⟨dv _, dv _, Nat.le_of_ble_eq_true rfl, q⟩
    · refine ite_f (decide_eq_false x) ?_
      rw [if_neg (fun n => x n.2)] at q
      exact q
  · refine ite_f (decide_eq_false y) ?_
    refine ite_f rfl ?_
    rw [if_neg (fun n => y n.1)] at q
    exact q
/-! ## law_common -/
abbrev r_law_common_10 : Ws := (wPar 3 4 (daC (dVar 4) (daC (dFn 2 c_law_less (daC (dVar 3) (daC (dFn 2 c_law_times (daC (dVar 9) (daC (dVar 4) daN))) daN))) daN)))
abbrev r_law_common_9 : Ws := (wSeq (wAsg (dTup (daC (dOp fDiv (dOp fCat (dOp fMul (dLit (.int 2)) (dVar 7)) (dVar 6)) (dOp fMul (dLit (.int 2)) (dVar 6))) (daC (dOp fDiv (dOp fCat (dOp fMul (dLit (.int 2)) (dVar 8)) (dVar 6)) (dOp fMul (dLit (.int 2)) (dVar 6))) daN))) (gN 9)) r_law_common_10)
abbrev r_law_common_8 : Ws := (wSeq (wAsg (dFn 2 c_law_times (daC (dVar 3) (daC (dFn 1 c_law_star (daC (dVar 4) daN)) daN))) (gT 2 (gsC (gN 7) (gsC (gN 8) gsN)))) r_law_common_9)
abbrev r_law_common_6 : Ws := (wSeq (wIf (dTru (dOp fEq (dVar 6) (dLit (.int 0)))) (fun E ev => E.bk ev) wNx) r_law_common_8)
abbrev r_law_common_5 : Ws := (wSeq (wAsg (dFn 1 c_law_size (daC (dVar 4) daN)) (gN 6)) r_law_common_6)
abbrev r_law_common_11 : Ws := (wAsg (dVar 3) (gN 1))
abbrev r_law_common_4 : Ws := (wSeq (wFor (diR1 (daC (dLit (.int 2000)) daN)) (gN 5) r_law_common_5) r_law_common_11)
abbrev r_law_common_3 : Ws := (wSeq (wPar 3 4 (daC (dVar 1) (daC (dVar 2) daN))) r_law_common_4)
abbrev r_law_common_12 : Ws := (wRet (dVar 1))
abbrev r_law_common_2 : Ws := (wSeq (wFor (diA (dVar 0)) (gN 2) r_law_common_3) r_law_common_12)
abbrev r_law_common_1 : Ws := (wSeq (wAsg (dTup (daC (dLit (.int 0)) (daC (dLit (.int 0)) daN))) (gN 1)) r_law_common_2)
def w_law_common : Ws := (wSeq (wAsg (dTup (daC (dLit (.int 0)) (daC (dLit (.int 0)) daN))) (gN 1)) (wSeq (wFor (diA (dVar 0)) (gN 2) (wSeq (wPar 3 4 (daC (dVar 1) (daC (dVar 2) daN))) (wSeq (wFor (diR1 (daC (dLit (.int 2000)) daN)) (gN 5) (wSeq (wAsg (dFn 1 c_law_size (daC (dVar 4) daN)) (gN 6)) (wSeq (wIf (dTru (dOp fEq (dVar 6) (dLit (.int 0)))) (fun E ev => E.bk ev) wNx) (wSeq (wAsg (dFn 2 c_law_times (daC (dVar 3) (daC (dFn 1 c_law_star (daC (dVar 4) daN)) daN))) (gT 2 (gsC (gN 7) (gsC (gN 8) gsN)))) (wSeq (wAsg (dTup (daC (dOp fDiv (dOp fCat (dOp fMul (dLit (.int 2)) (dVar 7)) (dVar 6)) (dOp fMul (dLit (.int 2)) (dVar 6))) (daC (dOp fDiv (dOp fCat (dOp fMul (dLit (.int 2)) (dVar 8)) (dVar 6)) (dOp fMul (dLit (.int 2)) (dVar 6))) daN))) (gN 9)) (wPar 3 4 (daC (dVar 4) (daC (dFn 2 c_law_less (daC (dVar 3) (daC (dFn 2 c_law_times (daC (dVar 9) (daC (dVar 4) daN))) daN))) daN)))))))) (wAsg (dVar 3) (gN 1))))) (wRet (dVar 1))))
abbrev B_common : Ws := (wSeq (wAsg (dFn 1 c_law_size (daC (dVar 4) daN)) (gN 6)) (wSeq (wIf (dTru (dOp fEq (dVar 6) (dLit (.int 0)))) (fun E ev => E.bk ev) wNx) (wSeq (wAsg (dFn 2 c_law_times (daC (dVar 3) (daC (dFn 1 c_law_star (daC (dVar 4) daN)) daN))) (gT 2 (gsC (gN 7) (gsC (gN 8) gsN)))) (wSeq (wAsg (dTup (daC (dOp fDiv (dOp fCat (dOp fMul (dLit (.int 2)) (dVar 7)) (dVar 6)) (dOp fMul (dLit (.int 2)) (dVar 6))) (daC (dOp fDiv (dOp fCat (dOp fMul (dLit (.int 2)) (dVar 8)) (dVar 6)) (dOp fMul (dLit (.int 2)) (dVar 6))) daN))) (gN 9)) (wPar 3 4 (daC (dVar 4) (daC (dFn 2 c_law_less (daC (dVar 3) (daC (dFn 2 c_law_times (daC (dVar 9) (daC (dVar 4) daN))) daN))) daN)))))))
theorem common_run {x0 x1 x2 : Option Sl} {n : Nat} {E : Ed} (hn : n ≤ 900) : ∀ (ds : List PyData) (o t : G) (s5 s6 s7 s8 s9 : Option Sl), nm t < 2 ^ ds.length → Sz n o.1 → Sz n o.2 → Sz n t.1 → Sz n t.2 → fr s5 → fr s6 → fr s7 → fr s8 → fr s9 →
    (∀ (h t' : G) (s5 s6 s7 s8 s9 : Option Sl), GC [o, t] h → Sz n h.1 → Sz n h.2 → fr s5 → fr s6 → fr s7 → fr s8 → fr s9 → E.nx [x0, x1, x2, some (.val (cd h)), some (.val (cd t')), s5, s6, s7, s8, s9]) →
    foD (gN 5) B_common ds E [x0, x1, x2, some (.val (cd o)), some (.val (cd t)), s5, s6, s7, s8, s9]
  | [], o, t, s5, s6, s7, s8, s9, h, ho1, ho2, ht1, ht2, f5, f6, f7, f8, f9, q => by
    have h0 := nm_nn t
    have e : t = (0, 0) := nm_zero (by
      rw [List.length_nil] at h
      have : (2 : Int) ^ 0 = 1 := rfl
      omega)
    subst e
    exact q o (0, 0) s5 s6 s7 s8 s9 (GC.zero o) ho1 ho2 f5 f6 f7 f8 f9
  | d :: ds, o, t, s5, s6, s7, s8, s9, h, ho1, ho2, ht1, ht2, f5, f6, f7, f8, f9, q => by
    obtain ⟨a, b⟩ := o
    obtain ⟨c, e⟩ := t
    have ha : Sz 900 a := szUp ho1 hn
    have hb : Sz 900 b := szUp ho2 hn
    have hc : Sz 900 c := szUp ht1 hn
    have he : Sz 900 e := szUp ht2 hn
    refine gN_fr (s := s5) rfl f5 ?_
    refine ⟨rfl, c, e, rfl, ⟨by walk_at "sz", by walk_at "sz"⟩, ?_⟩
    refine gN_fr (s := s6) rfl f6 ?_
    refine ⟨Or.inr ⟨rfl, rfl⟩, trivial, ?_⟩
    rw [eqv_int]
    refine ite_b (fun z => ?_) (fun z => ?_)
    · have z0 : (c, e) = ((0, 0) : G) := nm_zero (of_decide_eq_true z)
      cases z0
      exact q (a, b) (0, 0) _ _ _ _ _ (GC.zero _) ho1 ho2 fr_val fr_val f7 f8 f9
    · have z0 : c * c + e * e ≠ 0 := of_decide_eq_false z
      have z1 := nrmP z0
      refine ⟨rfl, c, e, rfl, rfl, a, b, c, -e, rfl, ⟨by walk_at "sz", by walk_at "sz", by walk_at "sz", by walk_at "sz"⟩, rfl, ?_⟩
      refine gs_fr (s := s7) rfl f7 (gs_fr (s := s8) rfl f8 ?_)
      have dv : ∀ x : Int, divC x (2 * (c * c + e * e)) := fun x => divC_of (m := 2 + (max (900 + 900) (900 + 900) + 1)) inferInstance (by omega) (by decide)
      have s1 : Sz 2000 ((2 * (a * c - b * -e) + (c * c + e * e)) / (2 * (c * c + e * e))) := szUp inferInstance (by decide)
      have s2 : Sz 2000 ((2 * (a * -e + b * c) + (c * c + e * e)) / (2 * (c * c + e * e))) := szUp inferInstance (by decide)
      have rn := rest_nm (a := a) (b := b) z1
      refine ⟨by walk_at "sz", by walk_at "sz", dv _, by walk_at "sz", by walk_at "sz", dv _, Nat.le_of_ble_eq_true rfl, ?_⟩
      refine gN_fr (s := s9) rfl f9 ?_
      refine ⟨rfl, _, _, c, e, rfl, ⟨szUp s1 (by decide), szUp s2 (by decide), by walk_at "sz", by walk_at "sz"⟩, ?_⟩
      refine ⟨rfl, a, b, _, _, rfl, ⟨by walk_at "sz", by walk_at "sz", szUp inferInstance (by decide), szUp inferInstance (by decide)⟩, ?_⟩
      have key : ∀ u v : Int, 2 * nm (les (a, b) (u, v) (c, e)) ≤ c * c + e * e → foD (gN 5) B_common ds E [x0, x1, x2, some (.val (cd (c, e))), some (.val (cd (les (a, b) (u, v) (c, e)))), some (.val d), some (.val (.int (c * c + e * e))), some (.val (.int (a * c - b * -e))), some (.val (.int (a * -e + b * c))), some (.val (cp u v))] := fun u v rn => by
        obtain ⟨sx, sy⟩ := sz_nm (x := (les (a, b) (u, v) (c, e)).1) (y := (les (a, b) (u, v) (c, e)).2) rn ht1 ht2
        refine common_run hn ds (c, e) (les (a, b) (u, v) (c, e)) _ _ _ _ _ ?_ ht1 ht2 sx sy fr_val fr_val fr_val fr_val fr_val fun h t' s5 s6 s7 s8 s9 g => q h t' s5 s6 s7 s8 s9 (GC.step g)
        rw [List.length_cons, Int.pow_succ] at h
        have : nm (c, e) = c * c + e * e := rfl
        omega
      exact key _ _ rn
theorem sem_law_common : ∀ ds R, c_law_common ds R → ds.length = 1 → w_law_common (edP R) (ev0 9 ds) := by
  intro ds R h _
  obtain ⟨ps, n, e, hn, hs, q⟩ := h
  rcases e with rfl | rfl
  · refine ⟨Nat.le_of_ble_eq_true rfl, ?_⟩
    refine Or.inl ?_
    refine foD_pre (fun pre ev => ∃ (done : List G) (g : G) (s2 s3 s4 s5 s6 s7 s8 s9 : Option Sl), pre = done.map cd ∧ ev = [some (.val (.list (ps.map cd))), some (.val (cd g)), s2, s3, s4, s5, s6, s7, s8, s9] ∧ (fr s2 ∧ fr s3 ∧ fr s4 ∧ fr s5 ∧ fr s6 ∧ fr s7 ∧ fr s8 ∧ fr s9) ∧ GC done g ∧ Sz n g.1 ∧ Sz n g.2) (pre := []) (fun pre d ev E' hd i nx _ _ _ _ => ?_) ⟨[], (0, 0), none, none, none, none, none, none, none, none, rfl, rfl, ⟨fr_none, fr_none, fr_none, fr_none, fr_none, fr_none, fr_none, fr_none⟩, GC.nil, szUp (n := 0) ⟨by decide⟩ (Nat.zero_le _), szUp (n := 0) ⟨by decide⟩ (Nat.zero_le _)⟩ (fun ev i => ?_)
    · obtain ⟨done, g, s2, s3, s4, s5, s6, s7, s8, s9, rfl, rfl, ⟨f2, f3, f4, f5, f6, f7, f8, f9⟩, hg, s1, s1'⟩ := i
      obtain ⟨p, hp, rfl⟩ := List.mem_map.mp hd
      obtain ⟨t1, t2⟩ := hs p hp
      refine gN_fr (s := s2) rfl f2 ?_
      have tail : (wSeq (wFor (diR1 (daC (dLit (.int 2000)) daN)) (gN 5) B_common) (wAsg (dVar 3) (gN 1))) E' [some (.val (.list (ps.map cd))), some (.val (cd g)), some (.val (cd p)), some (.val (cd g)), some (.val (cd p)), s5, s6, s7, s8, s9] := ?_
      · rcases f3 with rfl | ⟨_, rfl⟩ <;> rcases f4 with rfl | ⟨_, rfl⟩ <;> exact tail
      refine ⟨⟨by decide, by decide⟩, ?_⟩
      have l : (rngD 0 (2000 : Int).toNat).length = 2000 := by unfold rngD; rw [List.length_map, List.length_range]; rfl
      refine common_run hn _ g p s5 s6 s7 s8 s9 ?_ s1 s1' t1 t2 f5 f6 f7 f8 f9 fun h t' u5 u6 u7 u8 u9 gc z1 z2 g5 g6 g7 g8 g9 => ?_
      · rw [l]
        have h1 : Sz (max (n + n) (n + n) + 1) (nm p) := (inferInstance : Sz (max (n + n) (n + n) + 1) (p.1 * p.1 + p.2 * p.2))
        have h2 : Sz 2000 (nm p) := szUp h1 (by omega)
        have h3 := h2.lt
        have h4 := nm_nn p
        have h5 : ((2 ^ 2000 : Nat) : Int) = (2 : Int) ^ 2000 := Int.natCast_pow 2 2000
        rw [← h5]
        generalize 2 ^ 2000 = N at *
        omega
      · exact nx _ ⟨done ++ [p], h, _, _, _, _, _, _, _, _, by rw [List.map_append]; rfl, rfl, ⟨fr_val, fr_val, fr_val, g5, g6, g7, g8, g9⟩, GC.snoc hg gc, z1, z2⟩
    · obtain ⟨done, g, s2, s3, s4, s5, s6, s7, s8, s9, e, rfl, _, hg, s1, s1'⟩ := i
      rw [List.nil_append] at e
      have e' := cd_inj e
      subst e'
      exact q g hg s1 s1'
  · refine ⟨Nat.le_of_ble_eq_true rfl, ?_⟩
    refine Or.inr ?_
    refine foD_pre (fun pre ev => ∃ (done : List G) (g : G) (s2 s3 s4 s5 s6 s7 s8 s9 : Option Sl), pre = done.map cd ∧ ev = [some (.val (.tuple (ps.map cd))), some (.val (cd g)), s2, s3, s4, s5, s6, s7, s8, s9] ∧ (fr s2 ∧ fr s3 ∧ fr s4 ∧ fr s5 ∧ fr s6 ∧ fr s7 ∧ fr s8 ∧ fr s9) ∧ GC done g ∧ Sz n g.1 ∧ Sz n g.2) (pre := []) (fun pre d ev E' hd i nx _ _ _ _ => ?_) ⟨[], (0, 0), none, none, none, none, none, none, none, none, rfl, rfl, ⟨fr_none, fr_none, fr_none, fr_none, fr_none, fr_none, fr_none, fr_none⟩, GC.nil, szUp (n := 0) ⟨by decide⟩ (Nat.zero_le _), szUp (n := 0) ⟨by decide⟩ (Nat.zero_le _)⟩ (fun ev i => ?_)
    · obtain ⟨done, g, s2, s3, s4, s5, s6, s7, s8, s9, rfl, rfl, ⟨f2, f3, f4, f5, f6, f7, f8, f9⟩, hg, s1, s1'⟩ := i
      obtain ⟨p, hp, rfl⟩ := List.mem_map.mp hd
      obtain ⟨t1, t2⟩ := hs p hp
      refine gN_fr (s := s2) rfl f2 ?_
      have tail : (wSeq (wFor (diR1 (daC (dLit (.int 2000)) daN)) (gN 5) B_common) (wAsg (dVar 3) (gN 1))) E' [some (.val (.tuple (ps.map cd))), some (.val (cd g)), some (.val (cd p)), some (.val (cd g)), some (.val (cd p)), s5, s6, s7, s8, s9] := ?_
      · rcases f3 with rfl | ⟨_, rfl⟩ <;> rcases f4 with rfl | ⟨_, rfl⟩ <;> exact tail
      refine ⟨⟨by decide, by decide⟩, ?_⟩
      have l : (rngD 0 (2000 : Int).toNat).length = 2000 := by unfold rngD; rw [List.length_map, List.length_range]; rfl
      refine common_run hn _ g p s5 s6 s7 s8 s9 ?_ s1 s1' t1 t2 f5 f6 f7 f8 f9 fun h t' u5 u6 u7 u8 u9 gc z1 z2 g5 g6 g7 g8 g9 => ?_
      · rw [l]
        have h1 : Sz (max (n + n) (n + n) + 1) (nm p) := (inferInstance : Sz (max (n + n) (n + n) + 1) (p.1 * p.1 + p.2 * p.2))
        have h2 : Sz 2000 (nm p) := szUp h1 (by omega)
        have h3 := h2.lt
        have h4 := nm_nn p
        have h5 : ((2 ^ 2000 : Nat) : Int) = (2 : Int) ^ 2000 := Int.natCast_pow 2 2000
        rw [← h5]
        generalize 2 ^ 2000 = N at *
        omega
      · exact nx _ ⟨done ++ [p], h, _, _, _, _, _, _, _, _, by rw [List.map_append]; rfl, rfl, ⟨fr_val, fr_val, fr_val, g5, g6, g7, g8, g9⟩, GC.snoc hg gc, z1, z2⟩
    · obtain ⟨done, g, s2, s3, s4, s5, s6, s7, s8, s9, e, rfl, _, hg, s1, s1'⟩ := i
      rw [List.nil_append] at e
      have e' := cd_inj e
      subst e'
      exact q g hg s1 s1'
/-! ## law_is_whole -/
abbrev r_law_is_whole_2 : Ws := (wRet (dLit (.bool false)))
abbrev r_law_is_whole_3 : Ws := (wRet (dOp fEq (dLc [2] (diT (dVar 0)) (gN 2) (dOrT (dNotT (dTru (dIsa isInt (dVar 2)))) (dTru (dIsa isBool (dVar 2)))) (dVar 2)) (dLst daN)))
abbrev r_law_is_whole_1 : Ws := (wSeq (wIf (dOrT (dNotT (dTru (dIsa isTuple (dVar 0)))) (dTru (dOp fNe (dCal fLen (daC (dVar 0) daN)) (dVar 1)))) r_law_is_whole_2 wNx) r_law_is_whole_3)
def w_law_is_whole : Ws := (wSeq (wIf (dOrT (dNotT (dTru (dIsa isTuple (dVar 0)))) (dTru (dOp fNe (dCal fLen (daC (dVar 0) daN)) (dVar 1)))) (wRet (dLit (.bool false))) wNx) (wRet (dOp fEq (dLc [2] (diT (dVar 0)) (gN 2) (dOrT (dNotT (dTru (dIsa isInt (dVar 2)))) (dTru (dIsa isBool (dVar 2)))) (dVar 2)) (dLst daN))))
theorem sem_law_is_whole : ∀ ds R, c_law_is_whole ds R → ds.length = 2 → w_law_is_whole (edP R) (ev0 1 ds) := by
  intro ds R h _
  obtain ⟨v, n, rfl, o, q⟩ := h
  refine okE_in (okv_x (okd_v o)) ?_
  cases v with
  | tuple xs =>
    obtain ⟨hl, hx⟩ := okv_t (okd_v o)
    refine ⟨trivial, ?_⟩
    refine ite_f rfl ?_
    refine ⟨Or.inr ⟨rfl, rfl⟩, trivial, ?_⟩
    have e := eqv_int (xs.length : Int) n
    by_cases z : (xs.length : Int) = n
    · refine ite_f (by rw [e, decide_eq_true z]; rfl) ?_
      refine lc_keep (p := fun d => !whole d) (f := id) rfl (by rw [List.length_nil, Nat.zero_add]; exact hl) (fun d hd R r => ?_) (fun d hd hp R r => r) ?_
      · have hx := hx d hd
        refine okE_in hx ?_
        cases d <;> first | exact ⟨trivial, r⟩ | exact ⟨trivial, ite_f rfl ⟨trivial, r⟩⟩ | exact ⟨trivial, ite_t rfl r⟩ | skip
      · rw [List.map_id, List.nil_append]
        refine ⟨Nat.le_of_ble_eq_true rfl, Or.inr ⟨okd_s o, rfl⟩, ?_⟩
        show R (.bool (PyData.eqv (.list (xs.filter fun d => !whole d)) (.list [])))
        rw [eqv_none]
        have a : xs.all whole = areW (.tuple xs) n := by
          show _ = (decide ((xs.length : Int) = n) && xs.all whole)
          rw [decide_eq_true z, Bool.true_and]
        rw [a]
        exact q
    · refine ite_t (by rw [e, decide_eq_false z]; rfl) ?_
      have a : areW (.tuple xs) n = false := by
        show (decide ((xs.length : Int) = n) && xs.all whole) = false
        rw [decide_eq_false z, Bool.false_and]
      rw [a] at q
      exact q
  | _ => exact ⟨trivial, ite_t rfl q⟩
/-! ## law_complex -/
abbrev r_law_complex_1 : Ws := (wRet (dTup (daC (dFnT 0 1 c_law_number daN) (daC (dFnT 0 1 c_law_number daN) daN))))
def w_law_complex : Ws := (wRet (dTup (daC (dFnT 0 1 c_law_number daN) (daC (dFnT 0 1 c_law_number daN) daN))))
theorem sem_law_complex : ∀ ts ds R, c_law_complex ts ds R → ds.length = 0 → w_law_complex (edT R) (some (.own ts) :: ev0 0 ds) := by
  intro ts ds R h _
  obtain ⟨b, tk, hb, rfl, q⟩ := h
  exact ⟨rfl, b, tk, by omega, rfl, fun x ts2 sx tk2 => ⟨rfl, b + 4, tk2, by omega, rfl, fun y ts3 sy tk3 => ⟨Nat.le_of_ble_eq_true rfl, q x y ts3 sx sy (tk3.up (by omega))⟩⟩⟩
/-! ## law_little -/
abbrev r_law_little_1 : Ws := (wRet (dTup (daC (dFnT 0 1 c_law_small daN) (daC (dFnT 0 1 c_law_small daN) daN))))
def w_law_little : Ws := (wRet (dTup (daC (dFnT 0 1 c_law_small daN) (daC (dFnT 0 1 c_law_small daN) daN))))
theorem sem_law_little : ∀ ts ds R, c_law_little ts ds R → ds.length = 0 → w_law_little (edT R) (some (.own ts) :: ev0 0 ds) := by
  intro ts ds R h _
  obtain ⟨b, tk, hb, rfl, q⟩ := h
  exact ⟨rfl, b, tk, by omega, rfl, fun x ts1 _ _ sx tk1 => ⟨rfl, b + 2, tk1, by omega, rfl, fun y ts2 _ _ sy tk2 => ⟨Nat.le_of_ble_eq_true rfl, q (x, y) ts2 sx sy (tk2.up (by omega))⟩⟩⟩
/-! ## law_map -/
abbrev r_law_map_6 : Ws := (wRet (dTup (daC (dVar 0) (daC (dOp fIx (dVar 3) (dLit (.int 0))) (daC (dOp fIx (dVar 3) (dLit (.int 1))) (daC (dOp fIx (dVar 3) (dLit (.int 2))) (daC (dOp fIx (dVar 3) (dLit (.int 3))) daN)))))))
abbrev r_law_map_5 : Ws := (wSeq (wAsg (dLc [6] (diL (dVar 3)) (gN 6) dYes (dFn 2 c_law_times (daC (dVar 6) (daC (dVar 5) daN)))) (gN 3)) r_law_map_6)
abbrev r_law_map_4 : Ws := (wSeq (wAsg (dFn 2 c_law_over (daC (dFn 1 c_law_quarter (daC (dVar 4) daN)) (daC (dVar 4) daN))) (gN 5)) r_law_map_5)
abbrev r_law_map_3 : Ws := (wSeq (wAsg (dOp fIx (dLc [6] (diL (dVar 3)) (gN 6) (dTru (dOp fNe (dVar 6) (dTup (daC (dLit (.int 0)) (daC (dLit (.int 0)) daN))))) (dVar 6)) (dLit (.int 0))) (gN 4)) r_law_map_4)
abbrev r_law_map_2 : Ws := (wSeq (wAsg (dLc [6] (diA (dVar 1)) (gN 6) dYes (dFn 2 c_law_over (daC (dVar 6) (daC (dVar 2) daN)))) (gN 3)) r_law_map_3)
abbrev r_law_map_1 : Ws := (wSeq (wAsg (dFn 1 c_law_common (daC (dVar 1) daN)) (gN 2)) r_law_map_2)
def w_law_map : Ws := (wSeq (wAsg (dFn 1 c_law_common (daC (dVar 1) daN)) (gN 2)) (wSeq (wAsg (dLc [6] (diA (dVar 1)) (gN 6) dYes (dFn 2 c_law_over (daC (dVar 6) (daC (dVar 2) daN)))) (gN 3)) (wSeq (wAsg (dOp fIx (dLc [6] (diL (dVar 3)) (gN 6) (dTru (dOp fNe (dVar 6) (dTup (daC (dLit (.int 0)) (daC (dLit (.int 0)) daN))))) (dVar 6)) (dLit (.int 0))) (gN 4)) (wSeq (wAsg (dFn 2 c_law_over (daC (dFn 1 c_law_quarter (daC (dVar 4) daN)) (daC (dVar 4) daN))) (gN 5)) (wSeq (wAsg (dLc [6] (diL (dVar 3)) (gN 6) dYes (dFn 2 c_law_times (daC (dVar 6) (daC (dVar 5) daN)))) (gN 3)) (wRet (dTup (daC (dVar 0) (daC (dOp fIx (dVar 3) (dLit (.int 0))) (daC (dOp fIx (dVar 3) (dLit (.int 1))) (daC (dOp fIx (dVar 3) (dLit (.int 2))) (daC (dOp fIx (dVar 3) (dLit (.int 3))) daN))))))))))))
theorem sem_law_map : ∀ ds R, c_law_map ds R → ds.length = 2 → w_law_map (edP R) (ev0 5 ds) := by
  intro ds R h _
  obtain ⟨f, a, b, c, d, n, ee, s, hn, hz, q⟩ := h
  rcases ee with rfl | rfl
  · refine ⟨rfl, [a, b, c, d], n, .inl rfl, hn, fun p hp => ?_, fun g gc g1 g2 => ?_⟩
    · rcases List.mem_cons.mp hp with e | hp
      · rw [e]; exact ⟨s.a1, s.a2⟩
      rcases List.mem_cons.mp hp with e | hp
      · rw [e]; exact ⟨s.b1, s.b2⟩
      rcases List.mem_cons.mp hp with e | hp
      · rw [e]; exact ⟨s.c1, s.c2⟩
      · rw [List.mem_singleton.mp hp]; exact ⟨s.d1, s.d2⟩
    have hg : g ≠ (0, 0) := gc.ne (by
      by_cases y : a = (0, 0)
      · refine ⟨b, by simp, fun z => led_nz hz ?_⟩
        unfold led
        rw [if_neg (fun n => n y)]
        exact z
      · exact ⟨a, by simp, y⟩)
    obtain ⟨x, hx⟩ := gc.dv a (by simp)
    obtain ⟨y, hy⟩ := gc.dv b (by simp)
    obtain ⟨z, hz'⟩ := gc.dv c (by simp)
    obtain ⟨w, hw⟩ := gc.dv d (by simp)
    show r_law_map_2 (edP R) [some (.val (.int f)), some (.val (.list [cd a, cd b, cd c, cd d])), some (.val (cd g)), none, none, none, none]
    have one : ∀ {u v : G}, u = gm g v → Sz n u.1 → Sz n u.2 → ∀ R' : PyData → Ev → Prop, R' (cd v) [some (.val (.int f)), some (.val (.list [cd a, cd b, cd c, cd d])), some (.val (cd g)), none, none, none, some (.val (cd u))] →
        dFn 2 c_law_over (daC (dVar 6) (daC (dVar 2) daN)) [some (.val (.int f)), some (.val (.list [cd a, cd b, cd c, cd d])), some (.val (cd g)), none, none, none, some (.val (cd u))] R' := fun {u v} e s1 s2 R' r => by
      refine ⟨rfl, u.1, u.2, g.1, g.2, rfl, ⟨szUp s1 (by omega), szUp s2 (by omega), szUp g1 (by omega), szUp g2 (by omega)⟩, ?_⟩
      rw [xq_gm (p := v) hg e]
      exact r
    refine Or.inl ?_
    refine lc_map (f := fun d => od (xq (toG d).1 (toG d).2 g.1 g.2)) rfl (Nat.le_of_ble_eq_true rfl) (fun u hu R' r => ?_) ?_
    · rcases List.mem_cons.mp hu with e | hu
      · subst e; exact one hx s.a1 s.a2 R' (by rw [show od (xq (toG (cd a)).1 (toG (cd a)).2 g.1 g.2) = cd x from congrArg od (xq_gm hg hx)] at r; exact r)
      rcases List.mem_cons.mp hu with e | hu
      · subst e; exact one hy s.b1 s.b2 R' (by rw [show od (xq (toG (cd b)).1 (toG (cd b)).2 g.1 g.2) = cd y from congrArg od (xq_gm hg hy)] at r; exact r)
      rcases List.mem_cons.mp hu with e | hu
      · subst e; exact one hz' s.c1 s.c2 R' (by rw [show od (xq (toG (cd c)).1 (toG (cd c)).2 g.1 g.2) = cd z from congrArg od (xq_gm hg hz')] at r; exact r)
      · rw [List.mem_singleton.mp hu] at r ⊢
        exact one hw s.d1 s.d2 R' (by rw [show od (xq (toG (cd d)).1 (toG (cd d)).2 g.1 g.2) = cd w from congrArg od (xq_gm hg hw)] at r; exact r)
    rw [show [] ++ [cd a, cd b, cd c, cd d].map (fun d => od (xq (toG d).1 (toG d).2 g.1 g.2)) = [cd x, cd y, cd z, cd w] from by
      show [od (xq a.1 a.2 g.1 g.2), od (xq b.1 b.2 g.1 g.2), od (xq c.1 c.2 g.1 g.2), od (xq d.1 d.2 g.1 g.2)] = _
      rw [xq_gm (p := x) hg hx, xq_gm (p := y) hg hy, xq_gm (p := z) hg hz', xq_gm (p := w) hg hw]
      rfl]
    have dn : dtm x y z w ≠ (0, 0) := fun e => hz (by rw [hx, hy, hz', hw, dtm_gm, e, gm_zero])
    have sx := sz_fac hg hx s.a1 s.a2
    have sy := sz_fac hg hy s.b1 s.b2
    have sz := sz_fac hg hz' s.c1 s.c2
    have sw := sz_fac hg hw s.d1 s.d2
    have S : S4 (n + 1) x y z w := ⟨sx.1, sx.2, sy.1, sy.2, sz.1, sz.2, sw.1, sw.2⟩
    have gc1 : GC [x, y, z, w] (1, 0) := by
      have g0 : GC [a, b, c, d, (0, 0)] g := gc.snoc (GC.zero g)
      exact g0.quot (fun k _ _ _ _ => gdv_zero k) hg hx hy hz' hw
    have ln := led_nz dn
    obtain ⟨k, hk, ek⟩ := qf_tk (led x y)
    obtain ⟨u, hu, u1, u2⟩ := tk_unit k hk
    have F := Fm.turn S gc1 dn ln ek
    obtain ⟨D, hD, fD⟩ := tk_fac g hg k
    have sl : Sz (n + 1) (led x y).1 ∧ Sz (n + 1) (led x y).2 := by
      unfold led
      by_cases e : x = (0, 0)
      · rw [if_neg (fun n => n e)]; exact sy
      · rw [if_pos e]; exact sx
    have sq := qf_sz sl.1 sl.2
    show r_law_map_3 (edP R) [some (.val (.int f)), some (.val (.list [cd a, cd b, cd c, cd d])), some (.val (cd g)), some (.val (.list [cd x, cd y, cd z, cd w])), none, none, none]
    refine lc_keep (p := fun d => !PyData.eqv d (cd (0, 0))) (f := id) rfl (Nat.le_of_ble_eq_true rfl) (fun d hd R r => ?_) (fun d hd hp R r => r) ?_
    · have hx' : ∃ p : G, d = cd p := by
        simp only [List.mem_cons, List.not_mem_nil, or_false] at hd
        rcases hd with rfl | rfl | rfl | rfl <;> exact ⟨_, rfl⟩
      obtain ⟨p, rfl⟩ := hx'
      exact ⟨Nat.le_of_ble_eq_true rfl, Or.inr ⟨rfl, rfl⟩, trivial, r⟩
    obtain ⟨rest, er⟩ := first_led (z := z) (w := w) ln
    rw [List.map_id, List.nil_append, er]
    refine fIx_hd ?_
    show r_law_map_4 (edP R) [some (.val (.int f)), some (.val (.list [cd a, cd b, cd c, cd d])), some (.val (cd g)), some (.val (.list [cd x, cd y, cd z, cd w])), some (.val (cd (led x y))), none, none]
    refine ⟨rfl, (led x y).1, (led x y).2, rfl, ?_⟩
    refine ⟨rfl, (qf (led x y).1 (led x y).2).1, (qf (led x y).1 (led x y).2).2, (led x y).1, (led x y).2, rfl, ⟨szUp sq.1 (by omega), szUp sq.2 (by omega), szUp sl.1 (by omega), szUp sl.2 (by omega)⟩, ?_⟩
    have ex : xq (qf (led x y).1 (led x y).2).1 (qf (led x y).1 (led x y).2).2 (led x y).1 (led x y).2 = some u := xq_gm (c := (led x y).1) (d := (led x y).2) ln (by rw [hu]; exact ek)
    rw [ex]
    show r_law_map_5 (edP R) [some (.val (.int f)), some (.val (.list [cd a, cd b, cd c, cd d])), some (.val (cd g)), some (.val (.list [cd x, cd y, cd z, cd w])), some (.val (cd (led x y))), some (.val (cd u)), none]
    refine lc_map (f := fun d => cd (gm (toG d) u)) rfl (Nat.le_of_ble_eq_true rfl) (fun v hv R' r => ?_) ?_
    · have hx' : ∃ p : G, v = cd p ∧ Sz (n + 1) p.1 ∧ Sz (n + 1) p.2 := by
        simp only [List.mem_cons, List.not_mem_nil, or_false] at hv
        rcases hv with rfl | rfl | rfl | rfl
        · exact ⟨_, rfl, sx⟩
        · exact ⟨_, rfl, sy⟩
        · exact ⟨_, rfl, sz⟩
        · exact ⟨_, rfl, sw⟩
      obtain ⟨p, rfl, p1, p2⟩ := hx'
      have cp' : ∀ {k : Nat} {i : Int}, Sz k i → k ≤ 20000 → Sm i := fun h l => szUp h l
      exact ⟨rfl, p.1, p.2, u.1, u.2, rfl, ⟨szUp p1 (by show n + 1 ≤ cap; unfold cap; omega), szUp p2 (by show n + 1 ≤ cap; unfold cap; omega), szUp u1 (by decide), szUp u2 (by decide)⟩, r⟩
    rw [show [] ++ [cd x, cd y, cd z, cd w].map (fun d => cd (gm (toG d) u)) = [cd (tk k x), cd (tk k y), cd (tk k z), cd (tk k w)] from by
      show [cd (gm x u), cd (gm y u), cd (gm z u), cd (gm w u)] = _
      rw [hu, hu, hu, hu]]
    exact ⟨Nat.le_of_ble_eq_true rfl, q D _ _ _ _ hD (hx.trans (fD x)) (hy.trans (fD y)) (hz'.trans (fD z)) (hw.trans (fD w)) F⟩
  · refine ⟨rfl, [a, b, c, d], n, .inr rfl, hn, fun p hp => ?_, fun g gc g1 g2 => ?_⟩
    · rcases List.mem_cons.mp hp with e | hp
      · rw [e]; exact ⟨s.a1, s.a2⟩
      rcases List.mem_cons.mp hp with e | hp
      · rw [e]; exact ⟨s.b1, s.b2⟩
      rcases List.mem_cons.mp hp with e | hp
      · rw [e]; exact ⟨s.c1, s.c2⟩
      · rw [List.mem_singleton.mp hp]; exact ⟨s.d1, s.d2⟩
    have hg : g ≠ (0, 0) := gc.ne (by
      by_cases y : a = (0, 0)
      · refine ⟨b, by simp, fun z => led_nz hz ?_⟩
        unfold led
        rw [if_neg (fun n => n y)]
        exact z
      · exact ⟨a, by simp, y⟩)
    obtain ⟨x, hx⟩ := gc.dv a (by simp)
    obtain ⟨y, hy⟩ := gc.dv b (by simp)
    obtain ⟨z, hz'⟩ := gc.dv c (by simp)
    obtain ⟨w, hw⟩ := gc.dv d (by simp)
    show r_law_map_2 (edP R) [some (.val (.int f)), some (.val (.tuple [cd a, cd b, cd c, cd d])), some (.val (cd g)), none, none, none, none]
    have one : ∀ {u v : G}, u = gm g v → Sz n u.1 → Sz n u.2 → ∀ R' : PyData → Ev → Prop, R' (cd v) [some (.val (.int f)), some (.val (.tuple [cd a, cd b, cd c, cd d])), some (.val (cd g)), none, none, none, some (.val (cd u))] →
        dFn 2 c_law_over (daC (dVar 6) (daC (dVar 2) daN)) [some (.val (.int f)), some (.val (.tuple [cd a, cd b, cd c, cd d])), some (.val (cd g)), none, none, none, some (.val (cd u))] R' := fun {u v} e s1 s2 R' r => by
      refine ⟨rfl, u.1, u.2, g.1, g.2, rfl, ⟨szUp s1 (by omega), szUp s2 (by omega), szUp g1 (by omega), szUp g2 (by omega)⟩, ?_⟩
      rw [xq_gm (p := v) hg e]
      exact r
    refine Or.inr ?_
    refine lc_map (f := fun d => od (xq (toG d).1 (toG d).2 g.1 g.2)) rfl (Nat.le_of_ble_eq_true rfl) (fun u hu R' r => ?_) ?_
    · rcases List.mem_cons.mp hu with e | hu
      · subst e; exact one hx s.a1 s.a2 R' (by rw [show od (xq (toG (cd a)).1 (toG (cd a)).2 g.1 g.2) = cd x from congrArg od (xq_gm hg hx)] at r; exact r)
      rcases List.mem_cons.mp hu with e | hu
      · subst e; exact one hy s.b1 s.b2 R' (by rw [show od (xq (toG (cd b)).1 (toG (cd b)).2 g.1 g.2) = cd y from congrArg od (xq_gm hg hy)] at r; exact r)
      rcases List.mem_cons.mp hu with e | hu
      · subst e; exact one hz' s.c1 s.c2 R' (by rw [show od (xq (toG (cd c)).1 (toG (cd c)).2 g.1 g.2) = cd z from congrArg od (xq_gm hg hz')] at r; exact r)
      · rw [List.mem_singleton.mp hu] at r ⊢
        exact one hw s.d1 s.d2 R' (by rw [show od (xq (toG (cd d)).1 (toG (cd d)).2 g.1 g.2) = cd w from congrArg od (xq_gm hg hw)] at r; exact r)
    rw [show [] ++ [cd a, cd b, cd c, cd d].map (fun d => od (xq (toG d).1 (toG d).2 g.1 g.2)) = [cd x, cd y, cd z, cd w] from by
      show [od (xq a.1 a.2 g.1 g.2), od (xq b.1 b.2 g.1 g.2), od (xq c.1 c.2 g.1 g.2), od (xq d.1 d.2 g.1 g.2)] = _
      rw [xq_gm (p := x) hg hx, xq_gm (p := y) hg hy, xq_gm (p := z) hg hz', xq_gm (p := w) hg hw]
      rfl]
    have dn : dtm x y z w ≠ (0, 0) := fun e => hz (by rw [hx, hy, hz', hw, dtm_gm, e, gm_zero])
    have sx := sz_fac hg hx s.a1 s.a2
    have sy := sz_fac hg hy s.b1 s.b2
    have sz := sz_fac hg hz' s.c1 s.c2
    have sw := sz_fac hg hw s.d1 s.d2
    have S : S4 (n + 1) x y z w := ⟨sx.1, sx.2, sy.1, sy.2, sz.1, sz.2, sw.1, sw.2⟩
    have gc1 : GC [x, y, z, w] (1, 0) := by
      have g0 : GC [a, b, c, d, (0, 0)] g := gc.snoc (GC.zero g)
      exact g0.quot (fun k _ _ _ _ => gdv_zero k) hg hx hy hz' hw
    have ln := led_nz dn
    obtain ⟨k, hk, ek⟩ := qf_tk (led x y)
    obtain ⟨u, hu, u1, u2⟩ := tk_unit k hk
    have F := Fm.turn S gc1 dn ln ek
    obtain ⟨D, hD, fD⟩ := tk_fac g hg k
    have sl : Sz (n + 1) (led x y).1 ∧ Sz (n + 1) (led x y).2 := by
      unfold led
      by_cases e : x = (0, 0)
      · rw [if_neg (fun n => n e)]; exact sy
      · rw [if_pos e]; exact sx
    have sq := qf_sz sl.1 sl.2
    show r_law_map_3 (edP R) [some (.val (.int f)), some (.val (.tuple [cd a, cd b, cd c, cd d])), some (.val (cd g)), some (.val (.list [cd x, cd y, cd z, cd w])), none, none, none]
    refine lc_keep (p := fun d => !PyData.eqv d (cd (0, 0))) (f := id) rfl (Nat.le_of_ble_eq_true rfl) (fun d hd R r => ?_) (fun d hd hp R r => r) ?_
    · have hx' : ∃ p : G, d = cd p := by
        simp only [List.mem_cons, List.not_mem_nil, or_false] at hd
        rcases hd with rfl | rfl | rfl | rfl <;> exact ⟨_, rfl⟩
      obtain ⟨p, rfl⟩ := hx'
      exact ⟨Nat.le_of_ble_eq_true rfl, Or.inr ⟨rfl, rfl⟩, trivial, r⟩
    obtain ⟨rest, er⟩ := first_led (z := z) (w := w) ln
    rw [List.map_id, List.nil_append, er]
    refine fIx_hd ?_
    show r_law_map_4 (edP R) [some (.val (.int f)), some (.val (.tuple [cd a, cd b, cd c, cd d])), some (.val (cd g)), some (.val (.list [cd x, cd y, cd z, cd w])), some (.val (cd (led x y))), none, none]
    refine ⟨rfl, (led x y).1, (led x y).2, rfl, ?_⟩
    refine ⟨rfl, (qf (led x y).1 (led x y).2).1, (qf (led x y).1 (led x y).2).2, (led x y).1, (led x y).2, rfl, ⟨szUp sq.1 (by omega), szUp sq.2 (by omega), szUp sl.1 (by omega), szUp sl.2 (by omega)⟩, ?_⟩
    have ex : xq (qf (led x y).1 (led x y).2).1 (qf (led x y).1 (led x y).2).2 (led x y).1 (led x y).2 = some u := xq_gm (c := (led x y).1) (d := (led x y).2) ln (by rw [hu]; exact ek)
    rw [ex]
    show r_law_map_5 (edP R) [some (.val (.int f)), some (.val (.tuple [cd a, cd b, cd c, cd d])), some (.val (cd g)), some (.val (.list [cd x, cd y, cd z, cd w])), some (.val (cd (led x y))), some (.val (cd u)), none]
    refine lc_map (f := fun d => cd (gm (toG d) u)) rfl (Nat.le_of_ble_eq_true rfl) (fun v hv R' r => ?_) ?_
    · have hx' : ∃ p : G, v = cd p ∧ Sz (n + 1) p.1 ∧ Sz (n + 1) p.2 := by
        simp only [List.mem_cons, List.not_mem_nil, or_false] at hv
        rcases hv with rfl | rfl | rfl | rfl
        · exact ⟨_, rfl, sx⟩
        · exact ⟨_, rfl, sy⟩
        · exact ⟨_, rfl, sz⟩
        · exact ⟨_, rfl, sw⟩
      obtain ⟨p, rfl, p1, p2⟩ := hx'
      have cp' : ∀ {k : Nat} {i : Int}, Sz k i → k ≤ 20000 → Sm i := fun h l => szUp h l
      exact ⟨rfl, p.1, p.2, u.1, u.2, rfl, ⟨szUp p1 (by show n + 1 ≤ cap; unfold cap; omega), szUp p2 (by show n + 1 ≤ cap; unfold cap; omega), szUp u1 (by decide), szUp u2 (by decide)⟩, r⟩
    rw [show [] ++ [cd x, cd y, cd z, cd w].map (fun d => cd (gm (toG d) u)) = [cd (tk k x), cd (tk k y), cd (tk k z), cd (tk k w)] from by
      show [cd (gm x u), cd (gm y u), cd (gm z u), cd (gm w u)] = _
      rw [hu, hu, hu, hu]]
    exact ⟨Nat.le_of_ble_eq_true rfl, q D _ _ _ _ hD (hx.trans (fD x)) (hy.trans (fD y)) (hz'.trans (fD z)) (hw.trans (fD w)) F⟩
theorem law_map_ok {f : Int} {A : M4} {n : Nat} {R : PyData → Prop} (S : S44 n A) (hn : n ≤ 900) (h : A.dt ≠ 0) {U : M4} (eU : nrm A = U) (q : R (mp4 f U)) : c_law_map [.int f, .list [cd A.a, cd A.b, cd A.c, cd A.d]] R :=
  ⟨f, A.a, A.b, A.c, A.d, n, .inl rfl, S, hn, h, fun g x y z w hg e1 e2 e3 e4 Fx => by
    have s : Sim ⟨x, y, z, w⟩ A := ⟨g, 1, hg, one_ne, by rw [sm_one]; exact m4_ext e1.symm e2.symm e3.symm e4.symm⟩
    have e : (⟨x, y, z, w⟩ : M4) = nrm A := nrm_of h Fx s
    rw [← eU, ← e] at q
    exact q⟩
theorem law_mapT_ok {f : Int} {A : M4} {n : Nat} {R : PyData → Prop} (S : S44 n A) (hn : n ≤ 900) (h : A.dt ≠ 0) {U : M4} (eU : nrm A = U) (q : R (mp4 f U)) : c_law_map [.int f, .tuple [cd A.a, cd A.b, cd A.c, cd A.d]] R :=
  ⟨f, A.a, A.b, A.c, A.d, n, .inr rfl, S, hn, h, fun g x y z w hg e1 e2 e3 e4 Fx => by
    have s : Sim ⟨x, y, z, w⟩ A := ⟨g, 1, hg, one_ne, by rw [sm_one]; exact m4_ext e1.symm e2.symm e3.symm e4.symm⟩
    have e : (⟨x, y, z, w⟩ : M4) = nrm A := nrm_of h Fx s
    rw [← eU, ← e] at q
    exact q⟩
/-! ## law_det -/
abbrev r_law_det_1 : Ws := (wRet (dFn 2 c_law_less (daC (dFn 2 c_law_times (daC (dOp fIx (dVar 0) (dLit (.int 0))) (daC (dOp fIx (dVar 0) (dLit (.int 3))) daN))) (daC (dFn 2 c_law_times (daC (dOp fIx (dVar 0) (dLit (.int 1))) (daC (dOp fIx (dVar 0) (dLit (.int 2))) daN))) daN))))
def w_law_det : Ws := (wRet (dFn 2 c_law_less (daC (dFn 2 c_law_times (daC (dOp fIx (dVar 0) (dLit (.int 0))) (daC (dOp fIx (dVar 0) (dLit (.int 3))) daN))) (daC (dFn 2 c_law_times (daC (dOp fIx (dVar 0) (dLit (.int 1))) (daC (dOp fIx (dVar 0) (dLit (.int 2))) daN))) daN))))
theorem sem_law_det : ∀ ds R, c_law_det ds R → ds.length = 1 → w_law_det (edP R) (ev0 0 ds) := by
  intro ds R h _
  obtain ⟨a, b, c, d, e, ⟨_, _, _, _, _, _, _, _⟩, q⟩ := h
  rcases e with rfl | rfl
  · refine ⟨rfl, a.1, a.2, d.1, d.2, rfl, ⟨by walk_at "sz", by walk_at "sz", by walk_at "sz", by walk_at "sz"⟩, ?_⟩
    refine ⟨rfl, b.1, b.2, c.1, c.2, rfl, ⟨by walk_at "sz", by walk_at "sz", by walk_at "sz", by walk_at "sz"⟩, ?_⟩
    exact ⟨rfl, _, _, _, _, rfl, ⟨by walk_at "sz", by walk_at "sz", by walk_at "sz", by walk_at "sz"⟩, q⟩
  · refine ⟨rfl, a.1, a.2, d.1, d.2, rfl, ⟨by walk_at "sz", by walk_at "sz", by walk_at "sz", by walk_at "sz"⟩, ?_⟩
    refine ⟨rfl, b.1, b.2, c.1, c.2, rfl, ⟨by walk_at "sz", by walk_at "sz", by walk_at "sz", by walk_at "sz"⟩, ?_⟩
    exact ⟨rfl, _, _, _, _, rfl, ⟨by walk_at "sz", by walk_at "sz", by walk_at "sz", by walk_at "sz"⟩, q⟩
/-! ## law_four -/
abbrev r_law_four_5 : Ws := (wAsg (dTup (daC (dTup (daC (dLit (.int 1)) (daC (dLit (.int 0)) daN))) (daC (dTup (daC (dLit (.int 0)) (daC (dLit (.int 0)) daN))) (daC (dTup (daC (dLit (.int 1)) (daC (dLit (.int 0)) daN))) daN)))) (gT 3 (gsC (gSb 3 (dLit (.int 0))) (gsC (gSb 3 (dLit (.int 2))) (gsC (gSb 3 (dLit (.int 3))) gsN)))))
abbrev r_law_four_7 : Ws := (wAsg (dTup (daC (dTup (daC (dLit (.int 0)) (daC (dLit (.int 0)) daN))) (daC (dTup (daC (dLit (.int 0)) (daC (dLit (.int 0)) daN))) daN))) (gT 2 (gsC (gSb 3 (dLit (.int 1))) (gsC (gSb 3 (dLit (.int 2))) gsN))))
abbrev r_law_four_9 : Ws := (wAsg (dTup (daC (dTup (daC (dLit (.int 0)) (daC (dLit (.int 0)) daN))) (daC (dTup (daC (dLit (.int 0)) (daC (dLit (.int 0)) daN))) daN))) (gT 2 (gsC (gSb 3 (dLit (.int 0))) (gsC (gSb 3 (dLit (.int 3))) gsN))))
abbrev r_law_four_11 : Ws := (wRetO 3)
abbrev r_law_four_10 : Ws := (wIf (dViewT 3 (dTru (dOp fNe (dFn 1 c_law_det (daC (dVar 3) daN)) (dTup (daC (dLit (.int 0)) (daC (dLit (.int 0)) daN)))))) r_law_four_11 wNx)
abbrev r_law_four_8 : Ws := (wSeq (wIf (dTru (dOp fEq (dVar 1) (dLit (.int 2)))) r_law_four_9 wNx) r_law_four_10)
abbrev r_law_four_6 : Ws := (wSeq (wIf (dTru (dOp fEq (dVar 1) (dLit (.int 1)))) r_law_four_7 wNx) r_law_four_8)
abbrev r_law_four_4 : Ws := (wSeq (wIf (dTru (dOp fEq (dVar 1) (dLit (.int 0)))) r_law_four_5 wNx) r_law_four_6)
abbrev r_law_four_3 : Ws := (wSeq (wOwnR 3 (daC (dFnT 0 1 c_law_little daN) (daC (dFnT 0 1 c_law_little daN) (daC (dFnT 0 1 c_law_little daN) (daC (dFnT 0 1 c_law_little daN) daN))))) r_law_four_4)
abbrev r_law_four_12 : Ws := (wRet (dLst (daC (dTup (daC (dLit (.int 1)) (daC (dLit (.int 0)) daN))) (daC (dTup (daC (dLit (.int 2)) (daC (dLit (.int 1)) daN))) (daC (dTup (daC (dLit (.int 0)) (daC (dLit (.int 0)) daN))) (daC (dTup (daC (dLit (.int 1)) (daC (dLit (.int 0)) daN))) daN))))))
abbrev r_law_four_2 : Ws := (wSeq (wFor (diR1 (daC (dLit (.int 3)) daN)) (gN 2) r_law_four_3) r_law_four_12)
abbrev r_law_four_1 : Ws := (wSeq (wAsg (dFnT 0 2 c_law_draw (daC (dLit (.int 8)) daN)) (gN 1)) r_law_four_2)
def w_law_four : Ws := (wSeq (wAsg (dFnT 0 2 c_law_draw (daC (dLit (.int 8)) daN)) (gN 1)) (wSeq (wFor (diR1 (daC (dLit (.int 3)) daN)) (gN 2) (wSeq (wOwnR 3 (daC (dFnT 0 1 c_law_little daN) (daC (dFnT 0 1 c_law_little daN) (daC (dFnT 0 1 c_law_little daN) (daC (dFnT 0 1 c_law_little daN) daN))))) (wSeq (wIf (dTru (dOp fEq (dVar 1) (dLit (.int 0)))) (wAsg (dTup (daC (dTup (daC (dLit (.int 1)) (daC (dLit (.int 0)) daN))) (daC (dTup (daC (dLit (.int 0)) (daC (dLit (.int 0)) daN))) (daC (dTup (daC (dLit (.int 1)) (daC (dLit (.int 0)) daN))) daN)))) (gT 3 (gsC (gSb 3 (dLit (.int 0))) (gsC (gSb 3 (dLit (.int 2))) (gsC (gSb 3 (dLit (.int 3))) gsN))))) wNx) (wSeq (wIf (dTru (dOp fEq (dVar 1) (dLit (.int 1)))) (wAsg (dTup (daC (dTup (daC (dLit (.int 0)) (daC (dLit (.int 0)) daN))) (daC (dTup (daC (dLit (.int 0)) (daC (dLit (.int 0)) daN))) daN))) (gT 2 (gsC (gSb 3 (dLit (.int 1))) (gsC (gSb 3 (dLit (.int 2))) gsN)))) wNx) (wSeq (wIf (dTru (dOp fEq (dVar 1) (dLit (.int 2)))) (wAsg (dTup (daC (dTup (daC (dLit (.int 0)) (daC (dLit (.int 0)) daN))) (daC (dTup (daC (dLit (.int 0)) (daC (dLit (.int 0)) daN))) daN))) (gT 2 (gsC (gSb 3 (dLit (.int 0))) (gsC (gSb 3 (dLit (.int 3))) gsN)))) wNx) (wIf (dViewT 3 (dTru (dOp fNe (dFn 1 c_law_det (daC (dVar 3) daN)) (dTup (daC (dLit (.int 0)) (daC (dLit (.int 0)) daN)))))) (wRetO 3) wNx)))))) (wRet (dLst (daC (dTup (daC (dLit (.int 1)) (daC (dLit (.int 0)) daN))) (daC (dTup (daC (dLit (.int 2)) (daC (dLit (.int 1)) daN))) (daC (dTup (daC (dLit (.int 0)) (daC (dLit (.int 0)) daN))) (daC (dTup (daC (dLit (.int 1)) (daC (dLit (.int 0)) daN))) daN))))))))
/-- a turn behind what it changes in its four numbers -/
theorem l4_end {ts : List PyData} {b k j : Int} {x y z w : G} {E : Ed} (tk : Tk b ts) (S : S4 4 x y z w) (q : dtm x y z w ≠ (0, 0) → E.rt (.list [cd x, cd y, cd z, cd w]) [some (.own ts), some (.val (.int k)), some (.val (.int j)), some (.val (.list [cd x, cd y, cd z, cd w]))])
    (n : E.nx [some (.own ts), some (.val (.int k)), some (.val (.int j)), some (.own [cd x, cd y, cd z, cd w])]) : r_law_four_10 E [some (.own ts), some (.val (.int k)), some (.val (.int j)), some (.own [cd x, cd y, cd z, cd w])] := by
  refine ⟨by decide, ?_⟩
  refine ⟨rfl, x, y, z, w, .inl rfl, S.up (by decide), ?_⟩
  refine ⟨Nat.le_of_ble_eq_true rfl, Or.inr ⟨rfl, rfl⟩, trivial, ?_⟩
  rw [show PyData.eqv (cd (dtm x y z w)) (.tuple [.int 0, .int 0]) = decide (dtm x y z w = (0, 0)) from eqv_cd _ (0, 0)]
  by_cases e : dtm x y z w = (0, 0)
  · refine ⟨⟨tk.noLst, rfl, rfl, rfl, trivial⟩, ?_⟩
    rw [decide_eq_true e]
    exact n
  · refine ⟨⟨tk.noLst, rfl, rfl, rfl, trivial⟩, ?_⟩
    rw [decide_eq_false e]
    exact ⟨by decide, q e⟩
theorem s4_set {n : Nat} {a b c d : G} (a1 : Sz n a.1 ∧ Sz n a.2) (b1 : Sz n b.1 ∧ Sz n b.2) (c1 : Sz n c.1 ∧ Sz n c.2) (d1 : Sz n d.1 ∧ Sz n d.2) : S4 n a b c d := ⟨a1.1, a1.2, b1.1, b1.2, c1.1, c1.2, d1.1, d1.2⟩
theorem l4_ways {ts : List PyData} {b k j : Int} {x y z w : G} {E : Ed} (tk : Tk b ts) (S : S4 4 x y z w) (q : ∀ x y z w : G, S4 4 x y z w → dtm x y z w ≠ (0, 0) → E.rt (.list [cd x, cd y, cd z, cd w]) [some (.own ts), some (.val (.int k)), some (.val (.int j)), some (.val (.list [cd x, cd y, cd z, cd w]))])
    (n : ∀ x y z w : G, E.nx [some (.own ts), some (.val (.int k)), some (.val (.int j)), some (.own [cd x, cd y, cd z, cd w])]) : r_law_four_4 E [some (.own ts), some (.val (.int k)), some (.val (.int j)), some (.own [cd x, cd y, cd z, cd w])] := by
  have o : Sz 4 ((0, 0) : G).1 ∧ Sz 4 ((0, 0) : G).2 := ⟨⟨by decide⟩, ⟨by decide⟩⟩
  have e : Sz 4 ((1, 0) : G).1 ∧ Sz 4 ((1, 0) : G).2 := ⟨⟨by decide⟩, ⟨by decide⟩⟩
  have fin : ∀ x y z w : G, S4 4 x y z w → r_law_four_10 E [some (.own ts), some (.val (.int k)), some (.val (.int j)), some (.own [cd x, cd y, cd z, cd w])] := fun x y z w S => l4_end tk S (q x y z w S) (n x y z w)
  refine ⟨Or.inr ⟨rfl, rfl⟩, trivial, ?_⟩
  rw [eqv_int]
  refine ite_b (fun z0 => ?_) (fun z0 => ?_)
  · obtain rfl : k = 0 := of_decide_eq_true z0
    refine ⟨Nat.le_of_ble_eq_true rfl, Nat.le_of_ble_eq_true rfl, Nat.le_of_ble_eq_true rfl, Nat.le_of_ble_eq_true rfl, rfl, ?_⟩
    show r_law_four_6 E [some (.own ts), some (.val (.int 0)), some (.val (.int j)), some (.own [cd (1, 0), cd y, cd (0, 0), cd (1, 0)])]
    refine ⟨Or.inr ⟨rfl, rfl⟩, trivial, ite_f rfl ?_⟩
    refine ⟨Or.inr ⟨rfl, rfl⟩, trivial, ite_f rfl ?_⟩
    exact fin _ _ _ _ (s4_set e ⟨S.b1, S.b2⟩ o e)
  refine (show r_law_four_6 E [some (.own ts), some (.val (.int k)), some (.val (.int j)), some (.own [cd x, cd y, cd z, cd w])] from ?_)
  refine ⟨Or.inr ⟨rfl, rfl⟩, trivial, ?_⟩
  rw [eqv_int]
  refine ite_b (fun z1 => ?_) (fun z1 => ?_)
  · obtain rfl : k = 1 := of_decide_eq_true z1
    refine ⟨Nat.le_of_ble_eq_true rfl, Nat.le_of_ble_eq_true rfl, Nat.le_of_ble_eq_true rfl, rfl, ?_⟩
    show r_law_four_8 E [some (.own ts), some (.val (.int 1)), some (.val (.int j)), some (.own [cd x, cd (0, 0), cd (0, 0), cd w])]
    refine ⟨Or.inr ⟨rfl, rfl⟩, trivial, ite_f rfl ?_⟩
    exact fin _ _ _ _ (s4_set ⟨S.a1, S.a2⟩ o o ⟨S.d1, S.d2⟩)
  refine (show r_law_four_8 E [some (.own ts), some (.val (.int k)), some (.val (.int j)), some (.own [cd x, cd y, cd z, cd w])] from ?_)
  refine ⟨Or.inr ⟨rfl, rfl⟩, trivial, ?_⟩
  rw [eqv_int]
  refine ite_b (fun z2 => ?_) (fun z2 => ?_)
  · refine ⟨Nat.le_of_ble_eq_true rfl, Nat.le_of_ble_eq_true rfl, Nat.le_of_ble_eq_true rfl, rfl, ?_⟩
    show r_law_four_10 E [some (.own ts), some (.val (.int k)), some (.val (.int j)), some (.own [cd (0, 0), cd y, cd z, cd (0, 0)])]
    exact fin _ _ _ _ (s4_set o ⟨S.b1, S.b2⟩ ⟨S.c1, S.c2⟩ o)
  · exact fin _ _ _ _ S
theorem sem_law_four : ∀ ts ds R, c_law_four ts ds R → ds.length = 0 → w_law_four (edT R) (some (.own ts) :: ev0 3 ds) := by
  intro ts ds R h _
  obtain ⟨b, tk, hb, rfl, q⟩ := h
  refine ⟨rfl, b, 8, tk, by omega, rfl, by decide, by decide, fun k ts1 k0 k1 tk1 => ?_⟩
  show r_law_four_2 (edT R) [some (.own ts1), some (.val (.int k)), none, none]
  refine ⟨⟨by decide, by decide⟩, ?_⟩
  have turn : ∀ (bb : Int) (ts' : List PyData) (s2 s3 : Option Sl) (j : Int) (E : Ed), Tk bb ts' → bb ≤ b + 33 → fr s2 →
      (∀ (ts2 : List PyData) (x y z w : G), Tk (bb + 16) ts2 → E.nx [some (.own ts2), some (.val (.int k)), some (.val (.int j)), some (.own [cd x, cd y, cd z, cd w])]) → E.rt = (edT R).rt →
      gN 2 (.int j) [some (.own ts'), some (.val (.int k)), s2, s3] fun e => r_law_four_3 E e := fun bb ts' s2 s3 j E tk' hbb f2 n er => by
    refine gN_fr rfl f2 ?_
    refine ⟨rfl, bb, tk', by omega, rfl, fun p t1 p1 p2 k1 => ⟨rfl, bb + 4, k1, by omega, rfl, fun p' t2 p1' p2' k2 => ⟨rfl, bb + 4 + 4, k2, by omega, rfl, fun r t3 r1 r2 k3 => ⟨rfl, bb + 4 + 4 + 4, k3, by omega, rfl, fun s t4 s1 s2 k4 => ?_⟩⟩⟩⟩
    refine ⟨Nat.le_of_ble_eq_true rfl, by decide, Nat.le_of_ble_eq_true rfl, ?_⟩
    show r_law_four_4 E [some (.own t4), some (.val (.int k)), some (.val (.int j)), some (.own [cd p, cd p', cd r, cd s])]
    refine l4_ways k4 (s4_set ⟨p1, p2⟩ ⟨p1', p2'⟩ ⟨r1, r2⟩ ⟨s1, s2⟩) (fun x y z w S d => ?_) (fun x y z w => n t4 x y z w (k4.up (by omega)))
    rw [er]
    exact q x y z w t4 S d (k4.up (by omega))
  refine turn (b + 1) ts1 none none 0 _ tk1 (by omega) fr_none (fun t2 x y z w k2 => ?_) rfl
  refine turn (b + 1 + 16) t2 _ _ 1 _ k2 (by omega) (fr_val) (fun t3 x y z w k3 => ?_) rfl
  refine turn (b + 1 + 16 + 16) t3 _ _ 2 _ k3 (by omega) (fr_val) (fun t4 x y z w k4 => ?_) rfl
  refine ⟨Nat.le_of_ble_eq_true rfl, Nat.le_of_ble_eq_true rfl, Nat.le_of_ble_eq_true rfl, Nat.le_of_ble_eq_true rfl, Nat.le_of_ble_eq_true rfl, ?_⟩
  exact q (1, 0) (2, 1) (0, 0) (1, 0) t4 ⟨⟨by decide⟩, ⟨by decide⟩, ⟨by decide⟩, ⟨by decide⟩, ⟨by decide⟩, ⟨by decide⟩, ⟨by decide⟩, ⟨by decide⟩⟩ (by decide) (k4.up (by omega))
/-! ## law_is_map -/
abbrev r_law_is_map_2 : Ws := (wRet (dLit (.bool false)))
abbrev r_law_is_map_5 : Ws := (wRet (dLit (.bool false)))
abbrev r_law_is_map_4 : Ws := (wIf (dNotT (dTru (dFn 2 c_law_is_whole (daC (dVar 1) (daC (dLit (.int 2)) daN))))) r_law_is_map_5 wNx)
abbrev r_law_is_map_7 : Ws := (wRet (dLit (.bool false)))
abbrev r_law_is_map_8 : Ws := (wRet (dOp fEq (dFn 2 c_law_map (daC (dOp fIx (dVar 0) (dLit (.int 0))) (daC (dSl (dVar 0) (doS (dLit (.int 1))) doN) daN))) (dVar 0)))
abbrev r_law_is_map_6 : Ws := (wSeq (wIf (dTru (dOp fEq (dFn 1 c_law_det (daC (dSl (dVar 0) (doS (dLit (.int 1))) doN) daN)) (dTup (daC (dLit (.int 0)) (daC (dLit (.int 0)) daN))))) r_law_is_map_7 wNx) r_law_is_map_8)
abbrev r_law_is_map_3 : Ws := (wSeq (wFor (diT (dSl (dVar 0) (doS (dLit (.int 1))) doN)) (gN 1) r_law_is_map_4) r_law_is_map_6)
abbrev r_law_is_map_1 : Ws := (wSeq (wIf (dOrT (dNotT (dTru (dIsa isTuple (dVar 0)))) (dOrT (dTru (dOp fNe (dCal fLen (daC (dVar 0) daN)) (dLit (.int 5)))) (dOrT (dNotT (dTru (dFn 2 c_law_is_whole (daC (dSl (dVar 0) doN (doS (dLit (.int 1)))) (daC (dLit (.int 1)) daN))))) (dTru (dOp fNin (dOp fIx (dVar 0) (dLit (.int 0))) (dTup (daC (dLit (.int 0)) (daC (dLit (.int 1)) daN)))))))) r_law_is_map_2 wNx) r_law_is_map_3)
def w_law_is_map : Ws := (wSeq (wIf (dOrT (dNotT (dTru (dIsa isTuple (dVar 0)))) (dOrT (dTru (dOp fNe (dCal fLen (daC (dVar 0) daN)) (dLit (.int 5)))) (dOrT (dNotT (dTru (dFn 2 c_law_is_whole (daC (dSl (dVar 0) doN (doS (dLit (.int 1)))) (daC (dLit (.int 1)) daN))))) (dTru (dOp fNin (dOp fIx (dVar 0) (dLit (.int 0))) (dTup (daC (dLit (.int 0)) (daC (dLit (.int 1)) daN)))))))) (wRet (dLit (.bool false))) wNx) (wSeq (wFor (diT (dSl (dVar 0) (doS (dLit (.int 1))) doN)) (gN 1) (wIf (dNotT (dTru (dFn 2 c_law_is_whole (daC (dVar 1) (daC (dLit (.int 2)) daN))))) (wRet (dLit (.bool false))) wNx)) (wSeq (wIf (dTru (dOp fEq (dFn 1 c_law_det (daC (dSl (dVar 0) (doS (dLit (.int 1))) doN) daN)) (dTup (daC (dLit (.int 0)) (daC (dLit (.int 0)) daN))))) (wRet (dLit (.bool false))) wNx) (wRet (dOp fEq (dFn 2 c_law_map (daC (dOp fIx (dVar 0) (dLit (.int 0))) (daC (dSl (dVar 0) (doS (dLit (.int 1))) doN) daN))) (dVar 0))))))
@[irreducible] noncomputable def q_law_is_map_2 : Ws := hid (wRet (dLit (.bool false)))
@[irreducible] noncomputable def q_law_is_map_5 : Ws := hid (wRet (dLit (.bool false)))
@[irreducible] noncomputable def q_law_is_map_4 : Ws := hid (wIf (dNotT (dTru (dFn 2 c_law_is_whole (daC (dVar 1) (daC (dLit (.int 2)) daN))))) q_law_is_map_5 wNx)
@[irreducible] noncomputable def q_law_is_map_7 : Ws := hid (wRet (dLit (.bool false)))
@[irreducible] noncomputable def q_law_is_map_8 : Ws := hid (wRet (dOp fEq (dFn 2 c_law_map (daC (dOp fIx (dVar 0) (dLit (.int 0))) (daC (dSl (dVar 0) (doS (dLit (.int 1))) doN) daN))) (dVar 0)))
@[irreducible] noncomputable def q_law_is_map_6 : Ws := hid (wSeq (wIf (dTru (dOp fEq (dFn 1 c_law_det (daC (dSl (dVar 0) (doS (dLit (.int 1))) doN) daN)) (dTup (daC (dLit (.int 0)) (daC (dLit (.int 0)) daN))))) q_law_is_map_7 wNx) q_law_is_map_8)
@[irreducible] noncomputable def q_law_is_map_3 : Ws := hid (wSeq (wFor (diT (dSl (dVar 0) (doS (dLit (.int 1))) doN)) (gN 1) q_law_is_map_4) q_law_is_map_6)
@[irreducible] noncomputable def q_law_is_map_1 : Ws := hid (wSeq (wIf (dOrT (dNotT (dTru (dIsa isTuple (dVar 0)))) (dOrT (dTru (dOp fNe (dCal fLen (daC (dVar 0) daN)) (dLit (.int 5)))) (dOrT (dNotT (dTru (dFn 2 c_law_is_whole (daC (dSl (dVar 0) doN (doS (dLit (.int 1)))) (daC (dLit (.int 1)) daN))))) (dTru (dOp fNin (dOp fIx (dVar 0) (dLit (.int 0))) (dTup (daC (dLit (.int 0)) (daC (dLit (.int 1)) daN)))))))) q_law_is_map_2 wNx) q_law_is_map_3)
theorem e_law_is_map : w_law_is_map = q_law_is_map_1 := by delta q_law_is_map_1 q_law_is_map_3 q_law_is_map_6 q_law_is_map_8 q_law_is_map_7 q_law_is_map_4 q_law_is_map_5 q_law_is_map_2; simp only [hid_eq]; with_unfolding_all rfl
theorem sem_law_is_map : ∀ ds R, c_law_is_map ds R → ds.length = 1 → w_law_is_map (edP R) (ev0 1 ds) := by
  intro ds R h _
  obtain ⟨d, rfl, hd, q⟩ := h
  have loop : ∀ (d : PyData) (E : Ed) (xs : List PyData), E.rt = (edP R).rt → (∀ x ∈ xs, okd x = true) → ((∃ x ∈ xs, areW x 2 = false) → R (.bool false)) → ((∀ x ∈ xs, areW x 2 = true) → ∀ s, fr s → E.nx [some (.val d), s]) →
      foD (gN 1) q_law_is_map_4 xs E [some (.val d), none] := by
    intro d E xs er ho no k
    refine foD_at xs (fun pre ev => ∃ s, ev = [some (.val d), s] ∧ fr s ∧ ∀ x ∈ pre, areW x 2 = true) (fun pre x post ev E' hall i nx ert _ _ => ?_) (pre := []) rfl ⟨none, rfl, fr_none, by simp⟩ (fun ev i => ?_)
    · obtain ⟨s, rfl, fs, ha⟩ := i
      have hm : x ∈ xs := by rw [hall]; simp
      refine gN_fr (s := s) rfl fs ?_
      (show q_law_is_map_4 _ [_, _]; delta q_law_is_map_4; refine hid_of ?_)
      refine ⟨rfl, x, 2, rfl, ho x hm, trivial, ?_⟩
      cases y : areW x 2 with
      | false =>
        refine ite_t rfl ?_
        (show q_law_is_map_5 _ [_, _]; delta q_law_is_map_5; refine hid_of ?_)
        show E'.rt _ _
        rw [ert, er]
        exact no ⟨x, hm, y⟩
      | true =>
        refine ite_f rfl (nx _ ⟨_, rfl, fr_val, fun z m => ?_⟩)
        rcases List.mem_append.mp m with m | m
        · exact ha z m
        · rw [List.mem_singleton.mp m]; exact y
    · obtain ⟨s, rfl, fs, ha⟩ := i
      exact k ha s fs
  rw [e_law_is_map]; (show q_law_is_map_1 _ [_, _]; delta q_law_is_map_1; refine hid_of ?_)
  rcases hd with ⟨f, A, rfl, hf, S⟩ | ⟨o, n⟩
  · rw [isMapB_mp hf] at q
    refine ⟨trivial, ite_f rfl ?_⟩
    refine ⟨Or.inr ⟨rfl, rfl⟩, trivial, ite_f rfl ?_⟩
    refine ⟨rfl, .tuple [.int f], 1, rfl, rfl, trivial, ite_f rfl ?_⟩
    refine ⟨Nat.le_of_ble_eq_true rfl, ⟨rfl, rfl⟩, trivial, ?_⟩
    refine ite_f (by rcases hf with rfl | rfl <;> rfl) ?_
    (show q_law_is_map_3 _ [_, _]; delta q_law_is_map_3; refine hid_of ?_)
    have ho : ∀ x ∈ [cd A.a, cd A.b, cd A.c, cd A.d], okd x = true ∧ areW x 2 = true := fun x hx => by
      simp only [List.mem_cons, List.not_mem_nil, or_false] at hx
      rcases hx with rfl | rfl | rfl | rfl <;> exact ⟨rfl, rfl⟩
    refine loop (mp4 f A) _ [cd A.a, cd A.b, cd A.c, cd A.d] rfl (fun x m => (ho x m).1) (fun ⟨x, m, z⟩ => by rw [(ho x m).2] at z; cases z) (fun _ s fs => ?_)
    (show q_law_is_map_6 _ [_, _]; delta q_law_is_map_6; refine hid_of ?_)
    refine ⟨rfl, A.a, A.b, A.c, A.d, .inr rfl, S.up (by omega), Nat.le_of_ble_eq_true rfl, Or.inr ⟨rfl, rfl⟩, trivial, ?_⟩
    rw [show PyData.eqv (cd (dtm A.a A.b A.c A.d)) (.tuple [.int 0, .int 0]) = decide (A.dt = 0) from eqv_cd _ (0, 0)]
    refine ite_b (fun z => ?_) (fun z => ?_)
    · (show q_law_is_map_7 _ [_, _]; delta q_law_is_map_7; refine hid_of ?_)
      rw [show decide (A.dt = 0) = true from z] at q
      exact q
    · (show q_law_is_map_8 _ [_, _]; delta q_law_is_map_8; refine hid_of ?_)
      rw [show decide (A.dt = 0) = false from z, Bool.not_false, Bool.true_and] at q
      refine ⟨rfl, law_mapT_ok S (by decide) (of_decide_eq_false z) rfl ⟨Or.inr ⟨rfl, rfl⟩, ?_⟩⟩
      show R (.bool (PyData.eqv (mp4 f (nrm A)) (mp4 f A)))
      rw [eqv_M, decide_eq_true (rfl : f = f), Bool.true_and]
      exact q
  · rw [isMapB_no n] at q
    refine okE_in (okm_x o) ?_
    cases d with
    | tuple xs =>
      obtain ⟨hl, hx⟩ := okm_t o
      refine ⟨trivial, ite_f rfl ?_⟩
      refine ⟨Or.inr ⟨rfl, rfl⟩, trivial, ?_⟩
      rw [eqv_int]
      by_cases z : (xs.length : Int) = 5
      · refine ite_f (by rw [decide_eq_true z]; rfl) ?_
        match xs, z, hx, n with
        | [x0, x1, x2, x3, x4], _, hx, n =>
          have n : (flg x0 && (areW x1 2 && (areW x2 2 && (areW x3 2 && areW x4 2)))) = false := n
          refine ⟨rfl, .tuple [x0], 1, rfl, (hx x0 (by simp)).2, trivial, ?_⟩
          have e0 : areW (.tuple [x0]) 1 = whole x0 := Bool.and_true _
          rw [e0]
          cases x0 with
          | int f =>
            refine ite_f rfl ?_
            refine ⟨Nat.le_of_ble_eq_true rfl, ⟨rfl, rfl⟩, trivial, ?_⟩
            have e1 : inD (.int f) [.int 0, .int 1] = (decide (0 = f) || (decide (1 = f) || false)) := by
              show (PyData.eqv (.int 0) (.int f) || (PyData.eqv (.int 1) (.int f) || false)) = _
              rw [eqv_int, eqv_int]
            rw [e1]
            by_cases hf : f = 0 ∨ f = 1
            · refine ite_f (by rcases hf with rfl | rfl <;> rfl) ?_
              have n : (areW x1 2 && (areW x2 2 && (areW x3 2 && areW x4 2))) = false := by
                have e : flg (.int f) = true := by rcases hf with rfl | rfl <;> rfl
                rw [e, Bool.true_and] at n
                exact n
              (show q_law_is_map_3 _ [_, _]; delta q_law_is_map_3; refine hid_of ?_)
              refine loop _ _ [x1, x2, x3, x4] rfl (fun x m => (hx x (by simp only [List.mem_cons, List.not_mem_nil, or_false] at m ⊢; exact .inr m)).1) (fun _ => q) (fun ha s fs => ?_)
              rw [ha x1 (by simp), ha x2 (by simp), ha x3 (by simp), ha x4 (by simp)] at n
              cases n
            · refine ite_t ?_ (by (show q_law_is_map_2 _ [_, _]; delta q_law_is_map_2; refine hid_of ?_); exact q)
              rw [decide_eq_false (fun z => hf (.inl z.symm)), decide_eq_false (fun z => hf (.inr z.symm))]
              rfl
          | _ => exact ite_t rfl (by (show q_law_is_map_2 _ [_, _]; delta q_law_is_map_2; refine hid_of ?_); exact q)
      · exact ite_t (by rw [decide_eq_false z]; rfl) (by (show q_law_is_map_2 _ [_, _]; delta q_law_is_map_2; refine hid_of ?_); exact q)
    | _ => exact ⟨trivial, ite_t rfl (by (show q_law_is_map_2 _ [_, _]; delta q_law_is_map_2; refine hid_of ?_); exact q)⟩
/-! ## law_is_along -/
abbrev r_law_is_along_4 : Ws := (wRet (dLit (.bool false)))
abbrev r_law_is_along_3 : Ws := (wIf (dTru (dOp fNe (dFn 2 c_law_times (daC (dOp fIx (dVar 0) (dOp fCat (dLit (.int 1)) (dVar 3))) (daC (dOp fIx (dVar 1) (dVar 2)) daN))) (dFn 2 c_law_times (daC (dOp fIx (dVar 0) (dOp fCat (dLit (.int 1)) (dVar 2))) (daC (dOp fIx (dVar 1) (dVar 3)) daN))))) r_law_is_along_4 wNx)
abbrev r_law_is_along_2 : Ws := (wFor (diR1 (daC (dVar 2) daN)) (gN 3) r_law_is_along_3)
abbrev r_law_is_along_5 : Ws := (wRet (dLit (.bool true)))
abbrev r_law_is_along_1 : Ws := (wSeq (wFor (diR1 (daC (dLit (.int 4)) daN)) (gN 2) r_law_is_along_2) r_law_is_along_5)
def w_law_is_along : Ws := (wSeq (wFor (diR1 (daC (dLit (.int 4)) daN)) (gN 2) (wFor (diR1 (daC (dVar 2) daN)) (gN 3) (wIf (dTru (dOp fNe (dFn 2 c_law_times (daC (dOp fIx (dVar 0) (dOp fCat (dLit (.int 1)) (dVar 3))) (daC (dOp fIx (dVar 1) (dVar 2)) daN))) (dFn 2 c_law_times (daC (dOp fIx (dVar 0) (dOp fCat (dLit (.int 1)) (dVar 2))) (daC (dOp fIx (dVar 1) (dVar 3)) daN))))) (wRet (dLit (.bool false))) wNx))) (wRet (dLit (.bool true))))
@[irreducible] noncomputable def q_law_is_along_4 : Ws := hid (wRet (dLit (.bool false)))
@[irreducible] noncomputable def q_law_is_along_3 : Ws := hid (wIf (dTru (dOp fNe (dFn 2 c_law_times (daC (dOp fIx (dVar 0) (dOp fCat (dLit (.int 1)) (dVar 3))) (daC (dOp fIx (dVar 1) (dVar 2)) daN))) (dFn 2 c_law_times (daC (dOp fIx (dVar 0) (dOp fCat (dLit (.int 1)) (dVar 2))) (daC (dOp fIx (dVar 1) (dVar 3)) daN))))) q_law_is_along_4 wNx)
@[irreducible] noncomputable def q_law_is_along_2 : Ws := hid (wFor (diR1 (daC (dVar 2) daN)) (gN 3) q_law_is_along_3)
@[irreducible] noncomputable def q_law_is_along_5 : Ws := hid (wRet (dLit (.bool true)))
@[irreducible] noncomputable def q_law_is_along_1 : Ws := hid (wSeq (wFor (diR1 (daC (dLit (.int 4)) daN)) (gN 2) q_law_is_along_2) q_law_is_along_5)
theorem e_law_is_along : w_law_is_along = q_law_is_along_1 := by delta q_law_is_along_1 q_law_is_along_5 q_law_is_along_2 q_law_is_along_3 q_law_is_along_4; simp only [hid_eq]; with_unfolding_all rfl
theorem sem_law_is_along : ∀ ds R, c_law_is_along ds R → ds.length = 2 → w_law_is_along (edP R) (ev0 2 ds) := by
  intro ds R h _
  obtain ⟨f, U, B, n, rfl, ⟨g, k, hg, hk, e⟩, ⟨S, T⟩, hn, q⟩ := h
  have h0 : g * U.a = k * B.a := congrArg M4.a e
  have h1 : g * U.b = k * B.b := congrArg M4.b e
  have h2 : g * U.c = k * B.c := congrArg M4.c e
  have h3 : g * U.d = k * B.d := congrArg M4.d e
  clear e
  have al : ∀ {u v x y : G}, g * u = k * x → g * v = k * y → gm u y = gm v x := fun {u v x y} e1 e2 => by
    have z : gm k (u * y - v * x) = (0, 0) := by
      show k * (u * y - v * x) = 0
      grind
    have z : u * y - v * x = 0 := (gm_nz hk).mp z
    show u * y = v * x
    grind
  haveI : GS n U.a := ⟨S.a1, S.a2⟩
  haveI : GS n U.b := ⟨S.b1, S.b2⟩
  haveI : GS n U.c := ⟨S.c1, S.c2⟩
  haveI : GS n U.d := ⟨S.d1, S.d2⟩
  haveI : GS n B.a := ⟨T.a1, T.a2⟩
  haveI : GS n B.b := ⟨T.b1, T.b2⟩
  haveI : GS n B.c := ⟨T.c1, T.c2⟩
  haveI : GS n B.d := ⟨T.d1, T.d2⟩
  rw [e_law_is_along]; (show q_law_is_along_1 _ [_, _, _, _]; delta q_law_is_along_1; refine hid_of ?_)
  refine ⟨⟨by decide, by decide⟩, ?_⟩
  refine foD_pre (fun pre ev => ∃ s2 s3, ev = [some (.val (mp4 f U)), some (.val (.list [cd B.a, cd B.b, cd B.c, cd B.d])), s2, s3] ∧ fr s2 ∧ fr s3) (pre := []) (fun pre d ev E' hd i nx _ ert _ _ => ?_) ⟨none, none, rfl, fr_none, fr_none⟩ (fun ev i => ?_)
  · obtain ⟨s2, s3, rfl, f2, f3⟩ := i
    have hd : d ∈ [PyData.int 0, .int 1, .int 2, .int 3] := hd
    simp only [List.mem_cons, List.not_mem_nil, or_false] at hd
    refine gN_fr (s := s2) rfl f2 ?_
    (show q_law_is_along_2 _ [_, _, _, _]; delta q_law_is_along_2; refine hid_of ?_)
    rcases hd with rfl | rfl | rfl | rfl
    · refine ⟨⟨by decide, by decide⟩, ?_⟩
      refine foD_pre (fun pre ev => ∃ s3, ev = [some (.val (mp4 f U)), some (.val (.list [cd B.a, cd B.b, cd B.c, cd B.d])), some (.val (.int 0)), s3] ∧ fr s3) (pre := []) (fun pre d ev E2 hd i nx2 _ _ _ _ => ?_) ⟨s3, rfl, f3⟩ (fun ev i => ?_)
      · obtain ⟨s3, rfl, f3⟩ := i
        have hd : d ∈ ([] : List PyData) := hd
        cases hd
      · obtain ⟨s3, rfl, f3⟩ := i
        exact nx _ ⟨_, _, rfl, fr_val, f3⟩
    · refine ⟨⟨by decide, by decide⟩, ?_⟩
      refine foD_pre (fun pre ev => ∃ s3, ev = [some (.val (mp4 f U)), some (.val (.list [cd B.a, cd B.b, cd B.c, cd B.d])), some (.val (.int 1)), s3] ∧ fr s3) (pre := []) (fun pre d ev E2 hd i nx2 _ _ _ _ => ?_) ⟨s3, rfl, f3⟩ (fun ev i => ?_)
      · obtain ⟨s3, rfl, f3⟩ := i
        have hd : d ∈ ([.int 0] : List PyData) := hd
        simp only [List.mem_cons, List.not_mem_nil, or_false] at hd
        refine gN_fr (s := s3) rfl f3 ?_
        (show q_law_is_along_3 _ [_, _, _, _]; delta q_law_is_along_3; refine hid_of ?_)
        subst hd
        refine ⟨rfl, ltimes_ok (p := U.a) (q := B.b) (n := n) (m := n) (by omega) (by omega) ⟨rfl, ltimes_ok (p := U.b) (q := B.a) (n := n) (m := n) (by omega) (by omega) ⟨Or.inr ⟨rfl, rfl⟩, trivial, ?_⟩⟩⟩
        rw [show PyData.eqv (cd (gm U.a B.b)) (cd (gm U.b B.a)) = true from by rw [eqv_cd]; exact decide_eq_true (al h0 h1)]
        refine ite_f rfl ?_
        exact nx2 _ ⟨_, rfl, fr_val⟩
      · obtain ⟨s3, rfl, f3⟩ := i
        exact nx _ ⟨_, _, rfl, fr_val, f3⟩
    · refine ⟨⟨by decide, by decide⟩, ?_⟩
      refine foD_pre (fun pre ev => ∃ s3, ev = [some (.val (mp4 f U)), some (.val (.list [cd B.a, cd B.b, cd B.c, cd B.d])), some (.val (.int 2)), s3] ∧ fr s3) (pre := []) (fun pre d ev E2 hd i nx2 _ _ _ _ => ?_) ⟨s3, rfl, f3⟩ (fun ev i => ?_)
      · obtain ⟨s3, rfl, f3⟩ := i
        have hd : d ∈ ([.int 0, .int 1] : List PyData) := hd
        simp only [List.mem_cons, List.not_mem_nil, or_false] at hd
        refine gN_fr (s := s3) rfl f3 ?_
        (show q_law_is_along_3 _ [_, _, _, _]; delta q_law_is_along_3; refine hid_of ?_)
        rcases hd with rfl | rfl
        · refine ⟨rfl, ltimes_ok (p := U.a) (q := B.c) (n := n) (m := n) (by omega) (by omega) ⟨rfl, ltimes_ok (p := U.c) (q := B.a) (n := n) (m := n) (by omega) (by omega) ⟨Or.inr ⟨rfl, rfl⟩, trivial, ?_⟩⟩⟩
          rw [show PyData.eqv (cd (gm U.a B.c)) (cd (gm U.c B.a)) = true from by rw [eqv_cd]; exact decide_eq_true (al h0 h2)]
          refine ite_f rfl ?_
          exact nx2 _ ⟨_, rfl, fr_val⟩
        · refine ⟨rfl, ltimes_ok (p := U.b) (q := B.c) (n := n) (m := n) (by omega) (by omega) ⟨rfl, ltimes_ok (p := U.c) (q := B.b) (n := n) (m := n) (by omega) (by omega) ⟨Or.inr ⟨rfl, rfl⟩, trivial, ?_⟩⟩⟩
          rw [show PyData.eqv (cd (gm U.b B.c)) (cd (gm U.c B.b)) = true from by rw [eqv_cd]; exact decide_eq_true (al h1 h2)]
          refine ite_f rfl ?_
          exact nx2 _ ⟨_, rfl, fr_val⟩
      · obtain ⟨s3, rfl, f3⟩ := i
        exact nx _ ⟨_, _, rfl, fr_val, f3⟩
    · refine ⟨⟨by decide, by decide⟩, ?_⟩
      refine foD_pre (fun pre ev => ∃ s3, ev = [some (.val (mp4 f U)), some (.val (.list [cd B.a, cd B.b, cd B.c, cd B.d])), some (.val (.int 3)), s3] ∧ fr s3) (pre := []) (fun pre d ev E2 hd i nx2 _ _ _ _ => ?_) ⟨s3, rfl, f3⟩ (fun ev i => ?_)
      · obtain ⟨s3, rfl, f3⟩ := i
        have hd : d ∈ ([.int 0, .int 1, .int 2] : List PyData) := hd
        simp only [List.mem_cons, List.not_mem_nil, or_false] at hd
        refine gN_fr (s := s3) rfl f3 ?_
        (show q_law_is_along_3 _ [_, _, _, _]; delta q_law_is_along_3; refine hid_of ?_)
        rcases hd with rfl | rfl | rfl
        · refine ⟨rfl, ltimes_ok (p := U.a) (q := B.d) (n := n) (m := n) (by omega) (by omega) ⟨rfl, ltimes_ok (p := U.d) (q := B.a) (n := n) (m := n) (by omega) (by omega) ⟨Or.inr ⟨rfl, rfl⟩, trivial, ?_⟩⟩⟩
          rw [show PyData.eqv (cd (gm U.a B.d)) (cd (gm U.d B.a)) = true from by rw [eqv_cd]; exact decide_eq_true (al h0 h3)]
          refine ite_f rfl ?_
          exact nx2 _ ⟨_, rfl, fr_val⟩
        · refine ⟨rfl, ltimes_ok (p := U.b) (q := B.d) (n := n) (m := n) (by omega) (by omega) ⟨rfl, ltimes_ok (p := U.d) (q := B.b) (n := n) (m := n) (by omega) (by omega) ⟨Or.inr ⟨rfl, rfl⟩, trivial, ?_⟩⟩⟩
          rw [show PyData.eqv (cd (gm U.b B.d)) (cd (gm U.d B.b)) = true from by rw [eqv_cd]; exact decide_eq_true (al h1 h3)]
          refine ite_f rfl ?_
          exact nx2 _ ⟨_, rfl, fr_val⟩
        · refine ⟨rfl, ltimes_ok (p := U.c) (q := B.d) (n := n) (m := n) (by omega) (by omega) ⟨rfl, ltimes_ok (p := U.d) (q := B.c) (n := n) (m := n) (by omega) (by omega) ⟨Or.inr ⟨rfl, rfl⟩, trivial, ?_⟩⟩⟩
          rw [show PyData.eqv (cd (gm U.c B.d)) (cd (gm U.d B.c)) = true from by rw [eqv_cd]; exact decide_eq_true (al h2 h3)]
          refine ite_f rfl ?_
          exact nx2 _ ⟨_, rfl, fr_val⟩
      · obtain ⟨s3, rfl, f3⟩ := i
        exact nx _ ⟨_, _, rfl, fr_val, f3⟩
  · obtain ⟨s2, s3, rfl, _⟩ := i
    (show q_law_is_along_5 _ [_, _, _, _]; delta q_law_is_along_5; refine hid_of ?_)
    exact q
/-! ## law_form_right -/
abbrev r_law_form_right_4 : Ws := (wRet (dLit (.bool false)))
abbrev r_law_form_right_7 : Ws := (wRet (dOp fEq (dCal fRepr (daC (dLst (daC (dVar 8) (daC (dFnX noX 5 c_map_of (daC (dVar 0) (daC (dOp fIx (dVar 7) (dLit (.int 1))) (daC (dOp fIx (dVar 7) (dLit (.int 2))) (daC (dOp fIx (dVar 7) (dLit (.int 3))) (daC (dOp fIx (dVar 7) (dLit (.int 4))) daN)))))) daN))) daN)) (dCal fRepr (daC (dLst (daC (dVar 7) (daC (dVar 7) daN))) daN))))
abbrev r_law_form_right_6 : Ws := (wSeq (wAsg (dFnX noX 5 c_map_of (daC (dVar 0) (daC (dVar 3) (daC (dVar 4) (daC (dVar 5) (daC (dVar 6) daN)))))) (gN 8)) r_law_form_right_7)
abbrev r_law_form_right_5 : Ws := (wSeq (wAsg (dLc [9] (diL (dVar 1)) (gN 9) dYes (dFn 2 c_law_times (daC (dVar 9) (daC (dVar 2) daN)))) (gL 4 (gsC (gN 3) (gsC (gN 4) (gsC (gN 5) (gsC (gN 6) gsN)))))) r_law_form_right_6)
abbrev r_law_form_right_3 : Ws := (wSeq (wIf (dOrT (dNotT (dTru (dFn 1 c_law_is_map (daC (dVar 7) daN)))) (dOrT (dTru (dOp fNe (dOp fIx (dVar 7) (dLit (.int 0))) (dVar 0))) (dOrT (dNotT (dTru (dFn 2 c_law_is_along (daC (dVar 7) (daC (dVar 1) daN))))) (dTru (dOp fIsN (dFn 1 c_is_map (daC (dVar 7) daN)) (dLit (.bool true))))))) r_law_form_right_4 wNx) r_law_form_right_5)
abbrev r_law_form_right_2 : Ws := (wSeq (wAsg (dFnX noX 5 c_map_of (daC (dVar 0) (daC (dVar 3) (daC (dVar 4) (daC (dVar 5) (daC (dVar 6) daN)))))) (gN 7)) r_law_form_right_3)
abbrev r_law_form_right_1 : Ws := (wSeq (wAsg (dVar 1) (gL 4 (gsC (gN 3) (gsC (gN 4) (gsC (gN 5) (gsC (gN 6) gsN)))))) r_law_form_right_2)
def w_law_form_right : Ws := (wSeq (wAsg (dVar 1) (gL 4 (gsC (gN 3) (gsC (gN 4) (gsC (gN 5) (gsC (gN 6) gsN)))))) (wSeq (wAsg (dFnX noX 5 c_map_of (daC (dVar 0) (daC (dVar 3) (daC (dVar 4) (daC (dVar 5) (daC (dVar 6) daN)))))) (gN 7)) (wSeq (wIf (dOrT (dNotT (dTru (dFn 1 c_law_is_map (daC (dVar 7) daN)))) (dOrT (dTru (dOp fNe (dOp fIx (dVar 7) (dLit (.int 0))) (dVar 0))) (dOrT (dNotT (dTru (dFn 2 c_law_is_along (daC (dVar 7) (daC (dVar 1) daN))))) (dTru (dOp fIsN (dFn 1 c_is_map (daC (dVar 7) daN)) (dLit (.bool true))))))) (wRet (dLit (.bool false))) wNx) (wSeq (wAsg (dLc [9] (diL (dVar 1)) (gN 9) dYes (dFn 2 c_law_times (daC (dVar 9) (daC (dVar 2) daN)))) (gL 4 (gsC (gN 3) (gsC (gN 4) (gsC (gN 5) (gsC (gN 6) gsN)))))) (wSeq (wAsg (dFnX noX 5 c_map_of (daC (dVar 0) (daC (dVar 3) (daC (dVar 4) (daC (dVar 5) (daC (dVar 6) daN)))))) (gN 8)) (wRet (dOp fEq (dCal fRepr (daC (dLst (daC (dVar 8) (daC (dFnX noX 5 c_map_of (daC (dVar 0) (daC (dOp fIx (dVar 7) (dLit (.int 1))) (daC (dOp fIx (dVar 7) (dLit (.int 2))) (daC (dOp fIx (dVar 7) (dLit (.int 3))) (daC (dOp fIx (dVar 7) (dLit (.int 4))) daN)))))) daN))) daN)) (dCal fRepr (daC (dLst (daC (dVar 7) (daC (dVar 7) daN))) daN)))))))))
@[irreducible] noncomputable def q_law_form_right_4 : Ws := hid (wRet (dLit (.bool false)))
@[irreducible] noncomputable def q_law_form_right_7 : Ws := hid (wRet (dOp fEq (dCal fRepr (daC (dLst (daC (dVar 8) (daC (dFnX noX 5 c_map_of (daC (dVar 0) (daC (dOp fIx (dVar 7) (dLit (.int 1))) (daC (dOp fIx (dVar 7) (dLit (.int 2))) (daC (dOp fIx (dVar 7) (dLit (.int 3))) (daC (dOp fIx (dVar 7) (dLit (.int 4))) daN)))))) daN))) daN)) (dCal fRepr (daC (dLst (daC (dVar 7) (daC (dVar 7) daN))) daN))))
@[irreducible] noncomputable def q_law_form_right_6 : Ws := hid (wSeq (wAsg (dFnX noX 5 c_map_of (daC (dVar 0) (daC (dVar 3) (daC (dVar 4) (daC (dVar 5) (daC (dVar 6) daN)))))) (gN 8)) q_law_form_right_7)
@[irreducible] noncomputable def q_law_form_right_5 : Ws := hid (wSeq (wAsg (dLc [9] (diL (dVar 1)) (gN 9) dYes (dFn 2 c_law_times (daC (dVar 9) (daC (dVar 2) daN)))) (gL 4 (gsC (gN 3) (gsC (gN 4) (gsC (gN 5) (gsC (gN 6) gsN)))))) q_law_form_right_6)
@[irreducible] noncomputable def q_law_form_right_3 : Ws := hid (wSeq (wIf (dOrT (dNotT (dTru (dFn 1 c_law_is_map (daC (dVar 7) daN)))) (dOrT (dTru (dOp fNe (dOp fIx (dVar 7) (dLit (.int 0))) (dVar 0))) (dOrT (dNotT (dTru (dFn 2 c_law_is_along (daC (dVar 7) (daC (dVar 1) daN))))) (dTru (dOp fIsN (dFn 1 c_is_map (daC (dVar 7) daN)) (dLit (.bool true))))))) q_law_form_right_4 wNx) q_law_form_right_5)
@[irreducible] noncomputable def q_law_form_right_2 : Ws := hid (wSeq (wAsg (dFnX noX 5 c_map_of (daC (dVar 0) (daC (dVar 3) (daC (dVar 4) (daC (dVar 5) (daC (dVar 6) daN)))))) (gN 7)) q_law_form_right_3)
@[irreducible] noncomputable def q_law_form_right_1 : Ws := hid (wSeq (wAsg (dVar 1) (gL 4 (gsC (gN 3) (gsC (gN 4) (gsC (gN 5) (gsC (gN 6) gsN)))))) q_law_form_right_2)
theorem e_law_form_right : w_law_form_right = q_law_form_right_1 := by delta q_law_form_right_1 q_law_form_right_2 q_law_form_right_3 q_law_form_right_5 q_law_form_right_6 q_law_form_right_7 q_law_form_right_4; simp only [hid_eq]; with_unfolding_all rfl
theorem sem_law_form_right : ∀ ds R, c_law_form_right ds R → ds.length = 3 → w_law_form_right (edP R) (ev0 7 ds) := by
  intro ds R h _
  obtain ⟨f, A, r, rfl, hf, S, hr, hd, r0, q⟩ := h
  have F := nrm_fm S hd
  have s := nrm_sim hd
  have e1 : nrm (nrm A) = nrm A := nrm_self F
  have eB : isMapB (mp4 f (nrm A)) = true := by
    rw [isMapB_mp hf, decide_eq_false F.dtn, decide_eq_true e1]
    rfl
  have V : MV (mp4 f (nrm A)) := .inl ⟨f, nrm A, rfl, hf, F.sz.up (by decide)⟩
  have sA : A.sm r = ⟨gm A.a r, gm A.b r, gm A.c r, gm A.d r⟩ := m4_ext (gm_comm _ _) (gm_comm _ _) (gm_comm _ _) (gm_comm _ _)
  have s2 : Sim (A.sm r) A := (Sim.smr A r0).symm
  have e2 : nrm (A.sm r) = nrm A := nrm_eq hd s2
  have d2 : (A.sm r).dt ≠ 0 := s2.dt hd
  rw [sA] at e2 d2
  have S2 : S44 100 (⟨gm A.a r, gm A.b r, gm A.c r, gm A.d r⟩ : M4) := by
    obtain ⟨a1, a2, b1, b2, c1, c2, f1, f2⟩ := S
    obtain ⟨_, _⟩ := hr
    exact ⟨szUp (inferInstance : Sz _ (A.a.1 * r.1 - A.a.2 * r.2)) (by decide), szUp (inferInstance : Sz _ (A.a.1 * r.2 + A.a.2 * r.1)) (by decide), szUp (inferInstance : Sz _ (A.b.1 * r.1 - A.b.2 * r.2)) (by decide), szUp (inferInstance : Sz _ (A.b.1 * r.2 + A.b.2 * r.1)) (by decide), szUp (inferInstance : Sz _ (A.c.1 * r.1 - A.c.2 * r.2)) (by decide), szUp (inferInstance : Sz _ (A.c.1 * r.2 + A.c.2 * r.1)) (by decide), szUp (inferInstance : Sz _ (A.d.1 * r.1 - A.d.2 * r.2)) (by decide), szUp (inferInstance : Sz _ (A.d.1 * r.2 + A.d.2 * r.1)) (by decide)⟩
  have FS : S44 46 (nrm A) := F.sz
  have FD := F.dtn
  generalize eU : nrm A = U at *
  rw [e_law_form_right]; (show q_law_form_right_1 _ [_, _, _, _, _, _, _, _, _, _]; delta q_law_form_right_1; refine hid_of ?_)
  refine ⟨rfl, ?_⟩
  (show q_law_form_right_2 _ [_, _, _, _, _, _, _, _, _, _]; delta q_law_form_right_2; refine hid_of ?_)
  refine ⟨rfl, f, A, 45, rfl, hf, S, by decide, fun z => absurd z hd, fun _ => ?_⟩
  rw [eU]
  (show q_law_form_right_3 _ [_, _, _, _, _, _, _, _, _, _]; delta q_law_form_right_3; refine hid_of ?_)
  refine ⟨rfl, _, rfl, V, ?_⟩
  rw [eB]
  refine ⟨trivial, ite_f rfl ?_⟩
  refine ⟨Or.inr ⟨rfl, rfl⟩, trivial, ?_⟩
  rw [eqv_int, decide_eq_true (rfl : f = f)]
  refine ite_f rfl ?_
  refine ⟨rfl, f, U, A, 46, rfl, s, ⟨FS, S.up (by decide)⟩, by decide, trivial, ite_f rfl ?_⟩
  refine ⟨rfl, _, rfl, V, ?_⟩
  rw [eB]
  refine ⟨trivial, ite_f rfl ?_⟩
  (show q_law_form_right_5 _ [_, _, _, _, _, _, _, _, _, _]; delta q_law_form_right_5; refine hid_of ?_)
  haveI : GS 45 A.a := ⟨S.a1, S.a2⟩
  haveI : GS 45 A.b := ⟨S.b1, S.b2⟩
  haveI : GS 45 A.c := ⟨S.c1, S.c2⟩
  haveI : GS 45 A.d := ⟨S.d1, S.d2⟩
  refine lc_map (f := fun d => cd (gm (toG d) r)) rfl ?_ (fun d hd R r => ?_) ?_
  · exact Nat.le_of_ble_eq_true rfl
  · simp only [List.mem_cons, List.not_mem_nil, or_false] at hd
    rcases hd with rfl | rfl | rfl | rfl <;> exact ⟨rfl, ltimes_ok (by decide) (by decide) r⟩
  refine (show gL 4 (gsC (gN 3) (gsC (gN 4) (gsC (gN 5) (gsC (gN 6) gsN)))) (.list [cd (gm A.a r), cd (gm A.b r), cd (gm A.c r), cd (gm A.d r)]) [some (.val (.int f)), some (.val (.list [cd A.a, cd A.b, cd A.c, cd A.d])), some (.val (cd r)), some (.val (cd A.a)), some (.val (cd A.b)), some (.val (cd A.c)), some (.val (cd A.d)), some (.val (mp4 f U)), none, none] (fun e => q_law_form_right_6 (edP R) e) from ?_)
  refine ⟨rfl, ?_⟩
  (show q_law_form_right_6 _ [_, _, _, _, _, _, _, _, _, _]; delta q_law_form_right_6; refine hid_of ?_)
  refine ⟨rfl, f, ⟨gm A.a r, gm A.b r, gm A.c r, gm A.d r⟩, 100, rfl, hf, S2, by decide, fun z => absurd z d2, fun _ => ?_⟩
  rw [e2]
  (show q_law_form_right_7 _ [_, _, _, _, _, _, _, _, _, _]; delta q_law_form_right_7; refine hid_of ?_)
  refine ⟨rfl, f, U, 46, rfl, hf, FS, by decide, fun z => absurd z FD, fun _ => ?_⟩
  rw [e1]
  refine ⟨Nat.le_of_ble_eq_true rfl, ?_⟩
  haveI : Sz 1 f := ⟨by rcases hf with rfl | rfl <;> decide⟩
  obtain ⟨_, _, _, _, _, _, _, _⟩ := FS
  refine (show RP (.list [mp4 f U, mp4 f U]) _ from ?_)
  walk_at "rp"
  refine ⟨Nat.le_of_ble_eq_true rfl, ?_⟩
  refine (show RP (.list [mp4 f U, mp4 f U]) _ from ?_)
  walk_at "rp"
  refine ⟨Or.inl rfl, ?_⟩
  rw [eqv_str, decide_eq_true (p := _ = _) rfl]
  exact q
/-! ## law_is_refused -/
abbrev r_law_is_refused_6 : Ws := (wRet (dLit (.bool false)))
abbrev r_law_is_refused_2 : Ws := (wSeq (wTryO 5 c_map_of (daC (dVar 0) (daC (dVar 2) (daC (dVar 3) (daC (dVar 4) (daC (dVar 5) daN))))) ks0 (wRet (dLit (.bool true)))) r_law_is_refused_6)
abbrev r_law_is_refused_1 : Ws := (wSeq (wAsg (dVar 1) (gL 4 (gsC (gN 2) (gsC (gN 3) (gsC (gN 4) (gsC (gN 5) gsN)))))) r_law_is_refused_2)
def w_law_is_refused : Ws := (wSeq (wAsg (dVar 1) (gL 4 (gsC (gN 2) (gsC (gN 3) (gsC (gN 4) (gsC (gN 5) gsN)))))) (wSeq (wTryO 5 c_map_of (daC (dVar 0) (daC (dVar 2) (daC (dVar 3) (daC (dVar 4) (daC (dVar 5) daN))))) ks0 (wRet (dLit (.bool true)))) (wRet (dLit (.bool false)))))
theorem sem_law_is_refused : ∀ ds R, c_law_is_refused ds R → ds.length = 2 → w_law_is_refused (edP R) (ev0 4 ds) := by
  intro ds R h _
  obtain ⟨f, A, n, rfl, hf, S, hn, hd, q⟩ := h
  refine ⟨rfl, ?_⟩
  exact ⟨rfl, f, A, n, rfl, hf, S, hn, fun z => ⟨rfl, by decide, q⟩, fun z => absurd hd z⟩
/-! ## law_value -/
abbrev r_law_value_5 : Ws := (wRet (dOp fCat (dTup (daC (dVar 1) daN)) (dCal fTuple (daC (dLc [7] (diT (dSl (dVar 4) (doS (dLit (.int 1))) doN)) (gN 7) dYes (dFn 2 c_law_times (daC (dVar 7) (daC (dVar 6) daN)))) daN))))
abbrev r_law_value_4 : Ws := (wSeq (wAsg (dFnT 0 2 c_law_pick (daC (dTup (daC (dTup (daC (dLit (.int 0)) (daC (dLit (.int 1)) daN))) (daC (dTup (daC (dU fNeg (dLit (.int 1))) (daC (dLit (.int 0)) daN))) (daC (dTup (daC (dLit (.int 2)) (daC (dLit (.int 0)) daN))) (daC (dTup (daC (dLit (.int 1)) (daC (dLit (.int 1)) daN))) daN))))) daN)) (gN 6)) r_law_value_5)
abbrev r_law_value_7 : Ws := (wRet (dOp fCat (dOp fCat (dSl (dVar 4) doN (doS (dVar 5))) (dTup (daC (dFnT 0 2 c_law_pick (daC (dTup (daC (dLit .none) (daC (dTup (daC (dLit (.int 1)) daN)) (daC (dTup (daC (dLit (.int 1)) (daC (dLit (.int 2)) (daC (dLit (.int 3)) daN)))) (daC (dLst (daC (dLit (.int 1)) (daC (dLit (.int 0)) daN))) (daC (dTup (daC (dLit (.bool true)) (daC (dLit (.int 0)) daN))) (daC (dLit (.int 3)) (daC (dLit (.str (PySem.Str.ofString "1"))) daN)))))))) daN)) daN))) (dSl (dVar 4) (doS (dOp fCat (dVar 5) (dLit (.int 1)))) doN)))
abbrev r_law_value_9 : Ws := (wRet (dOp fCat (dTup (daC (dFnT 0 2 c_law_pick (daC (dTup (daC (dLit (.int 2)) (daC (dU fNeg (dLit (.int 1))) (daC (dLit (.bool true)) (daC (dLit (.bool false)) (daC (dLit .none) (daC (dLit (.str (PySem.Str.ofString "0"))) daN))))))) daN)) daN)) (dSl (dVar 4) (doS (dLit (.int 1))) doN)))
abbrev r_law_value_11 : Ws := (wRet (dFnT 0 2 c_law_pick (daC (dTup (daC (dCal fList (daC (dVar 4) daN)) (daC (dSl (dVar 4) doN (doS (dLit (.int 4)))) (daC (dOp fCat (dVar 4) (dTup (daC (dTup (daC (dLit (.int 0)) (daC (dLit (.int 0)) daN))) daN))) (daC (dSl (dVar 4) (doS (dLit (.int 1))) doN) (daC (dLit .none) (daC (dLit (.int 0)) (daC (dTup daN) (daC (dLit (.str (PySem.Str.ofString "map"))) (daC dDct0 daN)))))))))) daN)))
abbrev r_law_value_13 : Ws := (wRet (dOp fCat (dTup (daC (dVar 1) daN)) (dFnT 0 2 c_law_pick (daC (dTup (daC (dU (fRepT 4) (dTup (daC (dTup (daC (dLit (.int 0)) (daC (dLit (.int 0)) daN))) daN))) (daC (dTup (daC (dTup (daC (dLit (.int 1)) (daC (dLit (.int 0)) daN))) (daC (dTup (daC (dLit (.int 1)) (daC (dLit (.int 0)) daN))) (daC (dTup (daC (dLit (.int 1)) (daC (dLit (.int 0)) daN))) (daC (dTup (daC (dLit (.int 1)) (daC (dLit (.int 0)) daN))) daN))))) (daC (dTup (daC (dTup (daC (dLit (.int 1)) (daC (dLit (.int 1)) daN))) (daC (dTup (daC (dLit (.int 2)) (daC (dLit (.int 0)) daN))) (daC (dTup (daC (dLit (.int 1)) (daC (dLit (.int 0)) daN))) (daC (dTup (daC (dLit (.int 1)) (daC (dU fNeg (dLit (.int 1))) daN))) daN))))) daN)))) daN))))
abbrev r_law_value_14 : Ws := (wRet (dIf (dTru (dOp fLt (dVar 3) (dLit (.int 7)))) (dOp fCat (dTup (daC (dVar 1) daN)) (dCal fTuple (daC (dVar 2) daN))) (dVar 4)))
abbrev r_law_value_12 : Ws := (wSeq (wIf (dTru (dOp fEq (dVar 3) (dLit (.int 4)))) r_law_value_13 wNx) r_law_value_14)
abbrev r_law_value_10 : Ws := (wSeq (wIf (dTru (dOp fEq (dVar 3) (dLit (.int 3)))) r_law_value_11 wNx) r_law_value_12)
abbrev r_law_value_8 : Ws := (wSeq (wIf (dTru (dOp fEq (dVar 3) (dLit (.int 2)))) r_law_value_9 wNx) r_law_value_10)
abbrev r_law_value_6 : Ws := (wSeq (wIf (dTru (dOp fEq (dVar 3) (dLit (.int 1)))) r_law_value_7 wNx) r_law_value_8)
abbrev r_law_value_3 : Ws := (wSeq (wIf (dTru (dOp fEq (dVar 3) (dLit (.int 0)))) r_law_value_4 wNx) r_law_value_6)
abbrev r_law_value_2 : Ws := (wSeq (wPar 4 5 (daC (dFn 2 c_law_map (daC (dVar 1) (daC (dVar 2) daN))) (daC (dOp fCat (dLit (.int 1)) (dFnT 0 2 c_law_draw (daC (dLit (.int 4)) daN))) daN))) r_law_value_3)
abbrev r_law_value_1 : Ws := (wSeq (wPar3 1 2 3 (daC (dFnT 0 2 c_law_draw (daC (dLit (.int 2)) daN)) (daC (dFnT 0 1 c_law_four daN) (daC (dFnT 0 2 c_law_draw (daC (dLit (.int 9)) daN)) daN)))) r_law_value_2)
def w_law_value : Ws := (wSeq (wPar3 1 2 3 (daC (dFnT 0 2 c_law_draw (daC (dLit (.int 2)) daN)) (daC (dFnT 0 1 c_law_four daN) (daC (dFnT 0 2 c_law_draw (daC (dLit (.int 9)) daN)) daN)))) (wSeq (wPar 4 5 (daC (dFn 2 c_law_map (daC (dVar 1) (daC (dVar 2) daN))) (daC (dOp fCat (dLit (.int 1)) (dFnT 0 2 c_law_draw (daC (dLit (.int 4)) daN))) daN))) (wSeq (wIf (dTru (dOp fEq (dVar 3) (dLit (.int 0)))) (wSeq (wAsg (dFnT 0 2 c_law_pick (daC (dTup (daC (dTup (daC (dLit (.int 0)) (daC (dLit (.int 1)) daN))) (daC (dTup (daC (dU fNeg (dLit (.int 1))) (daC (dLit (.int 0)) daN))) (daC (dTup (daC (dLit (.int 2)) (daC (dLit (.int 0)) daN))) (daC (dTup (daC (dLit (.int 1)) (daC (dLit (.int 1)) daN))) daN))))) daN)) (gN 6)) (wRet (dOp fCat (dTup (daC (dVar 1) daN)) (dCal fTuple (daC (dLc [7] (diT (dSl (dVar 4) (doS (dLit (.int 1))) doN)) (gN 7) dYes (dFn 2 c_law_times (daC (dVar 7) (daC (dVar 6) daN)))) daN))))) wNx) (wSeq (wIf (dTru (dOp fEq (dVar 3) (dLit (.int 1)))) (wRet (dOp fCat (dOp fCat (dSl (dVar 4) doN (doS (dVar 5))) (dTup (daC (dFnT 0 2 c_law_pick (daC (dTup (daC (dLit .none) (daC (dTup (daC (dLit (.int 1)) daN)) (daC (dTup (daC (dLit (.int 1)) (daC (dLit (.int 2)) (daC (dLit (.int 3)) daN)))) (daC (dLst (daC (dLit (.int 1)) (daC (dLit (.int 0)) daN))) (daC (dTup (daC (dLit (.bool true)) (daC (dLit (.int 0)) daN))) (daC (dLit (.int 3)) (daC (dLit (.str (PySem.Str.ofString "1"))) daN)))))))) daN)) daN))) (dSl (dVar 4) (doS (dOp fCat (dVar 5) (dLit (.int 1)))) doN))) wNx) (wSeq (wIf (dTru (dOp fEq (dVar 3) (dLit (.int 2)))) (wRet (dOp fCat (dTup (daC (dFnT 0 2 c_law_pick (daC (dTup (daC (dLit (.int 2)) (daC (dU fNeg (dLit (.int 1))) (daC (dLit (.bool true)) (daC (dLit (.bool false)) (daC (dLit .none) (daC (dLit (.str (PySem.Str.ofString "0"))) daN))))))) daN)) daN)) (dSl (dVar 4) (doS (dLit (.int 1))) doN))) wNx) (wSeq (wIf (dTru (dOp fEq (dVar 3) (dLit (.int 3)))) (wRet (dFnT 0 2 c_law_pick (daC (dTup (daC (dCal fList (daC (dVar 4) daN)) (daC (dSl (dVar 4) doN (doS (dLit (.int 4)))) (daC (dOp fCat (dVar 4) (dTup (daC (dTup (daC (dLit (.int 0)) (daC (dLit (.int 0)) daN))) daN))) (daC (dSl (dVar 4) (doS (dLit (.int 1))) doN) (daC (dLit .none) (daC (dLit (.int 0)) (daC (dTup daN) (daC (dLit (.str (PySem.Str.ofString "map"))) (daC dDct0 daN)))))))))) daN))) wNx) (wSeq (wIf (dTru (dOp fEq (dVar 3) (dLit (.int 4)))) (wRet (dOp fCat (dTup (daC (dVar 1) daN)) (dFnT 0 2 c_law_pick (daC (dTup (daC (dU (fRepT 4) (dTup (daC (dTup (daC (dLit (.int 0)) (daC (dLit (.int 0)) daN))) daN))) (daC (dTup (daC (dTup (daC (dLit (.int 1)) (daC (dLit (.int 0)) daN))) (daC (dTup (daC (dLit (.int 1)) (daC (dLit (.int 0)) daN))) (daC (dTup (daC (dLit (.int 1)) (daC (dLit (.int 0)) daN))) (daC (dTup (daC (dLit (.int 1)) (daC (dLit (.int 0)) daN))) daN))))) (daC (dTup (daC (dTup (daC (dLit (.int 1)) (daC (dLit (.int 1)) daN))) (daC (dTup (daC (dLit (.int 2)) (daC (dLit (.int 0)) daN))) (daC (dTup (daC (dLit (.int 1)) (daC (dLit (.int 0)) daN))) (daC (dTup (daC (dLit (.int 1)) (daC (dU fNeg (dLit (.int 1))) daN))) daN))))) daN)))) daN)))) wNx) (wRet (dIf (dTru (dOp fLt (dVar 3) (dLit (.int 7)))) (dOp fCat (dTup (daC (dVar 1) daN)) (dCal fTuple (daC (dVar 2) daN))) (dVar 4))))))))))
@[irreducible] noncomputable def q_law_value_5 : Ws := hid (wRet (dOp fCat (dTup (daC (dVar 1) daN)) (dCal fTuple (daC (dLc [7] (diT (dSl (dVar 4) (doS (dLit (.int 1))) doN)) (gN 7) dYes (dFn 2 c_law_times (daC (dVar 7) (daC (dVar 6) daN)))) daN))))
@[irreducible] noncomputable def q_law_value_4 : Ws := hid (wSeq (wAsg (dFnT 0 2 c_law_pick (daC (dTup (daC (dTup (daC (dLit (.int 0)) (daC (dLit (.int 1)) daN))) (daC (dTup (daC (dU fNeg (dLit (.int 1))) (daC (dLit (.int 0)) daN))) (daC (dTup (daC (dLit (.int 2)) (daC (dLit (.int 0)) daN))) (daC (dTup (daC (dLit (.int 1)) (daC (dLit (.int 1)) daN))) daN))))) daN)) (gN 6)) q_law_value_5)
@[irreducible] noncomputable def q_law_value_7 : Ws := hid (wRet (dOp fCat (dOp fCat (dSl (dVar 4) doN (doS (dVar 5))) (dTup (daC (dFnT 0 2 c_law_pick (daC (dTup (daC (dLit .none) (daC (dTup (daC (dLit (.int 1)) daN)) (daC (dTup (daC (dLit (.int 1)) (daC (dLit (.int 2)) (daC (dLit (.int 3)) daN)))) (daC (dLst (daC (dLit (.int 1)) (daC (dLit (.int 0)) daN))) (daC (dTup (daC (dLit (.bool true)) (daC (dLit (.int 0)) daN))) (daC (dLit (.int 3)) (daC (dLit (.str (PySem.Str.ofString "1"))) daN)))))))) daN)) daN))) (dSl (dVar 4) (doS (dOp fCat (dVar 5) (dLit (.int 1)))) doN)))
@[irreducible] noncomputable def q_law_value_9 : Ws := hid (wRet (dOp fCat (dTup (daC (dFnT 0 2 c_law_pick (daC (dTup (daC (dLit (.int 2)) (daC (dU fNeg (dLit (.int 1))) (daC (dLit (.bool true)) (daC (dLit (.bool false)) (daC (dLit .none) (daC (dLit (.str (PySem.Str.ofString "0"))) daN))))))) daN)) daN)) (dSl (dVar 4) (doS (dLit (.int 1))) doN)))
@[irreducible] noncomputable def q_law_value_11 : Ws := hid (wRet (dFnT 0 2 c_law_pick (daC (dTup (daC (dCal fList (daC (dVar 4) daN)) (daC (dSl (dVar 4) doN (doS (dLit (.int 4)))) (daC (dOp fCat (dVar 4) (dTup (daC (dTup (daC (dLit (.int 0)) (daC (dLit (.int 0)) daN))) daN))) (daC (dSl (dVar 4) (doS (dLit (.int 1))) doN) (daC (dLit .none) (daC (dLit (.int 0)) (daC (dTup daN) (daC (dLit (.str (PySem.Str.ofString "map"))) (daC dDct0 daN)))))))))) daN)))
@[irreducible] noncomputable def q_law_value_13 : Ws := hid (wRet (dOp fCat (dTup (daC (dVar 1) daN)) (dFnT 0 2 c_law_pick (daC (dTup (daC (dU (fRepT 4) (dTup (daC (dTup (daC (dLit (.int 0)) (daC (dLit (.int 0)) daN))) daN))) (daC (dTup (daC (dTup (daC (dLit (.int 1)) (daC (dLit (.int 0)) daN))) (daC (dTup (daC (dLit (.int 1)) (daC (dLit (.int 0)) daN))) (daC (dTup (daC (dLit (.int 1)) (daC (dLit (.int 0)) daN))) (daC (dTup (daC (dLit (.int 1)) (daC (dLit (.int 0)) daN))) daN))))) (daC (dTup (daC (dTup (daC (dLit (.int 1)) (daC (dLit (.int 1)) daN))) (daC (dTup (daC (dLit (.int 2)) (daC (dLit (.int 0)) daN))) (daC (dTup (daC (dLit (.int 1)) (daC (dLit (.int 0)) daN))) (daC (dTup (daC (dLit (.int 1)) (daC (dU fNeg (dLit (.int 1))) daN))) daN))))) daN)))) daN))))
@[irreducible] noncomputable def q_law_value_14 : Ws := hid (wRet (dIf (dTru (dOp fLt (dVar 3) (dLit (.int 7)))) (dOp fCat (dTup (daC (dVar 1) daN)) (dCal fTuple (daC (dVar 2) daN))) (dVar 4)))
@[irreducible] noncomputable def q_law_value_12 : Ws := hid (wSeq (wIf (dTru (dOp fEq (dVar 3) (dLit (.int 4)))) q_law_value_13 wNx) q_law_value_14)
@[irreducible] noncomputable def q_law_value_10 : Ws := hid (wSeq (wIf (dTru (dOp fEq (dVar 3) (dLit (.int 3)))) q_law_value_11 wNx) q_law_value_12)
@[irreducible] noncomputable def q_law_value_8 : Ws := hid (wSeq (wIf (dTru (dOp fEq (dVar 3) (dLit (.int 2)))) q_law_value_9 wNx) q_law_value_10)
@[irreducible] noncomputable def q_law_value_6 : Ws := hid (wSeq (wIf (dTru (dOp fEq (dVar 3) (dLit (.int 1)))) q_law_value_7 wNx) q_law_value_8)
@[irreducible] noncomputable def q_law_value_3 : Ws := hid (wSeq (wIf (dTru (dOp fEq (dVar 3) (dLit (.int 0)))) q_law_value_4 wNx) q_law_value_6)
@[irreducible] noncomputable def q_law_value_2 : Ws := hid (wSeq (wPar 4 5 (daC (dFn 2 c_law_map (daC (dVar 1) (daC (dVar 2) daN))) (daC (dOp fCat (dLit (.int 1)) (dFnT 0 2 c_law_draw (daC (dLit (.int 4)) daN))) daN))) q_law_value_3)
@[irreducible] noncomputable def q_law_value_1 : Ws := hid (wSeq (wPar3 1 2 3 (daC (dFnT 0 2 c_law_draw (daC (dLit (.int 2)) daN)) (daC (dFnT 0 1 c_law_four daN) (daC (dFnT 0 2 c_law_draw (daC (dLit (.int 9)) daN)) daN)))) q_law_value_2)
theorem e_law_value : w_law_value = q_law_value_1 := by delta q_law_value_1 q_law_value_2 q_law_value_3 q_law_value_6 q_law_value_8 q_law_value_10 q_law_value_12 q_law_value_14 q_law_value_13 q_law_value_11 q_law_value_9 q_law_value_7 q_law_value_4 q_law_value_5; simp only [hid_eq]; with_unfolding_all rfl
theorem okm_of {xs : List PyData} (hl : xs.length ≤ 1000) (h : ∀ x ∈ xs, okd x = true ∧ okd (.tuple [x]) = true) : okm (.tuple xs) = true := by
  show (Nat.ble xs.length 1000 && xs.all fun x => okd x && okd (.tuple [x])) = true
  rw [Bool.and_eq_true]
  exact ⟨Nat.ble_eq_true_of_le hl, List.all_eq_true.mpr fun x m => Bool.and_eq_true_iff.mpr (h x m)⟩
def El (x : PyData) : Prop := okd x = true ∧ okd (.tuple [x]) = true
theorem el_cd (p : G) : El (cd p) := ⟨rfl, by first | rfl | with_unfolding_all rfl⟩
theorem el_i (i : Int) : El (.int i) := ⟨rfl, rfl⟩
theorem sh_no {x0 x1 x2 x3 x4 : PyData} (h : (areW x1 2 && (areW x2 2 && (areW x3 2 && areW x4 2))) = false) : shM (.tuple [x0, x1, x2, x3, x4]) = false := by
  show (flg x0 && _) = false
  rw [h, Bool.and_false]
theorem mv5 {x0 x1 x2 x3 x4 : PyData} (h0 : El x0) (h1 : El x1) (h2 : El x2) (h3 : El x3) (h4 : El x4) (n : shM (.tuple [x0, x1, x2, x3, x4]) = false) : MV (.tuple [x0, x1, x2, x3, x4]) := .inr ⟨okm_of (Nat.le_of_ble_eq_true rfl) fun x m => by
  simp only [List.mem_cons, List.not_mem_nil, or_false] at m
  rcases m with rfl | rfl | rfl | rfl | rfl <;> assumption, n⟩
theorem sem_law_value : ∀ ts ds R, c_law_value ts ds R → ds.length = 0 → w_law_value (edT R) (some (.own ts) :: ev0 7 ds) := by
  intro ts ds R h _
  obtain ⟨n0, tk, hb, rfl, q⟩ := h
  rw [e_law_value]; (show q_law_value_1 _ [_, _, _, _, _, _, _, _]; delta q_law_value_1; refine hid_of ?_)
  refine ⟨rfl, n0, 2, tk, by omega, rfl, by decide, by decide, fun f ts1 f0 f1 tk1 => ?_⟩
  refine ⟨rfl, n0 + 1, tk1, by omega, rfl, fun a b c d ts2 S dt tk2 => ?_⟩
  refine ⟨rfl, n0 + 1 + 50, 9, tk2, by omega, rfl, by decide, by decide, fun way ts3 w0 w1 tk3 => ?_⟩
  have hf : f = 0 ∨ f = 1 := by omega
  (show q_law_value_2 _ [_, _, _, _, _, _, _, _]; delta q_law_value_2; refine hid_of ?_)
  have S : S44 4 (⟨a, b, c, d⟩ : M4) := S
  have dt : (⟨a, b, c, d⟩ : M4).dt ≠ 0 := dt
  have F := nrm_fm S dt
  generalize eU : nrm ⟨a, b, c, d⟩ = U at *
  refine ⟨rfl, law_map_ok S (by decide) dt eU ⟨rfl, n0 + 1 + 50 + 1, 4, tk3, by omega, rfl, by decide, by decide, fun at' ts4 a0 a1 tk4 => ?_⟩⟩
  (show q_law_value_3 _ [_, _, _, _, _, _, _, _]; delta q_law_value_3; refine hid_of ?_)
  have T4 : Tk (n0 + 60) ts4 := tk4.up (by omega)
  have FS : S44 5 U := F.sz
  have mv : ∀ (B : M4), S44 60 B → MV (mp4 f B) := fun B s => .inl ⟨f, B, rfl, hf, s⟩
  refine ⟨Or.inr ⟨rfl, rfl⟩, trivial, ?_⟩
  rw [eqv_int]
  refine ite_b (fun w => ?_) (fun w => ?_)
  · (show q_law_value_4 _ [_, _, _, _, _, _, _, _]; delta q_law_value_4; refine hid_of ?_)
    walk_at "ob"
    refine ⟨n0 + 60, _, T4, by omega, Or.inl rfl, Nat.le_of_ble_eq_true rfl, Nat.le_of_ble_eq_true rfl, fun x ts5 hx tk5 => ?_⟩
    have hx' : ∃ t : G, x = cd t ∧ GS 2 t := by
      simp only [List.mem_cons, List.not_mem_nil, or_false] at hx
      rcases hx with rfl | rfl | rfl | rfl
      · exact ⟨(0, 1), rfl, ⟨by decide⟩, ⟨by decide⟩⟩
      · exact ⟨(-1, 0), rfl, ⟨by decide⟩, ⟨by decide⟩⟩
      · exact ⟨(2, 0), rfl, ⟨by decide⟩, ⟨by decide⟩⟩
      · exact ⟨(1, 1), rfl, ⟨by decide⟩, ⟨by decide⟩⟩
    obtain ⟨t, rfl, ht⟩ := hx'
    (show q_law_value_5 _ [_, _, _, _, _, _, _, _]; delta q_law_value_5; refine hid_of ?_)
    haveI : GS 5 U.a := ⟨FS.a1, FS.a2⟩
    haveI : GS 5 U.b := ⟨FS.b1, FS.b2⟩
    haveI : GS 5 U.c := ⟨FS.c1, FS.c2⟩
    haveI : GS 5 U.d := ⟨FS.d1, FS.d2⟩
    refine ⟨Nat.le_of_ble_eq_true rfl, ?_⟩
    refine lc_map (f := fun d => cd (gm (toG d) t)) rfl ?_ (fun d hd R r => ?_) ?_
    · exact Nat.le_of_ble_eq_true rfl
    · have hd : d ∈ [cd U.a, cd U.b, cd U.c, cd U.d] := hd
      simp only [List.mem_cons, List.not_mem_nil, or_false] at hd
      rcases hd with rfl | rfl | rfl | rfl <;> exact ⟨rfl, ltimes_ok (by decide) (by decide) r⟩
    refine ⟨Nat.le_of_ble_eq_true rfl, ?_⟩
    refine q (mp4 f ⟨gm U.a t, gm U.b t, gm U.c t, gm U.d t⟩) ts5 (mv _ ?_) (tk5.up (by omega))
    exact ⟨szUp (inferInstance : Sz _ (U.a.1 * t.1 - U.a.2 * t.2)) (by decide), szUp (inferInstance : Sz _ (U.a.1 * t.2 + U.a.2 * t.1)) (by decide), szUp (inferInstance : Sz _ (U.b.1 * t.1 - U.b.2 * t.2)) (by decide), szUp (inferInstance : Sz _ (U.b.1 * t.2 + U.b.2 * t.1)) (by decide), szUp (inferInstance : Sz _ (U.c.1 * t.1 - U.c.2 * t.2)) (by decide), szUp (inferInstance : Sz _ (U.c.1 * t.2 + U.c.2 * t.1)) (by decide), szUp (inferInstance : Sz _ (U.d.1 * t.1 - U.d.2 * t.2)) (by decide), szUp (inferInstance : Sz _ (U.d.1 * t.2 + U.d.2 * t.1)) (by decide)⟩
  (show q_law_value_6 _ [_, _, _, _, _, _, _, _]; delta q_law_value_6; refine hid_of ?_)
  refine ⟨Or.inr ⟨rfl, rfl⟩, trivial, ?_⟩
  rw [eqv_int]
  refine ite_b (fun w => ?_) (fun w => ?_)
  · have hk : at' = 0 ∨ at' = 1 ∨ at' = 2 ∨ at' = 3 := by omega
    have vv : ∀ x ∈ [PyData.none, .tuple [.int 1], .tuple [.int 1, .int 2, .int 3], .list [.int 1, .int 0], .tuple [.bool true, .int 0], .int 3, .str (PySem.Str.ofString "1")], El x ∧ areW x 2 = false := fun x hx => by
      simp only [List.mem_cons, List.not_mem_nil, or_false] at hx
      rcases hx with rfl | rfl | rfl | rfl | rfl | rfl | rfl <;> exact ⟨⟨by first | rfl | with_unfolding_all rfl, by first | rfl | with_unfolding_all rfl⟩, rfl⟩
    rcases hk with rfl | rfl | rfl | rfl
    · (show q_law_value_7 _ [_, _, _, _, _, _, _, _]; delta q_law_value_7; refine hid_of ?_)
      walk_at "ob"
      refine ⟨n0 + 60, _, T4, by omega, Or.inl rfl, Nat.le_of_ble_eq_true rfl, Nat.le_of_ble_eq_true rfl, fun x ts5 hx tk5 => ?_⟩
      obtain ⟨ex, nx⟩ := vv x hx
      walk_at "ob"
      exact q _ ts5 (mv5 (el_i f) (ex) (el_cd _) (el_cd _) (el_cd _) (sh_no (by rw [nx]; rfl))) (tk5.up (by omega))
    · (show q_law_value_7 _ [_, _, _, _, _, _, _, _]; delta q_law_value_7; refine hid_of ?_)
      walk_at "ob"
      refine ⟨n0 + 60, _, T4, by omega, Or.inl rfl, Nat.le_of_ble_eq_true rfl, Nat.le_of_ble_eq_true rfl, fun x ts5 hx tk5 => ?_⟩
      obtain ⟨ex, nx⟩ := vv x hx
      walk_at "ob"
      exact q _ ts5 (mv5 (el_i f) (el_cd _) (ex) (el_cd _) (el_cd _) (sh_no (by rw [nx]; rfl))) (tk5.up (by omega))
    · (show q_law_value_7 _ [_, _, _, _, _, _, _, _]; delta q_law_value_7; refine hid_of ?_)
      walk_at "ob"
      refine ⟨n0 + 60, _, T4, by omega, Or.inl rfl, Nat.le_of_ble_eq_true rfl, Nat.le_of_ble_eq_true rfl, fun x ts5 hx tk5 => ?_⟩
      obtain ⟨ex, nx⟩ := vv x hx
      walk_at "ob"
      exact q _ ts5 (mv5 (el_i f) (el_cd _) (el_cd _) (ex) (el_cd _) (sh_no (by rw [nx]; rfl))) (tk5.up (by omega))
    · (show q_law_value_7 _ [_, _, _, _, _, _, _, _]; delta q_law_value_7; refine hid_of ?_)
      walk_at "ob"
      refine ⟨n0 + 60, _, T4, by omega, Or.inl rfl, Nat.le_of_ble_eq_true rfl, Nat.le_of_ble_eq_true rfl, fun x ts5 hx tk5 => ?_⟩
      obtain ⟨ex, nx⟩ := vv x hx
      walk_at "ob"
      exact q _ ts5 (mv5 (el_i f) (el_cd _) (el_cd _) (el_cd _) (ex) (sh_no (by rw [nx]; rfl))) (tk5.up (by omega))
  (show q_law_value_8 _ [_, _, _, _, _, _, _, _]; delta q_law_value_8; refine hid_of ?_)
  refine ⟨Or.inr ⟨rfl, rfl⟩, trivial, ?_⟩
  rw [eqv_int]
  refine ite_b (fun w => ?_) (fun w => ?_)
  · (show q_law_value_9 _ [_, _, _, _, _, _, _, _]; delta q_law_value_9; refine hid_of ?_)
    walk_at "ob"
    refine ⟨n0 + 60, _, T4, by omega, Or.inl rfl, Nat.le_of_ble_eq_true rfl, Nat.le_of_ble_eq_true rfl, fun x ts5 hx tk5 => ?_⟩
    have ex : El x ∧ flg x = false := by
      simp only [List.mem_cons, List.not_mem_nil, or_false] at hx
      rcases hx with rfl | rfl | rfl | rfl | rfl | rfl <;> exact ⟨⟨by first | rfl | with_unfolding_all rfl, by first | rfl | with_unfolding_all rfl⟩, by decide⟩
    obtain ⟨ex, nx⟩ := ex
    walk_at "ob"
    exact q _ ts5 (mv5 ex (el_cd _) (el_cd _) (el_cd _) (el_cd _) (by show (flg x && _) = false; rw [nx]; rfl)) (tk5.up (by omega))
  (show q_law_value_10 _ [_, _, _, _, _, _, _, _]; delta q_law_value_10; refine hid_of ?_)
  refine ⟨Or.inr ⟨rfl, rfl⟩, trivial, ?_⟩
  rw [eqv_int]
  refine ite_b (fun w => ?_) (fun w => ?_)
  · (show q_law_value_11 _ [_, _, _, _, _, _, _, _]; delta q_law_value_11; refine hid_of ?_)
    walk_at "ob"
    refine ⟨n0 + 60, _, T4, by omega, Or.inl rfl, Nat.le_of_ble_eq_true rfl, Nat.le_of_ble_eq_true rfl, fun x ts5 hx tk5 => q x ts5 ?_ (tk5.up (by omega))⟩
    simp only [List.mem_cons, List.not_mem_nil, or_false] at hx
    have ot : ∀ {xs : List PyData}, xs.length ≤ 1000 → (∀ x ∈ xs, El x) → shM (.tuple xs) = false → MV (.tuple xs) := fun hl h n => .inr ⟨okm_of hl h, n⟩
    have all6 : ∀ x ∈ [PyData.int f, cd U.a, cd U.b, cd U.c, cd U.d, .tuple [.int 0, .int 0]], El x := fun x hx => by
      simp only [List.mem_cons, List.not_mem_nil, or_false] at hx
      rcases hx with rfl | rfl | rfl | rfl | rfl | rfl
      · exact el_i f
      · exact el_cd _
      · exact el_cd _
      · exact el_cd _
      · exact el_cd _
      · exact el_cd (0, 0)
    rcases hx with rfl | rfl | rfl | rfl | rfl | rfl | rfl | rfl | rfl
    · exact .inr ⟨rfl, rfl⟩
    · exact ot (xs := [.int f, cd U.a, cd U.b, cd U.c]) (Nat.le_of_ble_eq_true rfl) (fun x m => all6 x (by simp only [List.mem_cons, List.not_mem_nil, or_false] at m ⊢; rcases m with m | m | m | m <;> simp [m])) rfl
    · exact ot (xs := [.int f, cd U.a, cd U.b, cd U.c, cd U.d, .tuple [.int 0, .int 0]]) (Nat.le_of_ble_eq_true rfl) all6 rfl
    · exact ot (xs := [cd U.a, cd U.b, cd U.c, cd U.d]) (Nat.le_of_ble_eq_true rfl) (fun x m => all6 x (by simp only [List.mem_cons, List.not_mem_nil, or_false] at m ⊢; rcases m with m | m | m | m <;> simp [m])) rfl
    · exact .inr ⟨rfl, rfl⟩
    · exact .inr ⟨rfl, rfl⟩
    · exact ot (xs := []) (Nat.le_of_ble_eq_true rfl) (fun x m => by cases m) rfl
    · exact .inr ⟨rfl, rfl⟩
    · exact .inr ⟨rfl, rfl⟩
  (show q_law_value_12 _ [_, _, _, _, _, _, _, _]; delta q_law_value_12; refine hid_of ?_)
  refine ⟨Or.inr ⟨rfl, rfl⟩, trivial, ?_⟩
  rw [eqv_int]
  refine ite_b (fun w => ?_) (fun w => ?_)
  · (show q_law_value_13 _ [_, _, _, _, _, _, _, _]; delta q_law_value_13; refine hid_of ?_)
    walk_at "ob"
    refine ⟨⟨by decide, by decide, by decide, by decide⟩, ?_⟩
    walk_at "ob"
    refine ⟨n0 + 60, _, T4, by omega, Or.inl rfl, Nat.le_of_ble_eq_true rfl, Nat.le_of_ble_eq_true rfl, fun x ts5 hx tk5 => ?_⟩
    have ex : ∃ B : M4, x = q4 B.a B.b B.c B.d ∧ S44 60 B := by
      have s1 : ∀ {i : Int}, i.natAbs ≤ 9 → Sz 60 i := fun h => szUp (n := 4) ⟨by omega⟩ (by decide)
      simp only [List.mem_cons, List.not_mem_nil, or_false] at hx
      rcases hx with rfl | rfl | rfl
      · exact ⟨⟨(0, 0), (0, 0), (0, 0), (0, 0)⟩, rfl, s1 (by decide), s1 (by decide), s1 (by decide), s1 (by decide), s1 (by decide), s1 (by decide), s1 (by decide), s1 (by decide)⟩
      · exact ⟨⟨(1, 0), (1, 0), (1, 0), (1, 0)⟩, rfl, s1 (by decide), s1 (by decide), s1 (by decide), s1 (by decide), s1 (by decide), s1 (by decide), s1 (by decide), s1 (by decide)⟩
      · exact ⟨⟨(1, 1), (2, 0), (1, 0), (1, -1)⟩, rfl, s1 (by decide), s1 (by decide), s1 (by decide), s1 (by decide), s1 (by decide), s1 (by decide), s1 (by decide), s1 (by decide)⟩
    obtain ⟨B, rfl, sB⟩ := ex
    walk_at "ob"
    exact q (mp4 f B) ts5 (mv _ sB) (tk5.up (by omega))
  (show q_law_value_14 _ [_, _, _, _, _, _, _, _]; delta q_law_value_14; refine hid_of ?_)
  refine ⟨trivial, trivial, ?_⟩
  refine ite_b (fun w => ?_) (fun w => ?_)
  · walk_at "ob"
    exact q (mp4 f ⟨a, b, c, d⟩) ts4 (mv _ (S.up (by decide))) (T4.up (by omega))
  · exact q (mp4 f U) ts4 (mv _ (FS.up (by decide))) (T4.up (by omega))
/-! ## law_right -/
abbrev r_law_right_5 : Ws := (wRet (dLit (.bool false)))
abbrev r_law_right_7 : Ws := (wRet (dLit (.bool false)))
abbrev r_law_right_11 : Ws := (wRet (dLit (.bool false)))
abbrev r_law_right_16 : Ws := (wRet (dLit (.bool false)))
abbrev r_law_right_15 : Ws := (wIf (dTru (dOp fNe (dCal fRepr (daC (dLst (daC (dFn 1 c_is_map (daC (dVar 9) daN)) (daC (dFn 1 c_is_map (daC (dVar 9) daN)) daN))) daN)) (dCal fRepr (daC (dLst (daC (dVar 10) (daC (dVar 10) daN))) daN)))) r_law_right_16 wNx)
abbrev r_law_right_14 : Ws := (wSeq (wAsg (dFn 1 c_law_is_map (daC (dVar 9) daN)) (gN 10)) r_law_right_15)
abbrev r_law_right_13 : Ws := (wSeq (wAsg (dFnT 0 1 c_law_value daN) (gN 9)) r_law_right_14)
abbrev r_law_right_17 : Ws := (wRet (dLit (.bool true)))
abbrev r_law_right_12 : Ws := (wSeq (wFor (diR1 (daC (dLit (.int 4)) daN)) (gN 8) r_law_right_13) r_law_right_17)
abbrev r_law_right_10 : Ws := (wSeq (wIf (dOrT (dNotT (dTru (dFn 2 c_law_is_refused (daC (dVar 1) (daC (dVar 7) daN))))) (dNotT (dTru (dFn 2 c_law_is_refused (daC (dVar 1) (daC (dLst (daC (dTup (daC (dLit (.int 0)) (daC (dLit (.int 0)) daN))) (daC (dVar 5) (daC (dTup (daC (dLit (.int 0)) (daC (dLit (.int 0)) daN))) (daC (dVar 6) daN))))) daN)))))) r_law_right_11 wNx) r_law_right_12)
abbrev r_law_right_9 : Ws := (wSeq (wAsg (dLst (daC (dOp fIx (dVar 4) (dLit (.int 0))) (daC (dOp fIx (dVar 4) (dLit (.int 1))) (daC (dFn 2 c_law_times (daC (dOp fIx (dVar 4) (dLit (.int 0))) (daC (dVar 6) daN))) (daC (dFn 2 c_law_times (daC (dOp fIx (dVar 4) (dLit (.int 1))) (daC (dVar 6) daN))) daN))))) (gN 7)) r_law_right_10)
abbrev r_law_right_8 : Ws := (wSeq (wPar 5 6 (daC (dFnT 0 1 c_law_complex daN) (daC (dFnT 0 1 c_law_little daN) daN))) r_law_right_9)
abbrev r_law_right_6 : Ws := (wSeq (wIf (dAndT (dTru (dOp fNe (dFn 1 c_law_det (daC (dVar 4) daN)) (dTup (daC (dLit (.int 0)) (daC (dLit (.int 0)) daN))))) (dNotT (dTru (dFn 3 c_law_form_right (daC (dVar 1) (daC (dVar 4) (daC (dVar 3) daN))))))) r_law_right_7 wNx) r_law_right_8)
abbrev r_law_right_4 : Ws := (wSeq (wIf (dNotT (dTru (dFn 3 c_law_form_right (daC (dVar 1) (daC (dVar 2) (daC (dVar 3) daN)))))) r_law_right_5 wNx) r_law_right_6)
abbrev r_law_right_3 : Ws := (wSeq (wAsg (dLst (daC (dFnT 0 1 c_law_complex daN) (daC (dFnT 0 1 c_law_complex daN) (daC (dFnT 0 1 c_law_complex daN) (daC (dFnT 0 1 c_law_complex daN) daN))))) (gN 4)) r_law_right_4)
abbrev r_law_right_2 : Ws := (wSeq (wAsg (dIf (dTru (dOp fNe (dVar 3) (dTup (daC (dLit (.int 0)) (daC (dLit (.int 0)) daN))))) (dVar 3) (dTup (daC (dLit (.int 0)) (daC (dU fNeg (dLit (.int 2))) daN)))) (gN 3)) r_law_right_3)
abbrev r_law_right_1 : Ws := (wSeq (wPar3 1 2 3 (daC (dFnT 0 2 c_law_draw (daC (dLit (.int 2)) daN)) (daC (dFnT 0 1 c_law_four daN) (daC (dFnT 0 1 c_law_complex daN) daN)))) r_law_right_2)
def w_law_right : Ws := (wSeq (wPar3 1 2 3 (daC (dFnT 0 2 c_law_draw (daC (dLit (.int 2)) daN)) (daC (dFnT 0 1 c_law_four daN) (daC (dFnT 0 1 c_law_complex daN) daN)))) (wSeq (wAsg (dIf (dTru (dOp fNe (dVar 3) (dTup (daC (dLit (.int 0)) (daC (dLit (.int 0)) daN))))) (dVar 3) (dTup (daC (dLit (.int 0)) (daC (dU fNeg (dLit (.int 2))) daN)))) (gN 3)) (wSeq (wAsg (dLst (daC (dFnT 0 1 c_law_complex daN) (daC (dFnT 0 1 c_law_complex daN) (daC (dFnT 0 1 c_law_complex daN) (daC (dFnT 0 1 c_law_complex daN) daN))))) (gN 4)) (wSeq (wIf (dNotT (dTru (dFn 3 c_law_form_right (daC (dVar 1) (daC (dVar 2) (daC (dVar 3) daN)))))) (wRet (dLit (.bool false))) wNx) (wSeq (wIf (dAndT (dTru (dOp fNe (dFn 1 c_law_det (daC (dVar 4) daN)) (dTup (daC (dLit (.int 0)) (daC (dLit (.int 0)) daN))))) (dNotT (dTru (dFn 3 c_law_form_right (daC (dVar 1) (daC (dVar 4) (daC (dVar 3) daN))))))) (wRet (dLit (.bool false))) wNx) (wSeq (wPar 5 6 (daC (dFnT 0 1 c_law_complex daN) (daC (dFnT 0 1 c_law_little daN) daN))) (wSeq (wAsg (dLst (daC (dOp fIx (dVar 4) (dLit (.int 0))) (daC (dOp fIx (dVar 4) (dLit (.int 1))) (daC (dFn 2 c_law_times (daC (dOp fIx (dVar 4) (dLit (.int 0))) (daC (dVar 6) daN))) (daC (dFn 2 c_law_times (daC (dOp fIx (dVar 4) (dLit (.int 1))) (daC (dVar 6) daN))) daN))))) (gN 7)) (wSeq (wIf (dOrT (dNotT (dTru (dFn 2 c_law_is_refused (daC (dVar 1) (daC (dVar 7) daN))))) (dNotT (dTru (dFn 2 c_law_is_refused (daC (dVar 1) (daC (dLst (daC (dTup (daC (dLit (.int 0)) (daC (dLit (.int 0)) daN))) (daC (dVar 5) (daC (dTup (daC (dLit (.int 0)) (daC (dLit (.int 0)) daN))) (daC (dVar 6) daN))))) daN)))))) (wRet (dLit (.bool false))) wNx) (wSeq (wFor (diR1 (daC (dLit (.int 4)) daN)) (gN 8) (wSeq (wAsg (dFnT 0 1 c_law_value daN) (gN 9)) (wSeq (wAsg (dFn 1 c_law_is_map (daC (dVar 9) daN)) (gN 10)) (wIf (dTru (dOp fNe (dCal fRepr (daC (dLst (daC (dFn 1 c_is_map (daC (dVar 9) daN)) (daC (dFn 1 c_is_map (daC (dVar 9) daN)) daN))) daN)) (dCal fRepr (daC (dLst (daC (dVar 10) (daC (dVar 10) daN))) daN)))) (wRet (dLit (.bool false))) wNx)))) (wRet (dLit (.bool true))))))))))))
@[irreducible] noncomputable def q_law_right_5 : Ws := hid (wRet (dLit (.bool false)))
@[irreducible] noncomputable def q_law_right_7 : Ws := hid (wRet (dLit (.bool false)))
@[irreducible] noncomputable def q_law_right_11 : Ws := hid (wRet (dLit (.bool false)))
@[irreducible] noncomputable def q_law_right_16 : Ws := hid (wRet (dLit (.bool false)))
@[irreducible] noncomputable def q_law_right_15 : Ws := hid (wIf (dTru (dOp fNe (dCal fRepr (daC (dLst (daC (dFn 1 c_is_map (daC (dVar 9) daN)) (daC (dFn 1 c_is_map (daC (dVar 9) daN)) daN))) daN)) (dCal fRepr (daC (dLst (daC (dVar 10) (daC (dVar 10) daN))) daN)))) q_law_right_16 wNx)
@[irreducible] noncomputable def q_law_right_14 : Ws := hid (wSeq (wAsg (dFn 1 c_law_is_map (daC (dVar 9) daN)) (gN 10)) q_law_right_15)
@[irreducible] noncomputable def q_law_right_13 : Ws := hid (wSeq (wAsg (dFnT 0 1 c_law_value daN) (gN 9)) q_law_right_14)
@[irreducible] noncomputable def q_law_right_17 : Ws := hid (wRet (dLit (.bool true)))
@[irreducible] noncomputable def q_law_right_12 : Ws := hid (wSeq (wFor (diR1 (daC (dLit (.int 4)) daN)) (gN 8) q_law_right_13) q_law_right_17)
@[irreducible] noncomputable def q_law_right_10 : Ws := hid (wSeq (wIf (dOrT (dNotT (dTru (dFn 2 c_law_is_refused (daC (dVar 1) (daC (dVar 7) daN))))) (dNotT (dTru (dFn 2 c_law_is_refused (daC (dVar 1) (daC (dLst (daC (dTup (daC (dLit (.int 0)) (daC (dLit (.int 0)) daN))) (daC (dVar 5) (daC (dTup (daC (dLit (.int 0)) (daC (dLit (.int 0)) daN))) (daC (dVar 6) daN))))) daN)))))) q_law_right_11 wNx) q_law_right_12)
@[irreducible] noncomputable def q_law_right_9 : Ws := hid (wSeq (wAsg (dLst (daC (dOp fIx (dVar 4) (dLit (.int 0))) (daC (dOp fIx (dVar 4) (dLit (.int 1))) (daC (dFn 2 c_law_times (daC (dOp fIx (dVar 4) (dLit (.int 0))) (daC (dVar 6) daN))) (daC (dFn 2 c_law_times (daC (dOp fIx (dVar 4) (dLit (.int 1))) (daC (dVar 6) daN))) daN))))) (gN 7)) q_law_right_10)
@[irreducible] noncomputable def q_law_right_8 : Ws := hid (wSeq (wPar 5 6 (daC (dFnT 0 1 c_law_complex daN) (daC (dFnT 0 1 c_law_little daN) daN))) q_law_right_9)
@[irreducible] noncomputable def q_law_right_6 : Ws := hid (wSeq (wIf (dAndT (dTru (dOp fNe (dFn 1 c_law_det (daC (dVar 4) daN)) (dTup (daC (dLit (.int 0)) (daC (dLit (.int 0)) daN))))) (dNotT (dTru (dFn 3 c_law_form_right (daC (dVar 1) (daC (dVar 4) (daC (dVar 3) daN))))))) q_law_right_7 wNx) q_law_right_8)
@[irreducible] noncomputable def q_law_right_4 : Ws := hid (wSeq (wIf (dNotT (dTru (dFn 3 c_law_form_right (daC (dVar 1) (daC (dVar 2) (daC (dVar 3) daN)))))) q_law_right_5 wNx) q_law_right_6)
@[irreducible] noncomputable def q_law_right_3 : Ws := hid (wSeq (wAsg (dLst (daC (dFnT 0 1 c_law_complex daN) (daC (dFnT 0 1 c_law_complex daN) (daC (dFnT 0 1 c_law_complex daN) (daC (dFnT 0 1 c_law_complex daN) daN))))) (gN 4)) q_law_right_4)
@[irreducible] noncomputable def q_law_right_2 : Ws := hid (wSeq (wAsg (dIf (dTru (dOp fNe (dVar 3) (dTup (daC (dLit (.int 0)) (daC (dLit (.int 0)) daN))))) (dVar 3) (dTup (daC (dLit (.int 0)) (daC (dU fNeg (dLit (.int 2))) daN)))) (gN 3)) q_law_right_3)
@[irreducible] noncomputable def q_law_right_1 : Ws := hid (wSeq (wPar3 1 2 3 (daC (dFnT 0 2 c_law_draw (daC (dLit (.int 2)) daN)) (daC (dFnT 0 1 c_law_four daN) (daC (dFnT 0 1 c_law_complex daN) daN)))) q_law_right_2)
theorem e_law_right : w_law_right = q_law_right_1 := by delta q_law_right_1 q_law_right_2 q_law_right_3 q_law_right_4 q_law_right_6 q_law_right_8 q_law_right_9 q_law_right_10 q_law_right_12 q_law_right_17 q_law_right_13 q_law_right_14 q_law_right_15 q_law_right_16 q_law_right_11 q_law_right_7 q_law_right_5; simp only [hid_eq]; with_unfolding_all rfl
theorem sem_law_right : ∀ ts ds R, c_law_right ts ds R → ds.length = 0 → w_law_right (edT R) (some (.own ts) :: ev0 10 ds) := by
  intro ts ds R h _
  obtain ⟨n0, tk, hb, rfl, q⟩ := h
  have e0 : ∀ x : G, PyData.eqv (cd x) (.tuple [.int 0, .int 0]) = decide (x = (0, 0)) := fun x => eqv_cd x (0, 0)
  rw [e_law_right]; (show q_law_right_1 _ [_, _, _, _, _, _, _, _, _, _, _]; delta q_law_right_1; refine hid_of ?_)
  refine ⟨rfl, n0, 2, tk, by omega, rfl, by decide, by decide, fun f ts1 f0 f1 tk1 => ⟨rfl, n0 + 1, tk1, by omega, rfl, fun a b c d ts2 S dt tk2 => ⟨rfl, n0 + 1 + 50, tk2, by omega, rfl, fun x y ts3 sx sy tk3 => ?_⟩⟩⟩
  have hf : f = 0 ∨ f = 1 := by omega
  have S : S44 4 (⟨a, b, c, d⟩ : M4) := S
  have dt : (⟨a, b, c, d⟩ : M4).dt ≠ 0 := dt
  have h1 : GS 45 ((x, y) : G) := ⟨szUp sx (by decide), szUp sy (by decide)⟩
  generalize ((x, y) : G) = r at *
  have rest : ∀ r : G, GS 45 r → r ≠ (0, 0) → q_law_right_3 (edT R) [some (.own ts3), some (.val (.int f)), some (.val (.list [cd a, cd b, cd c, cd d])), some (.val (cd r)), none, none, none, none, none, none, none] := fun r hr r0 => by
    (show q_law_right_3 _ [_, _, _, _, _, _, _, _, _, _, _]; delta q_law_right_3; refine hid_of ?_)
    refine ⟨rfl, n0 + 1 + 50 + 8, tk3, by omega, rfl, fun x1 y1 ts4 s1 t1 tk4 => ⟨rfl, _, tk4, by omega, rfl, fun x2 y2 ts5 s2 t2 tk5 => ⟨rfl, _, tk5, by omega, rfl, fun x3 y3 ts6 s3 t3 tk6 => ⟨rfl, _, tk6, by omega, rfl, fun x4 y4 ts7 s4 t4 tk7 => ?_⟩⟩⟩⟩
    have G1 : GS 42 ((x1, y1) : G) := ⟨s1, t1⟩
    have G2 : GS 42 ((x2, y2) : G) := ⟨s2, t2⟩
    have G3 : GS 42 ((x3, y3) : G) := ⟨s3, t3⟩
    have G4 : GS 42 ((x4, y4) : G) := ⟨s4, t4⟩
    generalize ((x1, y1) : G) = g1 at *
    generalize ((x2, y2) : G) = g2 at *
    generalize ((x3, y3) : G) = g3 at *
    generalize ((x4, y4) : G) = g4 at *
    walk_at "ob"
    (show q_law_right_4 _ [_, _, _, _, _, _, _, _, _, _, _]; delta q_law_right_4; refine hid_of ?_)
    refine ⟨rfl, f, ⟨a, b, c, d⟩, r, rfl, hf, S.up (by decide), hr, dt, r0, trivial, ite_f rfl ?_⟩
    (show q_law_right_6 _ [_, _, _, _, _, _, _, _, _, _, _]; delta q_law_right_6; refine hid_of ?_)
    have SG : S44 45 (⟨g1, g2, g3, g4⟩ : M4) := ⟨szUp G1.a (by decide), szUp G1.b (by decide), szUp G2.a (by decide), szUp G2.b (by decide), szUp G3.a (by decide), szUp G3.b (by decide), szUp G4.a (by decide), szUp G4.b (by decide)⟩
    refine ⟨rfl, g1, g2, g3, g4, .inl rfl, SG.up (by decide), Nat.le_of_ble_eq_true rfl, Or.inr ⟨rfl, rfl⟩, trivial, ?_⟩
    rw [e0]
    have next : q_law_right_8 (edT R) [some (.own ts7), some (.val (.int f)), some (.val (.list [cd a, cd b, cd c, cd d])), some (.val (cd r)), some (.val (.list [cd g1, cd g2, cd g3, cd g4])), none, none, none, none, none, none] := by
      (show q_law_right_8 _ [_, _, _, _, _, _, _, _, _, _, _]; delta q_law_right_8; refine hid_of ?_)
      refine ⟨rfl, _, tk7, by omega, rfl, fun x5 y5 ts8 s5 t5 tk8 => ⟨rfl, _, tk8, by omega, rfl, fun p ts9 p1 p2 tk9 => ?_⟩⟩
      have G5 : GS 42 ((x5, y5) : G) := ⟨s5, t5⟩
      generalize ((x5, y5) : G) = g5 at *
      haveI G6 : GS 4 p := ⟨p1, p2⟩
      (show q_law_right_9 _ [_, _, _, _, _, _, _, _, _, _, _]; delta q_law_right_9; refine hid_of ?_)
      refine ⟨rfl, ltimes_ok (p := g1) (q := p) (by decide) (by decide) ⟨rfl, ltimes_ok (p := g2) (q := p) (by decide) (by decide) ⟨Nat.le_of_ble_eq_true rfl, ?_⟩⟩⟩
      (show q_law_right_10 _ [_, _, _, _, _, _, _, _, _, _, _]; delta q_law_right_10; refine hid_of ?_)
      have zs : Sz 60 (0 : Int) := zero_sz
      refine ⟨rfl, f, ⟨g1, g2, gm g1 p, gm g2 p⟩, 60, rfl, hf, ⟨szUp G1.a (by decide), szUp G1.b (by decide), szUp G2.a (by decide), szUp G2.b (by decide), szUp (inferInstance : Sz _ (g1.1 * p.1 - g1.2 * p.2)) (by decide), szUp (inferInstance : Sz _ (g1.1 * p.2 + g1.2 * p.1)) (by decide), szUp (inferInstance : Sz _ (g2.1 * p.1 - g2.2 * p.2)) (by decide), szUp (inferInstance : Sz _ (g2.1 * p.2 + g2.2 * p.1)) (by decide)⟩, by decide, ?_, trivial, ite_f rfl ?_⟩
      · show g1 * (g2 * p) - g2 * (g1 * p) = 0
        grind
      refine ⟨Nat.le_of_ble_eq_true rfl, Nat.le_of_ble_eq_true rfl, Nat.le_of_ble_eq_true rfl, rfl, f, ⟨(0, 0), g5, (0, 0), p⟩, 60, rfl, hf, ⟨zs, zs, szUp G5.a (by decide), szUp G5.b (by decide), zs, zs, szUp p1 (by decide), szUp p2 (by decide)⟩, by decide, ?_, trivial, ite_f rfl ?_⟩
      · show (0 : G) * p - g5 * (0 : G) = 0
        grind
      (show q_law_right_12 _ [_, _, _, _, _, _, _, _, _, _, _]; delta q_law_right_12; refine hid_of ?_)
      refine ⟨⟨by decide, by decide⟩, ?_⟩
      refine foD_at (rngD 0 4) (fun pre ev => ∃ (ts : List PyData) (s1 s2 s3 : Option Sl), ev = [some (.own ts), some (.val (.int f)), some (.val (.list [cd a, cd b, cd c, cd d])), some (.val (cd r)), some (.val (.list [cd g1, cd g2, cd g3, cd g4])), some (.val (cd g5)), some (.val (cd p)), some (.val (.list [cd g1, cd g2, cd (gm g1 p), cd (gm g2 p)])), s1, s2, s3] ∧ (fr s1 ∧ fr s2 ∧ fr s3) ∧ Tk (n0 + 1000 + 80 * pre.length) ts) (fun pre d post ev E' hall i nx _ _ _ => ?_) (pre := []) rfl ⟨ts9, none, none, none, rfl, ⟨fr_none, fr_none, fr_none⟩, tk9.up (by simp; omega)⟩ (fun ev i => ?_)
      · obtain ⟨ts, s1, s2, s3, rfl, ⟨g1', g2', g3'⟩, tk'⟩ := i
        have hp : pre.length < 4 := by
          have := congrArg List.length hall
          simp [rngD] at this
          omega
        refine gN_fr (s := s1) rfl g1' ?_
        (show q_law_right_13 _ [_, _, _, _, _, _, _, _, _, _, _]; delta q_law_right_13; refine hid_of ?_)
        refine ⟨rfl, n0 + 1000 + 80 * pre.length, tk', by omega, rfl, fun v tsv mv tkv => ?_⟩
        refine gN_fr (s := s2) rfl g2' ?_
        (show q_law_right_14 _ [_, _, _, _, _, _, _, _, _, _, _]; delta q_law_right_14; refine hid_of ?_)
        refine ⟨rfl, v, rfl, mv, ?_⟩
        refine gN_fr (s := s3) rfl g3' ?_
        (show q_law_right_15 _ [_, _, _, _, _, _, _, _, _, _, _]; delta q_law_right_15; refine hid_of ?_)
        refine ⟨rfl, v, rfl, mv, rfl, v, rfl, mv, Nat.le_of_ble_eq_true rfl, ?_⟩
        generalize isMapB v = t
        refine (show RP (.list [.bool t, .bool t]) _ from ?_)
        walk_at "rp"
        refine ⟨Nat.le_of_ble_eq_true rfl, ?_⟩
        refine (show RP (.list [.bool t, .bool t]) _ from ?_)
        walk_at "rp"
        refine ⟨Or.inl rfl, trivial, ?_⟩
        walk_at "ne"
        exact nx _ ⟨tsv, _, _, _, rfl, ⟨fr_val, fr_val, fr_val⟩, tkv.up (by rw [List.length_append]; simp; omega)⟩
      · obtain ⟨ts, s1, s2, s3, rfl, _⟩ := i
        (show q_law_right_17 _ [_, _, _, _, _, _, _, _, _, _, _]; delta q_law_right_17; refine hid_of ?_)
        exact q ts
    refine ite_b (fun z => ?_) (fun z => ?_)
    · have z0 : (⟨g1, g2, g3, g4⟩ : M4).dt ≠ 0 := fun y => by
        rw [show decide (dtm g1 g2 g3 g4 = (0, 0)) = true from decide_eq_true y] at z
        cases z
      refine ⟨rfl, f, ⟨g1, g2, g3, g4⟩, r, rfl, hf, SG, hr, z0, r0, trivial, ite_f rfl next⟩
    · exact next
  (show q_law_right_2 _ [_, _, _, _, _, _, _, _, _, _, _]; delta q_law_right_2; refine hid_of ?_)
  refine ⟨Nat.le_of_ble_eq_true rfl, Or.inr ⟨rfl, rfl⟩, trivial, ?_⟩
  rw [e0]
  refine ite_b (fun z => ?_) (fun z => ?_)
  · exact rest r h1 fun y => by
      rw [decide_eq_true y] at z
      cases z
  · walk_at "ob"
    exact rest (0, -2) ⟨szUp (n := 2) ⟨by decide⟩ (by decide), szUp (n := 2) ⟨by decide⟩ (by decide)⟩ (by decide)
/-! ## law -/
abbrev r_law_3 : Ws := (wRet (dLit (.bool false)))
abbrev r_law_2 : Ws := (wIf (dNotT (dTru (dFnF 2 c_law_tank c_law_right (daC (dVar 0) (daC (dVar 1) daN))))) r_law_3 wNx)
abbrev r_law_4 : Ws := (wRet (dLit (.bool true)))
abbrev r_law_1 : Ws := (wSeq (wFor (diR1 (daC (dFn 1 c_law_rounds (daC (dVar 0) daN)) daN)) (gN 1) r_law_2) r_law_4)
def w_law : Ws := (wSeq (wFor (diR1 (daC (dFn 1 c_law_rounds (daC (dVar 0) daN)) daN)) (gN 1) (wIf (dNotT (dTru (dFnF 2 c_law_tank c_law_right (daC (dVar 0) (daC (dVar 1) daN))))) (wRet (dLit (.bool false))) wNx)) (wRet (dLit (.bool true))))
theorem sem_law : ∀ ds R, c_law ds R → ds.length = 1 → w_law (edP R) (ev0 1 ds) := by
  intro ds R h _
  obtain ⟨ns, rfl, hl, q⟩ := h
  refine ⟨rfl, ns, rfl, hl, fun k k0 k1 => ?_⟩
  refine ⟨⟨by omega, by omega⟩, ?_⟩
  refine foD_inv (fun ev => ∃ s, ev = [some (.val (.list (ns.map .int))), s] ∧ ∀ t, s ≠ some (.own t)) (fun d hd ev E' i nx ct rt rl bk => ?_) ⟨none, rfl, fun _ => by simp⟩ (fun ev i => ?_)
  · obtain ⟨s, rfl, hs⟩ := i
    obtain ⟨j, hj⟩ := List.mem_iff_getElem?.mp hd
    obtain ⟨j1, rfl⟩ := rng_get hj
    have e : gN 1 (.int (0 + (j : Int))) [some (.val (.list (ns.map .int))), s] = fun Q => Q [some (.val (.list (ns.map .int))), some (.val (.int (0 + (j : Int))))] := by
      cases s with
      | none => rfl
      | some s => cases s with
        | val _ => rfl
        | own t => exact absurd rfl (hs t)
    rw [e]
    refine ⟨rfl, ns, _, rfl, hl, by omega, by omega, fun r s r0 s0 s1 => ⟨rfl, 0, ⟨r, s, 0, rfl, r0, ⟨s0, s1⟩, by decide, by decide⟩, by decide, rfl, fun _ => ⟨trivial, ?_⟩⟩⟩
    exact nx _ ⟨_, rfl, fun _ => by simp⟩
  · obtain ⟨s, rfl, hs⟩ := i
    exact q
theorem law_all : ∀ ns : List Int, ns.length ≤ 63 → c_law [.list (ns.map .int)] (fun d => d = .bool true) := fun ns h => ⟨ns, rfl, h, rfl⟩
end Lk13

set_option Elab.async false
set_option linter.all false
set_option maxRecDepth 100000
set_option maxHeartbeats 4000000
namespace Lk13
open PySem L2 Z
def topS (i : Nat) : Stmt := PySem.Challenge.pw_drawarms_k13_maps_and_their_form.main.body.getD i (.Pass ⟨0, 0, 0, 0⟩)
abbrev s_is_whole : Stmt := topS 7
theorem sc_is_whole : FnScope ["value"] ["value"] (defScope s_is_whole) := ⟨rfl, rfl, rfl, by decide +kernel, rfl, by decide +kernel, by decide +kernel⟩
abbrev s_are_wholes : Stmt := topS 8
theorem sc_are_wholes : FnScope ["value", "many", "part"] ["value", "many"] (defScope s_are_wholes) := ⟨rfl, rfl, rfl, by decide +kernel, rfl, by decide +kernel, by decide +kernel⟩
abbrev s_common_of : Stmt := topS 9
theorem sc_common_of : FnScope ["numbers", "common", "number"] ["numbers"] (defScope s_common_of) := ⟨rfl, rfl, rfl, by decide +kernel, rfl, by decide +kernel, by decide +kernel⟩
abbrev s_minus : Stmt := topS 12
theorem sc_minus : FnScope ["number", "other"] ["number", "other"] (defScope s_minus) := ⟨rfl, rfl, rfl, by decide +kernel, rfl, by decide +kernel, by decide +kernel⟩
abbrev s_times : Stmt := topS 13
theorem sc_times : FnScope ["number", "other", "a", "b", "c", "d"] ["number", "other"] (defScope s_times) := ⟨rfl, rfl, rfl, by decide +kernel, rfl, by decide +kernel, by decide +kernel⟩
abbrev s_conjugate_of : Stmt := topS 14
theorem sc_conjugate_of : FnScope ["number"] ["number"] (defScope s_conjugate_of) := ⟨rfl, rfl, rfl, by decide +kernel, rfl, by decide +kernel, by decide +kernel⟩
abbrev s_norm_of : Stmt := topS 15
theorem sc_norm_of : FnScope ["number"] ["number"] (defScope s_norm_of) := ⟨rfl, rfl, rfl, by decide +kernel, rfl, by decide +kernel, by decide +kernel⟩
abbrev s_is_quarter : Stmt := topS 16
theorem sc_is_quarter : FnScope ["number"] ["number"] (defScope s_is_quarter) := ⟨rfl, rfl, rfl, by decide +kernel, rfl, by decide +kernel, by decide +kernel⟩
abbrev s_turned : Stmt := topS 17
theorem sc_turned : FnScope ["number"] ["number"] (defScope s_turned) := ⟨rfl, rfl, rfl, by decide +kernel, rfl, by decide +kernel, by decide +kernel⟩
abbrev s_quarter_of : Stmt := topS 18
theorem sc_quarter_of : FnScope ["number"] ["number"] (defScope s_quarter_of) := ⟨rfl, rfl, rfl, by decide +kernel, rfl, by decide +kernel, by decide +kernel⟩
abbrev s_exact_quotient : Stmt := topS 19
theorem sc_exact_quotient : FnScope ["number", "other", "size", "first", "second"] ["number", "other"] (defScope s_exact_quotient) := ⟨rfl, rfl, rfl, by decide +kernel, rfl, by decide +kernel, by decide +kernel⟩
abbrev s_rest_of : Stmt := topS 20
theorem sc_rest_of : FnScope ["number", "other", "size", "first", "second", "nearest"] ["number", "other"] (defScope s_rest_of) := ⟨rfl, rfl, rfl, by decide +kernel, rfl, by decide +kernel, by decide +kernel⟩
abbrev s_divisor_of : Stmt := topS 21
theorem sc_divisor_of : FnScope ["numbers", "divisor", "number"] ["numbers"] (defScope s_divisor_of) := ⟨rfl, rfl, rfl, by decide +kernel, rfl, by decide +kernel, by decide +kernel⟩
abbrev s_divisor_of_two : Stmt := topS 22
theorem sc_divisor_of_two : FnScope ["number", "other", "first", "second", "size"] ["number", "other"] (defScope s_divisor_of_two) := ⟨rfl, rfl, rfl, by decide +kernel, rfl, by decide +kernel, by decide +kernel⟩
abbrev s_divisor_by_steps : Stmt := topS 23
theorem sc_divisor_by_steps : FnScope ["number", "other"] ["number", "other"] (defScope s_divisor_by_steps) := ⟨rfl, rfl, rfl, by decide +kernel, rfl, by decide +kernel, by decide +kernel⟩
abbrev s_is_complex : Stmt := topS 25
theorem sc_is_complex : FnScope ["value"] ["value"] (defScope s_is_complex) := ⟨rfl, rfl, rfl, by decide +kernel, rfl, by decide +kernel, by decide +kernel⟩
abbrev s_require_complex : Stmt := topS 26
theorem sc_require_complex : FnScope ["number"] ["number"] (defScope s_require_complex) := ⟨rfl, rfl, rfl, by decide +kernel, rfl, by decide +kernel, by decide +kernel⟩
abbrev s_determinant : Stmt := topS 28
theorem sc_determinant : FnScope ["numbers", "a", "b", "c", "d"] ["numbers"] (defScope s_determinant) := ⟨rfl, rfl, rfl, by decide +kernel, rfl, by decide +kernel, by decide +kernel⟩
abbrev s_map_from : Stmt := topS 30
theorem sc_map_from : FnScope ["flag", "numbers", "multiple", "divisor", "leader", "number"] ["flag", "numbers", "multiple"] (defScope s_map_from) := ⟨rfl, rfl, rfl, by decide +kernel, rfl, by decide +kernel, by decide +kernel⟩
abbrev s_is_flag : Stmt := topS 31
theorem sc_is_flag : FnScope ["value"] ["value"] (defScope s_is_flag) := ⟨rfl, rfl, rfl, by decide +kernel, rfl, by decide +kernel, by decide +kernel⟩
abbrev s_is_map : Stmt := topS 32
theorem sc_is_map : FnScope ["value", "numbers", "number"] ["value"] (defScope s_is_map) := ⟨rfl, rfl, rfl, by decide +kernel, rfl, by decide +kernel, by decide +kernel⟩
abbrev s_map_of : Stmt := topS 33
theorem sc_map_of : FnScope ["is_mirrored", "first", "second", "third", "fourth", "numbers", "number"] ["is_mirrored", "first", "second", "third", "fourth"] (defScope s_map_of) := ⟨rfl, rfl, rfl, by decide +kernel, rfl, by decide +kernel, by decide +kernel⟩
abbrev s_law_tank : Stmt := topS 35
theorem sc_law_tank : FnScope ["_law_script", "_law_spot", "_law_stir", "_law_cell", "_law_own", "_law_rest"] ["_law_script", "_law_spot"] (defScope s_law_tank) := ⟨rfl, rfl, rfl, by decide +kernel, rfl, by decide +kernel, by decide +kernel⟩
abbrev s_law_draw : Stmt := topS 36
theorem sc_law_draw : FnScope ["_law_tank_here", "_law_many", "_law_figure", "_law_pace"] ["_law_tank_here", "_law_many"] (defScope s_law_draw) := ⟨rfl, rfl, rfl, by decide +kernel, rfl, by decide +kernel, by decide +kernel⟩
abbrev s_law_pick : Stmt := topS 37
theorem sc_law_pick : FnScope ["_law_tank_here", "_law_some"] ["_law_tank_here", "_law_some"] (defScope s_law_pick) := ⟨rfl, rfl, rfl, by decide +kernel, rfl, by decide +kernel, by decide +kernel⟩
abbrev s_law_rounds : Stmt := topS 38
theorem sc_law_rounds : FnScope ["_law_script"] ["_law_script"] (defScope s_law_rounds) := ⟨rfl, rfl, rfl, by decide +kernel, rfl, by decide +kernel, by decide +kernel⟩
abbrev s_law_number : Stmt := topS 39
theorem sc_law_number : FnScope ["_law_tank_here", "_law_size_here"] ["_law_tank_here"] (defScope s_law_number) := ⟨rfl, rfl, rfl, by decide +kernel, rfl, by decide +kernel, by decide +kernel⟩
abbrev s_law_small : Stmt := topS 40
theorem sc_law_small : FnScope ["_law_tank_here", "_law_size_here"] ["_law_tank_here"] (defScope s_law_small) := ⟨rfl, rfl, rfl, by decide +kernel, rfl, by decide +kernel, by decide +kernel⟩
abbrev s_law_less : Stmt := topS 41
theorem sc_law_less : FnScope ["_law_one", "_law_two"] ["_law_one", "_law_two"] (defScope s_law_less) := ⟨rfl, rfl, rfl, by decide +kernel, rfl, by decide +kernel, by decide +kernel⟩
abbrev s_law_times : Stmt := topS 42
theorem sc_law_times : FnScope ["_law_one", "_law_two"] ["_law_one", "_law_two"] (defScope s_law_times) := ⟨rfl, rfl, rfl, by decide +kernel, rfl, by decide +kernel, by decide +kernel⟩
abbrev s_law_star : Stmt := topS 43
theorem sc_law_star : FnScope ["_law_one"] ["_law_one"] (defScope s_law_star) := ⟨rfl, rfl, rfl, by decide +kernel, rfl, by decide +kernel, by decide +kernel⟩
abbrev s_law_size : Stmt := topS 44
theorem sc_law_size : FnScope ["_law_one"] ["_law_one"] (defScope s_law_size) := ⟨rfl, rfl, rfl, by decide +kernel, rfl, by decide +kernel, by decide +kernel⟩
abbrev s_law_quarter : Stmt := topS 45
theorem sc_law_quarter : FnScope ["_law_one", "_law_a", "_law_b", "_law_turn"] ["_law_one"] (defScope s_law_quarter) := ⟨rfl, rfl, rfl, by decide +kernel, rfl, by decide +kernel, by decide +kernel⟩
abbrev s_law_over : Stmt := topS 46
theorem sc_law_over : FnScope ["_law_one", "_law_two", "_law_size_here", "_law_a", "_law_b"] ["_law_one", "_law_two"] (defScope s_law_over) := ⟨rfl, rfl, rfl, by decide +kernel, rfl, by decide +kernel, by decide +kernel⟩
abbrev s_law_common : Stmt := topS 47
theorem sc_law_common : FnScope ["_law_numbers", "_law_found", "_law_number_here", "_law_one", "_law_two", "_law_turn", "_law_size_here", "_law_a", "_law_b", "_law_near"] ["_law_numbers"] (defScope s_law_common) := ⟨rfl, rfl, rfl, by decide +kernel, rfl, by decide +kernel, by decide +kernel⟩
abbrev s_law_is_whole : Stmt := topS 48
theorem sc_law_is_whole : FnScope ["_law_thing", "_law_many", "_law_each"] ["_law_thing", "_law_many"] (defScope s_law_is_whole) := ⟨rfl, rfl, rfl, by decide +kernel, rfl, by decide +kernel, by decide +kernel⟩
abbrev s_law_complex : Stmt := topS 49
theorem sc_law_complex : FnScope ["_law_tank_here"] ["_law_tank_here"] (defScope s_law_complex) := ⟨rfl, rfl, rfl, by decide +kernel, rfl, by decide +kernel, by decide +kernel⟩
abbrev s_law_little : Stmt := topS 50
theorem sc_law_little : FnScope ["_law_tank_here"] ["_law_tank_here"] (defScope s_law_little) := ⟨rfl, rfl, rfl, by decide +kernel, rfl, by decide +kernel, by decide +kernel⟩
abbrev s_law_map : Stmt := topS 51
theorem sc_law_map : FnScope ["_law_flag", "_law_numbers", "_law_part", "_law_rest", "_law_first", "_law_unit", "_law_each"] ["_law_flag", "_law_numbers"] (defScope s_law_map) := ⟨rfl, rfl, rfl, by decide +kernel, rfl, by decide +kernel, by decide +kernel⟩
abbrev s_law_det : Stmt := topS 52
theorem sc_law_det : FnScope ["_law_numbers"] ["_law_numbers"] (defScope s_law_det) := ⟨rfl, rfl, rfl, by decide +kernel, rfl, by decide +kernel, by decide +kernel⟩
abbrev s_law_four : Stmt := topS 53
theorem sc_law_four : FnScope ["_law_tank_here", "_law_way", "_law_turn", "_law_found"] ["_law_tank_here"] (defScope s_law_four) := ⟨rfl, rfl, rfl, by decide +kernel, rfl, by decide +kernel, by decide +kernel⟩
abbrev s_law_is_map : Stmt := topS 54
theorem sc_law_is_map : FnScope ["_law_thing", "_law_each"] ["_law_thing"] (defScope s_law_is_map) := ⟨rfl, rfl, rfl, by decide +kernel, rfl, by decide +kernel, by decide +kernel⟩
abbrev s_law_is_along : Stmt := topS 55
theorem sc_law_is_along : FnScope ["_law_told", "_law_numbers", "_law_j", "_law_i"] ["_law_told", "_law_numbers"] (defScope s_law_is_along) := ⟨rfl, rfl, rfl, by decide +kernel, rfl, by decide +kernel, by decide +kernel⟩
abbrev s_law_form_right : Stmt := topS 56
theorem sc_law_form_right : FnScope ["_law_flag", "_law_numbers", "_law_times_here", "_law_a", "_law_b", "_law_c", "_law_d", "_law_told", "_law_longer", "_law_each"] ["_law_flag", "_law_numbers", "_law_times_here"] (defScope s_law_form_right) := ⟨rfl, rfl, rfl, by decide +kernel, rfl, by decide +kernel, by decide +kernel⟩
abbrev s_law_is_refused : Stmt := topS 57
theorem sc_law_is_refused : FnScope ["_law_flag", "_law_numbers", "_law_a", "_law_b", "_law_c", "_law_d"] ["_law_flag", "_law_numbers"] (defScope s_law_is_refused) := ⟨rfl, rfl, rfl, by decide +kernel, rfl, by decide +kernel, by decide +kernel⟩
abbrev s_law_value : Stmt := topS 58
theorem sc_law_value : FnScope ["_law_tank_here", "_law_flag", "_law_numbers", "_law_way", "_law_chart", "_law_at", "_law_times_here", "_law_each"] ["_law_tank_here"] (defScope s_law_value) := ⟨rfl, rfl, rfl, by decide +kernel, rfl, by decide +kernel, by decide +kernel⟩
abbrev s_law_right : Stmt := topS 59
theorem sc_law_right : FnScope ["_law_tank_here", "_law_flag", "_law_numbers", "_law_times_here", "_law_great", "_law_one", "_law_two", "_law_flat", "_law_turn", "_law_thing", "_law_due"] ["_law_tank_here"] (defScope s_law_right) := ⟨rfl, rfl, rfl, by decide +kernel, rfl, by decide +kernel, by decide +kernel⟩
abbrev s_law : Stmt := topS 60
theorem sc_law : FnScope ["_law_script", "_law_spot"] ["_law_script"] (defScope s_law) := ⟨rfl, rfl, rfl, by decide +kernel, rfl, by decide +kernel, by decide +kernel⟩
section
variable {P : Program} {wd : World} {K : PySem.W.Frag} {mg : Str → Option Value} {base : Heap}
theorem ok_is_whole {f : Addr} {fd : FuncData} (F : Fun K "is_whole" "is_whole" s_is_whole f fd) (z_isinstance : mg "isinstance" = none) (z_int : mg "int" = none) (z_bool : mg "bool" = none) : FnG P wd K mg base CX0 1 f fd ["value"] (spP K 1 c_is_whole) := by
  refine okP (k := 0) (m := 0) (w := w_is_whole) F sc_is_whole rfl rfl (fun c cdv A outer s H E hG hr => ?_) sem_is_whole
  exact (dss_one (ds_ret (de_and (de_isa "int" (by decide +kernel) isA_int kits_int (by rfl) z_isinstance (by rfl) z_int (de_pv (pv 0))) (de_one (de_not (de_isa "bool" (by decide +kernel) isA_bool kits_bool (by rfl) z_isinstance (by rfl) z_bool (de_pv (pv 0))))))))
theorem ok_are_wholes {f : Addr} {fd : FuncData} (F : Fun K "are_wholes" "are_wholes" s_are_wholes f fd) (h_is_whole : Cl P wd K mg base 1 "is_whole" ["value"] (spP K 1 c_is_whole)) (z_isinstance : mg "isinstance" = none) (z_tuple : mg "tuple" = none) (z_len : mg "len" = none) (z_all : mg "all" = none) : FnG P wd K mg base CX0 2 f fd ["value", "many"] (spP K 2 c_are_wholes) := by
  refine okP (k := 1) (m := 1) (w := w_are_wholes) F sc_are_wholes rfl rfl (fun c cdv A outer s H E hG hr => ?_) sem_are_wholes
  exact (dss_cons (ds_if (dt_w (dw_or (dt_not (dt_val (de_isa "tuple" (by decide +kernel) isA_tuple kits_tuple (by rfl) z_isinstance (by rfl) z_tuple (de_pv (pv 0))))) (dw_or1 (dt_ne hr (de_len (by rfl) z_len (da_cons (de_pv (pv 0)) da_nil)) (de_pv (pv 1)))))) (dss_one (ds_ret de_bl)) dss_nil) (dss_one (ds_ret (de_all rfl (by rfl) z_all (da_cons (de_lc (own := [("part", 2)]) rfl sc_are_wholes.nd (di_tup (de_pv (pv 0))) (blkOk_by (N := ["value", "many", "part"]) (sc := defScope s_are_wholes) (by decide +kernel)) (fun _ _ _ _ _ => (dg_name (pg_name (i := 2) sc_are_wholes.nd rfl (by first | exact Or.inl rfl | exact Or.inr rfl)) (by decide))) (fun _ _ _ _ _ => dts_nil) (fun _ _ _ _ _ => (de_fn h_is_whole (by decide) hr hG (by rfl) (da_cons (de_pv (pv 2)) da_nil)))) da_nil)))))
theorem ok_common_of {f : Addr} {fd : FuncData} (F : Fun K "common_of" "common_of" s_common_of f fd) (m_gcd : mg "gcd" = some (.builtin "math.gcd")) : FnG P wd K mg base CX0 1 f fd ["numbers"] (spP K 1 c_common_of) := by
  refine okP (k := 0) (m := 2) (w := w_common_of) F sc_common_of rfl rfl (fun c cdv A outer s H E hG hr => ?_) sem_common_of
  exact (dss_cons (ds_set (i := 1) sc_common_of.nd rfl (by first | exact Or.inl rfl | exact Or.inr rfl) de_int) (dss_cons (ds_for (vs := [2]) PassesOwn.never rfl (di_tup (de_pv (pv 0))) (dg_name (pg_name (i := 2) sc_common_of.nd rfl (by first | exact Or.inl rfl | exact Or.inr rfl)) (by decide)) (dss_one (ds_set (i := 1) sc_common_of.nd rfl (by first | exact Or.inl rfl | exact Or.inr rfl) (de_gcd (by rfl) m_gcd (da_cons (de_pv (pv 1)) (da_cons (de_pv (pv 2)) da_nil)))))) (dss_one (ds_ret (de_pv (pv 1))))))
theorem ok_minus {f : Addr} {fd : FuncData} (F : Fun K "minus" "minus" s_minus f fd)  : FnG P wd K mg base CX0 1 f fd ["number", "other"] (spP K 2 c_minus) := by
  refine okP (k := 0) (m := 0) (w := w_minus) F sc_minus rfl rfl (fun c cdv A outer s H E hG hr => ?_) sem_minus
  exact (dss_one (ds_ret (de_tup (da_cons (de_sub (de_item (de_pv (pv 0)) de_int) (de_item (de_pv (pv 1)) de_int)) (da_cons (de_sub (de_item (de_pv (pv 0)) de_int) (de_item (de_pv (pv 1)) de_int)) da_nil)))))
theorem ok_times {f : Addr} {fd : FuncData} (F : Fun K "times" "times" s_times f fd)  : FnG P wd K mg base CX0 1 f fd ["number", "other"] (spP K 2 c_times) := by
  refine okP (k := 0) (m := 4) (w := w_times) F sc_times rfl rfl (fun c cdv A outer s H E hG hr => ?_) sem_times
  exact (dss_cons (ds_asg (vs := [2, 3]) (de_pv (pv 0)) (dg_tup rfl (dgs_cons (dg_name (pg_name (i := 2) sc_times.nd rfl (by first | exact Or.inl rfl | exact Or.inr rfl)) (by decide)) (dgs_cons (dg_name (pg_name (i := 3) sc_times.nd rfl (by first | exact Or.inl rfl | exact Or.inr rfl)) (by decide)) dgs_nil)))) (dss_cons (ds_asg (vs := [4, 5]) (de_pv (pv 1)) (dg_tup rfl (dgs_cons (dg_name (pg_name (i := 4) sc_times.nd rfl (by first | exact Or.inl rfl | exact Or.inr rfl)) (by decide)) (dgs_cons (dg_name (pg_name (i := 5) sc_times.nd rfl (by first | exact Or.inl rfl | exact Or.inr rfl)) (by decide)) dgs_nil)))) (dss_one (ds_ret (de_tup (da_cons (de_sub (de_mul (de_pv (pv 2)) (de_pv (pv 4))) (de_mul (de_pv (pv 3)) (de_pv (pv 5)))) (da_cons (de_cat (de_mul (de_pv (pv 2)) (de_pv (pv 5))) (de_mul (de_pv (pv 3)) (de_pv (pv 4)))) da_nil)))))))
theorem ok_conjugate_of {f : Addr} {fd : FuncData} (F : Fun K "conjugate_of" "conjugate_of" s_conjugate_of f fd)  : FnG P wd K mg base CX0 1 f fd ["number"] (spP K 1 c_conjugate_of) := by
  refine okP (k := 0) (m := 0) (w := w_conjugate_of) F sc_conjugate_of rfl rfl (fun c cdv A outer s H E hG hr => ?_) sem_conjugate_of
  exact (dss_one (ds_ret (de_tup (da_cons (de_item (de_pv (pv 0)) de_int) (da_cons (de_neg (de_item (de_pv (pv 0)) de_int)) da_nil)))))
theorem ok_norm_of {f : Addr} {fd : FuncData} (F : Fun K "norm_of" "norm_of" s_norm_of f fd)  : FnG P wd K mg base CX0 1 f fd ["number"] (spP K 1 c_norm_of) := by
  refine okP (k := 0) (m := 0) (w := w_norm_of) F sc_norm_of rfl rfl (fun c cdv A outer s H E hG hr => ?_) sem_norm_of
  exact (dss_one (ds_ret (de_cat (de_mul (de_item (de_pv (pv 0)) de_int) (de_item (de_pv (pv 0)) de_int)) (de_mul (de_item (de_pv (pv 0)) de_int) (de_item (de_pv (pv 0)) de_int)))))
theorem ok_is_quarter {f : Addr} {fd : FuncData} (F : Fun K "is_quarter" "is_quarter" s_is_quarter f fd)  : FnG P wd K mg base CX0 1 f fd ["number"] (spP K 1 c_is_quarter) := by
  refine okP (k := 0) (m := 0) (w := w_is_quarter) F sc_is_quarter rfl rfl (fun c cdv A outer s H E hG hr => ?_) sem_is_quarter
  exact (dss_one (ds_ret (de_and (de_gt (de_item (de_pv (pv 0)) de_int) de_int) (de_one (de_ge (de_item (de_pv (pv 0)) de_int) de_int)))))
theorem ok_turned {f : Addr} {fd : FuncData} (F : Fun K "turned" "turned" s_turned f fd)  : FnG P wd K mg base CX0 1 f fd ["number"] (spP K 1 c_turned) := by
  refine okP (k := 0) (m := 0) (w := w_turned) F sc_turned rfl rfl (fun c cdv A outer s H E hG hr => ?_) sem_turned
  exact (dss_one (ds_ret (de_tup (da_cons (de_neg (de_item (de_pv (pv 0)) de_int)) (da_cons (de_item (de_pv (pv 0)) de_int) da_nil)))))
theorem ok_quarter_of {f : Addr} {fd : FuncData} (F : Fun K "quarter_of" "quarter_of" s_quarter_of f fd) (h_is_quarter : Cl P wd K mg base 1 "is_quarter" ["number"] (spP K 1 c_is_quarter)) (h_turned : Cl P wd K mg base 1 "turned" ["number"] (spP K 1 c_turned)) (g_NOUGHT : Gc K mg "NOUGHT" (.tuple [(.int 0), (.int 0)])) : FnG P wd K mg base CX0 2 f fd ["number"] (spP K 1 c_quarter_of) := by
  refine okP (k := 1) (m := 0) (w := w_quarter_of) F sc_quarter_of rfl rfl (fun c cdv A outer s H E hG hr => ?_) sem_quarter_of
  exact (dss_cons (ds_if (dt_eq hr (de_pv (pv 0)) (de_gc g_NOUGHT (by rfl))) (dss_one (ds_ret (de_pv (pv 0)))) dss_nil) (dss_cons (ds_while PassesOwn.never (dt_not (dt_val (de_fn h_is_quarter (by decide) hr hG (by rfl) (da_cons (de_pv (pv 0)) da_nil)))) (dss_one (ds_set (i := 0) sc_quarter_of.nd rfl (by first | exact Or.inl rfl | exact Or.inr rfl) (de_fn h_turned (by decide) hr hG (by rfl) (da_cons (de_pv (pv 0)) da_nil))))) (dss_one (ds_ret (de_pv (pv 0))))))
theorem ok_exact_quotient {f : Addr} {fd : FuncData} (F : Fun K "exact_quotient" "exact_quotient" s_exact_quotient f fd) (h_norm_of : Cl P wd K mg base 1 "norm_of" ["number"] (spP K 1 c_norm_of)) (h_times : Cl P wd K mg base 1 "times" ["number", "other"] (spP K 2 c_times)) (h_conjugate_of : Cl P wd K mg base 1 "conjugate_of" ["number"] (spP K 1 c_conjugate_of)) : FnG P wd K mg base CX0 2 f fd ["number", "other"] (spP K 2 c_exact_quotient) := by
  refine okP (k := 1) (m := 3) (w := w_exact_quotient) F sc_exact_quotient rfl rfl (fun c cdv A outer s H E hG hr => ?_) sem_exact_quotient
  exact (dss_cons (ds_set (i := 2) sc_exact_quotient.nd rfl (by first | exact Or.inl rfl | exact Or.inr rfl) (de_fn h_norm_of (by decide) hr hG (by rfl) (da_cons (de_pv (pv 1)) da_nil))) (dss_cons (ds_if (dt_eq hr (de_pv (pv 2)) de_int) (dss_one (ds_ret de_non)) dss_nil) (dss_cons (ds_asg (vs := [3, 4]) (de_fn h_times (by decide) hr hG (by rfl) (da_cons (de_pv (pv 0)) (da_cons (de_fn h_conjugate_of (by decide) hr hG (by rfl) (da_cons (de_pv (pv 1)) da_nil)) da_nil))) (dg_tup rfl (dgs_cons (dg_name (pg_name (i := 3) sc_exact_quotient.nd rfl (by first | exact Or.inl rfl | exact Or.inr rfl)) (by decide)) (dgs_cons (dg_name (pg_name (i := 4) sc_exact_quotient.nd rfl (by first | exact Or.inl rfl | exact Or.inr rfl)) (by decide)) dgs_nil)))) (dss_cons (ds_if (dt_w (dw_or (dt_val (de_mod (de_pv (pv 3)) (de_pv (pv 2)))) (dw_or1 (dt_val (de_mod (de_pv (pv 4)) (de_pv (pv 2))))))) (dss_one (ds_ret de_non)) dss_nil) (dss_one (ds_ret (de_tup (da_cons (de_div (de_pv (pv 3)) (de_pv (pv 2))) (da_cons (de_div (de_pv (pv 4)) (de_pv (pv 2))) da_nil)))))))))
theorem ok_rest_of {f : Addr} {fd : FuncData} (F : Fun K "rest_of" "rest_of" s_rest_of f fd) (h_norm_of : Cl P wd K mg base 1 "norm_of" ["number"] (spP K 1 c_norm_of)) (h_times : Cl P wd K mg base 1 "times" ["number", "other"] (spP K 2 c_times)) (h_conjugate_of : Cl P wd K mg base 1 "conjugate_of" ["number"] (spP K 1 c_conjugate_of)) (h_minus : Cl P wd K mg base 1 "minus" ["number", "other"] (spP K 2 c_minus)) : FnG P wd K mg base CX0 2 f fd ["number", "other"] (spP K 2 c_rest_of) := by
  refine okP (k := 1) (m := 4) (w := w_rest_of) F sc_rest_of rfl rfl (fun c cdv A outer s H E hG hr => ?_) sem_rest_of
  exact (dss_cons (ds_set (i := 2) sc_rest_of.nd rfl (by first | exact Or.inl rfl | exact Or.inr rfl) (de_fn h_norm_of (by decide) hr hG (by rfl) (da_cons (de_pv (pv 1)) da_nil))) (dss_cons (ds_asg (vs := [3, 4]) (de_fn h_times (by decide) hr hG (by rfl) (da_cons (de_pv (pv 0)) (da_cons (de_fn h_conjugate_of (by decide) hr hG (by rfl) (da_cons (de_pv (pv 1)) da_nil)) da_nil))) (dg_tup rfl (dgs_cons (dg_name (pg_name (i := 3) sc_rest_of.nd rfl (by first | exact Or.inl rfl | exact Or.inr rfl)) (by decide)) (dgs_cons (dg_name (pg_name (i := 4) sc_rest_of.nd rfl (by first | exact Or.inl rfl | exact Or.inr rfl)) (by decide)) dgs_nil)))) (dss_cons (ds_set (i := 5) sc_rest_of.nd rfl (by first | exact Or.inl rfl | exact Or.inr rfl) (de_tup (da_cons (de_div (de_cat (de_mul de_int (de_pv (pv 3))) (de_pv (pv 2))) (de_mul de_int (de_pv (pv 2)))) (da_cons (de_div (de_cat (de_mul de_int (de_pv (pv 4))) (de_pv (pv 2))) (de_mul de_int (de_pv (pv 2)))) da_nil)))) (dss_one (ds_ret (de_fn h_minus (by decide) hr hG (by rfl) (da_cons (de_pv (pv 0)) (da_cons (de_fn h_times (by decide) hr hG (by rfl) (da_cons (de_pv (pv 5)) (da_cons (de_pv (pv 1)) da_nil))) da_nil))))))))
theorem ok_divisor_of {f : Addr} {fd : FuncData} (F : Fun K "divisor_of" "divisor_of" s_divisor_of f fd) (h_norm_of : Cl P wd K mg base 1 "norm_of" ["number"] (spP K 1 c_norm_of)) (h_divisor_of_two : Cl P wd K mg base 4 "_divisor_of_two" ["number", "other"] (spP K 2 c_divisor_of_two)) (h_quarter_of : Cl P wd K mg base 2 "quarter_of" ["number"] (spP K 1 c_quarter_of)) (z_sorted : mg "sorted" = none) (g_NOUGHT : Gc K mg "NOUGHT" (.tuple [(.int 0), (.int 0)])) : FnG P wd K mg base CX0 5 f fd ["numbers"] (spP K 1 c_divisor_of) := by
  refine okP (k := 4) (m := 2) (w := w_divisor_of) F sc_divisor_of rfl rfl (fun c cdv A outer s H E hG hr => ?_) sem_divisor_of
  exact (dss_cons (ds_set (i := 1) sc_divisor_of.nd rfl (by first | exact Or.inl rfl | exact Or.inr rfl) (de_gc g_NOUGHT (by rfl))) (dss_cons (ds_for (vs := [2]) PassesOwn.never rfl (di_list (de_sortK h_norm_of (by decide) hr hG (by rfl) z_sorted (by rfl) (da_cons (de_pv (pv 0)) da_nil))) (dg_name (pg_name (i := 2) sc_divisor_of.nd rfl (by first | exact Or.inl rfl | exact Or.inr rfl)) (by decide)) (dss_one (ds_set (i := 1) sc_divisor_of.nd rfl (by first | exact Or.inl rfl | exact Or.inr rfl) (de_fn h_divisor_of_two (by decide) hr hG (by rfl) (da_cons (de_pv (pv 1)) (da_cons (de_pv (pv 2)) da_nil)))))) (dss_one (ds_ret (de_fn h_quarter_of (by decide) hr hG (by rfl) (da_cons (de_pv (pv 1)) da_nil))))))
theorem ok_divisor_of_two {f : Addr} {fd : FuncData} (F : Fun K "_divisor_of_two" "_divisor_of_two" s_divisor_of_two f fd) (h_rest_of : Cl P wd K mg base 2 "rest_of" ["number", "other"] (spP K 2 c_rest_of)) (h_times : Cl P wd K mg base 1 "times" ["number", "other"] (spP K 2 c_times)) (h_conjugate_of : Cl P wd K mg base 1 "conjugate_of" ["number"] (spP K 1 c_conjugate_of)) (h_common_of : Cl P wd K mg base 1 "common_of" ["numbers"] (spP K 1 c_common_of)) (h_norm_of : Cl P wd K mg base 1 "norm_of" ["number"] (spP K 1 c_norm_of)) (h_divisor_by_steps : Cl P wd K mg base 3 "_divisor_by_steps" ["number", "other"] (spP K 2 c_divisor_by_steps)) (g_NOUGHT : Gc K mg "NOUGHT" (.tuple [(.int 0), (.int 0)])) : FnG P wd K mg base CX0 4 f fd ["number", "other"] (spP K 2 c_divisor_of_two) := by
  refine okP (k := 3) (m := 3) (w := w_divisor_of_two) F sc_divisor_of_two rfl rfl (fun c cdv A outer s H E hG hr => ?_) sem_divisor_of_two
  exact (dss_cons (ds_if (dt_eq hr (de_pv (pv 0)) (de_gc g_NOUGHT (by rfl))) (dss_one (ds_ret (de_pv (pv 1)))) dss_nil) (dss_cons (ds_set (i := 1) sc_divisor_of_two.nd rfl (by first | exact Or.inl rfl | exact Or.inr rfl) (de_fn h_rest_of (by decide) hr hG (by rfl) (da_cons (de_pv (pv 1)) (da_cons (de_pv (pv 0)) da_nil)))) (dss_cons (ds_asg (vs := [2, 3]) (de_fn h_times (by decide) hr hG (by rfl) (da_cons (de_pv (pv 0)) (da_cons (de_fn h_conjugate_of (by decide) hr hG (by rfl) (da_cons (de_pv (pv 1)) da_nil)) da_nil))) (dg_tup rfl (dgs_cons (dg_name (pg_name (i := 2) sc_divisor_of_two.nd rfl (by first | exact Or.inl rfl | exact Or.inr rfl)) (by decide)) (dgs_cons (dg_name (pg_name (i := 3) sc_divisor_of_two.nd rfl (by first | exact Or.inl rfl | exact Or.inr rfl)) (by decide)) dgs_nil)))) (dss_cons (ds_set (i := 4) sc_divisor_of_two.nd rfl (by first | exact Or.inl rfl | exact Or.inr rfl) (de_fn h_common_of (by decide) hr hG (by rfl) (da_cons (de_tup (da_cons (de_fn h_norm_of (by decide) hr hG (by rfl) (da_cons (de_pv (pv 0)) da_nil)) (da_cons (de_fn h_norm_of (by decide) hr hG (by rfl) (da_cons (de_pv (pv 1)) da_nil)) (da_cons (de_pv (pv 2)) (da_cons (de_pv (pv 3)) da_nil))))) da_nil))) (dss_one (ds_ret (de_fn h_divisor_by_steps (by decide) hr hG (by rfl) (da_cons (de_fn h_divisor_by_steps (by decide) hr hG (by rfl) (da_cons (de_tup (da_cons (de_pv (pv 4)) (da_cons de_int da_nil))) (da_cons (de_pv (pv 0)) da_nil))) (da_cons (de_pv (pv 1)) da_nil)))))))))
theorem ok_divisor_by_steps {f : Addr} {fd : FuncData} (F : Fun K "_divisor_by_steps" "_divisor_by_steps" s_divisor_by_steps f fd) (h_rest_of : Cl P wd K mg base 2 "rest_of" ["number", "other"] (spP K 2 c_rest_of)) (g_NOUGHT : Gc K mg "NOUGHT" (.tuple [(.int 0), (.int 0)])) : FnG P wd K mg base CX0 3 f fd ["number", "other"] (spP K 2 c_divisor_by_steps) := by
  refine okP (k := 2) (m := 0) (w := w_divisor_by_steps) F sc_divisor_by_steps rfl rfl (fun c cdv A outer s H E hG hr => ?_) sem_divisor_by_steps
  exact (dss_cons (ds_while PassesOwn.never (dt_ne hr (de_pv (pv 1)) (de_gc g_NOUGHT (by rfl))) (dss_one (ds_par (i := 0) (j := 1) rfl sc_divisor_by_steps.nd rfl rfl (by decide) rfl rfl (da_cons (de_pv (pv 1)) (da_cons (de_fn h_rest_of (by decide) hr hG (by rfl) (da_cons (de_pv (pv 0)) (da_cons (de_pv (pv 1)) da_nil))) da_nil)) rfl))) (dss_one (ds_ret (de_pv (pv 0)))))
theorem ok_is_complex {f : Addr} {fd : FuncData} (F : Fun K "is_complex" "is_complex" s_is_complex f fd) (h_are_wholes : Cl P wd K mg base 2 "are_wholes" ["value", "many"] (spP K 2 c_are_wholes)) : FnG P wd K mg base CX0 3 f fd ["value"] (spP K 1 c_is_complex) := by
  refine okP (k := 2) (m := 0) (w := w_is_complex) F sc_is_complex rfl rfl (fun c cdv A outer s H E hG hr => ?_) sem_is_complex
  exact (dss_one (ds_ret (de_fn h_are_wholes (by decide) hr hG (by rfl) (da_cons (de_pv (pv 0)) (da_cons de_int da_nil)))))
theorem ok_require_complex {f : Addr} {fd : FuncData} (F : Fun K "require_complex" "require_complex" s_require_complex f fd) (h_is_complex : Cl P wd K mg base 3 "is_complex" ["value"] (spP K 1 c_is_complex)) {C_InvalidComplex I_InvalidComplex : Addr} (x_InvalidComplex : XTxt K mg "InvalidComplex" "InvalidComplex.__init__" "given" C_InvalidComplex I_InvalidComplex) : FnG P wd K mg base (L2.CX P wd) 4 f fd ["number"] (spX mg K 1 c_require_complex) := by
  refine okX (k := 3) (m := 0) (w := w_require_complex) F sc_require_complex rfl rfl (fun XR c cdv A outer s H E hG hr hx hp => ?_) sem_require_complex
  exact (dss_one (ds_if (dt_not (dt_val (de_fn h_is_complex (by decide) hr hG (by rfl) (da_cons (de_pv (pv 0)) da_nil)))) (dss_one (ds_raise rfl x_InvalidComplex hr hx (de_pv (pv 0)) (by rfl))) dss_nil))
theorem ok_determinant {f : Addr} {fd : FuncData} (F : Fun K "determinant" "determinant" s_determinant f fd) (h_minus : Cl P wd K mg base 1 "minus" ["number", "other"] (spP K 2 c_minus)) (h_times : Cl P wd K mg base 1 "times" ["number", "other"] (spP K 2 c_times)) : FnG P wd K mg base CX0 2 f fd ["numbers"] (spP K 1 c_determinant) := by
  refine okP (k := 1) (m := 4) (w := w_determinant) F sc_determinant rfl rfl (fun c cdv A outer s H E hG hr => ?_) sem_determinant
  exact (dss_cons (ds_asg (vs := [1, 2, 3, 4]) (de_pv (pv 0)) (dg_tup rfl (dgs_cons (dg_name (pg_name (i := 1) sc_determinant.nd rfl (by first | exact Or.inl rfl | exact Or.inr rfl)) (by decide)) (dgs_cons (dg_name (pg_name (i := 2) sc_determinant.nd rfl (by first | exact Or.inl rfl | exact Or.inr rfl)) (by decide)) (dgs_cons (dg_name (pg_name (i := 3) sc_determinant.nd rfl (by first | exact Or.inl rfl | exact Or.inr rfl)) (by decide)) (dgs_cons (dg_name (pg_name (i := 4) sc_determinant.nd rfl (by first | exact Or.inl rfl | exact Or.inr rfl)) (by decide)) dgs_nil)))))) (dss_one (ds_ret (de_fn h_minus (by decide) hr hG (by rfl) (da_cons (de_fn h_times (by decide) hr hG (by rfl) (da_cons (de_pv (pv 1)) (da_cons (de_pv (pv 4)) da_nil))) (da_cons (de_fn h_times (by decide) hr hG (by rfl) (da_cons (de_pv (pv 2)) (da_cons (de_pv (pv 3)) da_nil))) da_nil))))))
theorem ok_map_from {dvs : List V} {f : Addr} {fd : FuncData} (F : FunD K "map_from" "map_from" (defArgs s_map_from) (defBody s_map_from) (defScope s_map_from) dvs [] f fd) (h_divisor_of : Cl P wd K mg base 5 "divisor_of" ["numbers"] (spP K 1 c_divisor_of)) (h_exact_quotient : Cl P wd K mg base 2 "exact_quotient" ["number", "other"] (spP K 2 c_exact_quotient)) (h_is_quarter : Cl P wd K mg base 1 "is_quarter" ["number"] (spP K 1 c_is_quarter)) (h_turned : Cl P wd K mg base 1 "turned" ["number"] (spP K 1 c_turned)) (z_tuple : mg "tuple" = none) (g_NOUGHT : Gc K mg "NOUGHT" (.tuple [(.int 0), (.int 0)])) : FnG P wd K mg base CX0 6 f fd ["flag", "numbers", "multiple"] (spP K 3 c_map_from) := by
  refine okPD (k := 5) (m := 3) (w := w_map_from) F sc_map_from rfl rfl (fun c cdv A outer s H E hG hr => ?_) sem_map_from
  exact (dss_cons (ds_set (i := 3) sc_map_from.nd rfl (by first | exact Or.inl rfl | exact Or.inr rfl) (de_fn h_divisor_of (by decide) hr hG (by rfl) (da_cons (de_cat (de_pv (pv 1)) (de_tup (da_cons (de_pv (pv 2)) da_nil))) da_nil))) (dss_cons (ds_set (i := 1) sc_map_from.nd rfl (by first | exact Or.inl rfl | exact Or.inr rfl) (de_tuple (by rfl) z_tuple (da_cons (de_lc (own := [("number", 5)]) rfl sc_map_from.nd (di_tup (de_pv (pv 1))) (blkOk_by (N := ["flag", "numbers", "multiple", "divisor", "leader", "number"]) (sc := defScope s_map_from) (by decide +kernel)) (fun _ _ _ _ _ => (dg_name (pg_name (i := 5) sc_map_from.nd rfl (by first | exact Or.inl rfl | exact Or.inr rfl)) (by decide))) (fun _ _ _ _ _ => dts_nil) (fun _ _ _ _ _ => (de_fn h_exact_quotient (by decide) hr hG (by rfl) (da_cons (de_pv (pv 5)) (da_cons (de_pv (pv 3)) da_nil))))) da_nil))) (dss_cons (ds_set (i := 4) sc_map_from.nd rfl (by first | exact Or.inl rfl | exact Or.inr rfl) (de_if (dt_ne hr (de_item (de_pv (pv 1)) de_int) (de_gc g_NOUGHT (by rfl))) (de_item (de_pv (pv 1)) de_int) (de_item (de_pv (pv 1)) de_int))) (dss_cons (ds_while PassesOwn.never (dt_not (dt_val (de_fn h_is_quarter (by decide) hr hG (by rfl) (da_cons (de_pv (pv 4)) da_nil)))) (dss_cons (ds_set (i := 4) sc_map_from.nd rfl (by first | exact Or.inl rfl | exact Or.inr rfl) (de_fn h_turned (by decide) hr hG (by rfl) (da_cons (de_pv (pv 4)) da_nil))) (dss_one (ds_set (i := 1) sc_map_from.nd rfl (by first | exact Or.inl rfl | exact Or.inr rfl) (de_tuple (by rfl) z_tuple (da_cons (de_lc (own := [("number", 5)]) rfl sc_map_from.nd (di_tup (de_pv (pv 1))) (blkOk_by (N := ["flag", "numbers", "multiple", "divisor", "leader", "number"]) (sc := defScope s_map_from) (by decide +kernel)) (fun _ _ _ _ _ => (dg_name (pg_name (i := 5) sc_map_from.nd rfl (by first | exact Or.inl rfl | exact Or.inr rfl)) (by decide))) (fun _ _ _ _ _ => dts_nil) (fun _ _ _ _ _ => (de_fn h_turned (by decide) hr hG (by rfl) (da_cons (de_pv (pv 5)) da_nil)))) da_nil)))))) (dss_one (ds_ret (de_cat (de_tup (da_cons (de_pv (pv 0)) da_nil)) (de_pv (pv 1)))))))))
theorem ok_is_flag {f : Addr} {fd : FuncData} (F : Fun K "is_flag" "is_flag" s_is_flag f fd) (h_is_whole : Cl P wd K mg base 1 "is_whole" ["value"] (spP K 1 c_is_whole)) : FnG P wd K mg base CX0 2 f fd ["value"] (spP K 1 c_is_flag) := by
  refine okP (k := 1) (m := 0) (w := w_is_flag) F sc_is_flag rfl rfl (fun c cdv A outer s H E hG hr => ?_) sem_is_flag
  exact (dss_one (ds_ret (de_and (de_fn h_is_whole (by decide) hr hG (by rfl) (da_cons (de_pv (pv 0)) da_nil)) (de_one (de_lele de_int (de_pv (pv 0)) de_int)))))
theorem ok_is_map {f : Addr} {fd : FuncData} (F : Fun K "is_map" "is_map" s_is_map f fd) (h_is_flag : Cl P wd K mg base 2 "is_flag" ["value"] (spP K 1 c_is_flag)) (h_is_complex : Cl P wd K mg base 3 "is_complex" ["value"] (spP K 1 c_is_complex)) (h_determinant : Cl P wd K mg base 2 "determinant" ["numbers"] (spP K 1 c_determinant)) (d_map_from : ClD P wd K mg base 6 "map_from" ["flag", "numbers", "multiple"] [(.tuple [(.int 0), (.int 0)])] (spP K 3 c_map_from)) (z_isinstance : mg "isinstance" = none) (z_tuple : mg "tuple" = none) (z_len : mg "len" = none) (z_all : mg "all" = none) (g_NOUGHT : Gc K mg "NOUGHT" (.tuple [(.int 0), (.int 0)])) : FnG P wd K mg base CX0 7 f fd ["value"] (spP K 1 c_is_map) := by
  refine okP (k := 6) (m := 2) (w := w_is_map) F sc_is_map rfl rfl (fun c cdv A outer s H E hG hr => ?_) sem_is_map
  exact (dss_cons (ds_if (dt_w (dw_or (dt_not (dt_val (de_isa "tuple" (by decide +kernel) isA_tuple kits_tuple (by rfl) z_isinstance (by rfl) z_tuple (de_pv (pv 0))))) (dw_or (dt_ne hr (de_len (by rfl) z_len (da_cons (de_pv (pv 0)) da_nil)) de_int) (dw_or1 (dt_not (dt_val (de_fn h_is_flag (by decide) hr hG (by rfl) (da_cons (de_item (de_pv (pv 0)) de_int) da_nil)))))))) (dss_one (ds_ret de_bl)) dss_nil) (dss_cons (ds_set (i := 1) sc_is_map.nd rfl (by first | exact Or.inl rfl | exact Or.inr rfl) (de_slice (de_pv (pv 0)) (do_some de_int) do_none)) (dss_cons (ds_if (dt_w (dw_or (dt_not (dt_val (de_all rfl (by rfl) z_all (da_cons (de_lc (own := [("number", 2)]) rfl sc_is_map.nd (di_tup (de_pv (pv 1))) (blkOk_by (N := ["value", "numbers", "number"]) (sc := defScope s_is_map) (by decide +kernel)) (fun _ _ _ _ _ => (dg_name (pg_name (i := 2) sc_is_map.nd rfl (by first | exact Or.inl rfl | exact Or.inr rfl)) (by decide))) (fun _ _ _ _ _ => dts_nil) (fun _ _ _ _ _ => (de_fn h_is_complex (by decide) hr hG (by rfl) (da_cons (de_pv (pv 2)) da_nil)))) da_nil)))) (dw_or1 (dt_eq hr (de_fn h_determinant (by decide) hr hG (by rfl) (da_cons (de_pv (pv 1)) da_nil)) (de_gc g_NOUGHT (by rfl)))))) (dss_one (ds_ret de_bl)) dss_nil) (dss_one (ds_ret (de_eq hr (de_pv (pv 0)) (de_fnD d_map_from (by decide) hr hG (by rfl) (da_cons (de_item (de_pv (pv 0)) de_int) (da_cons (de_pv (pv 1)) da_nil)))))))))
theorem ok_map_of {f : Addr} {fd : FuncData} (F : Fun K "map_of" "map_of" s_map_of f fd) (h_is_flag : Cl P wd K mg base 2 "is_flag" ["value"] (spP K 1 c_is_flag)) (h_determinant : Cl P wd K mg base 2 "determinant" ["numbers"] (spP K 1 c_determinant)) (d_map_from : ClD P wd K mg base 6 "map_from" ["flag", "numbers", "multiple"] [(.tuple [(.int 0), (.int 0)])] (spP K 3 c_map_from)) (y_require_complex : ClX P wd K mg base 4 "require_complex" ["number"] (spX mg K 1 c_require_complex)) {C_InvalidFlag I_InvalidFlag : Addr} (x_InvalidFlag : XTxt K mg "InvalidFlag" "InvalidFlag.__init__" "given" C_InvalidFlag I_InvalidFlag) {C_NoMap : Addr} (n_NoMap : X0Txt K mg "NoMap" C_NoMap) (g_NOUGHT : Gc K mg "NOUGHT" (.tuple [(.int 0), (.int 0)])) : FnG P wd K mg base (L2.CX P wd) 7 f fd ["is_mirrored", "first", "second", "third", "fourth"] (spX mg K 5 c_map_of) := by
  refine okX (k := 6) (m := 2) (w := w_map_of) F sc_map_of rfl rfl (fun XR c cdv A outer s H E hG hr hx hp => ?_) sem_map_of
  exact (dss_cons (ds_if (dt_not (dt_val (de_fn h_is_flag (by decide) hr hG (by rfl) (da_cons (de_pv (pv 0)) da_nil)))) (dss_one (ds_raise rfl x_InvalidFlag hr hx (de_pv (pv 0)) (by rfl))) dss_nil) (dss_cons (ds_set (i := 5) sc_map_of.nd rfl (by first | exact Or.inl rfl | exact Or.inr rfl) (de_tup (da_cons (de_pv (pv 1)) (da_cons (de_pv (pv 2)) (da_cons (de_pv (pv 3)) (da_cons (de_pv (pv 4)) da_nil)))))) (dss_cons (ds_for (vs := [6]) hp rfl (di_tup (de_pv (pv 5))) (dg_name (pg_name (i := 6) sc_map_of.nd rfl (by first | exact Or.inl rfl | exact Or.inr rfl)) (by decide)) (dss_one (ds_expr (de_fnX y_require_complex hx (by decide) hr hG (by rfl) (da_cons (de_pv (pv 6)) da_nil))))) (dss_cons (ds_if (dt_eq hr (de_fn h_determinant (by decide) hr hG (by rfl) (da_cons (de_pv (pv 5)) da_nil)) (de_gc g_NOUGHT (by rfl))) (dss_one (ds_raise0 rfl n_NoMap hx (by rfl))) dss_nil) (dss_one (ds_ret (de_fnD d_map_from (by decide) hr hG (by rfl) (da_cons (de_pv (pv 0)) (da_cons (de_pv (pv 5)) da_nil)))))))))
theorem ok_law_tank {f : Addr} {fd : FuncData} (F : Fun K "_law_tank" "_law_tank" s_law_tank f fd) (z_int : mg "int" = none) (z_len : mg "len" = none) (z_abs : mg "abs" = none) : FnG P wd K mg base CX0 1 f fd ["_law_script", "_law_spot"] (spF K 2 c_law_tank) := by
  refine okF (k := 0) (m := 4) (w := w_law_tank) F sc_law_tank rfl rfl (fun c cdv A outer s H E hG hr => ?_) sem_law_tank
  exact (dss_cons (ds_set (i := 2) sc_law_tank.nd rfl (by first | exact Or.inl rfl | exact Or.inr rfl) (de_cat de_int (de_mul de_int (de_pv (pv 1))))) (dss_cons (ds_for (vs := [3]) PassesOwn.never rfl (di_list (de_slice (de_pv (pv 0)) do_none (do_some de_int))) (dg_name (pg_name (i := 3) sc_law_tank.nd rfl (by first | exact Or.inl rfl | exact Or.inr rfl)) (by decide)) (dss_one (ds_set (i := 2) sc_law_tank.nd rfl (by first | exact Or.inl rfl | exact Or.inr rfl) (de_mod (de_intc (by rfl) z_int (da_cons (de_cat (de_cat (de_mul (de_pv (pv 2)) de_int) (de_mod (de_intc (by rfl) z_int (da_cons (de_pv (pv 3)) da_nil)) de_int)) de_int) da_nil)) de_int)))) (dss_cons (ds_set (i := 4) sc_law_tank.nd rfl (by first | exact Or.inl rfl | exact Or.inr rfl) (de_if (dt_lt (de_pv (pv 1)) (de_len (by rfl) z_len (da_cons (de_pv (pv 0)) da_nil))) (de_intc (by rfl) z_int (da_cons (de_item (de_pv (pv 0)) (de_pv (pv 1))) da_nil)) (de_pv (pv 2)))) (dss_cons (ds_set (i := 5) sc_law_tank.nd rfl (by first | exact Or.inl rfl | exact Or.inr rfl) (de_if (dt_w (dw_or (dt_lt (de_pv (pv 4)) de_int) (dw_or1 (dt_ge (de_pv (pv 4)) (de_pow de_int de_int))))) (de_abs (by rfl) z_abs (da_cons (de_pv (pv 4)) da_nil)) de_int)) (dss_one (ds_retL (da_cons (de_pv (pv 5)) (da_cons (de_mod (de_intc (by rfl) z_int (da_cons (de_cat (de_cat (de_mul (de_pv (pv 2)) de_int) (de_mul (de_mod (de_intc (by rfl) z_int (da_cons (de_pv (pv 4)) da_nil)) de_int) de_int)) de_int) da_nil)) de_int) (da_cons de_int da_nil)))))))))
theorem ok_law_draw {f : Addr} {fd : FuncData} (F : Fun K "_law_draw" "_law_draw" s_law_draw f fd) (z_divmod : mg "divmod" = none) (z_int : mg "int" = none) : FnG P wd K mg base CX0 1 f fd ["_law_tank_here", "_law_many"] (spT K 2 c_law_draw) := by
  refine okT (k := 0) (m := 2) (w := w_law_draw) F sc_law_draw rfl rfl (fun c cdv A outer s H E hG hr => ?_) sem_law_draw
  exact (dss_cons (ds_if (dt_gt (de_ownIx (pv 0) de_int) de_int) (dss_cons (ds_asg (vs := [2]) (de_divmod (by rfl) z_divmod (da_cons (de_ownIx (pv 0) de_int) (da_cons (de_pv (pv 1)) da_nil))) (dg_tup rfl (dgs_cons (dg_sub (pv 0) de_int) (dgs_cons (dg_name (pg_name (i := 2) sc_law_draw.nd rfl (by first | exact Or.inl rfl | exact Or.inr rfl)) (by decide)) dgs_nil)))) (dss_one (ds_ret (de_pv (pv 2))))) dss_nil) (dss_cons (ds_asg (vs := []) (de_cat (de_ownIx (pv 0) de_int) de_int) (dg_sub (pv 0) de_int)) (dss_cons (ds_set (i := 3) sc_law_draw.nd rfl (by first | exact Or.inl rfl | exact Or.inr rfl) (de_cat (de_mod (de_intc (by rfl) z_int (da_cons (de_ownIx (pv 0) de_int) da_nil)) de_int) de_int)) (dss_cons (ds_asg (vs := []) (de_mod (de_intc (by rfl) z_int (da_cons (de_cat (de_cat (de_mul (de_ownIx (pv 0) de_int) (de_pv (pv 3))) (de_mul de_int (de_ownIx (pv 0) de_int))) de_int) da_nil)) de_int) (dg_sub (pv 0) de_int)) (dss_one (ds_ret (de_mod (de_intc (by rfl) z_int (da_cons (de_div (de_ownIx (pv 0) de_int) de_int) da_nil)) (de_pv (pv 1)))))))))
theorem ok_law_pick {f : Addr} {fd : FuncData} (F : Fun K "_law_pick" "_law_pick" s_law_pick f fd) (h_law_draw : Cl P wd K mg base 1 "_law_draw" ["_law_tank_here", "_law_many"] (spT K 2 c_law_draw)) (z_len : mg "len" = none) : FnG P wd K mg base CX0 2 f fd ["_law_tank_here", "_law_some"] (spT K 2 c_law_pick) := by
  refine okT (k := 1) (m := 0) (w := w_law_pick) F sc_law_pick rfl rfl (fun c cdv A outer s H E hG hr => ?_) sem_law_pick
  exact (dss_one (ds_ret (de_item (de_pv (pv 1)) (de_fnT (i := 0) h_law_draw (by decide) hr hG (by rfl) (pv 0) (da_cons (de_len (by rfl) z_len (da_cons (de_pv (pv 1)) da_nil)) da_nil)))))
theorem ok_law_rounds {f : Addr} {fd : FuncData} (F : Fun K "_law_rounds" "_law_rounds" s_law_rounds f fd) (z_max : mg "max" = none) (z_min : mg "min" = none) (z_len : mg "len" = none) : FnG P wd K mg base CX0 1 f fd ["_law_script"] (spP K 1 c_law_rounds) := by
  refine okP (k := 0) (m := 0) (w := w_law_rounds) F sc_law_rounds rfl rfl (fun c cdv A outer s H E hG hr => ?_) sem_law_rounds
  exact (dss_one (ds_ret (de_max2 rfl (by rfl) z_max (da_cons de_int (da_cons (de_min2 rfl (by rfl) z_min (da_cons (de_len (by rfl) z_len (da_cons (de_pv (pv 0)) da_nil)) (da_cons de_int da_nil))) da_nil)))))
theorem ok_law_number {f : Addr} {fd : FuncData} (F : Fun K "_law_number" "_law_number" s_law_number f fd) (h_law_pick : Cl P wd K mg base 2 "_law_pick" ["_law_tank_here", "_law_some"] (spT K 2 c_law_pick)) (h_law_draw : Cl P wd K mg base 1 "_law_draw" ["_law_tank_here", "_law_many"] (spT K 2 c_law_draw)) : FnG P wd K mg base CX0 3 f fd ["_law_tank_here"] (spT K 1 c_law_number) := by
  refine okT (k := 2) (m := 1) (w := w_law_number) F sc_law_number rfl rfl (fun c cdv A outer s H E hG hr => ?_) sem_law_number
  exact (dss_cons (ds_set (i := 1) sc_law_number.nd rfl (by first | exact Or.inl rfl | exact Or.inr rfl) (de_fnT (i := 0) h_law_pick (by decide) hr hG (by rfl) (pv 0) (da_cons (de_tup (da_cons de_int (da_cons de_int (da_cons de_int (da_cons de_int (da_cons de_int (da_cons de_int (da_cons de_int da_nil)))))))) da_nil))) (dss_cons (ds_if (dt_gt (de_pv (pv 1)) de_int) (dss_one (ds_ret (de_sub (de_fnT (i := 0) h_law_draw (by decide) hr hG (by rfl) (pv 0) (da_cons (de_cat (de_mul de_int (de_pv (pv 1))) de_int) da_nil)) (de_pv (pv 1))))) dss_nil) (dss_one (ds_ret (de_mul (de_cat (de_mul (de_fnT (i := 0) h_law_draw (by decide) hr hG (by rfl) (pv 0) (da_cons de_int da_nil)) de_int) (de_fnT (i := 0) h_law_draw (by decide) hr hG (by rfl) (pv 0) (da_cons de_int da_nil))) (de_sub de_int (de_mul de_int (de_fnT (i := 0) h_law_draw (by decide) hr hG (by rfl) (pv 0) (da_cons de_int da_nil)))))))))
theorem ok_law_small {f : Addr} {fd : FuncData} (F : Fun K "_law_small" "_law_small" s_law_small f fd) (h_law_pick : Cl P wd K mg base 2 "_law_pick" ["_law_tank_here", "_law_some"] (spT K 2 c_law_pick)) (h_law_draw : Cl P wd K mg base 1 "_law_draw" ["_law_tank_here", "_law_many"] (spT K 2 c_law_draw)) : FnG P wd K mg base CX0 3 f fd ["_law_tank_here"] (spT K 1 c_law_small) := by
  refine okT (k := 2) (m := 1) (w := w_law_small) F sc_law_small rfl rfl (fun c cdv A outer s H E hG hr => ?_) sem_law_small
  exact (dss_cons (ds_set (i := 1) sc_law_small.nd rfl (by first | exact Or.inl rfl | exact Or.inr rfl) (de_fnT (i := 0) h_law_pick (by decide) hr hG (by rfl) (pv 0) (da_cons (de_tup (da_cons de_int (da_cons de_int (da_cons de_int (da_cons de_int (da_cons de_int da_nil)))))) da_nil))) (dss_one (ds_ret (de_sub (de_fnT (i := 0) h_law_draw (by decide) hr hG (by rfl) (pv 0) (da_cons (de_cat (de_mul de_int (de_pv (pv 1))) de_int) da_nil)) (de_pv (pv 1))))))
theorem ok_law_less {f : Addr} {fd : FuncData} (F : Fun K "_law_less" "_law_less" s_law_less f fd)  : FnG P wd K mg base CX0 1 f fd ["_law_one", "_law_two"] (spP K 2 c_law_less) := by
  refine okP (k := 0) (m := 0) (w := w_law_less) F sc_law_less rfl rfl (fun c cdv A outer s H E hG hr => ?_) sem_law_less
  exact (dss_one (ds_ret (de_tup (da_cons (de_sub (de_item (de_pv (pv 0)) de_int) (de_item (de_pv (pv 1)) de_int)) (da_cons (de_sub (de_item (de_pv (pv 0)) de_int) (de_item (de_pv (pv 1)) de_int)) da_nil)))))
theorem ok_law_times {f : Addr} {fd : FuncData} (F : Fun K "_law_times" "_law_times" s_law_times f fd)  : FnG P wd K mg base CX0 1 f fd ["_law_one", "_law_two"] (spP K 2 c_law_times) := by
  refine okP (k := 0) (m := 0) (w := w_law_times) F sc_law_times rfl rfl (fun c cdv A outer s H E hG hr => ?_) sem_law_times
  exact (dss_one (ds_ret (de_tup (da_cons (de_sub (de_mul (de_item (de_pv (pv 0)) de_int) (de_item (de_pv (pv 1)) de_int)) (de_mul (de_item (de_pv (pv 0)) de_int) (de_item (de_pv (pv 1)) de_int))) (da_cons (de_cat (de_mul (de_item (de_pv (pv 0)) de_int) (de_item (de_pv (pv 1)) de_int)) (de_mul (de_item (de_pv (pv 0)) de_int) (de_item (de_pv (pv 1)) de_int))) da_nil)))))
theorem ok_law_star {f : Addr} {fd : FuncData} (F : Fun K "_law_star" "_law_star" s_law_star f fd)  : FnG P wd K mg base CX0 1 f fd ["_law_one"] (spP K 1 c_law_star) := by
  refine okP (k := 0) (m := 0) (w := w_law_star) F sc_law_star rfl rfl (fun c cdv A outer s H E hG hr => ?_) sem_law_star
  exact (dss_one (ds_ret (de_tup (da_cons (de_item (de_pv (pv 0)) de_int) (da_cons (de_sub de_int (de_item (de_pv (pv 0)) de_int)) da_nil)))))
theorem ok_law_size {f : Addr} {fd : FuncData} (F : Fun K "_law_size" "_law_size" s_law_size f fd)  : FnG P wd K mg base CX0 1 f fd ["_law_one"] (spP K 1 c_law_size) := by
  refine okP (k := 0) (m := 0) (w := w_law_size) F sc_law_size rfl rfl (fun c cdv A outer s H E hG hr => ?_) sem_law_size
  exact (dss_one (ds_ret (de_cat (de_mul (de_item (de_pv (pv 0)) de_int) (de_item (de_pv (pv 0)) de_int)) (de_mul (de_item (de_pv (pv 0)) de_int) (de_item (de_pv (pv 0)) de_int)))))
theorem ok_law_quarter {f : Addr} {fd : FuncData} (F : Fun K "_law_quarter" "_law_quarter" s_law_quarter f fd) (z_range : mg "range" = none) : FnG P wd K mg base CX0 1 f fd ["_law_one"] (spP K 1 c_law_quarter) := by
  refine okP (k := 0) (m := 3) (w := w_law_quarter) F sc_law_quarter rfl rfl (fun c cdv A outer s H E hG hr => ?_) sem_law_quarter
  exact (dss_cons (ds_asg (vs := [1, 2]) (de_pv (pv 0)) (dg_tup rfl (dgs_cons (dg_name (pg_name (i := 1) sc_law_quarter.nd rfl (by first | exact Or.inl rfl | exact Or.inr rfl)) (by decide)) (dgs_cons (dg_name (pg_name (i := 2) sc_law_quarter.nd rfl (by first | exact Or.inl rfl | exact Or.inr rfl)) (by decide)) dgs_nil)))) (dss_cons (ds_for (vs := [3]) PassesOwn.never rfl (di_rng1 (by rfl) z_range (da_cons de_int da_nil)) (dg_name (pg_name (i := 3) sc_law_quarter.nd rfl (by first | exact Or.inl rfl | exact Or.inr rfl)) (by decide)) (dss_cons (ds_if (dt_w (dw_and (dt_gt (de_pv (pv 1)) de_int) (dw_and1 (dt_ge (de_pv (pv 2)) de_int)))) (dss_one (ds_ret (de_tup (da_cons (de_pv (pv 1)) (da_cons (de_pv (pv 2)) da_nil))))) dss_nil) (dss_one (ds_par (i := 1) (j := 2) rfl sc_law_quarter.nd rfl rfl (by decide) rfl rfl (da_cons (de_sub de_int (de_pv (pv 2))) (da_cons (de_pv (pv 1)) da_nil)) rfl)))) (dss_one (ds_ret (de_tup (da_cons de_int (da_cons de_int da_nil)))))))
theorem ok_law_over {f : Addr} {fd : FuncData} (F : Fun K "_law_over" "_law_over" s_law_over f fd) (h_law_size : Cl P wd K mg base 1 "_law_size" ["_law_one"] (spP K 1 c_law_size)) (h_law_times : Cl P wd K mg base 1 "_law_times" ["_law_one", "_law_two"] (spP K 2 c_law_times)) (h_law_star : Cl P wd K mg base 1 "_law_star" ["_law_one"] (spP K 1 c_law_star)) (z_int : mg "int" = none) : FnG P wd K mg base CX0 2 f fd ["_law_one", "_law_two"] (spP K 2 c_law_over) := by
  refine okP (k := 1) (m := 3) (w := w_law_over) F sc_law_over rfl rfl (fun c cdv A outer s H E hG hr => ?_) sem_law_over
  exact (dss_cons (ds_set (i := 2) sc_law_over.nd rfl (by first | exact Or.inl rfl | exact Or.inr rfl) (de_fn h_law_size (by decide) hr hG (by rfl) (da_cons (de_pv (pv 1)) da_nil))) (dss_cons (ds_if (dt_eq hr (de_pv (pv 2)) de_int) (dss_one (ds_ret de_non)) dss_nil) (dss_cons (ds_asg (vs := [3, 4]) (de_fn h_law_times (by decide) hr hG (by rfl) (da_cons (de_pv (pv 0)) (da_cons (de_fn h_law_star (by decide) hr hG (by rfl) (da_cons (de_pv (pv 1)) da_nil)) da_nil))) (dg_tup rfl (dgs_cons (dg_name (pg_name (i := 3) sc_law_over.nd rfl (by first | exact Or.inl rfl | exact Or.inr rfl)) (by decide)) (dgs_cons (dg_name (pg_name (i := 4) sc_law_over.nd rfl (by first | exact Or.inl rfl | exact Or.inr rfl)) (by decide)) dgs_nil)))) (dss_one (ds_ret (de_if (dt_w (dw_and (dt_eq hr (de_mod (de_intc (by rfl) z_int (da_cons (de_pv (pv 3)) da_nil)) (de_pv (pv 2))) de_int) (dw_and1 (dt_eq hr (de_mod (de_intc (by rfl) z_int (da_cons (de_pv (pv 4)) da_nil)) (de_pv (pv 2))) de_int)))) (de_tup (da_cons (de_div (de_pv (pv 3)) (de_pv (pv 2))) (da_cons (de_div (de_pv (pv 4)) (de_pv (pv 2))) da_nil))) de_non))))))
theorem ok_law_common {f : Addr} {fd : FuncData} (F : Fun K "_law_common" "_law_common" s_law_common f fd) (h_law_size : Cl P wd K mg base 1 "_law_size" ["_law_one"] (spP K 1 c_law_size)) (h_law_times : Cl P wd K mg base 1 "_law_times" ["_law_one", "_law_two"] (spP K 2 c_law_times)) (h_law_star : Cl P wd K mg base 1 "_law_star" ["_law_one"] (spP K 1 c_law_star)) (h_law_less : Cl P wd K mg base 1 "_law_less" ["_law_one", "_law_two"] (spP K 2 c_law_less)) (z_range : mg "range" = none) : FnG P wd K mg base CX0 2 f fd ["_law_numbers"] (spP K 1 c_law_common) := by
  refine okP (k := 1) (m := 9) (w := w_law_common) F sc_law_common rfl rfl (fun c cdv A outer s H E hG hr => ?_) sem_law_common
  exact (dss_cons (ds_set (i := 1) sc_law_common.nd rfl (by first | exact Or.inl rfl | exact Or.inr rfl) (de_tup (da_cons de_int (da_cons de_int da_nil)))) (dss_cons (ds_for (vs := [2]) PassesOwn.never rfl (di_any (de_pv (pv 0))) (dg_name (pg_name (i := 2) sc_law_common.nd rfl (by first | exact Or.inl rfl | exact Or.inr rfl)) (by decide)) (dss_cons (ds_par (i := 3) (j := 4) rfl sc_law_common.nd rfl rfl (by decide) rfl rfl (da_cons (de_pv (pv 1)) (da_cons (de_pv (pv 2)) da_nil)) rfl) (dss_cons (ds_for (vs := [5]) PassesOwn.never rfl (di_rng1 (by rfl) z_range (da_cons de_int da_nil)) (dg_name (pg_name (i := 5) sc_law_common.nd rfl (by first | exact Or.inl rfl | exact Or.inr rfl)) (by decide)) (dss_cons (ds_set (i := 6) sc_law_common.nd rfl (by first | exact Or.inl rfl | exact Or.inr rfl) (de_fn h_law_size (by decide) hr hG (by rfl) (da_cons (de_pv (pv 4)) da_nil))) (dss_cons (ds_if (dt_eq hr (de_pv (pv 6)) de_int) (dss_one ds_break) dss_nil) (dss_cons (ds_asg (vs := [7, 8]) (de_fn h_law_times (by decide) hr hG (by rfl) (da_cons (de_pv (pv 3)) (da_cons (de_fn h_law_star (by decide) hr hG (by rfl) (da_cons (de_pv (pv 4)) da_nil)) da_nil))) (dg_tup rfl (dgs_cons (dg_name (pg_name (i := 7) sc_law_common.nd rfl (by first | exact Or.inl rfl | exact Or.inr rfl)) (by decide)) (dgs_cons (dg_name (pg_name (i := 8) sc_law_common.nd rfl (by first | exact Or.inl rfl | exact Or.inr rfl)) (by decide)) dgs_nil)))) (dss_cons (ds_set (i := 9) sc_law_common.nd rfl (by first | exact Or.inl rfl | exact Or.inr rfl) (de_tup (da_cons (de_div (de_cat (de_mul de_int (de_pv (pv 7))) (de_pv (pv 6))) (de_mul de_int (de_pv (pv 6)))) (da_cons (de_div (de_cat (de_mul de_int (de_pv (pv 8))) (de_pv (pv 6))) (de_mul de_int (de_pv (pv 6)))) da_nil)))) (dss_one (ds_par (i := 3) (j := 4) rfl sc_law_common.nd rfl rfl (by decide) rfl rfl (da_cons (de_pv (pv 4)) (da_cons (de_fn h_law_less (by decide) hr hG (by rfl) (da_cons (de_pv (pv 3)) (da_cons (de_fn h_law_times (by decide) hr hG (by rfl) (da_cons (de_pv (pv 9)) (da_cons (de_pv (pv 4)) da_nil))) da_nil))) da_nil)) rfl))))))) (dss_one (ds_set (i := 1) sc_law_common.nd rfl (by first | exact Or.inl rfl | exact Or.inr rfl) (de_pv (pv 3))))))) (dss_one (ds_ret (de_pv (pv 1))))))
theorem ok_law_is_whole {f : Addr} {fd : FuncData} (F : Fun K "_law_is_whole" "_law_is_whole" s_law_is_whole f fd) (z_isinstance : mg "isinstance" = none) (z_tuple : mg "tuple" = none) (z_len : mg "len" = none) (z_int : mg "int" = none) (z_bool : mg "bool" = none) : FnG P wd K mg base CX0 1 f fd ["_law_thing", "_law_many"] (spP K 2 c_law_is_whole) := by
  refine okP (k := 0) (m := 1) (w := w_law_is_whole) F sc_law_is_whole rfl rfl (fun c cdv A outer s H E hG hr => ?_) sem_law_is_whole
  exact (dss_cons (ds_if (dt_w (dw_or (dt_not (dt_val (de_isa "tuple" (by decide +kernel) isA_tuple kits_tuple (by rfl) z_isinstance (by rfl) z_tuple (de_pv (pv 0))))) (dw_or1 (dt_ne hr (de_len (by rfl) z_len (da_cons (de_pv (pv 0)) da_nil)) (de_pv (pv 1)))))) (dss_one (ds_ret de_bl)) dss_nil) (dss_one (ds_ret (de_eq hr (de_lc (own := [("_law_each", 2)]) rfl sc_law_is_whole.nd (di_tup (de_pv (pv 0))) (blkOk_by (N := ["_law_thing", "_law_many", "_law_each"]) (sc := defScope s_law_is_whole) (by decide +kernel)) (fun _ _ _ _ _ => (dg_name (pg_name (i := 2) sc_law_is_whole.nd rfl (by first | exact Or.inl rfl | exact Or.inr rfl)) (by decide))) (fun _ _ _ _ _ => (dts_one (dt_w (dw_or (dt_not (dt_val (de_isa "int" (by decide +kernel) isA_int kits_int (by rfl) z_isinstance (by rfl) z_int (de_pv (pv 2))))) (dw_or1 (dt_val (de_isa "bool" (by decide +kernel) isA_bool kits_bool (by rfl) z_isinstance (by rfl) z_bool (de_pv (pv 2))))))))) (fun _ _ _ _ _ => (de_pv (pv 2)))) (de_lst da_nil)))))
theorem ok_law_complex {f : Addr} {fd : FuncData} (F : Fun K "_law_complex" "_law_complex" s_law_complex f fd) (h_law_number : Cl P wd K mg base 3 "_law_number" ["_law_tank_here"] (spT K 1 c_law_number)) : FnG P wd K mg base CX0 4 f fd ["_law_tank_here"] (spT K 1 c_law_complex) := by
  refine okT (k := 3) (m := 0) (w := w_law_complex) F sc_law_complex rfl rfl (fun c cdv A outer s H E hG hr => ?_) sem_law_complex
  exact (dss_one (ds_ret (de_tup (da_cons (de_fnT (i := 0) h_law_number (by decide) hr hG (by rfl) (pv 0) da_nil) (da_cons (de_fnT (i := 0) h_law_number (by decide) hr hG (by rfl) (pv 0) da_nil) da_nil)))))
theorem ok_law_little {f : Addr} {fd : FuncData} (F : Fun K "_law_little" "_law_little" s_law_little f fd) (h_law_small : Cl P wd K mg base 3 "_law_small" ["_law_tank_here"] (spT K 1 c_law_small)) : FnG P wd K mg base CX0 4 f fd ["_law_tank_here"] (spT K 1 c_law_little) := by
  refine okT (k := 3) (m := 0) (w := w_law_little) F sc_law_little rfl rfl (fun c cdv A outer s H E hG hr => ?_) sem_law_little
  exact (dss_one (ds_ret (de_tup (da_cons (de_fnT (i := 0) h_law_small (by decide) hr hG (by rfl) (pv 0) da_nil) (da_cons (de_fnT (i := 0) h_law_small (by decide) hr hG (by rfl) (pv 0) da_nil) da_nil)))))
theorem ok_law_map {f : Addr} {fd : FuncData} (F : Fun K "_law_map" "_law_map" s_law_map f fd) (h_law_common : Cl P wd K mg base 2 "_law_common" ["_law_numbers"] (spP K 1 c_law_common)) (h_law_over : Cl P wd K mg base 2 "_law_over" ["_law_one", "_law_two"] (spP K 2 c_law_over)) (h_law_quarter : Cl P wd K mg base 1 "_law_quarter" ["_law_one"] (spP K 1 c_law_quarter)) (h_law_times : Cl P wd K mg base 1 "_law_times" ["_law_one", "_law_two"] (spP K 2 c_law_times)) : FnG P wd K mg base CX0 3 f fd ["_law_flag", "_law_numbers"] (spP K 2 c_law_map) := by
  refine okP (k := 2) (m := 5) (w := w_law_map) F sc_law_map rfl rfl (fun c cdv A outer s H E hG hr => ?_) sem_law_map
  exact (dss_cons (ds_set (i := 2) sc_law_map.nd rfl (by first | exact Or.inl rfl | exact Or.inr rfl) (de_fn h_law_common (by decide) hr hG (by rfl) (da_cons (de_pv (pv 1)) da_nil))) (dss_cons (ds_setLc (i := 3) (own := [("_law_each", 6)]) rfl sc_law_map.nd rfl rfl (sw_true rfl rfl rfl (by decide +kernel)) (di_any (de_pv (pv 1))) (blkOk_by (N := ["_law_flag", "_law_numbers", "_law_part", "_law_rest", "_law_first", "_law_unit", "_law_each"]) (sc := defScope s_law_map) (by decide +kernel)) (fun _ _ _ _ _ => (dg_name (pg_name (i := 6) sc_law_map.nd rfl (by first | exact Or.inl rfl | exact Or.inr rfl)) (by decide))) (fun _ _ _ _ _ => dts_nil) (fun _ _ _ _ _ => (de_fn h_law_over (by decide) hr hG (by rfl) (da_cons (de_pv (pv 6)) (da_cons (de_pv (pv 2)) da_nil))))) (dss_cons (ds_set (i := 4) sc_law_map.nd rfl (by first | exact Or.inl rfl | exact Or.inr rfl) (de_item (de_lc (own := [("_law_each", 6)]) rfl sc_law_map.nd (di_list (de_pv (pv 3))) (blkOk_by (N := ["_law_flag", "_law_numbers", "_law_part", "_law_rest", "_law_first", "_law_unit", "_law_each"]) (sc := defScope s_law_map) (by decide +kernel)) (fun _ _ _ _ _ => (dg_name (pg_name (i := 6) sc_law_map.nd rfl (by first | exact Or.inl rfl | exact Or.inr rfl)) (by decide))) (fun _ _ _ _ _ => (dts_one (dt_ne hr (de_pv (pv 6)) (de_tup (da_cons de_int (da_cons de_int da_nil)))))) (fun _ _ _ _ _ => (de_pv (pv 6)))) de_int)) (dss_cons (ds_set (i := 5) sc_law_map.nd rfl (by first | exact Or.inl rfl | exact Or.inr rfl) (de_fn h_law_over (by decide) hr hG (by rfl) (da_cons (de_fn h_law_quarter (by decide) hr hG (by rfl) (da_cons (de_pv (pv 4)) da_nil)) (da_cons (de_pv (pv 4)) da_nil)))) (dss_cons (ds_setLc (i := 3) (own := [("_law_each", 6)]) rfl sc_law_map.nd rfl rfl (sw_true rfl rfl rfl (by decide +kernel)) (di_list (de_pv (pv 3))) (blkOk_by (N := ["_law_flag", "_law_numbers", "_law_part", "_law_rest", "_law_first", "_law_unit", "_law_each"]) (sc := defScope s_law_map) (by decide +kernel)) (fun _ _ _ _ _ => (dg_name (pg_name (i := 6) sc_law_map.nd rfl (by first | exact Or.inl rfl | exact Or.inr rfl)) (by decide))) (fun _ _ _ _ _ => dts_nil) (fun _ _ _ _ _ => (de_fn h_law_times (by decide) hr hG (by rfl) (da_cons (de_pv (pv 6)) (da_cons (de_pv (pv 5)) da_nil))))) (dss_one (ds_ret (de_tup (da_cons (de_pv (pv 0)) (da_cons (de_item (de_pv (pv 3)) de_int) (da_cons (de_item (de_pv (pv 3)) de_int) (da_cons (de_item (de_pv (pv 3)) de_int) (da_cons (de_item (de_pv (pv 3)) de_int) da_nil)))))))))))))
theorem ok_law_det {f : Addr} {fd : FuncData} (F : Fun K "_law_det" "_law_det" s_law_det f fd) (h_law_less : Cl P wd K mg base 1 "_law_less" ["_law_one", "_law_two"] (spP K 2 c_law_less)) (h_law_times : Cl P wd K mg base 1 "_law_times" ["_law_one", "_law_two"] (spP K 2 c_law_times)) : FnG P wd K mg base CX0 2 f fd ["_law_numbers"] (spP K 1 c_law_det) := by
  refine okP (k := 1) (m := 0) (w := w_law_det) F sc_law_det rfl rfl (fun c cdv A outer s H E hG hr => ?_) sem_law_det
  exact (dss_one (ds_ret (de_fn h_law_less (by decide) hr hG (by rfl) (da_cons (de_fn h_law_times (by decide) hr hG (by rfl) (da_cons (de_item (de_pv (pv 0)) de_int) (da_cons (de_item (de_pv (pv 0)) de_int) da_nil))) (da_cons (de_fn h_law_times (by decide) hr hG (by rfl) (da_cons (de_item (de_pv (pv 0)) de_int) (da_cons (de_item (de_pv (pv 0)) de_int) da_nil))) da_nil)))))
theorem ok_law_four {f : Addr} {fd : FuncData} (F : Fun K "_law_four" "_law_four" s_law_four f fd) (h_law_draw : Cl P wd K mg base 1 "_law_draw" ["_law_tank_here", "_law_many"] (spT K 2 c_law_draw)) (h_law_little : Cl P wd K mg base 4 "_law_little" ["_law_tank_here"] (spT K 1 c_law_little)) (h_law_det : Cl P wd K mg base 2 "_law_det" ["_law_numbers"] (spP K 1 c_law_det)) (z_range : mg "range" = none) : FnG P wd K mg base CX0 5 f fd ["_law_tank_here"] (spT K 1 c_law_four) := by
  refine okT (k := 4) (m := 3) (w := w_law_four) F sc_law_four rfl rfl (fun c cdv A outer s H E hG hr => ?_) sem_law_four
  exact (dss_cons (ds_set (i := 1) sc_law_four.nd rfl (by first | exact Or.inl rfl | exact Or.inr rfl) (de_fnT (i := 0) h_law_draw (by decide) hr hG (by rfl) (pv 0) (da_cons de_int da_nil))) (dss_cons (ds_for (vs := [2]) PassesOwn.never rfl (di_rng1 (by rfl) z_range (da_cons de_int da_nil)) (dg_name (pg_name (i := 2) sc_law_four.nd rfl (by first | exact Or.inl rfl | exact Or.inr rfl)) (by decide)) (dss_cons (ds_ownR (i := 3) sc_law_four.nd rfl (by first | exact Or.inl rfl | exact Or.inr rfl) (da_cons (de_fnT (i := 0) h_law_little (by decide) hr hG (by rfl) (pv 0) da_nil) (da_cons (de_fnT (i := 0) h_law_little (by decide) hr hG (by rfl) (pv 0) da_nil) (da_cons (de_fnT (i := 0) h_law_little (by decide) hr hG (by rfl) (pv 0) da_nil) (da_cons (de_fnT (i := 0) h_law_little (by decide) hr hG (by rfl) (pv 0) da_nil) da_nil))))) (dss_cons (ds_if (dt_eq hr (de_pv (pv 1)) de_int) (dss_one (ds_asg (vs := []) (de_tup (da_cons (de_tup (da_cons de_int (da_cons de_int da_nil))) (da_cons (de_tup (da_cons de_int (da_cons de_int da_nil))) (da_cons (de_tup (da_cons de_int (da_cons de_int da_nil))) da_nil)))) (dg_tup rfl (dgs_cons (dg_sub (pv 3) de_int) (dgs_cons (dg_sub (pv 3) de_int) (dgs_cons (dg_sub (pv 3) de_int) dgs_nil)))))) dss_nil) (dss_cons (ds_if (dt_eq hr (de_pv (pv 1)) de_int) (dss_one (ds_asg (vs := []) (de_tup (da_cons (de_tup (da_cons de_int (da_cons de_int da_nil))) (da_cons (de_tup (da_cons de_int (da_cons de_int da_nil))) da_nil))) (dg_tup rfl (dgs_cons (dg_sub (pv 3) de_int) (dgs_cons (dg_sub (pv 3) de_int) dgs_nil))))) dss_nil) (dss_cons (ds_if (dt_eq hr (de_pv (pv 1)) de_int) (dss_one (ds_asg (vs := []) (de_tup (da_cons (de_tup (da_cons de_int (da_cons de_int da_nil))) (da_cons (de_tup (da_cons de_int (da_cons de_int da_nil))) da_nil))) (dg_tup rfl (dgs_cons (dg_sub (pv 3) de_int) (dgs_cons (dg_sub (pv 3) de_int) dgs_nil))))) dss_nil) (dss_one (ds_if (dt_view (i := 3) (dt_ne hr (de_fn h_law_det (by decide) hr hG (by rfl) (da_cons (de_pv (pv 3)) da_nil)) (de_tup (da_cons de_int (da_cons de_int da_nil))))) (dss_one (ds_retO (i := 3) (pv 3))) dss_nil))))))) (dss_one (ds_ret (de_lst (da_cons (de_tup (da_cons de_int (da_cons de_int da_nil))) (da_cons (de_tup (da_cons de_int (da_cons de_int da_nil))) (da_cons (de_tup (da_cons de_int (da_cons de_int da_nil))) (da_cons (de_tup (da_cons de_int (da_cons de_int da_nil))) da_nil)))))))))
theorem ok_law_is_map {f : Addr} {fd : FuncData} (F : Fun K "_law_is_map" "_law_is_map" s_law_is_map f fd) (h_law_is_whole : Cl P wd K mg base 1 "_law_is_whole" ["_law_thing", "_law_many"] (spP K 2 c_law_is_whole)) (h_law_det : Cl P wd K mg base 2 "_law_det" ["_law_numbers"] (spP K 1 c_law_det)) (h_law_map : Cl P wd K mg base 3 "_law_map" ["_law_flag", "_law_numbers"] (spP K 2 c_law_map)) (z_isinstance : mg "isinstance" = none) (z_tuple : mg "tuple" = none) (z_len : mg "len" = none) : FnG P wd K mg base CX0 4 f fd ["_law_thing"] (spP K 1 c_law_is_map) := by
  refine okP (k := 3) (m := 1) (w := w_law_is_map) F sc_law_is_map rfl rfl (fun c cdv A outer s H E hG hr => ?_) sem_law_is_map
  exact (dss_cons (ds_if (dt_w (dw_or (dt_not (dt_val (de_isa "tuple" (by decide +kernel) isA_tuple kits_tuple (by rfl) z_isinstance (by rfl) z_tuple (de_pv (pv 0))))) (dw_or (dt_ne hr (de_len (by rfl) z_len (da_cons (de_pv (pv 0)) da_nil)) de_int) (dw_or (dt_not (dt_val (de_fn h_law_is_whole (by decide) hr hG (by rfl) (da_cons (de_slice (de_pv (pv 0)) do_none (do_some de_int)) (da_cons de_int da_nil))))) (dw_or1 (dt_nin hr (de_item (de_pv (pv 0)) de_int) (de_tup (da_cons de_int (da_cons de_int da_nil))))))))) (dss_one (ds_ret de_bl)) dss_nil) (dss_cons (ds_for (vs := [1]) PassesOwn.never rfl (di_tup (de_slice (de_pv (pv 0)) (do_some de_int) do_none)) (dg_name (pg_name (i := 1) sc_law_is_map.nd rfl (by first | exact Or.inl rfl | exact Or.inr rfl)) (by decide)) (dss_one (ds_if (dt_not (dt_val (de_fn h_law_is_whole (by decide) hr hG (by rfl) (da_cons (de_pv (pv 1)) (da_cons de_int da_nil))))) (dss_one (ds_ret de_bl)) dss_nil))) (dss_cons (ds_if (dt_eq hr (de_fn h_law_det (by decide) hr hG (by rfl) (da_cons (de_slice (de_pv (pv 0)) (do_some de_int) do_none) da_nil)) (de_tup (da_cons de_int (da_cons de_int da_nil)))) (dss_one (ds_ret de_bl)) dss_nil) (dss_one (ds_ret (de_eq hr (de_fn h_law_map (by decide) hr hG (by rfl) (da_cons (de_item (de_pv (pv 0)) de_int) (da_cons (de_slice (de_pv (pv 0)) (do_some de_int) do_none) da_nil))) (de_pv (pv 0))))))))
theorem ok_law_is_along {f : Addr} {fd : FuncData} (F : Fun K "_law_is_along" "_law_is_along" s_law_is_along f fd) (h_law_times : Cl P wd K mg base 1 "_law_times" ["_law_one", "_law_two"] (spP K 2 c_law_times)) (z_range : mg "range" = none) : FnG P wd K mg base CX0 2 f fd ["_law_told", "_law_numbers"] (spP K 2 c_law_is_along) := by
  refine okP (k := 1) (m := 2) (w := w_law_is_along) F sc_law_is_along rfl rfl (fun c cdv A outer s H E hG hr => ?_) sem_law_is_along
  exact (dss_cons (ds_for (vs := [2]) PassesOwn.never rfl (di_rng1 (by rfl) z_range (da_cons de_int da_nil)) (dg_name (pg_name (i := 2) sc_law_is_along.nd rfl (by first | exact Or.inl rfl | exact Or.inr rfl)) (by decide)) (dss_one (ds_for (vs := [3]) PassesOwn.never rfl (di_rng1 (by rfl) z_range (da_cons (de_pv (pv 2)) da_nil)) (dg_name (pg_name (i := 3) sc_law_is_along.nd rfl (by first | exact Or.inl rfl | exact Or.inr rfl)) (by decide)) (dss_one (ds_if (dt_ne hr (de_fn h_law_times (by decide) hr hG (by rfl) (da_cons (de_item (de_pv (pv 0)) (de_cat de_int (de_pv (pv 3)))) (da_cons (de_item (de_pv (pv 1)) (de_pv (pv 2))) da_nil))) (de_fn h_law_times (by decide) hr hG (by rfl) (da_cons (de_item (de_pv (pv 0)) (de_cat de_int (de_pv (pv 2)))) (da_cons (de_item (de_pv (pv 1)) (de_pv (pv 3))) da_nil)))) (dss_one (ds_ret de_bl)) dss_nil))))) (dss_one (ds_ret de_bl)))
theorem ok_law_form_right {f : Addr} {fd : FuncData} (F : Fun K "_law_form_right" "_law_form_right" s_law_form_right f fd) (h_law_is_map : Cl P wd K mg base 4 "_law_is_map" ["_law_thing"] (spP K 1 c_law_is_map)) (h_law_is_along : Cl P wd K mg base 2 "_law_is_along" ["_law_told", "_law_numbers"] (spP K 2 c_law_is_along)) (h_is_map : Cl P wd K mg base 7 "is_map" ["value"] (spP K 1 c_is_map)) (h_law_times : Cl P wd K mg base 1 "_law_times" ["_law_one", "_law_two"] (spP K 2 c_law_times)) (y_map_of : ClX P wd K mg base 7 "map_of" ["is_mirrored", "first", "second", "third", "fourth"] (spX mg K 5 c_map_of)) (q_map_of : ClKX P wd K mg base 7 "map_of" ["is_mirrored", "first", "second", "third", "fourth"] (spX mg K 5 c_map_of)) (z_repr : mg "repr" = none) : FnG P wd K mg base CX0 8 f fd ["_law_flag", "_law_numbers", "_law_times_here"] (spP K 3 c_law_form_right) := by
  refine okP (k := 7) (m := 7) (w := w_law_form_right) F sc_law_form_right rfl rfl (fun c cdv A outer s H E hG hr => ?_) sem_law_form_right
  exact (dss_cons (ds_asg (vs := [3, 4, 5, 6]) (de_pv (pv 1)) (dg_lst rfl (dgs_cons (dg_name (pg_name (i := 3) sc_law_form_right.nd rfl (by first | exact Or.inl rfl | exact Or.inr rfl)) (by decide)) (dgs_cons (dg_name (pg_name (i := 4) sc_law_form_right.nd rfl (by first | exact Or.inl rfl | exact Or.inr rfl)) (by decide)) (dgs_cons (dg_name (pg_name (i := 5) sc_law_form_right.nd rfl (by first | exact Or.inl rfl | exact Or.inr rfl)) (by decide)) (dgs_cons (dg_name (pg_name (i := 6) sc_law_form_right.nd rfl (by first | exact Or.inl rfl | exact Or.inr rfl)) (by decide)) dgs_nil)))))) (dss_cons (ds_set (i := 7) sc_law_form_right.nd rfl (by first | exact Or.inl rfl | exact Or.inr rfl) (de_fnX y_map_of hxNo (by decide) hr hG (by rfl) (da_cons (de_pv (pv 0)) (da_cons (de_pv (pv 3)) (da_cons (de_pv (pv 4)) (da_cons (de_pv (pv 5)) (da_cons (de_pv (pv 6)) da_nil))))))) (dss_cons (ds_if (dt_w (dw_or (dt_not (dt_val (de_fn h_law_is_map (by decide) hr hG (by rfl) (da_cons (de_pv (pv 7)) da_nil)))) (dw_or (dt_ne hr (de_item (de_pv (pv 7)) de_int) (de_pv (pv 0))) (dw_or (dt_not (dt_val (de_fn h_law_is_along (by decide) hr hG (by rfl) (da_cons (de_pv (pv 7)) (da_cons (de_pv (pv 1)) da_nil))))) (dw_or1 (dt_isn (de_fn h_is_map (by decide) hr hG (by rfl) (da_cons (de_pv (pv 7)) da_nil)) de_bl)))))) (dss_one (ds_ret de_bl)) dss_nil) (dss_cons (ds_asg (vs := [3, 4, 5, 6]) (de_lc (own := [("_law_each", 9)]) rfl sc_law_form_right.nd (di_list (de_pv (pv 1))) (blkOk_by (N := ["_law_flag", "_law_numbers", "_law_times_here", "_law_a", "_law_b", "_law_c", "_law_d", "_law_told", "_law_longer", "_law_each"]) (sc := defScope s_law_form_right) (by decide +kernel)) (fun _ _ _ _ _ => (dg_name (pg_name (i := 9) sc_law_form_right.nd rfl (by first | exact Or.inl rfl | exact Or.inr rfl)) (by decide))) (fun _ _ _ _ _ => dts_nil) (fun _ _ _ _ _ => (de_fn h_law_times (by decide) hr hG (by rfl) (da_cons (de_pv (pv 9)) (da_cons (de_pv (pv 2)) da_nil))))) (dg_lst rfl (dgs_cons (dg_name (pg_name (i := 3) sc_law_form_right.nd rfl (by first | exact Or.inl rfl | exact Or.inr rfl)) (by decide)) (dgs_cons (dg_name (pg_name (i := 4) sc_law_form_right.nd rfl (by first | exact Or.inl rfl | exact Or.inr rfl)) (by decide)) (dgs_cons (dg_name (pg_name (i := 5) sc_law_form_right.nd rfl (by first | exact Or.inl rfl | exact Or.inr rfl)) (by decide)) (dgs_cons (dg_name (pg_name (i := 6) sc_law_form_right.nd rfl (by first | exact Or.inl rfl | exact Or.inr rfl)) (by decide)) dgs_nil)))))) (dss_cons (ds_set (i := 8) sc_law_form_right.nd rfl (by first | exact Or.inl rfl | exact Or.inr rfl) (de_fnXK q_map_of hxNo (by decide) hr hG (by rfl) (dk_cons (de_pv (pv 0)) (dk_cons (de_pv (pv 3)) (dk_cons (de_pv (pv 4)) (dk_cons (de_pv (pv 5)) (dk_cons (de_pv (pv 6)) dk_nil))))))) (dss_one (ds_ret (de_eq hr (de_repr hr hG (by rfl) z_repr (da_cons (de_lst (da_cons (de_pv (pv 8)) (da_cons (de_fnX y_map_of hxNo (by decide) hr hG (by rfl) (da_cons (de_pv (pv 0)) (da_cons (de_item (de_pv (pv 7)) de_int) (da_cons (de_item (de_pv (pv 7)) de_int) (da_cons (de_item (de_pv (pv 7)) de_int) (da_cons (de_item (de_pv (pv 7)) de_int) da_nil)))))) da_nil))) da_nil)) (de_repr hr hG (by rfl) z_repr (da_cons (de_lst (da_cons (de_pv (pv 7)) (da_cons (de_pv (pv 7)) da_nil))) da_nil))))))))))
theorem ok_law_is_refused {f : Addr} {fd : FuncData} (F : Fun K "_law_is_refused" "_law_is_refused" s_law_is_refused f fd) (y_map_of : ClX P wd K mg base 7 "map_of" ["is_mirrored", "first", "second", "third", "fourth"] (spX mg K 5 c_map_of)) (et0 : ErrT0 K mg ks0 ets sub etop) {D_NoMap : Addr} (m_NoMap : mg "NoMap" = some (.ref D_NoMap)) : FnG P wd K mg base CX0 8 f fd ["_law_flag", "_law_numbers"] (spP K 2 c_law_is_refused) := by
  refine okP (k := 7) (m := 4) (w := w_law_is_refused) F sc_law_is_refused rfl rfl (fun c cdv A outer s H E hG hr => ?_) sem_law_is_refused
  exact (dss_cons (ds_asg (vs := [2, 3, 4, 5]) (de_pv (pv 1)) (dg_lst rfl (dgs_cons (dg_name (pg_name (i := 2) sc_law_is_refused.nd rfl (by first | exact Or.inl rfl | exact Or.inr rfl)) (by decide)) (dgs_cons (dg_name (pg_name (i := 3) sc_law_is_refused.nd rfl (by first | exact Or.inl rfl | exact Or.inr rfl)) (by decide)) (dgs_cons (dg_name (pg_name (i := 4) sc_law_is_refused.nd rfl (by first | exact Or.inl rfl | exact Or.inr rfl)) (by decide)) (dgs_cons (dg_name (pg_name (i := 5) sc_law_is_refused.nd rfl (by first | exact Or.inl rfl | exact Or.inr rfl)) (by decide)) dgs_nil)))))) (dss_cons (ds_tryOnly rfl rfl ⟨rfl, by decide, Or.inl m_NoMap⟩ y_map_of (by decide) hr hG (by rfl) (fun cn C h1 h2 => et0.cat cn C _ h1 h2 m_NoMap) (fun pn xe => (da_cons (de_pv (pv 0)) (da_cons (de_pv (pv 2)) (da_cons (de_pv (pv 3)) (da_cons (de_pv (pv 4)) (da_cons (de_pv (pv 5)) da_nil)))))) (fun a oe pn => (dss_one (ds_ret de_bl)))) (dss_one (ds_ret de_bl))))
theorem ok_law_value {f : Addr} {fd : FuncData} (F : Fun K "_law_value" "_law_value" s_law_value f fd) (h_law_draw : Cl P wd K mg base 1 "_law_draw" ["_law_tank_here", "_law_many"] (spT K 2 c_law_draw)) (h_law_four : Cl P wd K mg base 5 "_law_four" ["_law_tank_here"] (spT K 1 c_law_four)) (h_law_map : Cl P wd K mg base 3 "_law_map" ["_law_flag", "_law_numbers"] (spP K 2 c_law_map)) (h_law_pick : Cl P wd K mg base 2 "_law_pick" ["_law_tank_here", "_law_some"] (spT K 2 c_law_pick)) (h_law_times : Cl P wd K mg base 1 "_law_times" ["_law_one", "_law_two"] (spP K 2 c_law_times)) (z_tuple : mg "tuple" = none) (z_list : mg "list" = none) : FnG P wd K mg base CX0 6 f fd ["_law_tank_here"] (spT K 1 c_law_value) := by
  refine okT (k := 5) (m := 7) (w := w_law_value) F sc_law_value rfl rfl (fun c cdv A outer s H E hG hr => ?_) sem_law_value
  exact (dss_cons (ds_par3 (i := 1) (j := 2) (l := 3) rfl sc_law_value.nd rfl rfl rfl (by decide) (by decide) (by decide) rfl rfl rfl (da_cons (de_fnT (i := 0) h_law_draw (by decide) hr hG (by rfl) (pv 0) (da_cons de_int da_nil)) (da_cons (de_fnT (i := 0) h_law_four (by decide) hr hG (by rfl) (pv 0) da_nil) (da_cons (de_fnT (i := 0) h_law_draw (by decide) hr hG (by rfl) (pv 0) (da_cons de_int da_nil)) da_nil))) rfl) (dss_cons (ds_par (i := 4) (j := 5) rfl sc_law_value.nd rfl rfl (by decide) rfl rfl (da_cons (de_fn h_law_map (by decide) hr hG (by rfl) (da_cons (de_pv (pv 1)) (da_cons (de_pv (pv 2)) da_nil))) (da_cons (de_cat de_int (de_fnT (i := 0) h_law_draw (by decide) hr hG (by rfl) (pv 0) (da_cons de_int da_nil))) da_nil)) rfl) (dss_cons (ds_if (dt_eq hr (de_pv (pv 3)) de_int) (dss_cons (ds_set (i := 6) sc_law_value.nd rfl (by first | exact Or.inl rfl | exact Or.inr rfl) (de_fnT (i := 0) h_law_pick (by decide) hr hG (by rfl) (pv 0) (da_cons (de_tup (da_cons (de_tup (da_cons de_int (da_cons de_int da_nil))) (da_cons (de_tup (da_cons (de_neg de_int) (da_cons de_int da_nil))) (da_cons (de_tup (da_cons de_int (da_cons de_int da_nil))) (da_cons (de_tup (da_cons de_int (da_cons de_int da_nil))) da_nil))))) da_nil))) (dss_one (ds_ret (de_cat (de_tup (da_cons (de_pv (pv 1)) da_nil)) (de_tuple (by rfl) z_tuple (da_cons (de_lc (own := [("_law_each", 7)]) rfl sc_law_value.nd (di_tup (de_slice (de_pv (pv 4)) (do_some de_int) do_none)) (blkOk_by (N := ["_law_tank_here", "_law_flag", "_law_numbers", "_law_way", "_law_chart", "_law_at", "_law_times_here", "_law_each"]) (sc := defScope s_law_value) (by decide +kernel)) (fun _ _ _ _ _ => (dg_name (pg_name (i := 7) sc_law_value.nd rfl (by first | exact Or.inl rfl | exact Or.inr rfl)) (by decide))) (fun _ _ _ _ _ => dts_nil) (fun _ _ _ _ _ => (de_fn h_law_times (by decide) hr hG (by rfl) (da_cons (de_pv (pv 7)) (da_cons (de_pv (pv 6)) da_nil))))) da_nil)))))) dss_nil) (dss_cons (ds_if (dt_eq hr (de_pv (pv 3)) de_int) (dss_one (ds_ret (de_cat (de_cat (de_slice (de_pv (pv 4)) do_none (do_some (de_pv (pv 5)))) (de_tup (da_cons (de_fnT (i := 0) h_law_pick (by decide) hr hG (by rfl) (pv 0) (da_cons (de_tup (da_cons de_non (da_cons (de_tup (da_cons de_int da_nil)) (da_cons (de_tup (da_cons de_int (da_cons de_int (da_cons de_int da_nil)))) (da_cons (de_lst (da_cons de_int (da_cons de_int da_nil))) (da_cons (de_tup (da_cons de_bl (da_cons de_int da_nil))) (da_cons de_int (da_cons de_str da_nil)))))))) da_nil)) da_nil))) (de_slice (de_pv (pv 4)) (do_some (de_cat (de_pv (pv 5)) de_int)) do_none)))) dss_nil) (dss_cons (ds_if (dt_eq hr (de_pv (pv 3)) de_int) (dss_one (ds_ret (de_cat (de_tup (da_cons (de_fnT (i := 0) h_law_pick (by decide) hr hG (by rfl) (pv 0) (da_cons (de_tup (da_cons de_int (da_cons (de_neg de_int) (da_cons de_bl (da_cons de_bl (da_cons de_non (da_cons de_str da_nil))))))) da_nil)) da_nil)) (de_slice (de_pv (pv 4)) (do_some de_int) do_none)))) dss_nil) (dss_cons (ds_if (dt_eq hr (de_pv (pv 3)) de_int) (dss_one (ds_ret (de_fnT (i := 0) h_law_pick (by decide) hr hG (by rfl) (pv 0) (da_cons (de_tup (da_cons (de_list (by rfl) z_list (da_cons (de_pv (pv 4)) da_nil)) (da_cons (de_slice (de_pv (pv 4)) do_none (do_some de_int)) (da_cons (de_cat (de_pv (pv 4)) (de_tup (da_cons (de_tup (da_cons de_int (da_cons de_int da_nil))) da_nil))) (da_cons (de_slice (de_pv (pv 4)) (do_some de_int) do_none) (da_cons de_non (da_cons de_int (da_cons (de_tup da_nil) (da_cons de_str (da_cons de_dct0 da_nil)))))))))) da_nil)))) dss_nil) (dss_cons (ds_if (dt_eq hr (de_pv (pv 3)) de_int) (dss_one (ds_ret (de_cat (de_tup (da_cons (de_pv (pv 1)) da_nil)) (de_fnT (i := 0) h_law_pick (by decide) hr hG (by rfl) (pv 0) (da_cons (de_tup (da_cons (de_repT (de_tup (da_cons (de_tup (da_cons de_int (da_cons de_int da_nil))) da_nil))) (da_cons (de_tup (da_cons (de_tup (da_cons de_int (da_cons de_int da_nil))) (da_cons (de_tup (da_cons de_int (da_cons de_int da_nil))) (da_cons (de_tup (da_cons de_int (da_cons de_int da_nil))) (da_cons (de_tup (da_cons de_int (da_cons de_int da_nil))) da_nil))))) (da_cons (de_tup (da_cons (de_tup (da_cons de_int (da_cons de_int da_nil))) (da_cons (de_tup (da_cons de_int (da_cons de_int da_nil))) (da_cons (de_tup (da_cons de_int (da_cons de_int da_nil))) (da_cons (de_tup (da_cons de_int (da_cons (de_neg de_int) da_nil))) da_nil))))) da_nil)))) da_nil))))) dss_nil) (dss_one (ds_ret (de_if (dt_lt (de_pv (pv 3)) de_int) (de_cat (de_tup (da_cons (de_pv (pv 1)) da_nil)) (de_tuple (by rfl) z_tuple (da_cons (de_pv (pv 2)) da_nil))) (de_pv (pv 4))))))))))))
theorem ok_law_right {f : Addr} {fd : FuncData} (F : Fun K "_law_right" "_law_right" s_law_right f fd) (h_law_draw : Cl P wd K mg base 1 "_law_draw" ["_law_tank_here", "_law_many"] (spT K 2 c_law_draw)) (h_law_four : Cl P wd K mg base 5 "_law_four" ["_law_tank_here"] (spT K 1 c_law_four)) (h_law_complex : Cl P wd K mg base 4 "_law_complex" ["_law_tank_here"] (spT K 1 c_law_complex)) (h_law_form_right : Cl P wd K mg base 8 "_law_form_right" ["_law_flag", "_law_numbers", "_law_times_here"] (spP K 3 c_law_form_right)) (h_law_det : Cl P wd K mg base 2 "_law_det" ["_law_numbers"] (spP K 1 c_law_det)) (h_law_little : Cl P wd K mg base 4 "_law_little" ["_law_tank_here"] (spT K 1 c_law_little)) (h_law_times : Cl P wd K mg base 1 "_law_times" ["_law_one", "_law_two"] (spP K 2 c_law_times)) (h_law_is_refused : Cl P wd K mg base 8 "_law_is_refused" ["_law_flag", "_law_numbers"] (spP K 2 c_law_is_refused)) (h_law_value : Cl P wd K mg base 6 "_law_value" ["_law_tank_here"] (spT K 1 c_law_value)) (h_law_is_map : Cl P wd K mg base 4 "_law_is_map" ["_law_thing"] (spP K 1 c_law_is_map)) (h_is_map : Cl P wd K mg base 7 "is_map" ["value"] (spP K 1 c_is_map)) (k_is_map : ClK P wd K mg base 7 "is_map" ["value"] (spP K 1 c_is_map)) (z_range : mg "range" = none) (z_repr : mg "repr" = none) : FnG P wd K mg base CX0 9 f fd ["_law_tank_here"] (spT K 1 c_law_right) := by
  refine okT (k := 8) (m := 10) (w := w_law_right) F sc_law_right rfl rfl (fun c cdv A outer s H E hG hr => ?_) sem_law_right
  exact (dss_cons (ds_par3 (i := 1) (j := 2) (l := 3) rfl sc_law_right.nd rfl rfl rfl (by decide) (by decide) (by decide) rfl rfl rfl (da_cons (de_fnT (i := 0) h_law_draw (by decide) hr hG (by rfl) (pv 0) (da_cons de_int da_nil)) (da_cons (de_fnT (i := 0) h_law_four (by decide) hr hG (by rfl) (pv 0) da_nil) (da_cons (de_fnT (i := 0) h_law_complex (by decide) hr hG (by rfl) (pv 0) da_nil) da_nil))) rfl) (dss_cons (ds_set (i := 3) sc_law_right.nd rfl (by first | exact Or.inl rfl | exact Or.inr rfl) (de_if (dt_ne hr (de_pv (pv 3)) (de_tup (da_cons de_int (da_cons de_int da_nil)))) (de_pv (pv 3)) (de_tup (da_cons de_int (da_cons (de_neg de_int) da_nil))))) (dss_cons (ds_set (i := 4) sc_law_right.nd rfl (by first | exact Or.inl rfl | exact Or.inr rfl) (de_lst (da_cons (de_fnT (i := 0) h_law_complex (by decide) hr hG (by rfl) (pv 0) da_nil) (da_cons (de_fnT (i := 0) h_law_complex (by decide) hr hG (by rfl) (pv 0) da_nil) (da_cons (de_fnT (i := 0) h_law_complex (by decide) hr hG (by rfl) (pv 0) da_nil) (da_cons (de_fnT (i := 0) h_law_complex (by decide) hr hG (by rfl) (pv 0) da_nil) da_nil)))))) (dss_cons (ds_if (dt_not (dt_val (de_fn h_law_form_right (by decide) hr hG (by rfl) (da_cons (de_pv (pv 1)) (da_cons (de_pv (pv 2)) (da_cons (de_pv (pv 3)) da_nil)))))) (dss_one (ds_ret de_bl)) dss_nil) (dss_cons (ds_if (dt_w (dw_and (dt_ne hr (de_fn h_law_det (by decide) hr hG (by rfl) (da_cons (de_pv (pv 4)) da_nil)) (de_tup (da_cons de_int (da_cons de_int da_nil)))) (dw_and1 (dt_not (dt_val (de_fn h_law_form_right (by decide) hr hG (by rfl) (da_cons (de_pv (pv 1)) (da_cons (de_pv (pv 4)) (da_cons (de_pv (pv 3)) da_nil))))))))) (dss_one (ds_ret de_bl)) dss_nil) (dss_cons (ds_par (i := 5) (j := 6) rfl sc_law_right.nd rfl rfl (by decide) rfl rfl (da_cons (de_fnT (i := 0) h_law_complex (by decide) hr hG (by rfl) (pv 0) da_nil) (da_cons (de_fnT (i := 0) h_law_little (by decide) hr hG (by rfl) (pv 0) da_nil) da_nil)) rfl) (dss_cons (ds_set (i := 7) sc_law_right.nd rfl (by first | exact Or.inl rfl | exact Or.inr rfl) (de_lst (da_cons (de_item (de_pv (pv 4)) de_int) (da_cons (de_item (de_pv (pv 4)) de_int) (da_cons (de_fn h_law_times (by decide) hr hG (by rfl) (da_cons (de_item (de_pv (pv 4)) de_int) (da_cons (de_pv (pv 6)) da_nil))) (da_cons (de_fn h_law_times (by decide) hr hG (by rfl) (da_cons (de_item (de_pv (pv 4)) de_int) (da_cons (de_pv (pv 6)) da_nil))) da_nil)))))) (dss_cons (ds_if (dt_w (dw_or (dt_not (dt_val (de_fn h_law_is_refused (by decide) hr hG (by rfl) (da_cons (de_pv (pv 1)) (da_cons (de_pv (pv 7)) da_nil))))) (dw_or1 (dt_not (dt_val (de_fn h_law_is_refused (by decide) hr hG (by rfl) (da_cons (de_pv (pv 1)) (da_cons (de_lst (da_cons (de_tup (da_cons de_int (da_cons de_int da_nil))) (da_cons (de_pv (pv 5)) (da_cons (de_tup (da_cons de_int (da_cons de_int da_nil))) (da_cons (de_pv (pv 6)) da_nil))))) da_nil)))))))) (dss_one (ds_ret de_bl)) dss_nil) (dss_cons (ds_for (vs := [8]) PassesOwn.never rfl (di_rng1 (by rfl) z_range (da_cons de_int da_nil)) (dg_name (pg_name (i := 8) sc_law_right.nd rfl (by first | exact Or.inl rfl | exact Or.inr rfl)) (by decide)) (dss_cons (ds_set (i := 9) sc_law_right.nd rfl (by first | exact Or.inl rfl | exact Or.inr rfl) (de_fnT (i := 0) h_law_value (by decide) hr hG (by rfl) (pv 0) da_nil)) (dss_cons (ds_set (i := 10) sc_law_right.nd rfl (by first | exact Or.inl rfl | exact Or.inr rfl) (de_fn h_law_is_map (by decide) hr hG (by rfl) (da_cons (de_pv (pv 9)) da_nil))) (dss_one (ds_if (dt_ne hr (de_repr hr hG (by rfl) z_repr (da_cons (de_lst (da_cons (de_fn h_is_map (by decide) hr hG (by rfl) (da_cons (de_pv (pv 9)) da_nil)) (da_cons (de_fnK k_is_map (by decide) hr hG (by rfl) (dk_cons (de_pv (pv 9)) dk_nil)) da_nil))) da_nil)) (de_repr hr hG (by rfl) z_repr (da_cons (de_lst (da_cons (de_pv (pv 10)) (da_cons (de_pv (pv 10)) da_nil))) da_nil))) (dss_one (ds_ret de_bl)) dss_nil))))) (dss_one (ds_ret de_bl)))))))))))
theorem ok_law {f : Addr} {fd : FuncData} (F : Fun K "law" "law" s_law f fd) (h_law_rounds : Cl P wd K mg base 1 "_law_rounds" ["_law_script"] (spP K 1 c_law_rounds)) (h_law_right : Cl P wd K mg base 9 "_law_right" ["_law_tank_here"] (spT K 1 c_law_right)) (h_law_tank : Cl P wd K mg base 1 "_law_tank" ["_law_script", "_law_spot"] (spF K 2 c_law_tank)) (z_range : mg "range" = none) : FnG P wd K mg base CX0 10 f fd ["_law_script"] (spP K 1 c_law) := by
  refine okP (k := 9) (m := 1) (w := w_law) F sc_law rfl rfl (fun c cdv A outer s H E hG hr => ?_) sem_law
  exact (dss_cons (ds_for (vs := [1]) PassesOwn.never rfl (di_rng1 (by rfl) z_range (da_cons (de_fn h_law_rounds (by decide) hr hG (by rfl) (da_cons (de_pv (pv 0)) da_nil)) da_nil)) (dg_name (pg_name (i := 1) sc_law.nd rfl (by first | exact Or.inl rfl | exact Or.inr rfl)) (by decide)) (dss_one (ds_if (dt_not (dt_val (de_fnF h_law_right h_law_tank (by decide) (by decide) hr hG (by rfl) (by rfl) (da_cons (de_pv (pv 0)) (da_cons (de_pv (pv 1)) da_nil))))) (dss_one (ds_ret de_bl)) dss_nil))) (dss_one (ds_ret de_bl)))
end
theorem all_mk {P : Program} {wd : World} {K : PySem.W.Frag} {h : Heap} {mg : Str → Option Value} {fa : Addr} (X : K.In h) (G : h.Ns mainGlobals mg) (hfa : mg "law" = some (.ref fa))
    {f0 : Addr} {od0 an0 : Option Addr} {sl0 : Array (Option Value)} {oc0 kV0 dc0 pm0 cd0 ct0 : Value}
    {f1 : Addr} {od1 an1 : Option Addr} {sl1 : Array (Option Value)} {oc1 kV1 dc1 pm1 cd1 ct1 : Value}
    {f2 : Addr} {od2 an2 : Option Addr} {sl2 : Array (Option Value)} {oc2 kV2 dc2 pm2 cd2 ct2 : Value}
    {f3 : Addr} {od3 an3 : Option Addr} {sl3 : Array (Option Value)} {oc3 kV3 dc3 pm3 cd3 ct3 : Value}
    {f4 : Addr} {od4 an4 : Option Addr} {sl4 : Array (Option Value)} {oc4 kV4 dc4 pm4 cd4 ct4 : Value}
    {f5 : Addr} {od5 an5 : Option Addr} {sl5 : Array (Option Value)} {oc5 kV5 dc5 pm5 cd5 ct5 : Value}
    {f6 : Addr} {od6 an6 : Option Addr} {sl6 : Array (Option Value)} {oc6 kV6 dc6 pm6 cd6 ct6 : Value}
    {f7 : Addr} {od7 an7 : Option Addr} {sl7 : Array (Option Value)} {oc7 kV7 dc7 pm7 cd7 ct7 : Value}
    {f8 : Addr} {od8 an8 : Option Addr} {sl8 : Array (Option Value)} {oc8 kV8 dc8 pm8 cd8 ct8 : Value}
    {f9 : Addr} {od9 an9 : Option Addr} {sl9 : Array (Option Value)} {oc9 kV9 dc9 pm9 cd9 ct9 : Value}
    {f10 : Addr} {od10 an10 : Option Addr} {sl10 : Array (Option Value)} {oc10 kV10 dc10 pm10 cd10 ct10 : Value}
    {f11 : Addr} {od11 an11 : Option Addr} {sl11 : Array (Option Value)} {oc11 kV11 dc11 pm11 cd11 ct11 : Value}
    {f12 : Addr} {od12 an12 : Option Addr} {sl12 : Array (Option Value)} {oc12 kV12 dc12 pm12 cd12 ct12 : Value}
    {f13 : Addr} {od13 an13 : Option Addr} {sl13 : Array (Option Value)} {oc13 kV13 dc13 pm13 cd13 ct13 : Value}
    {f14 : Addr} {od14 an14 : Option Addr} {sl14 : Array (Option Value)} {oc14 kV14 dc14 pm14 cd14 ct14 : Value}
    {f15 : Addr} {od15 an15 : Option Addr} {sl15 : Array (Option Value)} {oc15 kV15 dc15 pm15 cd15 ct15 : Value}
    {f16 : Addr} {od16 an16 : Option Addr} {sl16 : Array (Option Value)} {oc16 kV16 dc16 pm16 cd16 ct16 : Value}
    {f17 : Addr} {od17 an17 : Option Addr} {sl17 : Array (Option Value)} {oc17 kV17 dc17 pm17 cd17 ct17 : Value}
    {f18 : Addr} {od18 an18 : Option Addr} {sl18 : Array (Option Value)} {oc18 kV18 dc18 pm18 cd18 ct18 : Value}
    {dT18 dA18 : Addr} {dto18 dao18 : Option Addr} {dts18 das18 : Array (Option Value)} {dtn18 dan18 : Nat} {dt18_0 dt18_1 : Tok}
    {f19 : Addr} {od19 an19 : Option Addr} {sl19 : Array (Option Value)} {oc19 kV19 dc19 pm19 cd19 ct19 : Value}
    {f20 : Addr} {od20 an20 : Option Addr} {sl20 : Array (Option Value)} {oc20 kV20 dc20 pm20 cd20 ct20 : Value}
    {f21 : Addr} {od21 an21 : Option Addr} {sl21 : Array (Option Value)} {oc21 kV21 dc21 pm21 cd21 ct21 : Value}
    {f22 : Addr} {od22 an22 : Option Addr} {sl22 : Array (Option Value)} {oc22 kV22 dc22 pm22 cd22 ct22 : Value}
    {f23 : Addr} {od23 an23 : Option Addr} {sl23 : Array (Option Value)} {oc23 kV23 dc23 pm23 cd23 ct23 : Value}
    {f24 : Addr} {od24 an24 : Option Addr} {sl24 : Array (Option Value)} {oc24 kV24 dc24 pm24 cd24 ct24 : Value}
    {f25 : Addr} {od25 an25 : Option Addr} {sl25 : Array (Option Value)} {oc25 kV25 dc25 pm25 cd25 ct25 : Value}
    {f26 : Addr} {od26 an26 : Option Addr} {sl26 : Array (Option Value)} {oc26 kV26 dc26 pm26 cd26 ct26 : Value}
    {f27 : Addr} {od27 an27 : Option Addr} {sl27 : Array (Option Value)} {oc27 kV27 dc27 pm27 cd27 ct27 : Value}
    {f28 : Addr} {od28 an28 : Option Addr} {sl28 : Array (Option Value)} {oc28 kV28 dc28 pm28 cd28 ct28 : Value}
    {f29 : Addr} {od29 an29 : Option Addr} {sl29 : Array (Option Value)} {oc29 kV29 dc29 pm29 cd29 ct29 : Value}
    {f30 : Addr} {od30 an30 : Option Addr} {sl30 : Array (Option Value)} {oc30 kV30 dc30 pm30 cd30 ct30 : Value}
    {f31 : Addr} {od31 an31 : Option Addr} {sl31 : Array (Option Value)} {oc31 kV31 dc31 pm31 cd31 ct31 : Value}
    {f32 : Addr} {od32 an32 : Option Addr} {sl32 : Array (Option Value)} {oc32 kV32 dc32 pm32 cd32 ct32 : Value}
    {f33 : Addr} {od33 an33 : Option Addr} {sl33 : Array (Option Value)} {oc33 kV33 dc33 pm33 cd33 ct33 : Value}
    {f34 : Addr} {od34 an34 : Option Addr} {sl34 : Array (Option Value)} {oc34 kV34 dc34 pm34 cd34 ct34 : Value}
    {f35 : Addr} {od35 an35 : Option Addr} {sl35 : Array (Option Value)} {oc35 kV35 dc35 pm35 cd35 ct35 : Value}
    {f36 : Addr} {od36 an36 : Option Addr} {sl36 : Array (Option Value)} {oc36 kV36 dc36 pm36 cd36 ct36 : Value}
    {f37 : Addr} {od37 an37 : Option Addr} {sl37 : Array (Option Value)} {oc37 kV37 dc37 pm37 cd37 ct37 : Value}
    {f38 : Addr} {od38 an38 : Option Addr} {sl38 : Array (Option Value)} {oc38 kV38 dc38 pm38 cd38 ct38 : Value}
    {f39 : Addr} {od39 an39 : Option Addr} {sl39 : Array (Option Value)} {oc39 kV39 dc39 pm39 cd39 ct39 : Value}
    {f40 : Addr} {od40 an40 : Option Addr} {sl40 : Array (Option Value)} {oc40 kV40 dc40 pm40 cd40 ct40 : Value}
    {f41 : Addr} {od41 an41 : Option Addr} {sl41 : Array (Option Value)} {oc41 kV41 dc41 pm41 cd41 ct41 : Value}
    {f42 : Addr} {od42 an42 : Option Addr} {sl42 : Array (Option Value)} {oc42 kV42 dc42 pm42 cd42 ct42 : Value}
    {f43 : Addr} {od43 an43 : Option Addr} {sl43 : Array (Option Value)} {oc43 kV43 dc43 pm43 cd43 ct43 : Value}
    {f44 : Addr} {od44 an44 : Option Addr} {sl44 : Array (Option Value)} {oc44 kV44 dc44 pm44 cd44 ct44 : Value}
    {f45 : Addr} {od45 an45 : Option Addr} {sl45 : Array (Option Value)} {oc45 kV45 dc45 pm45 cd45 ct45 : Value}
    {f46 : Addr} {od46 an46 : Option Addr} {sl46 : Array (Option Value)} {oc46 kV46 dc46 pm46 cd46 ct46 : Value}
    {f47 : Addr} {od47 an47 : Option Addr} {sl47 : Array (Option Value)} {oc47 kV47 dc47 pm47 cd47 ct47 : Value}
    {C_ArmError : Addr}
    {C_InvalidComplex : Addr}
    {C_InvalidFlag : Addr}
    {C_NoMap : Addr}
    {I_InvalidComplex N_InvalidComplex : Addr} {nm_InvalidComplex q_InvalidComplex : Str} {bs_InvalidComplex sb_InvalidComplex : List Value} {sn_InvalidComplex : List Str} {ab_InvalidComplex : Bool} {col_InvalidComplex : Option Bool} {dd_InvalidComplex odi_InvalidComplex ani_InvalidComplex : Option Addr} {m0_InvalidComplex m1_InvalidComplex m2_InvalidComplex m3_InvalidComplex m5_InvalidComplex : Option Value} {sli_InvalidComplex : Array (Option Value)} {oci_InvalidComplex dci_InvalidComplex pmi_InvalidComplex cdi_InvalidComplex cti_InvalidComplex : Value}
    {I_InvalidFlag N_InvalidFlag : Addr} {nm_InvalidFlag q_InvalidFlag : Str} {bs_InvalidFlag sb_InvalidFlag : List Value} {sn_InvalidFlag : List Str} {ab_InvalidFlag : Bool} {col_InvalidFlag : Option Bool} {dd_InvalidFlag odi_InvalidFlag ani_InvalidFlag : Option Addr} {m0_InvalidFlag m1_InvalidFlag m2_InvalidFlag m3_InvalidFlag m5_InvalidFlag : Option Value} {sli_InvalidFlag : Array (Option Value)} {oci_InvalidFlag dci_InvalidFlag pmi_InvalidFlag cdi_InvalidFlag cti_InvalidFlag : Value}
    {ga_NOUGHT : Addr} {gd_NOUGHT : Option Addr} {gs_NOUGHT : Array (Option Value)} {gn_NOUGHT : Nat} {gt0_NOUGHT : Tok} {gt1_NOUGHT : Tok}
    (a0 : PySem.W.nsIn K mainGlobals "is_whole" = some (some (.ref f0)))
    (l0 : K.lookup f0 = some ⟨oc0, od0, .func (PySem.W.fnOf "is_whole" "is_whole" (defArgs s_is_whole) (defBody s_is_whole) (defScope s_is_whole) .none kV0 dc0 pm0 an0 cd0 ct0), sl0⟩)
    (c0 : PySem.W.codeIn K cd0 "is_whole" = true)
    (k0 : PySem.W.keepIn K (.ref f0) = true)
    (a1 : PySem.W.nsIn K mainGlobals "are_wholes" = some (some (.ref f1)))
    (l1 : K.lookup f1 = some ⟨oc1, od1, .func (PySem.W.fnOf "are_wholes" "are_wholes" (defArgs s_are_wholes) (defBody s_are_wholes) (defScope s_are_wholes) .none kV1 dc1 pm1 an1 cd1 ct1), sl1⟩)
    (c1 : PySem.W.codeIn K cd1 "are_wholes" = true)
    (k1 : PySem.W.keepIn K (.ref f1) = true)
    (a2 : PySem.W.nsIn K mainGlobals "common_of" = some (some (.ref f2)))
    (l2 : K.lookup f2 = some ⟨oc2, od2, .func (PySem.W.fnOf "common_of" "common_of" (defArgs s_common_of) (defBody s_common_of) (defScope s_common_of) .none kV2 dc2 pm2 an2 cd2 ct2), sl2⟩)
    (c2 : PySem.W.codeIn K cd2 "common_of" = true)
    (k2 : PySem.W.keepIn K (.ref f2) = true)
    (a3 : PySem.W.nsIn K mainGlobals "minus" = some (some (.ref f3)))
    (l3 : K.lookup f3 = some ⟨oc3, od3, .func (PySem.W.fnOf "minus" "minus" (defArgs s_minus) (defBody s_minus) (defScope s_minus) .none kV3 dc3 pm3 an3 cd3 ct3), sl3⟩)
    (c3 : PySem.W.codeIn K cd3 "minus" = true)
    (k3 : PySem.W.keepIn K (.ref f3) = true)
    (a4 : PySem.W.nsIn K mainGlobals "times" = some (some (.ref f4)))
    (l4 : K.lookup f4 = some ⟨oc4, od4, .func (PySem.W.fnOf "times" "times" (defArgs s_times) (defBody s_times) (defScope s_times) .none kV4 dc4 pm4 an4 cd4 ct4), sl4⟩)
    (c4 : PySem.W.codeIn K cd4 "times" = true)
    (k4 : PySem.W.keepIn K (.ref f4) = true)
    (a5 : PySem.W.nsIn K mainGlobals "conjugate_of" = some (some (.ref f5)))
    (l5 : K.lookup f5 = some ⟨oc5, od5, .func (PySem.W.fnOf "conjugate_of" "conjugate_of" (defArgs s_conjugate_of) (defBody s_conjugate_of) (defScope s_conjugate_of) .none kV5 dc5 pm5 an5 cd5 ct5), sl5⟩)
    (c5 : PySem.W.codeIn K cd5 "conjugate_of" = true)
    (k5 : PySem.W.keepIn K (.ref f5) = true)
    (a6 : PySem.W.nsIn K mainGlobals "norm_of" = some (some (.ref f6)))
    (l6 : K.lookup f6 = some ⟨oc6, od6, .func (PySem.W.fnOf "norm_of" "norm_of" (defArgs s_norm_of) (defBody s_norm_of) (defScope s_norm_of) .none kV6 dc6 pm6 an6 cd6 ct6), sl6⟩)
    (c6 : PySem.W.codeIn K cd6 "norm_of" = true)
    (k6 : PySem.W.keepIn K (.ref f6) = true)
    (a7 : PySem.W.nsIn K mainGlobals "is_quarter" = some (some (.ref f7)))
    (l7 : K.lookup f7 = some ⟨oc7, od7, .func (PySem.W.fnOf "is_quarter" "is_quarter" (defArgs s_is_quarter) (defBody s_is_quarter) (defScope s_is_quarter) .none kV7 dc7 pm7 an7 cd7 ct7), sl7⟩)
    (c7 : PySem.W.codeIn K cd7 "is_quarter" = true)
    (k7 : PySem.W.keepIn K (.ref f7) = true)
    (a8 : PySem.W.nsIn K mainGlobals "turned" = some (some (.ref f8)))
    (l8 : K.lookup f8 = some ⟨oc8, od8, .func (PySem.W.fnOf "turned" "turned" (defArgs s_turned) (defBody s_turned) (defScope s_turned) .none kV8 dc8 pm8 an8 cd8 ct8), sl8⟩)
    (c8 : PySem.W.codeIn K cd8 "turned" = true)
    (k8 : PySem.W.keepIn K (.ref f8) = true)
    (a9 : PySem.W.nsIn K mainGlobals "quarter_of" = some (some (.ref f9)))
    (l9 : K.lookup f9 = some ⟨oc9, od9, .func (PySem.W.fnOf "quarter_of" "quarter_of" (defArgs s_quarter_of) (defBody s_quarter_of) (defScope s_quarter_of) .none kV9 dc9 pm9 an9 cd9 ct9), sl9⟩)
    (c9 : PySem.W.codeIn K cd9 "quarter_of" = true)
    (k9 : PySem.W.keepIn K (.ref f9) = true)
    (a10 : PySem.W.nsIn K mainGlobals "exact_quotient" = some (some (.ref f10)))
    (l10 : K.lookup f10 = some ⟨oc10, od10, .func (PySem.W.fnOf "exact_quotient" "exact_quotient" (defArgs s_exact_quotient) (defBody s_exact_quotient) (defScope s_exact_quotient) .none kV10 dc10 pm10 an10 cd10 ct10), sl10⟩)
    (c10 : PySem.W.codeIn K cd10 "exact_quotient" = true)
    (k10 : PySem.W.keepIn K (.ref f10) = true)
    (a11 : PySem.W.nsIn K mainGlobals "rest_of" = some (some (.ref f11)))
    (l11 : K.lookup f11 = some ⟨oc11, od11, .func (PySem.W.fnOf "rest_of" "rest_of" (defArgs s_rest_of) (defBody s_rest_of) (defScope s_rest_of) .none kV11 dc11 pm11 an11 cd11 ct11), sl11⟩)
    (c11 : PySem.W.codeIn K cd11 "rest_of" = true)
    (k11 : PySem.W.keepIn K (.ref f11) = true)
    (a12 : PySem.W.nsIn K mainGlobals "divisor_of" = some (some (.ref f12)))
    (l12 : K.lookup f12 = some ⟨oc12, od12, .func (PySem.W.fnOf "divisor_of" "divisor_of" (defArgs s_divisor_of) (defBody s_divisor_of) (defScope s_divisor_of) .none kV12 dc12 pm12 an12 cd12 ct12), sl12⟩)
    (c12 : PySem.W.codeIn K cd12 "divisor_of" = true)
    (k12 : PySem.W.keepIn K (.ref f12) = true)
    (a13 : PySem.W.nsIn K mainGlobals "_divisor_of_two" = some (some (.ref f13)))
    (l13 : K.lookup f13 = some ⟨oc13, od13, .func (PySem.W.fnOf "_divisor_of_two" "_divisor_of_two" (defArgs s_divisor_of_two) (defBody s_divisor_of_two) (defScope s_divisor_of_two) .none kV13 dc13 pm13 an13 cd13 ct13), sl13⟩)
    (c13 : PySem.W.codeIn K cd13 "_divisor_of_two" = true)
    (k13 : PySem.W.keepIn K (.ref f13) = true)
    (a14 : PySem.W.nsIn K mainGlobals "_divisor_by_steps" = some (some (.ref f14)))
    (l14 : K.lookup f14 = some ⟨oc14, od14, .func (PySem.W.fnOf "_divisor_by_steps" "_divisor_by_steps" (defArgs s_divisor_by_steps) (defBody s_divisor_by_steps) (defScope s_divisor_by_steps) .none kV14 dc14 pm14 an14 cd14 ct14), sl14⟩)
    (c14 : PySem.W.codeIn K cd14 "_divisor_by_steps" = true)
    (k14 : PySem.W.keepIn K (.ref f14) = true)
    (a15 : PySem.W.nsIn K mainGlobals "is_complex" = some (some (.ref f15)))
    (l15 : K.lookup f15 = some ⟨oc15, od15, .func (PySem.W.fnOf "is_complex" "is_complex" (defArgs s_is_complex) (defBody s_is_complex) (defScope s_is_complex) .none kV15 dc15 pm15 an15 cd15 ct15), sl15⟩)
    (c15 : PySem.W.codeIn K cd15 "is_complex" = true)
    (k15 : PySem.W.keepIn K (.ref f15) = true)
    (a16 : PySem.W.nsIn K mainGlobals "require_complex" = some (some (.ref f16)))
    (l16 : K.lookup f16 = some ⟨oc16, od16, .func (PySem.W.fnOf "require_complex" "require_complex" (defArgs s_require_complex) (defBody s_require_complex) (defScope s_require_complex) .none kV16 dc16 pm16 an16 cd16 ct16), sl16⟩)
    (c16 : PySem.W.codeIn K cd16 "require_complex" = true)
    (k16 : PySem.W.keepIn K (.ref f16) = true)
    (a17 : PySem.W.nsIn K mainGlobals "determinant" = some (some (.ref f17)))
    (l17 : K.lookup f17 = some ⟨oc17, od17, .func (PySem.W.fnOf "determinant" "determinant" (defArgs s_determinant) (defBody s_determinant) (defScope s_determinant) .none kV17 dc17 pm17 an17 cd17 ct17), sl17⟩)
    (c17 : PySem.W.codeIn K cd17 "determinant" = true)
    (k17 : PySem.W.keepIn K (.ref f17) = true)
    (a18 : PySem.W.nsIn K mainGlobals "map_from" = some (some (.ref f18)))
    (l18 : K.lookup f18 = some ⟨oc18, od18, .func (PySem.W.fnOf "map_from" "map_from" (defArgs s_map_from) (defBody s_map_from) (defScope s_map_from) (.ref dT18) kV18 dc18 pm18 an18 cd18 ct18), sl18⟩)
    (c18 : PySem.W.codeIn K cd18 "map_from" = true)
    (dl18 : K.lookup dT18 = some ⟨.type "tuple", dto18, .seq #[.ref dA18] dtn18, dts18⟩)
    (da18 : K.lookup dA18 = some ⟨.type "tuple", dao18, .seq #[.int 0 dt18_0, .int 0 dt18_1] dan18, das18⟩)
    (k18 : PySem.W.keepIn K (.ref f18) = true)
    (a19 : PySem.W.nsIn K mainGlobals "is_flag" = some (some (.ref f19)))
    (l19 : K.lookup f19 = some ⟨oc19, od19, .func (PySem.W.fnOf "is_flag" "is_flag" (defArgs s_is_flag) (defBody s_is_flag) (defScope s_is_flag) .none kV19 dc19 pm19 an19 cd19 ct19), sl19⟩)
    (c19 : PySem.W.codeIn K cd19 "is_flag" = true)
    (k19 : PySem.W.keepIn K (.ref f19) = true)
    (a20 : PySem.W.nsIn K mainGlobals "is_map" = some (some (.ref f20)))
    (l20 : K.lookup f20 = some ⟨oc20, od20, .func (PySem.W.fnOf "is_map" "is_map" (defArgs s_is_map) (defBody s_is_map) (defScope s_is_map) .none kV20 dc20 pm20 an20 cd20 ct20), sl20⟩)
    (c20 : PySem.W.codeIn K cd20 "is_map" = true)
    (k20 : PySem.W.keepIn K (.ref f20) = true)
    (a21 : PySem.W.nsIn K mainGlobals "map_of" = some (some (.ref f21)))
    (l21 : K.lookup f21 = some ⟨oc21, od21, .func (PySem.W.fnOf "map_of" "map_of" (defArgs s_map_of) (defBody s_map_of) (defScope s_map_of) .none kV21 dc21 pm21 an21 cd21 ct21), sl21⟩)
    (c21 : PySem.W.codeIn K cd21 "map_of" = true)
    (k21 : PySem.W.keepIn K (.ref f21) = true)
    (a22 : PySem.W.nsIn K mainGlobals "_law_tank" = some (some (.ref f22)))
    (l22 : K.lookup f22 = some ⟨oc22, od22, .func (PySem.W.fnOf "_law_tank" "_law_tank" (defArgs s_law_tank) (defBody s_law_tank) (defScope s_law_tank) .none kV22 dc22 pm22 an22 cd22 ct22), sl22⟩)
    (c22 : PySem.W.codeIn K cd22 "_law_tank" = true)
    (k22 : PySem.W.keepIn K (.ref f22) = true)
    (a23 : PySem.W.nsIn K mainGlobals "_law_draw" = some (some (.ref f23)))
    (l23 : K.lookup f23 = some ⟨oc23, od23, .func (PySem.W.fnOf "_law_draw" "_law_draw" (defArgs s_law_draw) (defBody s_law_draw) (defScope s_law_draw) .none kV23 dc23 pm23 an23 cd23 ct23), sl23⟩)
    (c23 : PySem.W.codeIn K cd23 "_law_draw" = true)
    (k23 : PySem.W.keepIn K (.ref f23) = true)
    (a24 : PySem.W.nsIn K mainGlobals "_law_pick" = some (some (.ref f24)))
    (l24 : K.lookup f24 = some ⟨oc24, od24, .func (PySem.W.fnOf "_law_pick" "_law_pick" (defArgs s_law_pick) (defBody s_law_pick) (defScope s_law_pick) .none kV24 dc24 pm24 an24 cd24 ct24), sl24⟩)
    (c24 : PySem.W.codeIn K cd24 "_law_pick" = true)
    (k24 : PySem.W.keepIn K (.ref f24) = true)
    (a25 : PySem.W.nsIn K mainGlobals "_law_rounds" = some (some (.ref f25)))
    (l25 : K.lookup f25 = some ⟨oc25, od25, .func (PySem.W.fnOf "_law_rounds" "_law_rounds" (defArgs s_law_rounds) (defBody s_law_rounds) (defScope s_law_rounds) .none kV25 dc25 pm25 an25 cd25 ct25), sl25⟩)
    (c25 : PySem.W.codeIn K cd25 "_law_rounds" = true)
    (k25 : PySem.W.keepIn K (.ref f25) = true)
    (a26 : PySem.W.nsIn K mainGlobals "_law_number" = some (some (.ref f26)))
    (l26 : K.lookup f26 = some ⟨oc26, od26, .func (PySem.W.fnOf "_law_number" "_law_number" (defArgs s_law_number) (defBody s_law_number) (defScope s_law_number) .none kV26 dc26 pm26 an26 cd26 ct26), sl26⟩)
    (c26 : PySem.W.codeIn K cd26 "_law_number" = true)
    (k26 : PySem.W.keepIn K (.ref f26) = true)
    (a27 : PySem.W.nsIn K mainGlobals "_law_small" = some (some (.ref f27)))
    (l27 : K.lookup f27 = some ⟨oc27, od27, .func (PySem.W.fnOf "_law_small" "_law_small" (defArgs s_law_small) (defBody s_law_small) (defScope s_law_small) .none kV27 dc27 pm27 an27 cd27 ct27), sl27⟩)
    (c27 : PySem.W.codeIn K cd27 "_law_small" = true)
    (k27 : PySem.W.keepIn K (.ref f27) = true)
    (a28 : PySem.W.nsIn K mainGlobals "_law_less" = some (some (.ref f28)))
    (l28 : K.lookup f28 = some ⟨oc28, od28, .func (PySem.W.fnOf "_law_less" "_law_less" (defArgs s_law_less) (defBody s_law_less) (defScope s_law_less) .none kV28 dc28 pm28 an28 cd28 ct28), sl28⟩)
    (c28 : PySem.W.codeIn K cd28 "_law_less" = true)
    (k28 : PySem.W.keepIn K (.ref f28) = true)
    (a29 : PySem.W.nsIn K mainGlobals "_law_times" = some (some (.ref f29)))
    (l29 : K.lookup f29 = some ⟨oc29, od29, .func (PySem.W.fnOf "_law_times" "_law_times" (defArgs s_law_times) (defBody s_law_times) (defScope s_law_times) .none kV29 dc29 pm29 an29 cd29 ct29), sl29⟩)
    (c29 : PySem.W.codeIn K cd29 "_law_times" = true)
    (k29 : PySem.W.keepIn K (.ref f29) = true)
    (a30 : PySem.W.nsIn K mainGlobals "_law_star" = some (some (.ref f30)))
    (l30 : K.lookup f30 = some ⟨oc30, od30, .func (PySem.W.fnOf "_law_star" "_law_star" (defArgs s_law_star) (defBody s_law_star) (defScope s_law_star) .none kV30 dc30 pm30 an30 cd30 ct30), sl30⟩)
    (c30 : PySem.W.codeIn K cd30 "_law_star" = true)
    (k30 : PySem.W.keepIn K (.ref f30) = true)
    (a31 : PySem.W.nsIn K mainGlobals "_law_size" = some (some (.ref f31)))
    (l31 : K.lookup f31 = some ⟨oc31, od31, .func (PySem.W.fnOf "_law_size" "_law_size" (defArgs s_law_size) (defBody s_law_size) (defScope s_law_size) .none kV31 dc31 pm31 an31 cd31 ct31), sl31⟩)
    (c31 : PySem.W.codeIn K cd31 "_law_size" = true)
    (k31 : PySem.W.keepIn K (.ref f31) = true)
    (a32 : PySem.W.nsIn K mainGlobals "_law_quarter" = some (some (.ref f32)))
    (l32 : K.lookup f32 = some ⟨oc32, od32, .func (PySem.W.fnOf "_law_quarter" "_law_quarter" (defArgs s_law_quarter) (defBody s_law_quarter) (defScope s_law_quarter) .none kV32 dc32 pm32 an32 cd32 ct32), sl32⟩)
    (c32 : PySem.W.codeIn K cd32 "_law_quarter" = true)
    (k32 : PySem.W.keepIn K (.ref f32) = true)
    (a33 : PySem.W.nsIn K mainGlobals "_law_over" = some (some (.ref f33)))
    (l33 : K.lookup f33 = some ⟨oc33, od33, .func (PySem.W.fnOf "_law_over" "_law_over" (defArgs s_law_over) (defBody s_law_over) (defScope s_law_over) .none kV33 dc33 pm33 an33 cd33 ct33), sl33⟩)
    (c33 : PySem.W.codeIn K cd33 "_law_over" = true)
    (k33 : PySem.W.keepIn K (.ref f33) = true)
    (a34 : PySem.W.nsIn K mainGlobals "_law_common" = some (some (.ref f34)))
    (l34 : K.lookup f34 = some ⟨oc34, od34, .func (PySem.W.fnOf "_law_common" "_law_common" (defArgs s_law_common) (defBody s_law_common) (defScope s_law_common) .none kV34 dc34 pm34 an34 cd34 ct34), sl34⟩)
    (c34 : PySem.W.codeIn K cd34 "_law_common" = true)
    (k34 : PySem.W.keepIn K (.ref f34) = true)
    (a35 : PySem.W.nsIn K mainGlobals "_law_is_whole" = some (some (.ref f35)))
    (l35 : K.lookup f35 = some ⟨oc35, od35, .func (PySem.W.fnOf "_law_is_whole" "_law_is_whole" (defArgs s_law_is_whole) (defBody s_law_is_whole) (defScope s_law_is_whole) .none kV35 dc35 pm35 an35 cd35 ct35), sl35⟩)
    (c35 : PySem.W.codeIn K cd35 "_law_is_whole" = true)
    (k35 : PySem.W.keepIn K (.ref f35) = true)
    (a36 : PySem.W.nsIn K mainGlobals "_law_complex" = some (some (.ref f36)))
    (l36 : K.lookup f36 = some ⟨oc36, od36, .func (PySem.W.fnOf "_law_complex" "_law_complex" (defArgs s_law_complex) (defBody s_law_complex) (defScope s_law_complex) .none kV36 dc36 pm36 an36 cd36 ct36), sl36⟩)
    (c36 : PySem.W.codeIn K cd36 "_law_complex" = true)
    (k36 : PySem.W.keepIn K (.ref f36) = true)
    (a37 : PySem.W.nsIn K mainGlobals "_law_little" = some (some (.ref f37)))
    (l37 : K.lookup f37 = some ⟨oc37, od37, .func (PySem.W.fnOf "_law_little" "_law_little" (defArgs s_law_little) (defBody s_law_little) (defScope s_law_little) .none kV37 dc37 pm37 an37 cd37 ct37), sl37⟩)
    (c37 : PySem.W.codeIn K cd37 "_law_little" = true)
    (k37 : PySem.W.keepIn K (.ref f37) = true)
    (a38 : PySem.W.nsIn K mainGlobals "_law_map" = some (some (.ref f38)))
    (l38 : K.lookup f38 = some ⟨oc38, od38, .func (PySem.W.fnOf "_law_map" "_law_map" (defArgs s_law_map) (defBody s_law_map) (defScope s_law_map) .none kV38 dc38 pm38 an38 cd38 ct38), sl38⟩)
    (c38 : PySem.W.codeIn K cd38 "_law_map" = true)
    (k38 : PySem.W.keepIn K (.ref f38) = true)
    (a39 : PySem.W.nsIn K mainGlobals "_law_det" = some (some (.ref f39)))
    (l39 : K.lookup f39 = some ⟨oc39, od39, .func (PySem.W.fnOf "_law_det" "_law_det" (defArgs s_law_det) (defBody s_law_det) (defScope s_law_det) .none kV39 dc39 pm39 an39 cd39 ct39), sl39⟩)
    (c39 : PySem.W.codeIn K cd39 "_law_det" = true)
    (k39 : PySem.W.keepIn K (.ref f39) = true)
    (a40 : PySem.W.nsIn K mainGlobals "_law_four" = some (some (.ref f40)))
    (l40 : K.lookup f40 = some ⟨oc40, od40, .func (PySem.W.fnOf "_law_four" "_law_four" (defArgs s_law_four) (defBody s_law_four) (defScope s_law_four) .none kV40 dc40 pm40 an40 cd40 ct40), sl40⟩)
    (c40 : PySem.W.codeIn K cd40 "_law_four" = true)
    (k40 : PySem.W.keepIn K (.ref f40) = true)
    (a41 : PySem.W.nsIn K mainGlobals "_law_is_map" = some (some (.ref f41)))
    (l41 : K.lookup f41 = some ⟨oc41, od41, .func (PySem.W.fnOf "_law_is_map" "_law_is_map" (defArgs s_law_is_map) (defBody s_law_is_map) (defScope s_law_is_map) .none kV41 dc41 pm41 an41 cd41 ct41), sl41⟩)
    (c41 : PySem.W.codeIn K cd41 "_law_is_map" = true)
    (k41 : PySem.W.keepIn K (.ref f41) = true)
    (a42 : PySem.W.nsIn K mainGlobals "_law_is_along" = some (some (.ref f42)))
    (l42 : K.lookup f42 = some ⟨oc42, od42, .func (PySem.W.fnOf "_law_is_along" "_law_is_along" (defArgs s_law_is_along) (defBody s_law_is_along) (defScope s_law_is_along) .none kV42 dc42 pm42 an42 cd42 ct42), sl42⟩)
    (c42 : PySem.W.codeIn K cd42 "_law_is_along" = true)
    (k42 : PySem.W.keepIn K (.ref f42) = true)
    (a43 : PySem.W.nsIn K mainGlobals "_law_form_right" = some (some (.ref f43)))
    (l43 : K.lookup f43 = some ⟨oc43, od43, .func (PySem.W.fnOf "_law_form_right" "_law_form_right" (defArgs s_law_form_right) (defBody s_law_form_right) (defScope s_law_form_right) .none kV43 dc43 pm43 an43 cd43 ct43), sl43⟩)
    (c43 : PySem.W.codeIn K cd43 "_law_form_right" = true)
    (k43 : PySem.W.keepIn K (.ref f43) = true)
    (a44 : PySem.W.nsIn K mainGlobals "_law_is_refused" = some (some (.ref f44)))
    (l44 : K.lookup f44 = some ⟨oc44, od44, .func (PySem.W.fnOf "_law_is_refused" "_law_is_refused" (defArgs s_law_is_refused) (defBody s_law_is_refused) (defScope s_law_is_refused) .none kV44 dc44 pm44 an44 cd44 ct44), sl44⟩)
    (c44 : PySem.W.codeIn K cd44 "_law_is_refused" = true)
    (k44 : PySem.W.keepIn K (.ref f44) = true)
    (a45 : PySem.W.nsIn K mainGlobals "_law_value" = some (some (.ref f45)))
    (l45 : K.lookup f45 = some ⟨oc45, od45, .func (PySem.W.fnOf "_law_value" "_law_value" (defArgs s_law_value) (defBody s_law_value) (defScope s_law_value) .none kV45 dc45 pm45 an45 cd45 ct45), sl45⟩)
    (c45 : PySem.W.codeIn K cd45 "_law_value" = true)
    (k45 : PySem.W.keepIn K (.ref f45) = true)
    (a46 : PySem.W.nsIn K mainGlobals "_law_right" = some (some (.ref f46)))
    (l46 : K.lookup f46 = some ⟨oc46, od46, .func (PySem.W.fnOf "_law_right" "_law_right" (defArgs s_law_right) (defBody s_law_right) (defScope s_law_right) .none kV46 dc46 pm46 an46 cd46 ct46), sl46⟩)
    (c46 : PySem.W.codeIn K cd46 "_law_right" = true)
    (k46 : PySem.W.keepIn K (.ref f46) = true)
    (a47 : PySem.W.nsIn K mainGlobals "law" = some (some (.ref f47)))
    (l47 : K.lookup f47 = some ⟨oc47, od47, .func (PySem.W.fnOf "law" "law" (defArgs s_law) (defBody s_law) (defScope s_law) .none kV47 dc47 pm47 an47 cd47 ct47), sl47⟩)
    (c47 : PySem.W.codeIn K cd47 "law" = true)
    (k47 : PySem.W.keepIn K (.ref f47) = true)
    (aC_ArmError : PySem.W.nsIn K mainGlobals "ArmError" = some (some (.ref C_ArmError)))
    (aC_InvalidComplex : PySem.W.nsIn K mainGlobals "InvalidComplex" = some (some (.ref C_InvalidComplex)))
    (aC_InvalidFlag : PySem.W.nsIn K mainGlobals "InvalidFlag" = some (some (.ref C_InvalidFlag)))
    (aC_NoMap : PySem.W.nsIn K mainGlobals "NoMap" = some (some (.ref C_NoMap)))
    (xL_InvalidComplex : K.lookup C_InvalidComplex = some (excClassObj nm_InvalidComplex q_InvalidComplex C_InvalidComplex N_InvalidComplex bs_InvalidComplex [.ref C_ArmError, .type "ValueError", .type "Exception", .type "BaseException", .type "object"] true sn_InvalidComplex sb_InvalidComplex ab_InvalidComplex col_InvalidComplex dd_InvalidComplex m0_InvalidComplex m1_InvalidComplex m2_InvalidComplex m3_InvalidComplex m5_InvalidComplex "ValueError.__new__"))
    (sa_InvalidComplex : PySem.W.findIn K (.ref C_InvalidComplex) "__setattr__" = some (some (.builtin "object.__setattr__")))
    (ga_InvalidComplex : PySem.W.findIn K (.ref C_InvalidComplex) "__getattribute__" = some (some (.builtin "BaseException.__getattribute__")))
    (gg_InvalidComplex : PySem.W.findIn K (.ref C_InvalidComplex) "__getattr__" = some none)
    (nb_InvalidComplex : PySem.W.findIn K (.ref C_InvalidComplex) "given" = some none)
    (ai_InvalidComplex : PySem.W.findIn K (.ref C_InvalidComplex) "__init__" = some (some (.ref I_InvalidComplex)))
    (ti_InvalidComplex : PySem.W.typeIn K (.ref I_InvalidComplex) = some (.type "function"))
    (li_InvalidComplex : K.lookup I_InvalidComplex = some ⟨oci_InvalidComplex, odi_InvalidComplex, .func (PySem.W.fnOf "__init__" "InvalidComplex.__init__" (xArgs "given" ⟨7, 17, 7, 21⟩ ⟨7, 23, 7, 28⟩) (xBody "given" ⟨8, 8, 8, 12⟩ ⟨8, 8, 8, 18⟩ ⟨8, 21, 8, 26⟩ ⟨8, 8, 8, 26⟩) (xScope "given") .none .none dci_InvalidComplex pmi_InvalidComplex ani_InvalidComplex cdi_InvalidComplex cti_InvalidComplex), sli_InvalidComplex⟩)
    (ci_InvalidComplex : PySem.W.codeIn K cdi_InvalidComplex "InvalidComplex.__init__" = true)
    (kC_InvalidComplex : PySem.W.keepIn K (.ref C_InvalidComplex) = true)
    (eC_InvalidComplex : PySem.W.subIn K (.ref C_InvalidComplex) (.type "BaseException") = some true)
    (tC_InvalidComplex : PySem.W.typeIn K (.ref C_InvalidComplex) = some (.type "type"))
    (hC_InvalidComplex : PySem.W.hasDictIn K C_InvalidComplex = true)
    (xL_InvalidFlag : K.lookup C_InvalidFlag = some (excClassObj nm_InvalidFlag q_InvalidFlag C_InvalidFlag N_InvalidFlag bs_InvalidFlag [.ref C_ArmError, .type "ValueError", .type "Exception", .type "BaseException", .type "object"] true sn_InvalidFlag sb_InvalidFlag ab_InvalidFlag col_InvalidFlag dd_InvalidFlag m0_InvalidFlag m1_InvalidFlag m2_InvalidFlag m3_InvalidFlag m5_InvalidFlag "ValueError.__new__"))
    (sa_InvalidFlag : PySem.W.findIn K (.ref C_InvalidFlag) "__setattr__" = some (some (.builtin "object.__setattr__")))
    (ga_InvalidFlag : PySem.W.findIn K (.ref C_InvalidFlag) "__getattribute__" = some (some (.builtin "BaseException.__getattribute__")))
    (gg_InvalidFlag : PySem.W.findIn K (.ref C_InvalidFlag) "__getattr__" = some none)
    (nb_InvalidFlag : PySem.W.findIn K (.ref C_InvalidFlag) "given" = some none)
    (ai_InvalidFlag : PySem.W.findIn K (.ref C_InvalidFlag) "__init__" = some (some (.ref I_InvalidFlag)))
    (ti_InvalidFlag : PySem.W.typeIn K (.ref I_InvalidFlag) = some (.type "function"))
    (li_InvalidFlag : K.lookup I_InvalidFlag = some ⟨oci_InvalidFlag, odi_InvalidFlag, .func (PySem.W.fnOf "__init__" "InvalidFlag.__init__" (xArgs "given" ⟨11, 17, 11, 21⟩ ⟨11, 23, 11, 28⟩) (xBody "given" ⟨12, 8, 12, 12⟩ ⟨12, 8, 12, 18⟩ ⟨12, 21, 12, 26⟩ ⟨12, 8, 12, 26⟩) (xScope "given") .none .none dci_InvalidFlag pmi_InvalidFlag ani_InvalidFlag cdi_InvalidFlag cti_InvalidFlag), sli_InvalidFlag⟩)
    (ci_InvalidFlag : PySem.W.codeIn K cdi_InvalidFlag "InvalidFlag.__init__" = true)
    (kC_InvalidFlag : PySem.W.keepIn K (.ref C_InvalidFlag) = true)
    (eC_InvalidFlag : PySem.W.subIn K (.ref C_InvalidFlag) (.type "BaseException") = some true)
    (tC_InvalidFlag : PySem.W.typeIn K (.ref C_InvalidFlag) = some (.type "type"))
    (hC_InvalidFlag : PySem.W.hasDictIn K C_InvalidFlag = true)
    (ei_NoMap : PySem.W.excIn K C_NoMap [.type "ValueError", .type "Exception", .type "BaseException", .type "object"] "ValueError.__new__" = true)
    (kC_NoMap : PySem.W.keepIn K (.ref C_NoMap) = true)
    (eC_NoMap : PySem.W.subIn K (.ref C_NoMap) (.type "BaseException") = some true)
    (tC_NoMap : PySem.W.typeIn K (.ref C_NoMap) = some (.type "type"))
    (ga_NoMap : PySem.W.findIn K (.ref C_NoMap) "__getattribute__" = some (some (.builtin "BaseException.__getattribute__")))
    (gg_NoMap : PySem.W.findIn K (.ref C_NoMap) "__getattr__" = some none)
    (hC_NoMap : PySem.W.hasDictIn K C_NoMap = true)
    (hnG : PySem.W.specialIn K (.builtin "object.__class__") "__get__" = some (some (.builtin "getset_descriptor.__get__")))
    (htG : PySem.W.takesIn K (.builtin "object.__class__") = some true)
    (eTop : PySem.W.subIn K (.ref C_NoMap) (.type "BaseException") = some true)
    (hTop : PySem.W.hasDictIn K C_NoMap = true)
    (tTop : PySem.W.typeIn K (.ref C_NoMap) = some (.type "type"))
    (ha_NoMap : PySem.W.findIn K (.ref C_NoMap) "__class__" = some (some (.builtin "object.__class__")))
    (hm_NoMap : PySem.W.mroIn K C_NoMap (.type "object") = some true)
    (s4_NoMap : PySem.W.subIn K (.ref C_NoMap) (.ref C_NoMap) = some true)
    (kv_NoMap : PySem.W.kitOne K (.ref C_NoMap) (.type "ValueError") = some true)
    (z_isinstance : PySem.W.nsIn K mainGlobals "isinstance" = some none)
    (z_int : PySem.W.nsIn K mainGlobals "int" = some none)
    (z_bool : PySem.W.nsIn K mainGlobals "bool" = some none)
    (z_tuple : PySem.W.nsIn K mainGlobals "tuple" = some none)
    (z_len : PySem.W.nsIn K mainGlobals "len" = some none)
    (z_all : PySem.W.nsIn K mainGlobals "all" = some none)
    (z_sorted : PySem.W.nsIn K mainGlobals "sorted" = some none)
    (z_abs : PySem.W.nsIn K mainGlobals "abs" = some none)
    (z_divmod : PySem.W.nsIn K mainGlobals "divmod" = some none)
    (z_max : PySem.W.nsIn K mainGlobals "max" = some none)
    (z_min : PySem.W.nsIn K mainGlobals "min" = some none)
    (z_range : PySem.W.nsIn K mainGlobals "range" = some none)
    (z_repr : PySem.W.nsIn K mainGlobals "repr" = some none)
    (z_list : PySem.W.nsIn K mainGlobals "list" = some none)
    (m_gcd : PySem.W.nsIn K mainGlobals "gcd" = some (some (.builtin "math.gcd")))
    (ga_NOUGHT' : PySem.W.nsIn K mainGlobals "NOUGHT" = some (some (.ref ga_NOUGHT)))
    (gl_NOUGHT' : K.lookup ga_NOUGHT = some ⟨.type "tuple", gd_NOUGHT, .seq #[.int 0 gt0_NOUGHT, .int 0 gt1_NOUGHT] gn_NOUGHT, gs_NOUGHT⟩)
    : ∃ fd : FuncData, (∀ (s : Shared) (u : Value), BindsTo s fd ⟨[u], []⟩ [("_law_script", u)]) ∧ ∀ base : Heap, K.In base → base.Ns mainGlobals mg → FnG P wd K mg base CX0 10 fa fd ["_law_script"] (spP K 1 c_law) := by
  have e := hfa.symm.trans (PySem.W.mg_of X G a47)
  cases e
  have F0 := fun_mk (st := s_is_whole) l0 c0 k0
  have F1 := fun_mk (st := s_are_wholes) l1 c1 k1
  have F2 := fun_mk (st := s_common_of) l2 c2 k2
  have F3 := fun_mk (st := s_minus) l3 c3 k3
  have F4 := fun_mk (st := s_times) l4 c4 k4
  have F5 := fun_mk (st := s_conjugate_of) l5 c5 k5
  have F6 := fun_mk (st := s_norm_of) l6 c6 k6
  have F7 := fun_mk (st := s_is_quarter) l7 c7 k7
  have F8 := fun_mk (st := s_turned) l8 c8 k8
  have F9 := fun_mk (st := s_quarter_of) l9 c9 k9
  have F10 := fun_mk (st := s_exact_quotient) l10 c10 k10
  have F11 := fun_mk (st := s_rest_of) l11 c11 k11
  have F12 := fun_mk (st := s_divisor_of) l12 c12 k12
  have F13 := fun_mk (st := s_divisor_of_two) l13 c13 k13
  have F14 := fun_mk (st := s_divisor_by_steps) l14 c14 k14
  have F15 := fun_mk (st := s_is_complex) l15 c15 k15
  have F16 := fun_mk (st := s_require_complex) l16 c16 k16
  have F17 := fun_mk (st := s_determinant) l17 c17 k17
  have F18 := funD_mk (st := s_map_from) (its := [.ref dA18]) (dvs := [.ref dA18]) l18 c18 k18 dl18 rfl (.cons rfl .nil) (by intro z; cases z)
  have F19 := fun_mk (st := s_is_flag) l19 c19 k19
  have F20 := fun_mk (st := s_is_map) l20 c20 k20
  have F21 := fun_mk (st := s_map_of) l21 c21 k21
  have F22 := fun_mk (st := s_law_tank) l22 c22 k22
  have F23 := fun_mk (st := s_law_draw) l23 c23 k23
  have F24 := fun_mk (st := s_law_pick) l24 c24 k24
  have F25 := fun_mk (st := s_law_rounds) l25 c25 k25
  have F26 := fun_mk (st := s_law_number) l26 c26 k26
  have F27 := fun_mk (st := s_law_small) l27 c27 k27
  have F28 := fun_mk (st := s_law_less) l28 c28 k28
  have F29 := fun_mk (st := s_law_times) l29 c29 k29
  have F30 := fun_mk (st := s_law_star) l30 c30 k30
  have F31 := fun_mk (st := s_law_size) l31 c31 k31
  have F32 := fun_mk (st := s_law_quarter) l32 c32 k32
  have F33 := fun_mk (st := s_law_over) l33 c33 k33
  have F34 := fun_mk (st := s_law_common) l34 c34 k34
  have F35 := fun_mk (st := s_law_is_whole) l35 c35 k35
  have F36 := fun_mk (st := s_law_complex) l36 c36 k36
  have F37 := fun_mk (st := s_law_little) l37 c37 k37
  have F38 := fun_mk (st := s_law_map) l38 c38 k38
  have F39 := fun_mk (st := s_law_det) l39 c39 k39
  have F40 := fun_mk (st := s_law_four) l40 c40 k40
  have F41 := fun_mk (st := s_law_is_map) l41 c41 k41
  have F42 := fun_mk (st := s_law_is_along) l42 c42 k42
  have F43 := fun_mk (st := s_law_form_right) l43 c43 k43
  have F44 := fun_mk (st := s_law_is_refused) l44 c44 k44
  have F45 := fun_mk (st := s_law_value) l45 c45 k45
  have F46 := fun_mk (st := s_law_right) l46 c46 k46
  have F47 := fun_mk (st := s_law) l47 c47 k47
  have z_isinstance := PySem.W.mg_none_of X G z_isinstance
  have z_int := PySem.W.mg_none_of X G z_int
  have z_bool := PySem.W.mg_none_of X G z_bool
  have z_tuple := PySem.W.mg_none_of X G z_tuple
  have z_len := PySem.W.mg_none_of X G z_len
  have z_all := PySem.W.mg_none_of X G z_all
  have z_sorted := PySem.W.mg_none_of X G z_sorted
  have z_abs := PySem.W.mg_none_of X G z_abs
  have z_divmod := PySem.W.mg_none_of X G z_divmod
  have z_max := PySem.W.mg_none_of X G z_max
  have z_min := PySem.W.mg_none_of X G z_min
  have z_range := PySem.W.mg_none_of X G z_range
  have z_repr := PySem.W.mg_none_of X G z_repr
  have z_list := PySem.W.mg_none_of X G z_list
  have m_gcd := PySem.W.mg_of X G m_gcd
  have g_NOUGHT : Gc K mg "NOUGHT" (.tuple [(.int 0), (.int 0)]) := gc_tup (PySem.W.mg_of X G ga_NOUGHT') gl_NOUGHT' (Nat.le_of_ble_eq_true rfl) (fun H => .cons (.int _) (.cons (.int _) (.nil))) (.cons ⟨_, rfl⟩ (.cons ⟨_, rfl⟩ (.nil)))
  refine ⟨PySem.W.fnOf "law" "law" (defArgs s_law) (defBody s_law) (defScope s_law) .none kV47 dc47 pm47 an47 cd47 ct47, fun s u => .of_eq rfl, fun base _ _ => ?_⟩
  have x_InvalidComplex : XTxt K mg "InvalidComplex" "InvalidComplex.__init__" "given" C_InvalidComplex I_InvalidComplex := { fld := .inl rfl, gC := PySem.W.mg_of X G aC_InvalidComplex, cls := ⟨_, _, _, _, _, _, _, _, _, _, _, _, _, _, _, xL_InvalidComplex, rfl⟩, sa := sa_InvalidComplex, ga := ga_InvalidComplex, gg := gg_InvalidComplex, noN := nb_InvalidComplex, iC := ai_InvalidComplex, tC := ti_InvalidComplex, kC := kC_InvalidComplex, exC := eC_InvalidComplex, tyC := tC_InvalidComplex, hdC := hC_InvalidComplex, fn := ⟨_, _, _, _, _, _, _, _, _, _, _, _, _, _, li_InvalidComplex, ci_InvalidComplex⟩ }
  have x_InvalidFlag : XTxt K mg "InvalidFlag" "InvalidFlag.__init__" "given" C_InvalidFlag I_InvalidFlag := { fld := .inl rfl, gC := PySem.W.mg_of X G aC_InvalidFlag, cls := ⟨_, _, _, _, _, _, _, _, _, _, _, _, _, _, _, xL_InvalidFlag, rfl⟩, sa := sa_InvalidFlag, ga := ga_InvalidFlag, gg := gg_InvalidFlag, noN := nb_InvalidFlag, iC := ai_InvalidFlag, tC := ti_InvalidFlag, kC := kC_InvalidFlag, exC := eC_InvalidFlag, tyC := tC_InvalidFlag, hdC := hC_InvalidFlag, fn := ⟨_, _, _, _, _, _, _, _, _, _, _, _, _, _, li_InvalidFlag, ci_InvalidFlag⟩ }
  have n_NoMap : X0Txt K mg "NoMap" C_NoMap := ⟨PySem.W.mg_of X G aC_NoMap, ei_NoMap, kC_NoMap, eC_NoMap, tC_NoMap⟩
  have m_ArmError := PySem.W.mg_of X G aC_ArmError
  have m_InvalidComplex := PySem.W.mg_of X G aC_InvalidComplex
  have m_InvalidFlag := PySem.W.mg_of X G aC_InvalidFlag
  have m_NoMap := PySem.W.mg_of X G aC_NoMap
  have ex_NoMap : PySem.W.exmOne K (.ref C_NoMap) (.ref C_NoMap) = some true := PySem.W.exm_ref eTop hTop tTop s4_NoMap
  have ec_NoMap : ExcC K C_NoMap := ⟨ga_NoMap, gg_NoMap, eC_NoMap, hC_NoMap, ha_NoMap, hnG, htG, hm_NoMap⟩
  have et0 : ErrT0 K mg ks0 ets sub etop := by
    refine ⟨fun cn C CT h1 h2 h3 => ?_, fun cn C h1 h2 => ?_, fun cn C T CT h1 h2 h3 h4 => ?_, fun cn C h1 h2 => ?_⟩
    · simp only [List.mem_cons, List.not_mem_nil, or_false] at h1
      subst h1
      · cases (h2.symm.trans m_NoMap); cases (h3.symm.trans m_NoMap); exact ex_NoMap
    · simp only [List.mem_cons, List.not_mem_nil, or_false] at h1
      subst h1
      · cases (h2.symm.trans m_NoMap); exact ec_NoMap
    · simp only [List.mem_cons, List.not_mem_nil, or_false] at h1
      subst h1
      · cases (h2.symm.trans m_NoMap); cases h3
    · simp only [List.mem_cons, List.not_mem_nil, or_false] at h1
      subst h1
      · cases (h2.symm.trans m_NoMap); exact kv_NoMap
  have G0 := ok_is_whole (P := P) (wd := wd) (mg := mg) (base := base) F0 z_isinstance z_int z_bool
  have h_is_whole : Cl P wd K mg base 1 "is_whole" ["value"] (spP K 1 c_is_whole) := ⟨_, _, PySem.W.mg_of X G a0, k0, F0.binds (fun _ _ _ _ _ _ us hl => match us, hl with | [_], _ => rfl), G0⟩
  have G2 := ok_common_of (P := P) (wd := wd) (mg := mg) (base := base) F2 m_gcd
  have h_common_of : Cl P wd K mg base 1 "common_of" ["numbers"] (spP K 1 c_common_of) := ⟨_, _, PySem.W.mg_of X G a2, k2, F2.binds (fun _ _ _ _ _ _ us hl => match us, hl with | [_], _ => rfl), G2⟩
  have G3 := ok_minus (P := P) (wd := wd) (mg := mg) (base := base) F3 
  have h_minus : Cl P wd K mg base 1 "minus" ["number", "other"] (spP K 2 c_minus) := ⟨_, _, PySem.W.mg_of X G a3, k3, F3.binds (fun _ _ _ _ _ _ us hl => match us, hl with | [_, _], _ => rfl), G3⟩
  have G4 := ok_times (P := P) (wd := wd) (mg := mg) (base := base) F4 
  have h_times : Cl P wd K mg base 1 "times" ["number", "other"] (spP K 2 c_times) := ⟨_, _, PySem.W.mg_of X G a4, k4, F4.binds (fun _ _ _ _ _ _ us hl => match us, hl with | [_, _], _ => rfl), G4⟩
  have G5 := ok_conjugate_of (P := P) (wd := wd) (mg := mg) (base := base) F5 
  have h_conjugate_of : Cl P wd K mg base 1 "conjugate_of" ["number"] (spP K 1 c_conjugate_of) := ⟨_, _, PySem.W.mg_of X G a5, k5, F5.binds (fun _ _ _ _ _ _ us hl => match us, hl with | [_], _ => rfl), G5⟩
  have G6 := ok_norm_of (P := P) (wd := wd) (mg := mg) (base := base) F6 
  have h_norm_of : Cl P wd K mg base 1 "norm_of" ["number"] (spP K 1 c_norm_of) := ⟨_, _, PySem.W.mg_of X G a6, k6, F6.binds (fun _ _ _ _ _ _ us hl => match us, hl with | [_], _ => rfl), G6⟩
  have G7 := ok_is_quarter (P := P) (wd := wd) (mg := mg) (base := base) F7 
  have h_is_quarter : Cl P wd K mg base 1 "is_quarter" ["number"] (spP K 1 c_is_quarter) := ⟨_, _, PySem.W.mg_of X G a7, k7, F7.binds (fun _ _ _ _ _ _ us hl => match us, hl with | [_], _ => rfl), G7⟩
  have G8 := ok_turned (P := P) (wd := wd) (mg := mg) (base := base) F8 
  have h_turned : Cl P wd K mg base 1 "turned" ["number"] (spP K 1 c_turned) := ⟨_, _, PySem.W.mg_of X G a8, k8, F8.binds (fun _ _ _ _ _ _ us hl => match us, hl with | [_], _ => rfl), G8⟩
  have G22 := ok_law_tank (P := P) (wd := wd) (mg := mg) (base := base) F22 z_int z_len z_abs
  have h_law_tank : Cl P wd K mg base 1 "_law_tank" ["_law_script", "_law_spot"] (spF K 2 c_law_tank) := ⟨_, _, PySem.W.mg_of X G a22, k22, F22.binds (fun _ _ _ _ _ _ us hl => match us, hl with | [_, _], _ => rfl), G22⟩
  have G23 := ok_law_draw (P := P) (wd := wd) (mg := mg) (base := base) F23 z_divmod z_int
  have h_law_draw : Cl P wd K mg base 1 "_law_draw" ["_law_tank_here", "_law_many"] (spT K 2 c_law_draw) := ⟨_, _, PySem.W.mg_of X G a23, k23, F23.binds (fun _ _ _ _ _ _ us hl => match us, hl with | [_, _], _ => rfl), G23⟩
  have G25 := ok_law_rounds (P := P) (wd := wd) (mg := mg) (base := base) F25 z_max z_min z_len
  have h_law_rounds : Cl P wd K mg base 1 "_law_rounds" ["_law_script"] (spP K 1 c_law_rounds) := ⟨_, _, PySem.W.mg_of X G a25, k25, F25.binds (fun _ _ _ _ _ _ us hl => match us, hl with | [_], _ => rfl), G25⟩
  have G28 := ok_law_less (P := P) (wd := wd) (mg := mg) (base := base) F28 
  have h_law_less : Cl P wd K mg base 1 "_law_less" ["_law_one", "_law_two"] (spP K 2 c_law_less) := ⟨_, _, PySem.W.mg_of X G a28, k28, F28.binds (fun _ _ _ _ _ _ us hl => match us, hl with | [_, _], _ => rfl), G28⟩
  have G29 := ok_law_times (P := P) (wd := wd) (mg := mg) (base := base) F29 
  have h_law_times : Cl P wd K mg base 1 "_law_times" ["_law_one", "_law_two"] (spP K 2 c_law_times) := ⟨_, _, PySem.W.mg_of X G a29, k29, F29.binds (fun _ _ _ _ _ _ us hl => match us, hl with | [_, _], _ => rfl), G29⟩
  have G30 := ok_law_star (P := P) (wd := wd) (mg := mg) (base := base) F30 
  have h_law_star : Cl P wd K mg base 1 "_law_star" ["_law_one"] (spP K 1 c_law_star) := ⟨_, _, PySem.W.mg_of X G a30, k30, F30.binds (fun _ _ _ _ _ _ us hl => match us, hl with | [_], _ => rfl), G30⟩
  have G31 := ok_law_size (P := P) (wd := wd) (mg := mg) (base := base) F31 
  have h_law_size : Cl P wd K mg base 1 "_law_size" ["_law_one"] (spP K 1 c_law_size) := ⟨_, _, PySem.W.mg_of X G a31, k31, F31.binds (fun _ _ _ _ _ _ us hl => match us, hl with | [_], _ => rfl), G31⟩
  have G32 := ok_law_quarter (P := P) (wd := wd) (mg := mg) (base := base) F32 z_range
  have h_law_quarter : Cl P wd K mg base 1 "_law_quarter" ["_law_one"] (spP K 1 c_law_quarter) := ⟨_, _, PySem.W.mg_of X G a32, k32, F32.binds (fun _ _ _ _ _ _ us hl => match us, hl with | [_], _ => rfl), G32⟩
  have G35 := ok_law_is_whole (P := P) (wd := wd) (mg := mg) (base := base) F35 z_isinstance z_tuple z_len z_int z_bool
  have h_law_is_whole : Cl P wd K mg base 1 "_law_is_whole" ["_law_thing", "_law_many"] (spP K 2 c_law_is_whole) := ⟨_, _, PySem.W.mg_of X G a35, k35, F35.binds (fun _ _ _ _ _ _ us hl => match us, hl with | [_, _], _ => rfl), G35⟩
  have G1 := ok_are_wholes (P := P) (wd := wd) (mg := mg) (base := base) F1 h_is_whole z_isinstance z_tuple z_len z_all
  have h_are_wholes : Cl P wd K mg base 2 "are_wholes" ["value", "many"] (spP K 2 c_are_wholes) := ⟨_, _, PySem.W.mg_of X G a1, k1, F1.binds (fun _ _ _ _ _ _ us hl => match us, hl with | [_, _], _ => rfl), G1⟩
  have G9 := ok_quarter_of (P := P) (wd := wd) (mg := mg) (base := base) F9 h_is_quarter h_turned g_NOUGHT
  have h_quarter_of : Cl P wd K mg base 2 "quarter_of" ["number"] (spP K 1 c_quarter_of) := ⟨_, _, PySem.W.mg_of X G a9, k9, F9.binds (fun _ _ _ _ _ _ us hl => match us, hl with | [_], _ => rfl), G9⟩
  have G10 := ok_exact_quotient (P := P) (wd := wd) (mg := mg) (base := base) F10 h_norm_of h_times h_conjugate_of
  have h_exact_quotient : Cl P wd K mg base 2 "exact_quotient" ["number", "other"] (spP K 2 c_exact_quotient) := ⟨_, _, PySem.W.mg_of X G a10, k10, F10.binds (fun _ _ _ _ _ _ us hl => match us, hl with | [_, _], _ => rfl), G10⟩
  have G11 := ok_rest_of (P := P) (wd := wd) (mg := mg) (base := base) F11 h_norm_of h_times h_conjugate_of h_minus
  have h_rest_of : Cl P wd K mg base 2 "rest_of" ["number", "other"] (spP K 2 c_rest_of) := ⟨_, _, PySem.W.mg_of X G a11, k11, F11.binds (fun _ _ _ _ _ _ us hl => match us, hl with | [_, _], _ => rfl), G11⟩
  have G17 := ok_determinant (P := P) (wd := wd) (mg := mg) (base := base) F17 h_minus h_times
  have h_determinant : Cl P wd K mg base 2 "determinant" ["numbers"] (spP K 1 c_determinant) := ⟨_, _, PySem.W.mg_of X G a17, k17, F17.binds (fun _ _ _ _ _ _ us hl => match us, hl with | [_], _ => rfl), G17⟩
  have G19 := ok_is_flag (P := P) (wd := wd) (mg := mg) (base := base) F19 h_is_whole
  have h_is_flag : Cl P wd K mg base 2 "is_flag" ["value"] (spP K 1 c_is_flag) := ⟨_, _, PySem.W.mg_of X G a19, k19, F19.binds (fun _ _ _ _ _ _ us hl => match us, hl with | [_], _ => rfl), G19⟩
  have G24 := ok_law_pick (P := P) (wd := wd) (mg := mg) (base := base) F24 h_law_draw z_len
  have h_law_pick : Cl P wd K mg base 2 "_law_pick" ["_law_tank_here", "_law_some"] (spT K 2 c_law_pick) := ⟨_, _, PySem.W.mg_of X G a24, k24, F24.binds (fun _ _ _ _ _ _ us hl => match us, hl with | [_, _], _ => rfl), G24⟩
  have G33 := ok_law_over (P := P) (wd := wd) (mg := mg) (base := base) F33 h_law_size h_law_times h_law_star z_int
  have h_law_over : Cl P wd K mg base 2 "_law_over" ["_law_one", "_law_two"] (spP K 2 c_law_over) := ⟨_, _, PySem.W.mg_of X G a33, k33, F33.binds (fun _ _ _ _ _ _ us hl => match us, hl with | [_, _], _ => rfl), G33⟩
  have G34 := ok_law_common (P := P) (wd := wd) (mg := mg) (base := base) F34 h_law_size h_law_times h_law_star h_law_less z_range
  have h_law_common : Cl P wd K mg base 2 "_law_common" ["_law_numbers"] (spP K 1 c_law_common) := ⟨_, _, PySem.W.mg_of X G a34, k34, F34.binds (fun _ _ _ _ _ _ us hl => match us, hl with | [_], _ => rfl), G34⟩
  have G39 := ok_law_det (P := P) (wd := wd) (mg := mg) (base := base) F39 h_law_less h_law_times
  have h_law_det : Cl P wd K mg base 2 "_law_det" ["_law_numbers"] (spP K 1 c_law_det) := ⟨_, _, PySem.W.mg_of X G a39, k39, F39.binds (fun _ _ _ _ _ _ us hl => match us, hl with | [_], _ => rfl), G39⟩
  have G42 := ok_law_is_along (P := P) (wd := wd) (mg := mg) (base := base) F42 h_law_times z_range
  have h_law_is_along : Cl P wd K mg base 2 "_law_is_along" ["_law_told", "_law_numbers"] (spP K 2 c_law_is_along) := ⟨_, _, PySem.W.mg_of X G a42, k42, F42.binds (fun _ _ _ _ _ _ us hl => match us, hl with | [_, _], _ => rfl), G42⟩
  have G14 := ok_divisor_by_steps (P := P) (wd := wd) (mg := mg) (base := base) F14 h_rest_of g_NOUGHT
  have h_divisor_by_steps : Cl P wd K mg base 3 "_divisor_by_steps" ["number", "other"] (spP K 2 c_divisor_by_steps) := ⟨_, _, PySem.W.mg_of X G a14, k14, F14.binds (fun _ _ _ _ _ _ us hl => match us, hl with | [_, _], _ => rfl), G14⟩
  have G15 := ok_is_complex (P := P) (wd := wd) (mg := mg) (base := base) F15 h_are_wholes
  have h_is_complex : Cl P wd K mg base 3 "is_complex" ["value"] (spP K 1 c_is_complex) := ⟨_, _, PySem.W.mg_of X G a15, k15, F15.binds (fun _ _ _ _ _ _ us hl => match us, hl with | [_], _ => rfl), G15⟩
  have G26 := ok_law_number (P := P) (wd := wd) (mg := mg) (base := base) F26 h_law_pick h_law_draw
  have h_law_number : Cl P wd K mg base 3 "_law_number" ["_law_tank_here"] (spT K 1 c_law_number) := ⟨_, _, PySem.W.mg_of X G a26, k26, F26.binds (fun _ _ _ _ _ _ us hl => match us, hl with | [_], _ => rfl), G26⟩
  have G27 := ok_law_small (P := P) (wd := wd) (mg := mg) (base := base) F27 h_law_pick h_law_draw
  have h_law_small : Cl P wd K mg base 3 "_law_small" ["_law_tank_here"] (spT K 1 c_law_small) := ⟨_, _, PySem.W.mg_of X G a27, k27, F27.binds (fun _ _ _ _ _ _ us hl => match us, hl with | [_], _ => rfl), G27⟩
  have G38 := ok_law_map (P := P) (wd := wd) (mg := mg) (base := base) F38 h_law_common h_law_over h_law_quarter h_law_times
  have h_law_map : Cl P wd K mg base 3 "_law_map" ["_law_flag", "_law_numbers"] (spP K 2 c_law_map) := ⟨_, _, PySem.W.mg_of X G a38, k38, F38.binds (fun _ _ _ _ _ _ us hl => match us, hl with | [_, _], _ => rfl), G38⟩
  have G13 := ok_divisor_of_two (P := P) (wd := wd) (mg := mg) (base := base) F13 h_rest_of h_times h_conjugate_of h_common_of h_norm_of h_divisor_by_steps g_NOUGHT
  have h_divisor_of_two : Cl P wd K mg base 4 "_divisor_of_two" ["number", "other"] (spP K 2 c_divisor_of_two) := ⟨_, _, PySem.W.mg_of X G a13, k13, F13.binds (fun _ _ _ _ _ _ us hl => match us, hl with | [_, _], _ => rfl), G13⟩
  have G16 := ok_require_complex (P := P) (wd := wd) (mg := mg) (base := base) F16 h_is_complex x_InvalidComplex
  have y_require_complex : ClX P wd K mg base 4 "require_complex" ["number"] (spX mg K 1 c_require_complex) := ⟨_, _, PySem.W.mg_of X G a16, k16, F16.binds (fun _ _ _ _ _ _ us hl => match us, hl with | [_], _ => rfl), G16⟩
  have G36 := ok_law_complex (P := P) (wd := wd) (mg := mg) (base := base) F36 h_law_number
  have h_law_complex : Cl P wd K mg base 4 "_law_complex" ["_law_tank_here"] (spT K 1 c_law_complex) := ⟨_, _, PySem.W.mg_of X G a36, k36, F36.binds (fun _ _ _ _ _ _ us hl => match us, hl with | [_], _ => rfl), G36⟩
  have G37 := ok_law_little (P := P) (wd := wd) (mg := mg) (base := base) F37 h_law_small
  have h_law_little : Cl P wd K mg base 4 "_law_little" ["_law_tank_here"] (spT K 1 c_law_little) := ⟨_, _, PySem.W.mg_of X G a37, k37, F37.binds (fun _ _ _ _ _ _ us hl => match us, hl with | [_], _ => rfl), G37⟩
  have G41 := ok_law_is_map (P := P) (wd := wd) (mg := mg) (base := base) F41 h_law_is_whole h_law_det h_law_map z_isinstance z_tuple z_len
  have h_law_is_map : Cl P wd K mg base 4 "_law_is_map" ["_law_thing"] (spP K 1 c_law_is_map) := ⟨_, _, PySem.W.mg_of X G a41, k41, F41.binds (fun _ _ _ _ _ _ us hl => match us, hl with | [_], _ => rfl), G41⟩
  have G12 := ok_divisor_of (P := P) (wd := wd) (mg := mg) (base := base) F12 h_norm_of h_divisor_of_two h_quarter_of z_sorted g_NOUGHT
  have h_divisor_of : Cl P wd K mg base 5 "divisor_of" ["numbers"] (spP K 1 c_divisor_of) := ⟨_, _, PySem.W.mg_of X G a12, k12, F12.binds (fun _ _ _ _ _ _ us hl => match us, hl with | [_], _ => rfl), G12⟩
  have G40 := ok_law_four (P := P) (wd := wd) (mg := mg) (base := base) F40 h_law_draw h_law_little h_law_det z_range
  have h_law_four : Cl P wd K mg base 5 "_law_four" ["_law_tank_here"] (spT K 1 c_law_four) := ⟨_, _, PySem.W.mg_of X G a40, k40, F40.binds (fun _ _ _ _ _ _ us hl => match us, hl with | [_], _ => rfl), G40⟩
  have G18 := ok_map_from (P := P) (wd := wd) (mg := mg) (base := base) F18 h_divisor_of h_exact_quotient h_is_quarter h_turned z_tuple g_NOUGHT
  have h_map_from : Cl P wd K mg base 6 "map_from" ["flag", "numbers", "multiple"] (spP K 3 c_map_from) := ⟨_, _, PySem.W.mg_of X G a18, k18, bindsFull F18 3 (by intro z; cases z) rfl (fun _ _ _ _ _ _ _ us its h1 h2 => match us, h1, its, h2 with | [_, _, _], _, [_], _ => ⟨_, rfl, rfl⟩), G18⟩
  have d_map_from : ClD P wd K mg base 6 "map_from" ["flag", "numbers", "multiple"] [(.tuple [(.int 0), (.int 0)])] (spP K 3 c_map_from) := by
    obtain ⟨ds, r, bb⟩ := F18.binds1 (ps := ["flag", "numbers", "multiple"]) 2 0 (by intro z; cases z) rfl (fun _ _ _ _ _ _ _ us its h1 h2 => match us, h1, its, h2 with | [_, _], _, [_], _ => ⟨_, rfl, rfl⟩)
    exact ⟨_, _, _, ds, PySem.W.mg_of X G a18, k18, bb, r, dd_tup da18 (Nat.le_of_ble_eq_true rfl) (fun H => .cons (.int _) (.cons (.int _) (.nil))) (.cons ⟨_, rfl⟩ (.cons ⟨_, rfl⟩ (.nil))), G18⟩
  have G45 := ok_law_value (P := P) (wd := wd) (mg := mg) (base := base) F45 h_law_draw h_law_four h_law_map h_law_pick h_law_times z_tuple z_list
  have h_law_value : Cl P wd K mg base 6 "_law_value" ["_law_tank_here"] (spT K 1 c_law_value) := ⟨_, _, PySem.W.mg_of X G a45, k45, F45.binds (fun _ _ _ _ _ _ us hl => match us, hl with | [_], _ => rfl), G45⟩
  have G20 := ok_is_map (P := P) (wd := wd) (mg := mg) (base := base) F20 h_is_flag h_is_complex h_determinant d_map_from z_isinstance z_tuple z_len z_all g_NOUGHT
  have h_is_map : Cl P wd K mg base 7 "is_map" ["value"] (spP K 1 c_is_map) := ⟨_, _, PySem.W.mg_of X G a20, k20, F20.binds (fun _ _ _ _ _ _ us hl => match us, hl with | [_], _ => rfl), G20⟩
  have k_is_map : ClK P wd K mg base 7 "is_map" ["value"] (spP K 1 c_is_map) := ⟨_, _, PySem.W.mg_of X G a20, k20, kb_of F20 (fun _ _ _ _ _ _ us hl => match us, hl with | [_], _ => rfl), G20⟩
  have G21 := ok_map_of (P := P) (wd := wd) (mg := mg) (base := base) F21 h_is_flag h_determinant d_map_from y_require_complex x_InvalidFlag n_NoMap g_NOUGHT
  have y_map_of : ClX P wd K mg base 7 "map_of" ["is_mirrored", "first", "second", "third", "fourth"] (spX mg K 5 c_map_of) := ⟨_, _, PySem.W.mg_of X G a21, k21, F21.binds (fun _ _ _ _ _ _ us hl => match us, hl with | [_, _, _, _, _], _ => rfl), G21⟩
  have q_map_of : ClKX P wd K mg base 7 "map_of" ["is_mirrored", "first", "second", "third", "fourth"] (spX mg K 5 c_map_of) := ⟨_, _, PySem.W.mg_of X G a21, k21, kb_of F21 (fun _ _ _ _ _ _ us hl => match us, hl with | [_, _, _, _, _], _ => rfl), G21⟩
  have G43 := ok_law_form_right (P := P) (wd := wd) (mg := mg) (base := base) F43 h_law_is_map h_law_is_along h_is_map h_law_times y_map_of q_map_of z_repr
  have h_law_form_right : Cl P wd K mg base 8 "_law_form_right" ["_law_flag", "_law_numbers", "_law_times_here"] (spP K 3 c_law_form_right) := ⟨_, _, PySem.W.mg_of X G a43, k43, F43.binds (fun _ _ _ _ _ _ us hl => match us, hl with | [_, _, _], _ => rfl), G43⟩
  have G44 := ok_law_is_refused (P := P) (wd := wd) (mg := mg) (base := base) F44 y_map_of et0 m_NoMap
  have h_law_is_refused : Cl P wd K mg base 8 "_law_is_refused" ["_law_flag", "_law_numbers"] (spP K 2 c_law_is_refused) := ⟨_, _, PySem.W.mg_of X G a44, k44, F44.binds (fun _ _ _ _ _ _ us hl => match us, hl with | [_, _], _ => rfl), G44⟩
  have G46 := ok_law_right (P := P) (wd := wd) (mg := mg) (base := base) F46 h_law_draw h_law_four h_law_complex h_law_form_right h_law_det h_law_little h_law_times h_law_is_refused h_law_value h_law_is_map h_is_map k_is_map z_range z_repr
  have h_law_right : Cl P wd K mg base 9 "_law_right" ["_law_tank_here"] (spT K 1 c_law_right) := ⟨_, _, PySem.W.mg_of X G a46, k46, F46.binds (fun _ _ _ _ _ _ us hl => match us, hl with | [_], _ => rfl), G46⟩
  exact ok_law (P := P) (wd := wd) (mg := mg) (base := base) F47 h_law_rounds h_law_right h_law_tank z_range
end Lk13
open PySem PySem.W PyProof.Rows
set_option maxRecDepth 100000 in
set_option maxHeartbeats 0 in
theorem PySem.Challenge.cw_drawarms_k13_maps_and_their_form_holds : PySem.Challenge.rw_drawarms_k13_maps_and_their_form.Holds := by
  w_on; o_law; k_head; (case hw => w_witness2)
  k_fill
  refine Z.walkG (l := PySem.Challenge.rw_drawarms_k13_maps_and_their_form) (k := 10) (x := "_law_script") (C := Lk13.c_law) rfl rfl ⟨rfl, by decide, by decide⟩ (fun w h Y => PySem.W.kIn_of Y) ?F Lk13.law_all
  case F =>
    intro w mg fa h KX G hmg
    refine' Lk13.all_mk KX G hmg ?a0 ?l0 ?c0 ?k0 ?a1 ?l1 ?c1 ?k1 ?a2 ?l2 ?c2 ?k2 ?a3 ?l3 ?c3 ?k3 ?a4 ?l4 ?c4 ?k4 ?a5 ?l5 ?c5 ?k5 ?a6 ?l6 ?c6 ?k6 ?a7 ?l7 ?c7 ?k7 ?a8 ?l8 ?c8 ?k8 ?a9 ?l9 ?c9 ?k9 ?a10 ?l10 ?c10 ?k10 ?a11 ?l11 ?c11 ?k11 ?a12 ?l12 ?c12 ?k12 ?a13 ?l13 ?c13 ?k13 ?a14 ?l14 ?c14 ?k14 ?a15 ?l15 ?c15 ?k15 ?a16 ?l16 ?c16 ?k16 ?a17 ?l17 ?c17 ?k17 ?a18 ?l18 ?c18 ?dl18 ?da18 ?k18 ?a19 ?l19 ?c19 ?k19 ?a20 ?l20 ?c20 ?k20 ?a21 ?l21 ?c21 ?k21 ?a22 ?l22 ?c22 ?k22 ?a23 ?l23 ?c23 ?k23 ?a24 ?l24 ?c24 ?k24 ?a25 ?l25 ?c25 ?k25 ?a26 ?l26 ?c26 ?k26 ?a27 ?l27 ?c27 ?k27 ?a28 ?l28 ?c28 ?k28 ?a29 ?l29 ?c29 ?k29 ?a30 ?l30 ?c30 ?k30 ?a31 ?l31 ?c31 ?k31 ?a32 ?l32 ?c32 ?k32 ?a33 ?l33 ?c33 ?k33 ?a34 ?l34 ?c34 ?k34 ?a35 ?l35 ?c35 ?k35 ?a36 ?l36 ?c36 ?k36 ?a37 ?l37 ?c37 ?k37 ?a38 ?l38 ?c38 ?k38 ?a39 ?l39 ?c39 ?k39 ?a40 ?l40 ?c40 ?k40 ?a41 ?l41 ?c41 ?k41 ?a42 ?l42 ?c42 ?k42 ?a43 ?l43 ?c43 ?k43 ?a44 ?l44 ?c44 ?k44 ?a45 ?l45 ?c45 ?k45 ?a46 ?l46 ?c46 ?k46 ?a47 ?l47 ?c47 ?k47 ?aC_ArmError ?aC_InvalidComplex ?aC_InvalidFlag ?aC_NoMap ?xL_InvalidComplex ?sa_InvalidComplex ?ga_InvalidComplex ?gg_InvalidComplex ?nb_InvalidComplex ?ai_InvalidComplex ?ti_InvalidComplex ?li_InvalidComplex ?ci_InvalidComplex ?kC_InvalidComplex ?eC_InvalidComplex ?tC_InvalidComplex ?hC_InvalidComplex ?xL_InvalidFlag ?sa_InvalidFlag ?ga_InvalidFlag ?gg_InvalidFlag ?nb_InvalidFlag ?ai_InvalidFlag ?ti_InvalidFlag ?li_InvalidFlag ?ci_InvalidFlag ?kC_InvalidFlag ?eC_InvalidFlag ?tC_InvalidFlag ?hC_InvalidFlag ?ei_NoMap ?kC_NoMap ?eC_NoMap ?tC_NoMap ?ga_NoMap ?gg_NoMap ?hC_NoMap ?hnG ?htG ?eTop ?hTop ?tTop ?ha_NoMap ?hm_NoMap ?s4_NoMap ?kv_NoMap ?z_isinstance ?z_int ?z_bool ?z_tuple ?z_len ?z_all ?z_sorted ?z_abs ?z_divmod ?z_max ?z_min ?z_range ?z_repr ?z_list ?m_gcd ?ga_NOUGHT_q ?gl_NOUGHT_q
    (case a0 => k_is); (case l0 => k_is); (case c0 => k_is); (case k0 => k_is); (case a1 => k_is); (case l1 => k_is); (case c1 => k_is); (case k1 => k_is)
    (case a2 => k_is); (case l2 => k_is); (case c2 => k_is); (case k2 => k_is); (case a3 => k_is); (case l3 => k_is); (case c3 => k_is); (case k3 => k_is)
    (case a4 => k_is); (case l4 => k_is); (case c4 => k_is); (case k4 => k_is); (case a5 => k_is); (case l5 => k_is); (case c5 => k_is); (case k5 => k_is)
    (case a6 => k_is); (case l6 => k_is); (case c6 => k_is); (case k6 => k_is); (case a7 => k_is); (case l7 => k_is); (case c7 => k_is); (case k7 => k_is)
    (case a8 => k_is); (case l8 => k_is); (case c8 => k_is); (case k8 => k_is); (case a9 => k_is); (case l9 => k_is); (case c9 => k_is); (case k9 => k_is)
    (case a10 => k_is); (case l10 => k_is); (case c10 => k_is); (case k10 => k_is); (case a11 => k_is); (case l11 => k_is); (case c11 => k_is); (case k11 => k_is)
    (case a12 => k_is); (case l12 => k_is); (case c12 => k_is); (case k12 => k_is); (case a13 => k_is); (case l13 => k_is); (case c13 => k_is); (case k13 => k_is)
    (case a14 => k_is); (case l14 => k_is); (case c14 => k_is); (case k14 => k_is); (case a15 => k_is); (case l15 => k_is); (case c15 => k_is); (case k15 => k_is)
    (case a16 => k_is); (case l16 => k_is); (case c16 => k_is); (case k16 => k_is); (case a17 => k_is); (case l17 => k_is); (case c17 => k_is); (case k17 => k_is)
    (case a18 => k_is); (case l18 => k_is); (case c18 => k_is); (case dl18 => k_is); (case da18 => k_is); (case k18 => k_is); (case a19 => k_is); (case l19 => k_is)
    (case c19 => k_is); (case k19 => k_is); (case a20 => k_is); (case l20 => k_is); (case c20 => k_is); (case k20 => k_is); (case a21 => k_is); (case l21 => k_is)
    (case c21 => k_is); (case k21 => k_is); (case a22 => k_is); (case l22 => k_is); (case c22 => k_is); (case k22 => k_is); (case a23 => k_is); (case l23 => k_is)
    (case c23 => k_is); (case k23 => k_is); (case a24 => k_is); (case l24 => k_is); (case c24 => k_is); (case k24 => k_is); (case a25 => k_is); (case l25 => k_is)
    (case c25 => k_is); (case k25 => k_is); (case a26 => k_is); (case l26 => k_is); (case c26 => k_is); (case k26 => k_is); (case a27 => k_is); (case l27 => k_is)
    (case c27 => k_is); (case k27 => k_is); (case a28 => k_is); (case l28 => k_is); (case c28 => k_is); (case k28 => k_is); (case a29 => k_is); (case l29 => k_is)
    (case c29 => k_is); (case k29 => k_is); (case a30 => k_is); (case l30 => k_is); (case c30 => k_is); (case k30 => k_is); (case a31 => k_is); (case l31 => k_is)
    (case c31 => k_is); (case k31 => k_is); (case a32 => k_is); (case l32 => k_is); (case c32 => k_is); (case k32 => k_is); (case a33 => k_is); (case l33 => k_is)
    (case c33 => k_is); (case k33 => k_is); (case a34 => k_is); (case l34 => k_is); (case c34 => k_is); (case k34 => k_is); (case a35 => k_is); (case l35 => k_is)
    (case c35 => k_is); (case k35 => k_is); (case a36 => k_is); (case l36 => k_is); (case c36 => k_is); (case k36 => k_is); (case a37 => k_is); (case l37 => k_is)
    (case c37 => k_is); (case k37 => k_is); (case a38 => k_is); (case l38 => k_is); (case c38 => k_is); (case k38 => k_is); (case a39 => k_is); (case l39 => k_is)
    (case c39 => k_is); (case k39 => k_is); (case a40 => k_is); (case l40 => k_is); (case c40 => k_is); (case k40 => k_is); (case a41 => k_is); (case l41 => k_is)
    (case c41 => k_is); (case k41 => k_is); (case a42 => k_is); (case l42 => k_is); (case c42 => k_is); (case k42 => k_is); (case a43 => k_is); (case l43 => k_is)
    (case c43 => k_is); (case k43 => k_is); (case a44 => k_is); (case l44 => k_is); (case c44 => k_is); (case k44 => k_is); (case a45 => k_is); (case l45 => k_is)
    (case c45 => k_is); (case k45 => k_is); (case a46 => k_is); (case l46 => k_is); (case c46 => k_is); (case k46 => k_is); (case a47 => k_is); (case l47 => k_is)
    (case c47 => k_is); (case k47 => k_is); (case aC_ArmError => k_is); (case aC_InvalidComplex => k_is); (case aC_InvalidFlag => k_is); (case aC_NoMap => k_is); (case xL_InvalidComplex => k_is); (case sa_InvalidComplex => k_is)
    (case ga_InvalidComplex => k_is); (case gg_InvalidComplex => k_is); (case nb_InvalidComplex => k_is); (case ai_InvalidComplex => k_is); (case ti_InvalidComplex => k_is); (case li_InvalidComplex => k_is); (case ci_InvalidComplex => k_is); (case kC_InvalidComplex => k_is)
    (case eC_InvalidComplex => k_is); (case tC_InvalidComplex => k_is); (case hC_InvalidComplex => k_is); (case xL_InvalidFlag => k_is); (case sa_InvalidFlag => k_is); (case ga_InvalidFlag => k_is); (case gg_InvalidFlag => k_is); (case nb_InvalidFlag => k_is)
    (case ai_InvalidFlag => k_is); (case ti_InvalidFlag => k_is); (case li_InvalidFlag => k_is); (case ci_InvalidFlag => k_is); (case kC_InvalidFlag => k_is); (case eC_InvalidFlag => k_is); (case tC_InvalidFlag => k_is); (case hC_InvalidFlag => k_is)
    (case ei_NoMap => k_exc); (case kC_NoMap => k_is); (case eC_NoMap => k_is); (case tC_NoMap => k_is); (case ga_NoMap => k_is); (case gg_NoMap => k_is); (case hC_NoMap => k_is); (case hnG => k_is)
    (case htG => k_is); (case eTop => k_is); (case hTop => k_is); (case tTop => k_is); (case ha_NoMap => k_is); (case hm_NoMap => k_is); (case s4_NoMap => k_is); (case kv_NoMap => kit_is)
    (case z_isinstance => k_is); (case z_int => k_is); (case z_bool => k_is); (case z_tuple => k_is); (case z_len => k_is); (case z_all => k_is); (case z_sorted => k_is); (case z_abs => k_is)
    (case z_divmod => k_is); (case z_max => k_is); (case z_min => k_is); (case z_range => k_is); (case z_repr => k_is); (case z_list => k_is); (case m_gcd => k_is); (case ga_NOUGHT_q => k_is)
    (case gl_NOUGHT_q => k_is)

