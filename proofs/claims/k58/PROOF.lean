import PyProof.Rows.All
import Wide.All
import OpenK.AllK
import Wide.FinOn
import HandS.ForMost
import HandS.Wide
import HandS.WideBits
import HandS.Gcd
import HandS.Deep
import HandS.TupAny
import HandS.IsInst
import HandS.Style
import HandS.Defaults
import HandS.Exc
import HandS.ExcField
import KE.KExcIs
import KE.KMathG
import Flt.RightSqrt
import HandS.Zip
import HandS.TupLe
import KE.SortKeyHeap
import HandS.SortKw
import HandS.TupMul
import HandS.NoneIn
import KE.GoesEnum
import PyProof.TupleCall
import KE.OsGo
import HandS.ForSpec
import HandS.ExcIs
import PyProof.ReprRoads
import HandS.TryOnly
import HandS.Strs
import KE.SortUse
import HandS.More
import PySem.Challenge.RW_drawarms_k58_whole_rounds_that_exchange
set_option Elab.async false
set_option linter.all false
set_option maxRecDepth 100000
namespace Z
open PySem L2
abbrev Sg := L2.St
mutual
inductive Dz (K : PySem.W.Frag) (H : Hp) : V → PyData → Prop
  | non : Dz K H .non .none
  | bl (b : Bool) : Dz K H (.bl b) (.bool b)
  | int (i : Int) : Dz K H (.int i) (.int i)
  | str (x : Str) : Dz K H (.str x) (.str x)
  | lst {a : Addr} {xs : List V} {ds : List PyData} : SqL K H a xs → DzAll K H xs ds → Dz K H (.ref a) (.list ds)
  | tup {a : Addr} {xs : List V} {ds : List PyData} : SqT K H a xs → DzAll K H xs ds → Dz K H (.ref a) (.tuple ds)
  /-- an empty dict -/
  | dct0 {a : Addr} : H a = some (.dK []) → Dz K H (.ref a) (.dict [])
  | dct1 {a : Addr} {x : Str} {v : V} {g : PyData} : H a = some (.dK [(.inr x, v)]) → Dz K H v g → Dz K H (.ref a) (.dict [(.str x, g)])
  /-- a caught exception, with and without a field -/
  | excN (a : Addr) : Dz K H (.ref a) (.dict [(.int (a : Nat), .none)])
  | exc {a dd : Addr} {fl : Str} {v : V} {g : PyData} : H dd = some (.xd [(fl, v)]) → Dz K H v g → Dz K H (.ref a) (.dict [(.int (a : Nat), .int (dd : Nat)), (.str fl, g)])
inductive DzAll (K : PySem.W.Frag) (H : Hp) : List V → List PyData → Prop
  | nil : DzAll K H [] []
  | cons {v : V} {vs : List V} {d : PyData} {ds : List PyData} : Dz K H v d → DzAll K H vs ds → DzAll K H (v :: vs) (d :: ds)
end
theorem sqT_up {K : PySem.W.Frag} {H H' : Hp} {a : Addr} {xs : List V} (h : ∀ b o, H b = some o → H' b = some o) (q : SqT K H a xs) : SqT K H' a xs := by
  rcases q with (q | ⟨o, q⟩) | q
  · exact .inl (.inl (h _ _ q))
  · exact .inl (.inr ⟨o, h _ _ q⟩)
  · exact .inr q
theorem sqL_up {K : PySem.W.Frag} {H H' : Hp} {a : Addr} {xs : List V} (h : ∀ b o, H b = some o → H' b = some o) (q : SqL K H a xs) : SqL K H' a xs := by
  rcases q with (q | ⟨o, q⟩) | q
  · exact .inl (.inl (h _ _ q))
  · exact .inl (.inr ⟨o, h _ _ q⟩)
  · exact .inr q
theorem sq_lst {K : PySem.W.Frag} {H : Hp} {a : Addr} {xs : List V} (h : H a = some (.lst xs)) : SqL K H a xs := .inl (.inl h)
mutual
theorem Dz.up {K : PySem.W.Frag} {H H' : Hp} (h : ∀ b o, H b = some o → H' b = some o) : ∀ {v : V} {d : PyData}, Dz K H v d → Dz K H' v d
  | _, _, .non => .non
  | _, _, .bl b => .bl b
  | _, _, .int i => .int i
  | _, _, .str x => .str x
  | _, _, .lst q r => .lst (sqL_up h q) (DzAll.up h r)
  | _, _, .tup q r => .tup (sqT_up h q) (DzAll.up h r)
  | _, _, .dct0 q => .dct0 (h _ _ q)
  | _, _, .dct1 q r => .dct1 (h _ _ q) (Dz.up h r)
  | _, _, .excN a => .excN a
  | _, _, .exc q r => .exc (h _ _ q) (Dz.up h r)
theorem DzAll.up {K : PySem.W.Frag} {H H' : Hp} (h : ∀ b o, H b = some o → H' b = some o) : ∀ {vs : List V} {ds : List PyData}, DzAll K H vs ds → DzAll K H' vs ds
  | _, _, .nil => .nil
  | _, _, .cons a b => .cons (Dz.up h a) (DzAll.up h b)
end
mutual
theorem Dz.dp {K : PySem.W.Frag} {H : Hp} : ∀ {v : V} {d : PyData}, Dz K H v d → d.hasDict = false → Dp K H v d
  | _, _, .non, _ => .non
  | _, _, .bl b, _ => .bl b
  | _, _, .int i, _ => .int i
  | _, _, .str x, _ => .str x
  | _, _, .lst q r, n => .lst q (DzAll.dp r (by simpa only [PyData.hasDict] using n))
  | _, _, .tup q r, n => .tup q (DzAll.dp r (by simpa only [PyData.hasDict] using n))
  | _, _, .dct0 _, n => by simp [PyData.hasDict] at n
  | _, _, .dct1 _ _, n => by simp [PyData.hasDict] at n
  | _, _, .excN _, n => by simp [PyData.hasDict] at n
  | _, _, .exc _ _, n => by simp [PyData.hasDict] at n
theorem DzAll.dp {K : PySem.W.Frag} {H : Hp} : ∀ {vs : List V} {ds : List PyData}, DzAll K H vs ds → PyData.hasDictAll ds = false → DpAll K H vs ds
  | _, _, .nil, _ => .nil
  | _, _, .cons a b, n => by
    simp only [PyData.hasDictAll, Bool.or_eq_false_iff] at n
    exact .cons (Dz.dp a n.1) (DzAll.dp b n.2)
end
theorem DzAll.len {K : PySem.W.Frag} {H : Hp} : ∀ {vs : List V} {ds : List PyData}, DzAll K H vs ds → vs.length = ds.length
  | _, _, .nil => rfl
  | _, _, .cons _ b => by rw [List.length_cons, List.length_cons, DzAll.len b]
theorem DzAll.app {K : PySem.W.Frag} {H : Hp} : ∀ {vs us : List V} {ds es : List PyData}, DzAll K H vs ds → DzAll K H us es → DzAll K H (vs ++ us) (ds ++ es)
  | _, _, _, _, .nil, q => q
  | _, _, _, _, .cons a b, q => .cons a (DzAll.app b q)
theorem DzAll.get {K : PySem.W.Frag} {H : Hp} : ∀ {vs : List V} {ds : List PyData} (i : Nat) {d : PyData}, DzAll K H vs ds → ds[i]? = some d → ∃ v, vs[i]? = some v ∧ Dz K H v d
  | _, _, _, _, .nil, e => by simp at e
  | _, _, 0, _, .cons a b, e => by simp at e; subst e; exact ⟨_, rfl, a⟩
  | _, _, i + 1, _, .cons a b, e => by simpa using DzAll.get i b (by simpa using e)
theorem DzAll.drop {K : PySem.W.Frag} {H : Hp} : ∀ {vs : List V} {ds : List PyData} (n : Nat), DzAll K H vs ds → DzAll K H (vs.drop n) (ds.drop n)
  | _, _, 0, h => h
  | _, _, _ + 1, .nil => .nil
  | _, _, n + 1, .cons _ b => DzAll.drop n b
theorem DzAll.take {K : PySem.W.Frag} {H : Hp} : ∀ {vs : List V} {ds : List PyData} (n : Nat), DzAll K H vs ds → DzAll K H (vs.take n) (ds.take n)
  | _, _, 0, _ => .nil
  | _, _, _ + 1, .nil => .nil
  | _, _, n + 1, .cons a b => .cons a (DzAll.take n b)
theorem DzAll.set {K : PySem.W.Frag} {H : Hp} {v : V} {d : PyData} (q : Dz K H v d) : ∀ {vs : List V} {ds : List PyData} (n : Nat), DzAll K H vs ds → DzAll K H (vs.set n v) (ds.set n d)
  | _, _, _, .nil => .nil
  | _, _, 0, .cons _ b => .cons q b
  | _, _, n + 1, .cons a b => .cons a (DzAll.set q n b)
abbrev Mz := Addr → Nat × Option HO
def msk (M : Mz) (H : Hp) : Hp := fun b => if (M b).1 = 0 then H b else none
theorem msk_ok {M : Mz} {H : Hp} {b : Addr} {o : HO} (h : msk M H b = some o) : H b = some o ∧ (M b).1 = 0 := by
  unfold msk at h
  by_cases q : (M b).1 = 0
  · rw [if_pos q] at h; exact ⟨h, q⟩
  · rw [if_neg q] at h; cases h
theorem msk_of {M : Mz} {H : Hp} {b : Addr} {o : HO} (h : H b = some o) (q : (M b).1 = 0) : msk M H b = some o := by
  unfold msk; rw [if_pos q]; exact h
theorem msk_sub {M : Mz} {H : Hp} : ∀ b o, msk M H b = some o → H b = some o := fun _ _ h => (msk_ok h).1
theorem msk_same {M : Mz} {H H' : Hp} (h : ∀ b o, H b = some o → (M b).1 = 0 → H' b = some o) : ∀ b o, msk M H b = some o → msk M H' b = some o := fun b o e =>
  let ⟨a, q⟩ := msk_ok e
  msk_of (h b o a q) q
theorem msk_less {M N : Mz} {H : Hp} (h : ∀ a, (N a).1 ≠ 0 → (M a).1 ≠ 0) : ∀ b o, msk M H b = some o → msk N H b = some o := fun b o e => by
  obtain ⟨a, q⟩ := msk_ok e
  refine msk_of a ?_
  by_cases z : (N b).1 = 0
  · exact z
  · exact (h b z q).elim
inductive Sl where
  | val (d : PyData)
  | own (ds : List PyData)
abbrev Ev := List (Option Sl)
/-- what stays the same through a def: the heap at its entry, the lists handed in to be changed, what the caller masks -/
structure Cf where
  H0 : Hp
  T : Addr → Bool
  Mk : Mz
structure Ok (K : PySem.W.Frag) (c : Cf) (M : Mz) (σ : Sg) (H : Hp) (ev : Ev) (pd : List (V × PyData)) : Prop where
  len : σ.length = ev.length
  val : ∀ (i : Nat) (d : PyData), ev[i]? = some (some (.val d)) → ∃ v, σ[i]? = some (some v) ∧ Dz K (msk M H) v d
  own : ∀ (i : Nat) (ds : List PyData), ev[i]? = some (some (.own ds)) → ∃ a vs, σ[i]? = some (some (.ref a)) ∧ (M a).1 = 1 ∧ (c.H0 a = none ∨ c.T a = true) ∧ H a = some (.lst vs) ∧ DzAll K (msk M H) vs ds
  inj : ∀ (i j : Nat) (a : Addr) (ds es : List PyData), ev[i]? = some (some (.own ds)) → ev[j]? = some (some (.own es)) → σ[i]? = some (some (.ref a)) → σ[j]? = some (some (.ref a)) → i = j
  pend : ∀ p ∈ pd, Dz K (msk M H) p.1 p.2
  frame : ∀ b o, c.H0 b = some o → c.T b = false → H b = some o
  sub : ∀ a, (c.Mk a).1 ≠ 0 → (M a).1 ≠ 0
  dom : ∀ a, (M a).1 ≠ 0 → ∃ o, H a = some o
  mkd : ∀ a, (c.Mk a).1 ≠ 0 → ∃ o, c.H0 a = some o
  lk : ∀ a o, (M a).2 = some o → H a = some o ∧ ((M a).1 = 2 ∨ (M a).1 = 0)
  tank : ∀ a, c.T a = true → (c.Mk a).1 ≠ 0 ∧ σ[0]? = some (some (.ref a)) ∧ ∃ ds, ev[0]? = some (some (.own ds))
section
variable {K : PySem.W.Frag} {c : Cf} {M : Mz} {σ : Sg} {H H' : Hp} {ev : Ev} {pd : List (V × PyData)}
theorem Ok.push (k : Ok K c M σ H ev pd) {v : V} {d : PyData} (h : Dz K (msk M H) v d) : Ok K c M σ H ev ((v, d) :: pd) := by
  refine ⟨k.len, k.val, k.own, k.inj, fun p hp => ?_, k.frame, k.sub, k.dom, k.mkd, k.lk, k.tank⟩
  rcases List.mem_cons.mp hp with e | hp
  · rw [e]; exact h
  · exact k.pend p hp
theorem Ok.pop (k : Ok K c M σ H ev pd) {qd : List (V × PyData)} (h : ∀ p ∈ qd, p ∈ pd) : Ok K c M σ H ev qd := { k with pend := fun p hp => k.pend p (h p hp) }
theorem Ok.pop1 {p : V × PyData} (k : Ok K c M σ H ev (p :: pd)) : Ok K c M σ H ev pd := k.pop fun _ h => List.mem_cons_of_mem _ h
theorem Ok.top {v : V} {d : PyData} (k : Ok K c M σ H ev ((v, d) :: pd)) : Dz K (msk M H) v d := k.pend (v, d) (List.mem_cons_self ..)
/-- the heap grows: all that was tracked stays -/
theorem Ok.grow (k : Ok K c M σ H ev pd) (h : ∀ b o, H b = some o → H' b = some o) : Ok K c M σ H' ev pd where
  len := k.len
  val := fun i d e => let ⟨v, a, b⟩ := k.val i d e; ⟨v, a, b.up (msk_same fun b o e _ => h b o e)⟩
  own := fun i ds e => let ⟨a, vs, e1, e2, e3, e4, e5⟩ := k.own i ds e; ⟨a, vs, e1, e2, e3, h _ _ e4, e5.up (msk_same fun b o e _ => h b o e)⟩
  inj := k.inj
  pend := fun p hp => (k.pend p hp).up (msk_same fun b o e _ => h b o e)
  frame := fun b o e t => h _ _ (k.frame b o e t)
  sub := k.sub
  dom := fun a e => let ⟨o, q⟩ := k.dom a e; ⟨o, h _ _ q⟩
  mkd := k.mkd
  lk := fun a o e => let ⟨q1, q2⟩ := k.lk a o e; ⟨h _ _ q1, q2⟩
  tank := k.tank
theorem Ok.free (k : Ok K c M σ H ev pd) {p : Addr} (h : H p = none) : (M p).1 = 0 := by
  by_cases e : (M p).1 = 0
  · exact e
  · obtain ⟨o, q⟩ := k.dom p e; rw [h] at q; cases q
theorem up_new {H : Hp} {p : Addr} {o : HO} (h : H p = none) : ∀ b u, H b = some u → upd H p o b = some u := fun b u e => by
  rw [upd_ne (ne_of_none e h)]; exact e
/-- a new object -/
theorem Ok.new (k : Ok K c M σ H ev pd) {p : Addr} {o : HO} (h : H p = none) : Ok K c M σ (upd H p o) ev pd := k.grow (up_new h)
theorem Ok.newTup (k : Ok K c M σ H ev pd) {p : Addr} {vs : List V} {ds : List PyData} (h : H p = none) (q : DzAll K (msk M H) vs ds) : Ok K c M σ (upd H p (.tup vs)) ev ((.ref p, .tuple ds) :: pd) :=
  (k.new h).push (.tup (.inl (.inl (msk_of upd_same (k.free h)))) (q.up (msk_same fun b o e _ => up_new h b o e)))
theorem Ok.newLst (k : Ok K c M σ H ev pd) {p : Addr} {vs : List V} {ds : List PyData} (h : H p = none) (q : DzAll K (msk M H) vs ds) : Ok K c M σ (upd H p (.lst vs)) ev ((.ref p, .list ds) :: pd) :=
  (k.new h).push (.lst (sq_lst (msk_of upd_same (k.free h))) (q.up (msk_same fun b o e _ => up_new h b o e)))
theorem get_set {α : Type} {l : List α} {i j : Nat} {x y : α} (h : (l.set i x)[j]? = some y) : (i = j ∧ x = y ∧ i < l.length) ∨ (i ≠ j ∧ l[j]? = some y) := by
  by_cases e : i = j
  · subst e
    by_cases q : i < l.length
    · rw [List.getElem?_set_self q] at h
      exact .inl ⟨rfl, Option.some.inj h, q⟩
    · rw [List.getElem?_eq_none (by rw [List.length_set]; omega)] at h
      cases h
  · rw [List.getElem?_set_ne e] at h
    exact .inr ⟨e, h⟩
/-- no own list stands in this slot -/
def notOwn (ev : Ev) (i : Nat) : Prop := match ev[i]? with
  | some (some (.own _)) => False
  | some _ => True
  | none => False
theorem notOwn.lt {ev : Ev} {i : Nat} (h : notOwn ev i) : i < ev.length := by
  unfold notOwn at h
  by_cases q : i < ev.length
  · exact q
  · rw [List.getElem?_eq_none (by omega)] at h; exact h.elim
theorem notOwn.no {ev : Ev} {i : Nat} (h : notOwn ev i) {ds : List PyData} (e : ev[i]? = some (some (.own ds))) : False := by
  unfold notOwn at h; rw [e] at h; exact h
theorem Ok.set (k : Ok K c M σ H ev pd) {i : Nat} {v : V} {d : PyData} (h : notOwn ev i) (q : Dz K (msk M H) v d) : Ok K c M (σ.set i (some v)) H (ev.set i (some (.val d))) pd where
  len := by rw [List.length_set, List.length_set]; exact k.len
  val := fun j e z => by
    rcases get_set z with ⟨rfl, z1, z2⟩ | ⟨n, z⟩
    · cases z1
      exact ⟨v, List.getElem?_set_self (by rw [k.len]; exact h.lt), q⟩
    · obtain ⟨u, a, b⟩ := k.val j e z
      exact ⟨u, by rw [List.getElem?_set_ne n]; exact a, b⟩
  own := fun j ds z => by
    rcases get_set z with ⟨rfl, z1, z2⟩ | ⟨n, z⟩
    · cases z1
    · obtain ⟨a, vs, e1, e2⟩ := k.own j ds z
      exact ⟨a, vs, by rw [List.getElem?_set_ne n]; exact e1, e2⟩
  inj := fun j l a ds es z1 z2 z3 z4 => by
    rcases get_set z1 with ⟨rfl, y, _⟩ | ⟨n1, z1⟩
    · cases y
    rcases get_set z2 with ⟨rfl, y, _⟩ | ⟨n2, z2⟩
    · cases y
    rw [List.getElem?_set_ne n1] at z3
    rw [List.getElem?_set_ne n2] at z4
    exact k.inj j l a ds es z1 z2 z3 z4
  pend := k.pend
  frame := k.frame
  sub := k.sub
  dom := k.dom
  mkd := k.mkd
  lk := k.lk
  tank := fun a t => by
    obtain ⟨m, e1, ds, e2⟩ := k.tank a t
    have n : i ≠ 0 := fun z => h.no (by rw [z]; exact e2)
    exact ⟨m, by rw [List.getElem?_set_ne n]; exact e1, ds, by rw [List.getElem?_set_ne n]; exact e2⟩
/-- an own list's content is changed in place -/
theorem Ok.write (k : Ok K c M σ H ev pd) {i : Nat} {a : Addr} {ds es : List PyData} {us : List V} (h : ev[i]? = some (some (.own ds))) (ha : σ[i]? = some (some (.ref a)))
    (ext : ∀ b o, H b = some o → b ≠ a → H' b = some o) (hu : H' a = some (.lst us)) (q : DzAll K (msk M H') us es) : Ok K c M σ H' (ev.set i (some (.own es))) pd := by
  obtain ⟨a', vs, e1, e2, e3, e4, e5⟩ := k.own i ds h
  obtain rfl : a' = a := by rw [ha] at e1; cases e1; rfl
  have hm : ∀ b o, msk M H b = some o → msk M H' b = some o := msk_same fun b o e m => ext b o e fun z => by rw [z, e2] at m; cases m
  have hi : i < ev.length := by
    by_cases z : i < ev.length
    · exact z
    · rw [List.getElem?_eq_none (by omega)] at h; cases h
  refine ⟨by rw [List.length_set]; exact k.len, fun j d z => ?_, fun j d z => ?_, fun j l b ds1 ds2 z1 z2 z3 z4 => ?_, fun p hp => (k.pend p hp).up hm, fun b o e t => ?_, k.sub, fun b m => ?_, k.mkd, fun b o e => ?_, fun b t => ?_⟩
  · rcases get_set z with ⟨rfl, z1, _⟩ | ⟨n, z⟩
    · cases z1
    · obtain ⟨v, y1, y2⟩ := k.val j d z
      exact ⟨v, y1, y2.up hm⟩
  · rcases get_set z with ⟨rfl, z1, _⟩ | ⟨n, z⟩
    · cases z1
      exact ⟨a', us, ha, e2, e3, hu, q⟩
    · obtain ⟨b, ws, y1, y2, y3, y4, y5⟩ := k.own j d z
      exact ⟨b, ws, y1, y2, y3, ext b _ y4 fun y => n (k.inj i j a' ds d h z ha (by rw [y1, y])), y5.up hm⟩
  · have o1 : ∃ w, ev[j]? = some (some (.own w)) := by
      rcases get_set z1 with ⟨rfl, _, _⟩ | ⟨_, z⟩
      · exact ⟨_, h⟩
      · exact ⟨_, z⟩
    have o2 : ∃ w, ev[l]? = some (some (.own w)) := by
      rcases get_set z2 with ⟨rfl, _, _⟩ | ⟨_, z⟩
      · exact ⟨_, h⟩
      · exact ⟨_, z⟩
    obtain ⟨w1, o1⟩ := o1
    obtain ⟨w2, o2⟩ := o2
    exact k.inj j l b w1 w2 o1 o2 z3 z4
  · refine ext b o (k.frame b o e t) fun z => ?_
    rcases e3 with y | y
    · rw [z, y] at e; cases e
    · rw [z, y] at t; cases t
  · obtain ⟨o, y⟩ := k.dom b m
    by_cases z : b = a'
    · rw [z]; exact ⟨_, hu⟩
    · exact ⟨o, ext b o y z⟩
  · obtain ⟨q1, q2⟩ := k.lk b o e
    exact ⟨ext b o q1 fun z => (by rw [z, e2] at q2; rcases q2 with q2 | q2 <;> cases q2), q2⟩
  · obtain ⟨m, y1, ws, y2⟩ := k.tank b t
    refine ⟨m, y1, ?_⟩
    by_cases z : i = 0
    · subst z; exact ⟨es, List.getElem?_set_self hi⟩
    · exact ⟨ws, by rw [List.getElem?_set_ne z]; exact y2⟩
def stM (M : Mz) (D : Addr) (n : Nat × Option HO) : Mz := fun b => if b = D then n else M b
theorem stM_at {M : Mz} {D : Addr} {n : Nat × Option HO} : stM M D n D = n := by unfold stM; rw [if_pos rfl]
theorem stM_off {M : Mz} {D b : Addr} {n : Nat × Option HO} (h : b ≠ D) : stM M D n b = M b := by unfold stM; rw [if_neg h]
theorem stM_stM {M : Mz} {D : Addr} {n m : Nat × Option HO} : stM (stM M D n) D m = stM M D m := by
  funext b
  by_cases e : b = D
  · rw [e, stM_at, stM_at]
  · rw [stM_off e, stM_off e, stM_off e]
theorem stM_id {M : Mz} {D : Addr} {n : Nat × Option HO} (h : M D = n) : stM M D n = M := by
  funext b
  by_cases e : b = D
  · rw [e, stM_at, h]
  · rw [stM_off e]
theorem Ok.h0 (k : Ok K c M σ H ev pd) {D : Addr} (h : H D = none) : c.H0 D = none ∧ c.T D = false := by
  have t : c.T D = false := by
    cases e : c.T D with
    | false => rfl
    | true =>
      obtain ⟨m, _⟩ := k.tank D e
      obtain ⟨o, q⟩ := k.dom D (k.sub D m)
      rw [h] at q; cases q
  refine ⟨?_, t⟩
  cases e : c.H0 D with
  | none => rfl
  | some o => have q := k.frame D o e t; rw [h] at q; cases q
/-- nothing is known of a free address -/
theorem Ok.plain (k : Ok K c M σ H ev pd) {D : Addr} (h : H D = none) : M D = (0, none) := by
  have a := k.free h
  have b : (M D).2 = none := by
    cases e : (M D).2 with
    | none => rfl
    | some o => have q := (k.lk D o e).1; rw [h] at q; cases q
  exact Prod.ext a b
/-- a new object is hidden: as an own list, or with a content that stays -/
theorem Ok.lock (k : Ok K c M σ H ev pd) {D : Addr} {o : HO} {n : Nat × Option HO} (h : H D = none) (hn : ∀ u, n.2 = some u → o = u ∧ n.1 = 2) : Ok K c (stM M D n) σ (upd H D o) ev pd := by
  have hm : ∀ b u, msk M H b = some u → msk (stM M D n) (upd H D o) b = some u := fun b u e => by
    obtain ⟨a, q⟩ := msk_ok e
    have ne : b ≠ D := ne_of_none a h
    exact msk_of (by rw [upd_ne ne]; exact a) (by rw [stM_off ne]; exact q)
  refine ⟨k.len, fun i d e => ?_, fun i ds e => ?_, k.inj, fun p hp => (k.pend p hp).up hm, fun b u e t => ?_, fun a e => ?_, fun a e => ?_, k.mkd, fun b u e => ?_, k.tank⟩
  · obtain ⟨v, a, b⟩ := k.val i d e
    exact ⟨v, a, b.up hm⟩
  · obtain ⟨a, vs, e1, e2, e3, e4, e5⟩ := k.own i ds e
    have ne : a ≠ D := ne_of_none e4 h
    exact ⟨a, vs, e1, by rw [stM_off ne]; exact e2, e3, by rw [upd_ne ne]; exact e4, e5.up hm⟩
  · have q := k.frame b u e t
    rw [upd_ne (ne_of_none q h)]; exact q
  · obtain ⟨u, q⟩ := k.dom a (k.sub a e)
    rw [stM_off (ne_of_none q h)]; exact k.sub a e
  · by_cases z : a = D
    · rw [z]; exact ⟨_, upd_same⟩
    · rw [stM_off z] at e
      obtain ⟨u, q⟩ := k.dom a e
      exact ⟨u, by rw [upd_ne z]; exact q⟩
  · by_cases z : b = D
    · subst z
      rw [stM_at] at e ⊢
      obtain ⟨q1, q2⟩ := hn u e
      exact ⟨by rw [upd_same, q1], .inl q2⟩
    · rw [stM_off z] at e ⊢
      obtain ⟨q1, q2⟩ := k.lk b u e
      exact ⟨by rw [upd_ne z]; exact q1, q2⟩
/-- the content of a hidden object is another one -/
theorem Ok.more (k : Ok K c M σ H ev pd) {D : Addr} {o : HO} (h : (M D).1 = 2) (h0 : c.H0 D = none) : Ok K c (stM M D (2, some o)) σ (upd H D o) ev pd := by
  have hm : ∀ b u, msk M H b = some u → msk (stM M D (2, some o)) (upd H D o) b = some u := fun b u e => by
    obtain ⟨a, q⟩ := msk_ok e
    have ne : b ≠ D := fun z => by rw [z, h] at q; cases q
    exact msk_of (by rw [upd_ne ne]; exact a) (by rw [stM_off ne]; exact q)
  refine ⟨k.len, fun i d e => ?_, fun i ds e => ?_, k.inj, fun p hp => (k.pend p hp).up hm, fun b u e t => ?_, fun a e => ?_, fun a e => ?_, k.mkd, fun b u e => ?_, k.tank⟩
  · obtain ⟨v, a, b⟩ := k.val i d e
    exact ⟨v, a, b.up hm⟩
  · obtain ⟨a, vs, e1, e2, e3, e4, e5⟩ := k.own i ds e
    have ne : a ≠ D := fun z => by rw [z, h] at e2; cases e2
    exact ⟨a, vs, e1, by rw [stM_off ne]; exact e2, e3, by rw [upd_ne ne]; exact e4, e5.up hm⟩
  · have ne : b ≠ D := fun z => by rw [z, h0] at e; cases e
    rw [upd_ne ne]; exact k.frame b u e t
  · have ne : a ≠ D := fun z => by obtain ⟨u, q⟩ := k.mkd a e; rw [z, h0] at q; cases q
    rw [stM_off ne]; exact k.sub a e
  · by_cases z : a = D
    · rw [z]; exact ⟨_, upd_same⟩
    · rw [stM_off z] at e
      obtain ⟨u, q⟩ := k.dom a e
      exact ⟨u, by rw [upd_ne z]; exact q⟩
  · by_cases z : b = D
    · subst z
      rw [stM_at] at e ⊢
      cases e
      exact ⟨upd_same, .inl rfl⟩
    · rw [stM_off z] at e ⊢
      obtain ⟨q1, q2⟩ := k.lk b u e
      exact ⟨by rw [upd_ne z]; exact q1, q2⟩
/-- it is let go: from now on it is data -/
theorem Ok.unlock (k : Ok K c M σ H ev pd) {D : Addr} {vs : List V} {ds : List PyData} (h : (M D).1 = 2) (h0 : c.H0 D = none) (hl : H D = some (.lst vs)) (r : DzAll K (msk M H) vs ds) : Ok K c (stM M D (0, none)) σ H ev ((.ref D, .list ds) :: pd) := by
  have hm : ∀ b u, msk M H b = some u → msk (stM M D (0, none)) H b = some u := msk_less fun a e z => e (by
    by_cases y : a = D
    · rw [y, stM_at]
    · rw [stM_off y]; exact z)
  have k2 : Ok K c (stM M D (0, none)) σ H ev pd := by
    refine ⟨k.len, fun i d e => ?_, fun i ds e => ?_, k.inj, fun p hp => (k.pend p hp).up hm, k.frame, fun a e => ?_, fun a e => ?_, k.mkd, fun b u e => ?_, k.tank⟩
    · obtain ⟨v, a, b⟩ := k.val i d e
      exact ⟨v, a, b.up hm⟩
    · obtain ⟨a, vs, e1, e2, e3, e4, e5⟩ := k.own i ds e
      have ne : a ≠ D := fun z => by rw [z, h] at e2; cases e2
      exact ⟨a, vs, e1, by rw [stM_off ne]; exact e2, e3, e4, e5.up hm⟩
    · have ne : a ≠ D := fun z => by obtain ⟨o, q⟩ := k.mkd a e; rw [z, h0] at q; cases q
      rw [stM_off ne]; exact k.sub a e
    · by_cases z : a = D
      · rw [z]; exact ⟨_, hl⟩
      · rw [stM_off z] at e; exact k.dom a e
    · by_cases z : b = D
      · subst z
        rw [stM_at] at e
        cases e
      · rw [stM_off z] at e ⊢
        exact k.lk b u e
  exact k2.push (.lst (sq_lst (msk_of hl (by rw [stM_at]))) (r.up hm))
end
end Z
set_option Elab.async false
set_option linter.all false
set_option maxRecDepth 100000
namespace Z
open PySem L2
abbrev Wx := Ev → (PyData → Ev → Prop) → Prop
abbrev Wa := Ev → (List PyData → Ev → Prop) → Prop
abbrev Wt := Ev → (Bool → Ev → Prop) → Prop
def tE (K : PySem.W.Frag) (c : Cf) (w : Wx) : TE := fun σ H Q => ∃ M ev pd R, Ok K c M σ H ev pd ∧ w ev R ∧ ∀ d ev', R d ev' → ∀ v H', Ok K c M σ H' ev' ((v, d) :: pd) → Q v H'
def tA (K : PySem.W.Frag) (c : Cf) (w : Wa) : TA := fun σ H Q => ∃ M ev pd R, Ok K c M σ H ev pd ∧ w ev R ∧ ∀ ds ev', R ds ev' → ∀ vs H', Ok K c M σ H' ev' pd → DzAll K (msk M H') vs ds → Q vs H'
def tT (K : PySem.W.Frag) (c : Cf) (w : Wt) : TT := fun σ H Q => ∃ M ev pd R, Ok K c M σ H ev pd ∧ w ev R ∧ ∀ b ev', R b ev' → ∀ H', Ok K c M σ H' ev' pd → Q b H'
abbrev DE (X : Cx) (c : Cf) (e : Expr) (w : Wx) : Prop := PE X e (tE X.K c w)
abbrev DA (X : Cx) (c : Cf) (es : List Expr) (w : Wa) : Prop := PA X es (tA X.K c w)
abbrev DT (X : Cx) (c : Cf) (e : Expr) (w : Wt) : Prop := PT X e (tT X.K c w)
abbrev DW (X : Cx) (c : Cf) (e : Expr) (w : Wt) : Prop := PW X e (tT X.K c w)
theorem peM {X : Cx} {e : Expr} {t t' : TE} (p : PE X e t) (h : ∀ σ H Q, t' σ H Q → t σ H Q) : PE X e t' := ⟨fun pins s σ H Q I q => p.run pins s σ H Q I (h σ H Q q)⟩
theorem paM {X : Cx} {e : List Expr} {t t' : TA} (p : PA X e t) (h : ∀ σ H Q, t' σ H Q → t σ H Q) : PA X e t' := ⟨fun pos pins s σ H Q I q => p.run pos pins s σ H Q I (h σ H Q q)⟩
theorem ptM {X : Cx} {e : Expr} {t t' : TT} (p : PT X e t) (h : ∀ σ H Q, t' σ H Q → t σ H Q) : PT X e t' := ⟨fun pins s σ H Q I q => p.run pins s σ H Q I (h σ H Q q)⟩
theorem pwM {X : Cx} {e : Expr} {t t' : TT} (p : PW X e t) (h : ∀ σ H Q, t' σ H Q → t σ H Q) : PW X e t' := ⟨fun wh pins s σ H Q I q => p.run wh pins s σ H Q I (h σ H Q q)⟩
theorem pkM {X : Cx} {e : List Keyword} {t t' : TA} (p : PK X e t) (h : ∀ σ H Q, t' σ H Q → t σ H Q) : PK X e t' := ⟨fun pos pins s σ H Q I q => p.run pos pins s σ H Q I (h σ H Q q)⟩
theorem psM {X : Cx} {e : Stmt} {t t' : TS} (p : PS X e t) (h : ∀ D σ H, t' D σ H → t D σ H) : PS X e t' := ⟨fun pins s σ H D I q => p.run pins s σ H D I (h D σ H q)⟩
theorem pssM {X : Cx} {e : List Stmt} {t t' : TS} (p : PSs X e t) (h : ∀ D σ H, t' D σ H → t D σ H) : PSs X e t' := ⟨fun pins s σ H D I q => p.run pins s σ H D I (h D σ H q)⟩
def dVar (i : Nat) : Wx := fun ev Q => match ev[i]? with
  | some (some (.val d)) => Q d ev
  | _ => False
def dLit (d : PyData) : Wx := fun ev Q => Q d ev
section
variable {X : Cx} {c : Cf}
theorem de_pv {i : Nat} {e : Expr} (h : PE X e (tVar i)) : DE X c e (dVar i) := peM h fun σ H Q ⟨M, ev, pd, R, k, w, q⟩ => by
  unfold dVar at w
  split at w
  · rename_i d e
    obtain ⟨v, a, b⟩ := k.val i d e
    exact ⟨v, a, q d ev w v H (k.push b)⟩
  · exact w.elim
theorem de_lit {v : V} {d : PyData} {e : Expr} (h : PE X e (tC v)) (hd : ∀ H, Dz X.K H v d) : DE X c e (dLit d) := peM h fun σ H Q ⟨M, ev, pd, R, k, w, q⟩ => q d ev w v H (k.push (hd _))
theorem de_int {i j pos} : DE X c (.Constant (.int i) j pos) (dLit (.int i)) := de_lit pe_int fun _ => .int i
theorem de_bl {b j pos} : DE X c (.Constant (.bool b) j pos) (dLit (.bool b)) := de_lit pe_bl fun _ => .bl b
theorem de_non {j pos} : DE X c (.Constant .none j pos) (dLit .none) := de_lit pe_non fun _ => .non
theorem de_str {x j pos} : DE X c (.Constant (.str x) j pos) (dLit (.str x)) := de_lit pe_str fun _ => .str x
def daN : Wa := fun ev Q => Q [] ev
def daC (w : Wx) (u : Wa) : Wa := fun ev Q => w ev fun d e1 => u e1 fun ds e2 => Q (d :: ds) e2
theorem da_nil : DA X c [] daN := paM pa_nil fun σ H Q ⟨M, ev, pd, R, k, w, q⟩ => q [] ev w [] H k .nil
theorem cons_rd {K : PySem.W.Frag} {w : Wx} {u : Wa} {σ : Sg} {H : Hp} {Q : List V → Hp → Prop} (h : tA K c (daC w u) σ H Q) : tCons (tE K c w) (tA K c u) σ H Q := by
  obtain ⟨M, ev, pd, R, k, w, q⟩ := h
  exact ⟨M, ev, pd, _, k, w, fun d e1 h1 v H1 k1 => ⟨M, e1, _, _, k1, h1, fun ds e2 h2 vs H2 k2 r => q (d :: ds) e2 h2 (v :: vs) H2 k2.pop1 (.cons k2.top r)⟩⟩
theorem da_cons {e : Expr} {es : List Expr} {w : Wx} {u : Wa} (he : DE X c e w) (hr : DA X c es u) (hs : starEach (e :: es) X.env = (false, eval e X.env) :: starEach es X.env := by rfl) : DA X c (e :: es) (daC w u) :=
  paM (pa_cons he hr hs) fun _ _ _ h => cons_rd h
abbrev DK (X : Cx) (c : Cf) (es : List Keyword) (w : Wa) : Prop := PK X es (tA X.K c w)
theorem dk_nil : DK X c [] daN := pkM pk_nil fun σ H Q ⟨M, ev, pd, R, k, w, q⟩ => q [] ev w [] H k .nil
theorem dk_cons {nm : Option Str} {e : Expr} {kpos : Pos} {es : List Keyword} {w : Wx} {u : Wa} (he : DE X c e w) (hr : DK X c es u) : DK X c (⟨nm, e, kpos⟩ :: es) (daC w u) :=
  pkM (pk_cons he hr) fun _ _ _ h => cons_rd h
def dTup (u : Wa) : Wx := fun ev Q => u ev fun ds e => ds.length ≤ 1000 ∧ Q (.tuple ds) e
def dLst (u : Wa) : Wx := fun ev Q => u ev fun ds e => ds.length ≤ 1000 ∧ Q (.list ds) e
theorem line_of {n : Nat} (h : n ≤ 1000) : n ≤ sizeLine := Nat.le_of_lt (small1000 h)
theorem de_tup {es : List Expr} {u : Wa} {x1 pos} (h : DA X c es u) : DE X c (.Tuple es x1 pos) (dTup u) := peM (pe_tup h) fun σ H Q ⟨M, ev, pd, R, k, w, q⟩ =>
  ⟨M, ev, pd, _, k, w, fun ds e ⟨l, h1⟩ vs H1 k1 r => ⟨by rw [r.len]; exact line_of l, fun p hp => q _ e h1 _ _ (k1.newTup hp r)⟩⟩
theorem de_lst {es : List Expr} {u : Wa} {pos} (h : DA X c es u) : DE X c (.List es pos) (dLst u) := peM (pe_lst h) fun σ H Q ⟨M, ev, pd, R, k, w, q⟩ =>
  ⟨M, ev, pd, _, k, w, fun ds e ⟨l, h1⟩ vs H1 k1 r => ⟨by rw [r.len]; exact line_of l, fun p hp => q _ e h1 _ _ (k1.newLst hp r)⟩⟩
def RZ2 (K : PySem.W.Frag) (r : R2) (f : PyData → PyData → (PyData → Prop) → Prop) : Prop := ∀ (c : Cf) (M : Mz) (σ : Sg) (H : Hp) (ev : Ev) (pd : List (V × PyData)) (v u : V) (x y : PyData) (R : PyData → Prop) (Q : VK),
  Ok K c M σ H ev pd → Dz K (msk M H) v x → Dz K (msk M H) u y → f x y R → (∀ d w H', R d → Ok K c M σ H' ev ((w, d) :: pd) → Q w H') → r v u H Q
def dOp (f : PyData → PyData → (PyData → Prop) → Prop) (a b : Wx) : Wx := fun ev Q => a ev fun x e1 => b e1 fun y e2 => f x y fun z => Q z e2
theorem op_rd {r : R2} {f} (h : RZ2 X.K r f) {a b : Wx} {σ : Sg} {H : Hp} {Q : VK} (q : tE X.K c (dOp f a b) σ H Q) : tOp r (tE X.K c a) (tE X.K c b) σ H Q := by
  obtain ⟨M, ev, pd, R, k, w, q⟩ := q
  exact ⟨M, ev, pd, _, k, w, fun x e1 h1 v H1 k1 => ⟨M, e1, _, _, k1, h1, fun y e2 h2 u H2 k2 =>
    h c M σ H2 e2 pd v u x y _ Q k2.pop1.pop1 k2.pop1.top k2.top h2 fun d w' H' hd ok => q d e2 hd w' H' ok⟩⟩
theorem de_op {op : Operator} {a b : Expr} {r : R2} {f} {wa wb : Wx} {pos : Pos} (ho : OpR X (binaryOp op) r) (h : RZ2 X.K r f) (ha : DE X c a wa) (hb : DE X c b wb) : DE X c (.BinOp a op b pos) (dOp f wa wb) :=
  peM (pe_op ho ha hb) fun _ _ _ q => op_rd h q
theorem de_cmp {op : CmpOp} {a b : Expr} {r : R2} {f} {wa wb : Wx} {pos : Pos} (ho : OpR X (compareOp op) r) (h : RZ2 X.K r f) (ha : DE X c a wa) (hb : DE X c b wb) (hm : behindInMarks op b = false) : DE X c (.Compare a [op] [b] pos) (dOp f wa wb) :=
  peM (pe_cmpR ho ha hb hm) fun _ _ _ q => op_rd h q
theorem de_ix {a b : Expr} {r : R2} {f} {wa wb : Wx} {pos : Pos} (ho : IxR X r) (h : RZ2 X.K r f) (ha : DE X c a wa) (hb : DE X c b wb) (hs : PlainIx b) : DE X c (.Subscript a b pos) (dOp f wa wb) :=
  peM (pe_ix ho ha hb hs) fun _ _ _ q => op_rd h q
end
/-- int by int -/
def fII (p : Int → Int → Prop) (g : Int → Int → PyData) : PyData → PyData → (PyData → Prop) → Prop
  | .int i, .int j, Q => p i j ∧ Q (g i j)
  | _, _, _ => False
abbrev nop : Int → Int → Prop := fun _ _ => True
theorem rz_ii {K : PySem.W.Frag} {C : Int → Int → Prop} {p : Int → Int → Prop} {g : Int → Int → V} {g' : Int → Int → PyData} (hp : ∀ i j, p i j → C i j) (hg : ∀ H i j, Dz K H (g i j) (g' i j)) : RZ2 K (rI C g) (fII p g') := by
  intro c M σ H ev pd v u x y R Q k a b w q
  unfold fII at w
  split at w
  · cases a; cases b
    exact ⟨_, _, rfl, rfl, hp _ _ w.1, q _ _ _ w.2 (k.push (hg _ _ _))⟩
  · exact w.elim
theorem rz_ii0 {K : PySem.W.Frag} {g : Int → Int → V} {g' : Int → Int → PyData} (hg : ∀ H i j, Dz K H (g i j) (g' i j)) : RZ2 K (rI0 g) (fII nop g') := by
  intro c M σ H ev pd v u x y R Q k a b w q
  unfold fII at w
  split at w
  · cases a; cases b
    exact ⟨_, _, rfl, rfl, q _ _ _ w.2 (k.push (hg _ _ _))⟩
  · exact w.elim
/-- how wide factors may be -/
def mulC (i j : Int) : Prop := i.natAbs.log2 + j.natAbs.log2 < 1000000
def divC (_ j : Int) : Prop := 0 < j ∧ j.natAbs.log2 < 9000
def modC (_ j : Int) : Prop := 0 < j
abbrev fSub := fII nop fun i j => .int (i - j)
abbrev fMul := fII mulC fun i j => .int (i * j)
abbrev fDiv := fII divC fun i j => .int (i / j)
abbrev fMod := fII modC fun i j => .int (i % j)
abbrev fLt := fII nop fun i j => .bool (decide (i < j))
abbrev fLe := fII nop fun i j => .bool (decide (i ≤ j))
abbrev fGt := fII nop fun i j => .bool (decide (j < i))
abbrev fGe := fII nop fun i j => .bool (decide (j ≤ i))
section
variable {X : Cx} {c : Cf} {a b : Expr} {wa wb : Wx} {pos : Pos}
theorem de_sub (ha : DE X c a wa) (hb : DE X c b wb) : DE X c (.BinOp a .Sub b pos) (dOp fSub wa wb) := de_op op_sub (rz_ii0 fun _ _ _ => .int _) ha hb
theorem de_mul (ha : DE X c a wa) (hb : DE X c b wb) : DE X c (.BinOp a .Mult b pos) (dOp fMul wa wb) := de_op op_mulW (rz_ii (fun _ _ h => h) fun _ _ _ => .int _) ha hb
theorem de_div (ha : DE X c a wa) (hb : DE X c b wb) : DE X c (.BinOp a .FloorDiv b pos) (dOp fDiv wa wb) := de_op op_fdivW (rz_ii (fun _ _ h => h) fun _ _ _ => .int _) ha hb
theorem de_mod (ha : DE X c a wa) (hb : DE X c b wb) : DE X c (.BinOp a .Mod b pos) (dOp fMod wa wb) := de_op op_mod (rz_ii (fun _ _ h => h) fun _ _ _ => .int _) ha hb
theorem de_gt (ha : DE X c a wa) (hb : DE X c b wb) : DE X c (.Compare a [.Gt] [b] pos) (dOp fGt wa wb) := de_cmp op_gt (rz_ii0 fun _ _ _ => .bl _) ha hb (nobehind b (by decide) (by decide))
end
def shp (d : PyData) : Prop := SeqAt.shaped d = true
theorem shp_nd {d : PyData} (h : shp d) : d.hasDict = false := PyData.hasDict_of_canLay d (SeqAt.canLay_of_shaped h)
def txts : PyData → PyData → Bool
  | .str _, .str _ => true
  | _, _ => false
def fEq : PyData → PyData → (PyData → Prop) → Prop := fun x y Q => (txts x y = true ∨ (shp x ∧ shp y)) ∧ Q (.bool (PyData.eqv x y))
def fNe : PyData → PyData → (PyData → Prop) → Prop := fun x y Q => (txts x y = true ∨ (shp x ∧ shp y)) ∧ Q (.bool (!PyData.eqv x y))
theorem txts_of {x y : PyData} (h : txts x y = true) : ∃ a b, x = .str a ∧ y = .str b := by
  cases x <;> cases y <;> first | exact ⟨_, _, rfl, rfl⟩ | exact absurd h (by simp [txts])
theorem eqv_str (a b : Str) : PyData.eqv (.str a) (.str b) = decide (a = b) := by
  have e1 : PyData.eqv (.str a) (.str b) = (a == b) := by simp only [PyData.eqv]
  rw [e1]
  by_cases z : a = b
  · subst z; simp
  · rw [decide_eq_false z]; exact beq_eq_false_iff_ne.mpr z
section
variable {K : PySem.W.Frag}
theorem unm {M : Mz} {H : Hp} {v : V} {d : PyData} (h : Dz K (msk M H) v d) : Dz K H v d := h.up msk_sub
theorem rz_eq : RZ2 K (fun x y H Q => rEq x y H Q ∨ rEqD K x y H Q) fEq := fun c M σ H ev pd v u x y R Q k a b w q => w.1.elim (fun h => by
  obtain ⟨i, j, rfl, rfl⟩ := txts_of h
  cases a
  cases b
  refine .inl ⟨rfl, ?_⟩
  have z := q _ _ _ w.2 (k.push (.bl _))
  rw [eqv_str] at z
  have e : decide (V.str i = V.str j) = decide (i = j) := by simp
  rw [e]
  exact z) fun h => .inr ⟨x, y, (unm a).dp (shp_nd h.1), (unm b).dp (shp_nd h.2), h.1, h.2, q _ _ _ w.2 (k.push (.bl _))⟩
theorem rz_ne : RZ2 K (fun x y H Q => rNe x y H Q ∨ rNeD K x y H Q) fNe := fun c M σ H ev pd v u x y R Q k a b w q => w.1.elim (fun h => by
  obtain ⟨i, j, rfl, rfl⟩ := txts_of h
  cases a
  cases b
  refine .inl ⟨rfl, ?_⟩
  have z := q _ _ _ w.2 (k.push (.bl _))
  rw [eqv_str] at z
  have e : decide (V.str i = V.str j) = decide (i = j) := by simp
  rw [e]
  exact z) fun h => .inr ⟨x, y, (unm a).dp (shp_nd h.1), (unm b).dp (shp_nd h.2), h.1, h.2, q _ _ _ w.2 (k.push (.bl _))⟩
end
section
variable {X : Cx} {c : Cf} {a b : Expr} {wa wb : Wx} {pos : Pos} {n : Nat}
theorem de_eq (hr : Room n X.A) (ha : DE X c a wa) (hb : DE X c b wb) : DE X c (.Compare a [.Eq] [b] pos) (dOp fEq wa wb) := de_cmp (OpR.or op_eq (op_eqD hr.units)) rz_eq ha hb (nobehind b (by decide) (by decide))
end
def isNo : PyData → Bool
  | .none => true
  | _ => false
def fIs : PyData → PyData → (PyData → Prop) → Prop
  | .bool a, .bool b, Q => Q (.bool (decide (a = b)))
  | x, .none, Q => Q (.bool (isNo x))
  | _, _, _ => False
theorem isNo_eq {K : PySem.W.Frag} {H : Hp} {v : V} {d : PyData} (h : Dz K H v d) : isNo d = decide (v = .non) := by cases h <;> rfl
section
variable {X : Cx} {c : Cf} {a b : Expr} {wa wb : Wx} {pos : Pos}
theorem rz_is : RZ2 X.K (fun x y H Q => (∃ a b, x = .bl a ∧ y = .bl b ∧ Q (.bl (decide (a = b))) H) ∨ (y = .non ∧ Q (.bl (decide (x = .non))) H)) fIs := by
  intro c M σ H ev pd v u x y R Q k a b w q
  unfold fIs at w
  split at w
  · cases a; cases b
    exact .inl ⟨_, _, rfl, rfl, q _ _ _ w (k.push (.bl _))⟩
  · cases b
    rw [isNo_eq a] at w
    exact .inr ⟨rfl, q _ _ _ w (k.push (.bl _))⟩
  · exact w.elim
end
def fIx : PyData → PyData → (PyData → Prop) → Prop
  | .list ds, .int i, Q => match atI ds i with
    | some d => Q d
    | none => False
  | .tuple ds, .int i, Q => match atI ds i with
    | some d => Q d
    | none => False
  | _, _, _ => False
theorem atI_rel {K : PySem.W.Frag} {H : Hp} {vs : List V} {ds : List PyData} {i : Int} {d : PyData} (r : DzAll K H vs ds) (h : atI ds i = some d) : ∃ v, atI vs i = some v ∧ Dz K H v d := by
  unfold atI at h ⊢
  rw [r.len]
  cases e : ixN ds.length i with
  | none => rw [e] at h; cases h
  | some j => rw [e] at h; exact r.get j h
section
variable {X : Cx} {c : Cf} {a b : Expr} {wa wb : Wx} {pos : Pos}
theorem rz_ix {K : PySem.W.Frag} : RZ2 K (fun x y H Q => rIxL K x y H Q ∨ rIxT K x y H Q) fIx := by
  intro c M σ H ev pd v u x y R Q k a b w q
  unfold fIx at w
  split at w
  · split at w
    · rename_i e
      cases a with
      | lst h r =>
        cases b
        obtain ⟨z, y1, y2⟩ := atI_rel r e
        exact .inl ⟨_, _, _, z, rfl, rfl, sqL_up msk_sub h, y1, q _ _ _ w (k.push y2)⟩
    · exact w.elim
  · split at w
    · rename_i e
      cases a with
      | tup h r =>
        cases b
        obtain ⟨z, y1, y2⟩ := atI_rel r e
        exact .inr ⟨_, _, _, z, rfl, rfl, sqT_up msk_sub h, y1, q _ _ _ w (k.push y2)⟩
    · exact w.elim
  · exact w.elim
theorem de_item (ha : DE X c a wa) (hb : DE X c b wb) (hs : PlainIx b := by exact fun _ _ => rfl) : DE X c (.Subscript a b pos) (dOp fIx wa wb) := de_ix (IxR.or ix_list ix_tup) rz_ix ha hb hs
end
def fNeg : PyData → (PyData → Prop) → Prop
  | .int i, Q => Q (.int (-i))
  | _, _ => False
def dU (f : PyData → (PyData → Prop) → Prop) (a : Wx) : Wx := fun ev Q => a ev fun x e1 => f x fun z => Q z e1
section
variable {X : Cx} {c : Cf} {a b : Expr} {wa wb : Wx} {pos : Pos}
theorem de_neg (ha : DE X c a wa) : DE X c (.UnaryOp .USub a pos) (dU fNeg wa) := peM (pe_un un_neg ha) fun σ H Q ⟨M, ev, pd, R, k, w, q⟩ =>
  ⟨M, ev, pd, _, k, w, fun d e h v H1 k1 => by
    have t := k1.top
    unfold fNeg at h
    split at h
    · cases t
      exact ⟨_, rfl, q _ _ h _ _ (k1.pop1.push (.int _))⟩
    · exact h.elim⟩
def tru : PyData → Bool
  | .none => false
  | .bool b => b
  | .int i => i != 0
  | .str x => (x.length : Int) != 0
  | .list ds => !ds.isEmpty
  | .tuple ds => !ds.isEmpty
  | .dict _ => false
def truOk : PyData → Prop
  | .str x => x.length ≤ sizeLine
  | .dict (_ :: _) => False
  | _ => True
theorem isEmpty_eq {K : PySem.W.Frag} {H : Hp} {vs : List V} {ds : List PyData} (r : DzAll K H vs ds) : vs.isEmpty = ds.isEmpty := by cases r <;> rfl
theorem tru_rel {K : PySem.W.Frag} {H : Hp} {v : V} {d : PyData} (h : Dz K H v d) (o : truOk d) : TruV K v H (tru d) := by
  cases h with
  | non => exact rfl
  | bl b => exact rfl
  | int i => exact rfl
  | str x => exact ⟨o, rfl⟩
  | lst q r => exact .inl ⟨_, q, by show (!_) = !_; rw [isEmpty_eq r]⟩
  | tup q r => exact .inr (.inl ⟨_, q, by show (!_) = !_; rw [isEmpty_eq r]⟩)
  | dct0 q => exact .inr (.inr ⟨_, q, rfl⟩)
  | dct1 q r => exact o.elim
  | excN a => exact o.elim
  | exc q r => exact o.elim
def dTru (a : Wx) : Wt := fun ev Q => a ev fun d e => truOk d ∧ Q (tru d) e
theorem dt_val (ha : DE X c a wa) (he : ∀ whole, PySem.isTrue a X.env whole = (do let v ← whole; standAt a.pos; holding [v] (truthy v)) := by intro _; rfl) : DT X c a (dTru wa) :=
  ptM (pt_truth ha he) fun σ H Q ⟨M, ev, pd, R, k, w, q⟩ => ⟨M, ev, pd, _, k, w, fun d e h v H1 k1 => ⟨_, tru_rel (unm k1.top) h.1, q _ e h.2 H1 k1.pop1⟩⟩
def dNotT (w : Wt) : Wt := fun ev Q => w ev fun b e => Q (!b) e
theorem dt_not {w : Wt} (h : DT X c a w) : DT X c (.UnaryOp .Not a pos) (dNotT w) := ptM (pt_not h) fun σ H Q ⟨M, ev, pd, R, k, w, q⟩ => ⟨M, ev, pd, _, k, w, fun b e h H1 k1 => q _ e h H1 k1⟩
def dAndT (w u : Wt) : Wt := fun ev Q => w ev fun b e => if b = true then u e Q else Q false e
def dOrT (w u : Wt) : Wt := fun ev Q => w ev fun b e => if b = true then Q true e else u e Q
theorem dw_and1 {w : Wt} (h : DT X c a w) : DW X c (.BoolOp .And [a] pos) w := pw_and1 h
theorem dw_or1 {w : Wt} (h : DT X c a w) : DW X c (.BoolOp .Or [a] pos) w := pw_or1 h
theorem dw_and {w u : Wt} {rest : List Expr} (h : DT X c a w) (h2 : DW X c (.BoolOp .And (b :: rest) pos) u) : DW X c (.BoolOp .And (a :: b :: rest) pos) (dAndT w u) := pwM (pw_and h h2) fun σ H Q ⟨M, ev, pd, R, k, w, q⟩ =>
  ⟨M, ev, pd, _, k, w, fun b e h H1 k1 => by
    by_cases z : b = true
    · rw [if_pos z] at h ⊢
      exact ⟨M, e, pd, R, k1, h, q⟩
    · rw [if_neg z] at h ⊢
      exact q _ e h H1 k1⟩
theorem dw_or {w u : Wt} {rest : List Expr} (h : DT X c a w) (h2 : DW X c (.BoolOp .Or (b :: rest) pos) u) : DW X c (.BoolOp .Or (a :: b :: rest) pos) (dOrT w u) := pwM (pw_or h h2) fun σ H Q ⟨M, ev, pd, R, k, w, q⟩ =>
  ⟨M, ev, pd, _, k, w, fun b e h H1 k1 => by
    by_cases z : b = true
    · rw [if_pos z] at h ⊢
      exact q _ e h H1 k1
    · rw [if_neg z] at h ⊢
      exact ⟨M, e, pd, R, k1, h, q⟩⟩
theorem dt_w {w : Wt} (h : DW X c a w) : DT X c a w := h.pt
def dAnd (w u : Wx) : Wx := fun ev Q => w ev fun d e => match d with
  | .bool b => if b = true then u e Q else Q (.bool false) e
  | _ => False
def dOr (w u : Wx) : Wx := fun ev Q => w ev fun d e => match d with
  | .bool b => if b = true then Q (.bool true) e else u e Q
  | _ => False
theorem de_one {op : BoolOp} {w : Wx} (h : DE X c a w) : DE X c (.BoolOp op [a] pos) w := pe_one h
theorem de_and {w u : Wx} {rest : List Expr} (h : DE X c a w) (h2 : DE X c (.BoolOp .And (b :: rest) pos) u) : DE X c (.BoolOp .And (a :: b :: rest) pos) (dAnd w u) := peM (pe_and h h2) fun σ H Q ⟨M, ev, pd, R, k, w, q⟩ =>
  ⟨M, ev, pd, _, k, w, fun d e h v H1 k1 => by
    have t := k1.top
    split at h
    · cases t
      rename_i z
      refine ⟨_, rfl, ?_⟩
      by_cases z : z = true
      · rw [if_pos z] at h ⊢
        exact ⟨M, e, pd, R, k1.pop1, h, q⟩
      · rw [if_neg z] at h ⊢
        exact q _ e h _ H1 (k1.pop1.push (.bl _))
    · exact h.elim⟩
theorem de_or {w u : Wx} {rest : List Expr} (h : DE X c a w) (h2 : DE X c (.BoolOp .Or (b :: rest) pos) u) : DE X c (.BoolOp .Or (a :: b :: rest) pos) (dOr w u) := peM (pe_or h h2) fun σ H Q ⟨M, ev, pd, R, k, w, q⟩ =>
  ⟨M, ev, pd, _, k, w, fun d e h v H1 k1 => by
    have t := k1.top
    split at h
    · cases t
      rename_i z
      refine ⟨_, rfl, ?_⟩
      by_cases z : z = true
      · rw [if_pos z] at h ⊢
        exact q _ e h _ H1 (k1.pop1.push (.bl _))
      · rw [if_neg z] at h ⊢
        exact ⟨M, e, pd, R, k1.pop1, h, q⟩
    · exact h.elim⟩
def dNot (w : Wx) : Wx := fun ev Q => w ev fun d e => match d with
  | .bool b => Q (.bool (!b)) e
  | _ => False
theorem de_not {w : Wx} (h : DE X c a w) : DE X c (.UnaryOp .Not a pos) (dNot w) := peM (pe_not h) fun σ H Q ⟨M, ev, pd, R, k, w, q⟩ =>
  ⟨M, ev, pd, _, k, w, fun d e h v H1 k1 => by
    have t := k1.top
    split at h
    · cases t
      exact ⟨_, rfl, q _ e h _ H1 (k1.pop1.push (.bl _))⟩
    · exact h.elim⟩
def dIf (t : Wt) (w u : Wx) : Wx := fun ev Q => t ev fun b e => if b = true then w e Q else u e Q
theorem de_if {t : Wt} {w u : Wx} {tst : Expr} (ht : DT X c tst t) (ha : DE X c a w) (hb : DE X c b u) : DE X c (.IfExp tst a b pos) (dIf t w u) := peM (pe_ifExp ht ha hb) fun σ H Q ⟨M, ev, pd, R, k, w, q⟩ =>
  ⟨M, ev, pd, _, k, w, fun z e h H1 k1 => by
    by_cases z : z = true
    · rw [if_pos z] at h ⊢
      exact ⟨M, e, pd, R, k1, h, q⟩
    · rw [if_neg z] at h ⊢
      exact ⟨M, e, pd, R, k1, h, q⟩⟩
end
end Z
set_option Elab.async false
set_option linter.all false
set_option maxRecDepth 100000
namespace Z
open PySem L2
def RZc (K : PySem.W.Frag) (r : List V → Hp → VK → Prop) (f : List PyData → (PyData → Prop) → Prop) : Prop := ∀ (c : Cf) (M : Mz) (σ : Sg) (H : Hp) (ev : Ev) (pd : List (V × PyData)) (vs : List V) (ds : List PyData) (R : PyData → Prop) (Q : VK),
  Ok K c M σ H ev pd → DzAll K (msk M H) vs ds → f ds R → (∀ d w H', R d → Ok K c M σ H' ev ((w, d) :: pd) → Q w H') → r vs H Q
def dCal (f : List PyData → (PyData → Prop) → Prop) (u : Wa) : Wx := fun ev Q => u ev fun ds e => f ds fun d => Q d e
section
variable {X : Cx} {c : Cf}
theorem cal_rd {r : List V → Hp → VK → Prop} {f} (h : RZc X.K r f) {u : Wa} {σ : Sg} {H : Hp} {Q : VK} (q : tE X.K c (dCal f u) σ H Q) : tCB r (tA X.K c u) σ H Q := by
  obtain ⟨M, ev, pd, R, k, w, q⟩ := q
  exact ⟨M, ev, pd, _, k, w, fun ds e h1 vs H1 k1 r1 => h c M σ H1 e pd vs ds _ Q k1 r1 h1 fun d w' H' hd ok => q d e hd w' H' ok⟩
theorem de_cB {x : Str} {p pos : Pos} {e : Expr} {es : List Expr} {u : Wa} {id : String} {r : List V → Hp → VK → Prop} {f} (hc : CallR X (.builtin id) r) (h : RZc X.K r f) (hg : Gl X x) (hm : X.mg x = none) (hv : bootBuiltins x = some (.builtin id)) (ha : DA X c (e :: es) u)
    (h1 : x ≠ "__name__" := by decide) (h2 : (x == ("__debug__" : Str)) = false := by decide) (h3 : starEach (e :: es) X.env = (false, eval e X.env) :: starEach es X.env := by rfl) (h4 : (backTo pos (starEach es X.env)).any (·.1) = false := by rfl) :
    DE X c (.Call (.Name x p) (e :: es) [] pos) (dCal f u) := peM (pe_callB hc hg hm hv ha h1 h2 h3 h4) fun _ _ _ q => cal_rd h q
theorem de_cT {x : Str} {p pos : Pos} {e : Expr} {es : List Expr} {u : Wa} {T : String} {r : List V → Hp → VK → Prop} {f} (hc : CallR X (.type T) r) (h : RZc X.K r f) (hg : Gl X x) (hm : X.mg x = none) (hv : bootBuiltins x = some (.type T)) (ha : DA X c (e :: es) u)
    (h1 : x ≠ "__name__" := by decide) (h2 : (x == ("__debug__" : Str)) = false := by decide) (h3 : starEach (e :: es) X.env = (false, eval e X.env) :: starEach es X.env := by rfl) (h4 : (backTo pos (starEach es X.env)).any (·.1) = false := by rfl) :
    DE X c (.Call (.Name x p) (e :: es) [] pos) (dCal f u) := peM (pe_callTy hc hg hm hv ha h1 h2 h3 h4) fun _ _ _ q => cal_rd h q
theorem de_cM {x : Str} {p pos : Pos} {e : Expr} {es : List Expr} {u : Wa} {id : String} {r : List V → Hp → VK → Prop} {f} (hc : CallR X (.builtin id) r) (h : RZc X.K r f) (hg : Gl X x) (hm : X.mg x = some (.builtin id)) (ha : DA X c (e :: es) u)
    (h2 : (x == ("__debug__" : Str)) = false := by decide) (h3 : starEach (e :: es) X.env = (false, eval e X.env) :: starEach es X.env := by rfl) (h4 : (backTo pos (starEach es X.env)).any (·.1) = false := by rfl) :
    DE X c (.Call (.Name x p) (e :: es) [] pos) (dCal f u) := peM (pe_callBfun hc hg hm ha h2 h3 h4) fun _ _ _ q => cal_rd h q
end
def fAbs : List PyData → (PyData → Prop) → Prop
  | [.int i], Q => Q (.int (if i < 0 then -i else i))
  | _, _ => False
def fInt : List PyData → (PyData → Prop) → Prop
  | [.int i], Q => Q (.int i)
  | [.bool b], Q => Q (.int (if b then 1 else 0))
  | _, _ => False
def fMax2 : List PyData → (PyData → Prop) → Prop
  | [.int i, .int j], Q => Q (.int (if j > i then j else i))
  | _, _ => False
def fMin2 : List PyData → (PyData → Prop) → Prop
  | [.int i, .int j], Q => Q (.int (if j < i then j else i))
  | _, _ => False
def fDivmod : List PyData → (PyData → Prop) → Prop
  | [.int i, .int j], Q => (0 < j ∧ j < 1073741824) ∧ Q (.tuple [.int (i / j), .int (i % j)])
  | _, _ => False
def fGcd : List PyData → (PyData → Prop) → Prop
  | [.int i, .int j], Q => Q (.int ((Nat.gcd i.natAbs j.natAbs : Nat) : Int))
  | _, _ => False
def fLen : List PyData → (PyData → Prop) → Prop
  | [.list ds], Q => Q (.int ds.length)
  | [.tuple ds], Q => Q (.int ds.length)
  | [.str x], Q => x.length ≤ sizeLine ∧ Q (.int x.length)
  | _, _ => False
def fTuple : List PyData → (PyData → Prop) → Prop
  | [.list ds], Q => Q (.tuple ds)
  | [.tuple ds], Q => Q (.tuple ds)
  | _, _ => False
def bools : List PyData → Option (List Bool)
  | [] => some []
  | .bool b :: r => (bools r).map (b :: ·)
  | _ :: _ => none
def fAll : List PyData → (PyData → Prop) → Prop
  | [.list ds], Q => match bools ds with
    | some bs => Q (.bool (bs.all id))
    | none => False
  | _, _ => False
section
variable {K : PySem.W.Frag}
theorem bools_rel {H : Hp} : ∀ {vs : List V} {ds : List PyData} {bs : List Bool}, DzAll K H vs ds → bools ds = some bs → vs = bs.map V.bl
  | _, _, _, .nil, h => by cases h; rfl
  | _, _, _, .cons a b, h => by
    cases a with
    | bl x =>
      unfold bools at h
      obtain ⟨r, h1, h2⟩ := Option.map_eq_some_iff.mp h
      subst h2
      rw [List.map_cons, bools_rel b h1]
    | _ => cases h
theorem rz_abs : RZc K (fun xs H Q => ∃ i, xs = [.int i] ∧ Q (.int (if i < 0 then -i else i)) H) fAbs := by
  intro c M σ H ev pd vs ds R Q k a w q
  unfold fAbs at w
  split at w
  · cases a with | cons a b => cases a; cases b; exact ⟨_, rfl, q _ _ _ w (k.push (.int _))⟩
  · exact w.elim
theorem rz_int : RZc K (fun xs H Q => (∃ i, xs = [.int i] ∧ Q (.int i) H) ∨ ∃ k, xs = [.bl k] ∧ Q (.int (if k then 1 else 0)) H) fInt := by
  intro c M σ H ev pd vs ds R Q k a w q
  unfold fInt at w
  split at w
  · cases a with | cons a b => cases a; cases b; exact .inl ⟨_, rfl, q _ _ _ w (k.push (.int _))⟩
  · cases a with | cons a b => cases a; cases b; exact .inr ⟨_, rfl, q _ _ _ w (k.push (.int _))⟩
  · exact w.elim
theorem rz_max2 : RZc K (fun xs H Q => ∃ i j, xs = [.int i, .int j] ∧ Q (.int (if j > i then j else i)) H) fMax2 := by
  intro c M σ H ev pd vs ds R Q k a w q
  unfold fMax2 at w
  split at w
  · cases a with | cons a b => cases b with | cons b d => cases a; cases b; cases d; exact ⟨_, _, rfl, q _ _ _ w (k.push (.int _))⟩
  · exact w.elim
theorem rz_min2 : RZc K (fun xs H Q => ∃ i j, xs = [.int i, .int j] ∧ Q (.int (if j < i then j else i)) H) fMin2 := by
  intro c M σ H ev pd vs ds R Q k a w q
  unfold fMin2 at w
  split at w
  · cases a with | cons a b => cases b with | cons b d => cases a; cases b; cases d; exact ⟨_, _, rfl, q _ _ _ w (k.push (.int _))⟩
  · exact w.elim
theorem rz_divmod : RZc K (fun xs H Q => ∃ i j, xs = [.int i, .int j] ∧ CDiv i j ∧ ∀ p, H p = none → Q (.ref p) (upd H p (.tup [.int (i / j), .int (i % j)]))) fDivmod := by
  intro c M σ H ev pd vs ds R Q k a w q
  unfold fDivmod at w
  split at w
  · cases a with | cons a b => cases b with | cons b d => cases a; cases b; cases d; exact ⟨_, _, rfl, w.1, fun p hp => q _ _ _ w.2 (k.newTup hp (.cons (.int _) (.cons (.int _) .nil)))⟩
  · exact w.elim
theorem rz_gcd : RZc K rGcd fGcd := by
  intro c M σ H ev pd vs ds R Q k a w q
  unfold fGcd at w
  split at w
  · cases a with | cons a b => cases b with | cons b d => cases a; cases b; cases d; exact ⟨_, _, rfl, q _ _ _ w (k.push (.int _))⟩
  · exact w.elim
theorem rz_len : RZc K (fun xs H Q => (∃ p ys, xs = [.ref p] ∧ (SqL K H p ys ∨ SqT K H p ys) ∧ Q (.int ys.length) H) ∨ ∃ z, xs = [.str z] ∧ z.length ≤ sizeLine ∧ Q (.int z.length) H) fLen := by
  intro c M σ H ev pd vs ds R Q k a w q
  unfold fLen at w
  split at w
  · cases a with | cons a b => cases a with | lst h r => cases b; rw [← r.len] at w; exact .inl ⟨_, _, rfl, .inl (sqL_up msk_sub h), q _ _ _ w (k.push (.int _))⟩
  · cases a with | cons a b => cases a with | tup h r => cases b; rw [← r.len] at w; exact .inl ⟨_, _, rfl, .inr (sqT_up msk_sub h), q _ _ _ w (k.push (.int _))⟩
  · cases a with | cons a b => cases a; cases b; exact .inr ⟨_, rfl, w.1, q _ _ _ w.2 (k.push (.int _))⟩
  · exact w.elim
theorem rz_tuple : RZc K (fun xs H Q => ∃ p ys, xs = [.ref p] ∧ ((SqL K H p ys ∧ ∀ l, H l = none → Q (.ref l) (upd H l (.tup ys))) ∨ (SqT K H p ys ∧ Q (.ref p) H))) fTuple := by
  intro c M σ H ev pd vs ds R Q k a w q
  unfold fTuple at w
  split at w
  · cases a with | cons a b => cases a with | lst h r => cases b; exact ⟨_, _, rfl, .inl ⟨sqL_up msk_sub h, fun p hp => q _ _ _ w (k.newTup hp r)⟩⟩
  · cases a with | cons a b => cases a with | tup h r => cases b; exact ⟨_, _, rfl, .inr ⟨sqT_up msk_sub h, q _ _ _ w (k.push (.tup h r))⟩⟩
  · exact w.elim
theorem rz_all : RZc K (rAll K) fAll := by
  intro c M σ H ev pd vs ds R Q k a w q
  unfold fAll at w
  split at w
  · split at w
    · rename_i e
      cases a with | cons a b => cases a with | lst h r => cases b; exact ⟨_, _, rfl, (by rw [← bools_rel r e]; exact sqL_up msk_sub h), q _ _ _ w (k.push (.bl _))⟩
    · exact w.elim
  · exact w.elim
end
section
variable {X : Cx}
theorem callR_or {f : Value} {r r' : List V → Hp → VK → Prop} (h : CallR X f r) (h' : CallR X f r') : CallR X f (fun xs H Q => r xs H Q ∨ r' xs H Q) := fun pins s σ H xs us Q I q z => z.elim (h pins s σ H xs us Q I q) (h' pins s σ H xs us Q I q)
end
section
variable {X : Cx} {c : Cf} {p pos : Pos} {e : Expr} {es : List Expr} {u : Wa}
theorem de_abs (hg : Gl X "abs") (hm : X.mg "abs" = none) (ha : DA X c (e :: es) u) (h3 : starEach (e :: es) X.env = (false, eval e X.env) :: starEach es X.env := by rfl) (h4 : (backTo pos (starEach es X.env)).any (·.1) = false := by rfl) :
    DE X c (.Call (.Name "abs" p) (e :: es) [] pos) (dCal fAbs u) := de_cB call_abs rz_abs hg hm (by decide +kernel) ha (h3 := h3) (h4 := h4)
theorem de_intc (hg : Gl X "int") (hm : X.mg "int" = none) (ha : DA X c (e :: es) u) (h3 : starEach (e :: es) X.env = (false, eval e X.env) :: starEach es X.env := by rfl) (h4 : (backTo pos (starEach es X.env)).any (·.1) = false := by rfl) :
    DE X c (.Call (.Name "int" p) (e :: es) [] pos) (dCal fInt u) := de_cT call_int1 rz_int hg hm (by decide +kernel) ha (h3 := h3) (h4 := h4)
theorem de_max2 (hc : X.calm = true) (hg : Gl X "max") (hm : X.mg "max" = none) (ha : DA X c (e :: es) u) (h3 : starEach (e :: es) X.env = (false, eval e X.env) :: starEach es X.env := by rfl) (h4 : (backTo pos (starEach es X.env)).any (·.1) = false := by rfl) :
    DE X c (.Call (.Name "max" p) (e :: es) [] pos) (dCal fMax2 u) := de_cB (call_max2 hc) rz_max2 hg hm (by decide +kernel) ha (h3 := h3) (h4 := h4)
theorem de_min2 (hc : X.calm = true) (hg : Gl X "min") (hm : X.mg "min" = none) (ha : DA X c (e :: es) u) (h3 : starEach (e :: es) X.env = (false, eval e X.env) :: starEach es X.env := by rfl) (h4 : (backTo pos (starEach es X.env)).any (·.1) = false := by rfl) :
    DE X c (.Call (.Name "min" p) (e :: es) [] pos) (dCal fMin2 u) := de_cB (call_min2 hc) rz_min2 hg hm (by decide +kernel) ha (h3 := h3) (h4 := h4)
theorem de_divmod (hg : Gl X "divmod") (hm : X.mg "divmod" = none) (ha : DA X c (e :: es) u) (h3 : starEach (e :: es) X.env = (false, eval e X.env) :: starEach es X.env := by rfl) (h4 : (backTo pos (starEach es X.env)).any (·.1) = false := by rfl) :
    DE X c (.Call (.Name "divmod" p) (e :: es) [] pos) (dCal fDivmod u) := de_cB call_divmod rz_divmod hg hm (by decide +kernel) ha (h3 := h3) (h4 := h4)
theorem de_gcd (hg : Gl X "gcd") (hm : X.mg "gcd" = some (.builtin "math.gcd")) (ha : DA X c (e :: es) u) (h3 : starEach (e :: es) X.env = (false, eval e X.env) :: starEach es X.env := by rfl) (h4 : (backTo pos (starEach es X.env)).any (·.1) = false := by rfl) :
    DE X c (.Call (.Name "gcd" p) (e :: es) [] pos) (dCal fGcd u) := de_cM cr_gcd rz_gcd hg hm ha (h3 := h3) (h4 := h4)
theorem de_len (hg : Gl X "len") (hm : X.mg "len" = none) (ha : DA X c (e :: es) u) (h3 : starEach (e :: es) X.env = (false, eval e X.env) :: starEach es X.env := by rfl) (h4 : (backTo pos (starEach es X.env)).any (·.1) = false := by rfl) :
    DE X c (.Call (.Name "len" p) (e :: es) [] pos) (dCal fLen u) := de_cB (callR_or call_len_seq call_len_str) rz_len hg hm (by decide +kernel) ha (h3 := h3) (h4 := h4)
theorem de_tuple (hg : Gl X "tuple") (hm : X.mg "tuple" = none) (ha : DA X c (e :: es) u) (h3 : starEach (e :: es) X.env = (false, eval e X.env) :: starEach es X.env := by rfl) (h4 : (backTo pos (starEach es X.env)).any (·.1) = false := by rfl) :
    DE X c (.Call (.Name "tuple" p) (e :: es) [] pos) (dCal fTuple u) := de_cT call_tuple_of rz_tuple hg hm (by decide +kernel) ha (h3 := h3) (h4 := h4)
theorem de_all (hc : X.calm = true) (hg : Gl X "all") (hm : X.mg "all" = none) (ha : DA X c (e :: es) u) (h3 : starEach (e :: es) X.env = (false, eval e X.env) :: starEach es X.env := by rfl) (h4 : (backTo pos (starEach es X.env)).any (·.1) = false := by rfl) :
    DE X c (.Call (.Name "all" p) (e :: es) [] pos) (dCal fAll u) := de_cB (cr_all hc) rz_all hg hm (by decide +kernel) ha (h3 := h3) (h4 := h4)
end
/-- a datum that may be shown, and what comes after -/
structure RP (d : PyData) (P : Prop) : Prop where
  ok : d.showable = true ∧ d.shown.length ≤ sizeLine ∧ d.depth ≤ 100 ∧ d.hasDict = false
  p : P
def fRepr : List PyData → (PyData → Prop) → Prop
  | [d], Q => RP d (Q (.str d.shown))
  | _, _ => False
def rRepr (K : PySem.W.Frag) : List V → Hp → VK → Prop := fun vs H Q => ∃ x d, vs = [x] ∧ Dp K H x d ∧ (d.showable = true ∧ d.shown.length ≤ sizeLine ∧ d.depth ≤ 100 ∧ d.hasDict = false) ∧ Q (.str d.shown) H
theorem cr_repr {X : Cx} {n : Nat} (hr : Room n X.A) (hG : X.A.guards = some []) : CallR X (.builtin "repr") (rRepr X.K) := by
  intro pins s σ H xs us Q I r h
  obtain ⟨x, d, rfl, hd, ⟨g1, g2, g3, g4⟩, q⟩ := h
  obtain ⟨u, rfl, ru⟩ : ∃ u, us = [u] ∧ RelV x u := by
    cases r with
    | cons a b => cases b; exact ⟨_, rfl, a⟩
  have un := hr.un
  have fin : ∀ (z : Str) (t : Tok) (h' : Heap) (tk : Nat), (∀ b o, s.heap.get? b = some o → h'.get? b = some o) → Q (.str z) H → EP X pins σ Q (.str z t) { s with heap := h', toks := tk } := fun z t h' tk k q => ⟨.str z, H, I.kept k, ⟨t, rfl⟩, q⟩
  cases hd with
  | non => cases ru; exact PySem.P.repr_of_none (fin _ _ _ _ (fun _ _ e => e) q)
  | bl b => cases ru; exact PySem.P.repr_of_bool (fin _ _ _ _ (fun _ _ e => e) q)
  | int i => obtain ⟨t, rfl⟩ := ru; exact PySem.P.repr_of_int (by simpa [PyData.showable] using g1) (fin _ _ _ _ (fun _ _ e => e) q)
  | str z => obtain ⟨t, rfl⟩ := ru; exact PySem.P.repr_of_str (fin _ _ _ _ (fun _ _ e => e) q) (by simpa [PyData.shown] using g2)
  | lst q1 q2 =>
    obtain ⟨as, r1⟩ := Dp.reads I _ _ u (.lst q1 q2) ru
    cases ru
    exact repr_of_reads' r1 g1 (fun e => by rw [g4] at e; cases e) hG (by omega) (fun _ _ e => e) (fun h' t tk k => fin _ _ _ _ k q) g2
  | tup q1 q2 =>
    obtain ⟨as, r1⟩ := Dp.reads I _ _ u (.tup q1 q2) ru
    cases ru
    exact repr_of_reads' r1 g1 (fun e => by rw [g4] at e; cases e) hG (by omega) (fun _ _ e => e) (fun h' t tk k => fin _ _ _ _ k q) g2
theorem rz_repr {K : PySem.W.Frag} : RZc K (rRepr K) fRepr := by
  intro c M σ H ev pd vs ds R Q k a w q
  unfold fRepr at w
  split at w
  · cases a with | cons a b => cases b; exact ⟨_, _, rfl, (unm a).dp w.ok.2.2.2, w.ok, q _ _ _ w.p (k.push (.str _))⟩
  · exact w.elim
section
variable {X : Cx} {c : Cf} {p pos : Pos} {e : Expr} {es : List Expr} {u : Wa}
theorem de_repr {n : Nat} (hr : Room n X.A) (hG : X.A.guards = some []) (hg : Gl X "repr") (hm : X.mg "repr" = none) (ha : DA X c (e :: es) u) (h3 : starEach (e :: es) X.env = (false, eval e X.env) :: starEach es X.env := by rfl) (h4 : (backTo pos (starEach es X.env)).any (·.1) = false := by rfl) :
    DE X c (.Call (.Name "repr" p) (e :: es) [] pos) (dCal fRepr u) := de_cB (cr_repr hr hG) rz_repr hg hm (by decide +kernel) ha (h3 := h3) (h4 := h4)
end
def tyN : PyData → String
  | .none => "NoneType"
  | .bool _ => "bool"
  | .int _ => "int"
  | .str _ => "str"
  | .list _ => "list"
  | .tuple _ => "tuple"
  | .dict _ => "dict"
def isA (T : String) (d : PyData) : Bool := tyN d == T || (tyN d == "bool" && T == "int")
def isInt : PyData → Bool
  | .int _ => true
  | .bool _ => true
  | _ => false
def isBool : PyData → Bool
  | .bool _ => true
  | _ => false
def isList : PyData → Bool
  | .list _ => true
  | _ => false
def isTuple : PyData → Bool
  | .tuple _ => true
  | _ => false
theorem isA_int : ∀ d, isInt d = isA "int" d := fun d => by cases d <;> rfl
theorem isA_bool : ∀ d, isBool d = isA "bool" d := fun d => by cases d <;> rfl
theorem isA_tuple : ∀ d, isTuple d = isA "tuple" d := fun d => by cases d <;> rfl
/-- no caught exception -/
def okE : PyData → Prop → Prop
  | .dict ((.int _, _) :: _), _ => False
  | _, P => P
theorem okE_of {d : PyData} {P : Prop} (h : okE d P) : P := by
  unfold okE at h
  split at h
  · exact h.elim
  · exact h
def dIsa (f : PyData → Bool) (w : Wx) : Wx := fun ev Q => w ev fun d e => okE d (Q (.bool (f d)) e)
theorem ty_rel {K : PySem.W.Frag} {H : Hp} {v : V} {d : PyData} {P : Prop} (h : Dz K H v d) (o : okE d P) : TyX K H v (.type (tyN d)) := by
  cases h with
  | non => exact .base .non
  | bl b => exact .base (.bl b)
  | int i => exact .base (.int i)
  | str x => exact .base (.str x)
  | lst q r =>
    rcases q with (q | ⟨o, q⟩) | ⟨o, its, n, q1, q2, _⟩
    · exact .base (.lst q)
    · exact .base (.frz q)
    · exact .kList q1 q2
  | tup q r =>
    rcases q with (q | ⟨o, q⟩) | ⟨o, its, n, q1, q2, _⟩
    · exact .base (.tup q)
    · exact .fTuple q
    · exact .kTuple q1 q2
  | dct0 q => exact .base (.dK q)
  | dct1 q _ => exact .base (.dK q)
  | excN _ => exact o.elim
  | exc _ _ => exact o.elim
section
variable {X : Cx} {c : Cf} {p p2 pos : Pos} {e : Expr} {w : Wx}
theorem de_isa (T : Str) {Ts : String} {f : PyData → Bool} (hT : bootBuiltins T = some (.type Ts)) (hf : ∀ d, f d = isA Ts d) (kits : ∀ a ∈ ["NoneType", "bool", "int", "str", "list", "tuple", "dict"], kitB a Ts = some (a == Ts || (a == "bool" && Ts == "int"))) (hg : Gl X "isinstance") (hm : X.mg "isinstance" = none) (hgT : Gl X T) (hmT : X.mg T = none) (ha : DE X c e w)
    (n1 : T ≠ "__name__" := by decide) (n2 : (T == ("__debug__" : Str)) = false := by decide)
    (h3 : starEach [e, .Name T p2] X.env = (false, eval e X.env) :: starEach [.Name T p2] X.env := by rfl) (h5 : starEach [.Name T p2] X.env = (false, eval (.Name T p2) X.env) :: starEach [] X.env := by rfl) (h4 : (backTo pos (starEach [.Name T p2] X.env)).any (·.1) = false := by rfl) :
    DE X c (.Call (.Name "isinstance" p) [e, .Name T p2] [] pos) (dIsa f w) :=
  peM (pe_callB call_isi hg hm (by decide +kernel) (pa_cons ha (pa_cons (pe_bltn (v := .ty Ts) hgT hmT hT rfl n1 n2) pa_nil h5) h3) (by decide) (by decide) h3 h4) fun σ H Q ⟨M, ev, pd, R, k, w, q⟩ =>
    ⟨M, ev, pd, _, k, w, fun d e h v H1 k1 => ⟨v, .ty Ts, _, _, f d, rfl, .ty Ts, ty_rel (unm k1.top) h, kit_ty (by rw [hf d]; exact kits (tyN d) (by cases d <;> simp [tyN])), q _ e (okE_of h) _ _ (k1.pop1.push (.bl _))⟩⟩
theorem kits_int : ∀ a ∈ ["NoneType", "bool", "int", "str", "list", "tuple", "dict"], kitB a "int" = some (a == "int" || (a == "bool" && "int" == "int")) := by decide +kernel
theorem kits_bool : ∀ a ∈ ["NoneType", "bool", "int", "str", "list", "tuple", "dict"], kitB a "bool" = some (a == "bool" || (a == "bool" && "bool" == "int")) := by decide +kernel
theorem kits_tuple : ∀ a ∈ ["NoneType", "bool", "int", "str", "list", "tuple", "dict"], kitB a "tuple" = some (a == "tuple" || (a == "bool" && "tuple" == "int")) := by decide +kernel
end
def fCat : PyData → PyData → (PyData → Prop) → Prop
  | .int i, .int j, Q => Q (.int (i + j))
  | .tuple xs, .tuple ys, Q => xs.length + ys.length ≤ 1000 ∧ Q (.tuple (xs ++ ys))
  | .list xs, .list ys, Q => xs.length + ys.length ≤ 1000 ∧ Q (.list (xs ++ ys))
  | _, _, _ => False
section
variable {X : Cx} {c : Cf} {a b : Expr} {wa wb : Wx} {pos : Pos}
def rCatQ (K : PySem.W.Frag) : R2 := fun x y H Q => ∃ l b xs zs, x = .ref l ∧ y = .ref b ∧ SqL K H l xs ∧ SqL K H b zs ∧ xs.length + zs.length ≤ sizeLine ∧ ∀ p, H p = none → Q (.ref p) (upd H p (.lst (xs ++ zs)))
theorem op_catQ : OpR X (binaryOp .Add) (rCatQ X.K) := by
  intro pins s σ H x y v u Q I rx ry h
  obtain ⟨l, b, xs, zs, rfl, rfl, h1, h2, hz, q⟩ := h
  cases rx
  cases ry
  obtain ⟨its, r1, ⟨o1, n1, g1, c1, _, d1⟩, _⟩ := I.list h1
  obtain ⟨jts, r2, ⟨o2, n2, g2, c2, _, d2⟩, _⟩ := I.list h2
  obtain ⟨cl1, dd1, da1, sl1⟩ := o1
  obtain ⟨cl2, dd2, da2, sl2⟩ := o2
  simp only at c1 d1 c2 d2
  subst c1 d1 c2 d2
  have sz : its.length + jts.length ≤ sizeLine := by rw [← r1.length, ← r2.length]; exact hz
  have ea : its.toArray ++ jts.toArray = (its ++ jts).toArray := by simp
  refine PySem.concat_meets ⟨_, g1, rfl⟩ ⟨_, g2, rfl⟩ PySem.noFill_list_add PySem.seq_list_add PySem.F.slot_list_add PySem.F.entry_list_add (PySem.F.args_list_add_2 _ _) (PyProof.Rows.list_addW l b its.toArray jts.toArray n1 n2 dd1 dd2 sl1 sl2 (by simpa using sz)) ⟨g1, g2, ?_⟩
  rw [ea]
  exact ⟨.ref _, _, I.lnew (t' := s.toks) (r1.append r2) (by rw [List.length_append]; exact hz), rfl, q _ I.fresh⟩
theorem nil_of {K : PySem.W.Frag} {H : Hp} {ds : List PyData} {vs : List V} (r : DzAll K H vs ds) (h : vs = []) : ds = [] := by subst h; cases r; rfl
theorem rz_cat {K : PySem.W.Frag} : RZ2 K (fun x y H Q => rI0 (fun i j => .int (i + j)) x y H Q ∨ (rCatA K x y H Q ∨ rCatQ K x y H Q)) fCat := by
  intro c M σ H ev pd v u x y R Q k a b w q
  unfold fCat at w
  split at w
  · cases a; cases b
    exact .inl ⟨_, _, rfl, rfl, q _ _ _ w (k.push (.int _))⟩
  · cases a with
    | tup h1 r1 =>
      cases b with
      | tup h2 r2 =>
        refine .inr (.inl ⟨_, _, _, _, rfl, rfl, sqT_up msk_sub h1, sqT_up msk_sub h2, by rw [r1.len, r2.len]; exact line_of w.1, fun e => ?_, fun _ e => ?_, fun _ _ p hp => q _ _ _ w.2 (k.newTup hp (r1.app r2))⟩)
        · rw [nil_of r1 e, List.nil_append] at w
          exact q _ _ _ w.2 (k.push (.tup h2 r2))
        · rw [nil_of r2 e, List.append_nil] at w
          exact q _ _ _ w.2 (k.push (.tup h1 r1))
  · cases a with
    | lst h1 r1 =>
      cases b with
      | lst h2 r2 => exact .inr (.inr ⟨_, _, _, _, rfl, rfl, sqL_up msk_sub h1, sqL_up msk_sub h2, by rw [r1.len, r2.len]; exact line_of w.1, fun p hp => q _ _ _ w.2 (k.newLst hp (r1.app r2))⟩)
  · exact w.elim
theorem de_cat (ha : DE X c a wa) (hb : DE X c b wb) : DE X c (.BinOp a .Add b pos) (dOp fCat wa wb) := de_op (OpR.or op_add (OpR.or op_catA op_catQ)) rz_cat ha hb
end
abbrev Wo := Ev → (Option Int → Ev → Prop) → Prop
def tOpt (K : PySem.W.Frag) (c : Cf) (w : Wo) : TO := fun σ H Q => ∃ M ev pd R, Ok K c M σ H ev pd ∧ w ev R ∧ ∀ b ev', R b ev' → ∀ H', Ok K c M σ H' ev' pd → Q b H'
def cutD {α : Type} (xs : List α) (lo hi : Option Int) : List α := (xs.drop (HT.sIx xs.length 0 lo)).take (HT.sIx xs.length xs.length hi - HT.sIx xs.length 0 lo)
def doN : Wo := fun ev Q => Q none ev
def doS (w : Wx) : Wo := fun ev Q => w ev fun d e => match d with
  | .int i => Q (some i) e
  | _ => False
def fSl (lo hi : Option Int) : PyData → (PyData → Prop) → Prop
  | .tuple ds, Q => Q (.tuple (cutD ds lo hi))
  | .list ds, Q => Q (.list (cutD ds lo hi))
  | _, _ => False
def dSl (w : Wx) (lo hi : Wo) : Wx := fun ev Q => w ev fun d e => lo e fun l e1 => hi e1 fun h e2 => fSl l h d fun z => Q z e2
theorem cut_rel {K : PySem.W.Frag} {H : Hp} {vs : List V} {ds : List PyData} (r : DzAll K H vs ds) (lo hi : Option Int) : DzAll K H (cutV vs lo hi) (cutD ds lo hi) := by
  unfold cutD
  rw [← r.len]
  exact (r.drop _).take _
theorem cut_all {ds : List PyData} {lo hi : Option Int} (h1 : HT.sIx ds.length 0 lo = 0) (h2 : HT.sIx ds.length ds.length hi = ds.length) : cutD ds lo hi = ds := by
  unfold cutD
  rw [h1, h2]
  simp
section
variable {X : Cx} {c : Cf} {a b : Expr} {wa wb : Wx} {pos : Pos}
abbrev DO (X : Cx) (c : Cf) (e : Option Expr) (w : Wo) : Prop := PO X e (tOpt X.K c w)
theorem poM {X : Cx} {e : Option Expr} {t t' : TO} (p : PO X e t) (h : ∀ σ H Q, t' σ H Q → t σ H Q) : PO X e t' := ⟨fun pins s σ H Q I q => p.run pins s σ H Q I (h σ H Q q)⟩
theorem do_none : DO X c none doN := poM po_none fun σ H Q ⟨M, ev, pd, R, k, w, q⟩ => q none ev w H k
theorem do_some (ha : DE X c a wa) : DO X c (some a) (doS wa) := poM (po_some ha) fun σ H Q ⟨M, ev, pd, R, k, w, q⟩ => ⟨M, ev, pd, _, k, w, fun d e h v H1 k1 => by
  have t := k1.top
  split at h
  · cases t
    exact ⟨_, rfl, q _ e h H1 k1.pop1⟩
  · exact h.elim⟩
theorem de_slice {lo hi : Option Expr} {wl wh : Wo} {p2 : Pos} (ha : DE X c a wa) (h1 : DO X c lo wl) (h2 : DO X c hi wh) : DE X c (.Subscript a (.Slice lo hi none p2) pos) (dSl wa wl wh) :=
  peM (pe_slice (SlR.or sl_tupA sl_list) ha h1 h2) fun σ H Q ⟨M, ev, pd, R, k, w, q⟩ => ⟨M, ev, pd, _, k, w, fun d e y v H1 k1 => ⟨M, e, _, _, k1, y, fun l e1 y1 H2 k2 => ⟨M, e1, _, _, k2, y1, fun r e2 y2 H3 k3 => by
    have t := k3.top
    unfold fSl at y2
    split at y2
    · cases t with
      | tup g1 g2 =>
        refine .inl ⟨_, _, rfl, sqT_up msk_sub g1, fun z => ?_, fun z p hp => q _ e2 y2 _ _ (k3.pop1.newTup hp (cut_rel g2 l r))⟩
        rw [g2.len] at z
        rw [cut_all z.1 z.2] at y2
        exact q _ e2 y2 _ _ (k3.pop1.push (.tup g1 g2))
    · cases t with
      | lst g1 g2 => exact .inr ⟨_, _, rfl, sqL_up msk_sub g1, fun p hp => q _ e2 y2 _ _ (k3.pop1.newLst hp (cut_rel g2 l r))⟩
    · exact y2.elim⟩⟩⟩
end
def inD (d : PyData) (ds : List PyData) : Bool := ds.any fun z => PyData.eqv z d
def fIn : PyData → PyData → (PyData → Prop) → Prop
  | d, .list ds, Q => (shp d ∧ shp (.list ds)) ∧ Q (.bool (inD d ds))
  | d, .tuple ds, Q => (shp d ∧ shp (.tuple ds)) ∧ Q (.bool (inD d ds))
  | _, _, _ => False
def rInQ (K : PySem.W.Frag) : R2 := fun x y H Q => ∃ d ds e, Dp K H x d ∧ Dp K H y e ∧ (e = .list ds ∨ e = .tuple ds) ∧ shp d ∧ shp e ∧ Q (.bl (inD d ds)) H
section
variable {X : Cx} {c : Cf} {a b : Expr} {wa wb : Wx} {pos : Pos} {n : Nat}
theorem op_inQ (hu : X.A.units + 65 < cLine) : OpR X (compareOp .In) (rInQ X.K) := by
  intro pins s σ H x y v u Q I rx ry h
  obtain ⟨d, ds, e, hd, he, ty, sd, se, q⟩ := h
  obtain ⟨as, r1⟩ := Dp.reads I d x v hd rx
  obtain ⟨bs, r2⟩ := Dp.reads I e y u he ry
  rcases ty with rfl | rfl
  · exact SeqAt.in_list_reads r2 r1 (SeqAt.canLay_of_shaped se) (SeqAt.canLay_of_shaped sd) (by have := SeqAt.depth_of_shaped sd; omega) ⟨.bl _, H, I, rfl, q⟩
  · exact SeqAt.in_tuple_reads r2 r1 (SeqAt.canLay_of_shaped se) (SeqAt.canLay_of_shaped sd) (by have := SeqAt.depth_of_shaped sd; omega) ⟨.bl _, H, I, rfl, q⟩
theorem rz_in {K : PySem.W.Frag} : RZ2 K (rInQ K) fIn := by
  intro c M σ H ev pd v u x y R Q k a b w q
  unfold fIn at w
  split at w
  · exact ⟨_, _, _, (unm a).dp (shp_nd w.1.1), (unm b).dp (shp_nd w.1.2), .inl rfl, w.1.1, w.1.2, q _ _ _ w.2 (k.push (.bl _))⟩
  · exact ⟨_, _, _, (unm a).dp (shp_nd w.1.1), (unm b).dp (shp_nd w.1.2), .inr rfl, w.1.1, w.1.2, q _ _ _ w.2 (k.push (.bl _))⟩
  · exact w.elim
theorem room65 (hr : Room n X.A) : X.A.units + 65 < cLine := by have := hr.un; omega
theorem de_in (hr : Room n X.A) (ha : DE X c a wa) (hb : DE X c b wb) (hm : behindInMarks .In b = false := by rfl) : DE X c (.Compare a [.In] [b] pos) (dOp fIn wa wb) := de_cmp (op_inQ (room65 hr)) rz_in ha hb hm
end
end Z
set_option Elab.async false
set_option linter.all false
set_option maxRecDepth 100000
namespace Z
open PySem L2
structure Ed where
  nx : Ev → Prop
  rt : PyData → Ev → Prop
  bk : Ev → Prop := fun _ => False
  ct : Ev → Prop := fun _ => False
  rl : List PyData → Ev → Prop := fun _ _ => False
abbrev Ws := Ed → Ev → Prop
structure Fin (K : PySem.W.Frag) (c : Cf) (pd : List (V × PyData)) (R : Ed) (De : Ends) : Prop where
  nx : ∀ ev', R.nx ev' → ∀ M' σ' H', Ok K c M' σ' H' ev' pd → De.nx σ' H'
  rt : ∀ d ev', R.rt d ev' → ∀ M' σ' v H', Ok K c M' σ' H' ev' pd → Dz K (msk c.Mk H') v d → De.rt v H'
  bk : ∀ ev', R.bk ev' → ∀ M' σ' H', Ok K c M' σ' H' ev' pd → De.bk σ' H'
  ct : ∀ ev', R.ct ev' → ∀ M' σ' H', Ok K c M' σ' H' ev' pd → De.ct σ' H'
  rl : ∀ ds ev', R.rl ds ev' → ∀ M' σ' p vs H', Ok K c M' σ' H' ev' pd → c.H0 p = none → H' p = some (.lst vs) → DzAll K (msk c.Mk H') vs ds → De.rt (.ref p) H'
def tS (K : PySem.W.Frag) (c : Cf) (w : Ws) : TS := fun De σ H => ∃ M ev pd R, Ok K c M σ H ev pd ∧ w R ev ∧ Fin K c pd R De
abbrev DS (X : Cx) (c : Cf) (st : Stmt) (w : Ws) : Prop := PS X st (tS X.K c w)
abbrev DSs (X : Cx) (c : Cf) (st : List Stmt) (w : Ws) : Prop := PSs X st (tS X.K c w)
def wNx : Ws := fun E ev => E.nx ev
def wSeq (a b : Ws) : Ws := fun E ev => a { E with nx := b E } ev
def wRet (w : Wx) : Ws := fun E ev => w ev fun d e => E.rt d e
def wDrop (w : Wx) : Ws := fun E ev => w ev fun _ e => E.nx e
def wIf (t : Wt) (a b : Ws) : Ws := fun E ev => t ev fun x e => if x = true then a E e else b E e
def wNever : Ws := fun _ _ => False
section
variable {X : Cx} {c : Cf} {pos : Pos} {st : Stmt} {sts : List Stmt} {e : Expr} {w : Wx} {a b : Ws}
theorem dss_nil : DSs X c [] wNx := pssM pss_nil fun De σ H ⟨M, ev, pd, R, k, h, f⟩ => f.nx ev h M σ H k
theorem dss_cons (h1 : DS X c st a) (h2 : DSs X c sts b) : DSs X c (st :: sts) (wSeq a b) := pssM (pss_cons h1 h2) fun De σ H ⟨M, ev, pd, R, k, h, f⟩ =>
  ⟨M, ev, pd, _, k, h, ⟨fun ev' q M' σ' H' k' => ⟨M', ev', pd, R, k', q, f⟩, f.rt, f.bk, f.ct, f.rl⟩⟩
theorem dss_one (h1 : DS X c st a) : DSs X c [st] a := pss_one h1
theorem unMk {K : PySem.W.Frag} {M : Mz} {σ : Sg} {H : Hp} {ev : Ev} {pd : List (V × PyData)} {v : V} {d : PyData} (k : Ok K c M σ H ev pd) (h : Dz K (msk M H) v d) : Dz K (msk c.Mk H) v d := h.up (msk_less k.sub)
theorem ds_ret (h : DE X c e w) : DS X c (.Return (some e) pos) (wRet w) := psM (ps_ret h) fun De σ H ⟨M, ev, pd, R, k, h, f⟩ =>
  ⟨M, ev, pd, _, k, h, fun d ev' q v H' k' => f.rt d ev' q M σ v H' k'.pop1 (unMk k' k'.top)⟩
/-- return [..]: a new list -/
def wRetL (u : Wa) : Ws := fun E ev => u ev fun ds e => ds.length ≤ 1000 ∧ E.rl ds e
theorem ds_retL {es : List Expr} {u : Wa} {p2 : Pos} (h : DA X c es u) : DS X c (.Return (some (.List es p2)) pos) (wRetL u) := psM (ps_ret (pe_lst h)) fun De σ H ⟨M, ev, pd, R, k, h, f⟩ =>
  ⟨M, ev, pd, _, k, h, fun ds ev' ⟨l, q⟩ vs H' k' r => ⟨by rw [r.len]; exact line_of l, fun p hp => f.rl ds ev' q M σ p vs _ (k'.new hp) (k'.h0 hp).1 upd_same ((r.up (msk_less k'.sub)).up (msk_same fun b o e _ => up_new hp b o e))⟩⟩
theorem ds_expr (h : DE X c e w) (hs : swapsWith e none pos.line X.env = pure false := by rfl) : DS X c (.Expr e pos) (wDrop w) := psM (ps_expr h hs) fun De σ H ⟨M, ev, pd, R, k, h, f⟩ => ⟨M, ev, pd, _, k, h, fun d ev' q v H' k' => f.nx ev' q M σ H' k'.pop1⟩
theorem ds_if {t : Wt} {tst : Expr} {xs ys : List Stmt} (ht : DT X c tst t) (hx : DSs X c xs a) (hy : DSs X c ys b) : DS X c (.If tst xs ys pos) (wIf t a b) := psM (ps_if ht hx hy) fun De σ H ⟨M, ev, pd, R, k, h, f⟩ =>
  ⟨M, ev, pd, _, k, h, fun z ev' q H' k' => by
    by_cases z : z = true
    · rw [if_pos z] at q ⊢
      exact ⟨M, ev', pd, R, k', q, f⟩
    · rw [if_neg z] at q ⊢
      exact ⟨M, ev', pd, R, k', q, f⟩⟩
theorem dss_never : DSs X c sts wNever := pssM pss_never fun De σ H ⟨M, ev, pd, R, k, h, f⟩ => h
end
/-- but for some slots the values by slot are as they were -/
def OffOnly (vs : List Nat) (σ σ' : Sg) : Prop := σ'.length = σ.length ∧ ∀ j, j ∉ vs → σ'[j]? = σ[j]?
theorem OffOnly.refl {vs : List Nat} {σ : Sg} : OffOnly vs σ σ := ⟨rfl, fun _ _ => rfl⟩
theorem OffOnly.trans {vs : List Nat} {σ σ1 σ2 : Sg} (a : OffOnly vs σ σ1) (b : OffOnly vs σ1 σ2) : OffOnly vs σ σ2 := ⟨b.1.trans a.1, fun j h => (b.2 j h).trans (a.2 j h)⟩
theorem OffOnly.set {vs : List Nat} {σ : Sg} {i : Nat} {x : Option V} (h : i ∈ vs) : OffOnly vs σ (σ.set i x) := ⟨List.length_set, fun j n => List.getElem?_set_ne (fun e => n (by rw [← e]; exact h))⟩
abbrev Wg := PyData → Ev → (Ev → Prop) → Prop
def tG (K : PySem.W.Frag) (c : Cf) (vs : List Nat) (g : Wg) : TG := fun v σ H Q => ∃ M ev pd d R, Ok K c M σ H ev ((v, d) :: pd) ∧ g d ev R ∧ ∀ ev', R ev' → ∀ σ' H', OffOnly vs σ σ' → Ok K c M σ' H' ev' pd → Q σ' H'
abbrev DG (X : Cx) (c : Cf) (vs : List Nat) (tg : Expr) (g : Wg) : Prop := PG X tg (tG X.K c vs g)
theorem pgM {X : Cx} {e : Expr} {t t' : TG} (p : PG X e t) (h : ∀ v σ H Q, t' v σ H Q → t v σ H Q) : PG X e t' := ⟨fun pins s σ H v u Q I r q => p.run pins s σ H v u Q I r (h v σ H Q q)⟩
def gN (i : Nat) : Wg := fun d ev Q => match ev[i]? with
  | some (some (.own _)) => False
  | some _ => Q (ev.set i (some (.val d)))
  | none => False
theorem gN_of {i : Nat} {d : PyData} {ev : Ev} {Q : Ev → Prop} (h : gN i d ev Q) : notOwn ev i ∧ Q (ev.set i (some (.val d))) := by
  unfold gN at h
  unfold notOwn
  split at h
  · exact h.elim
  · rename_i z n e
    try rw [e]
    refine ⟨?_, h⟩
    cases z with
    | none => trivial
    | some s => cases s with
      | val _ => trivial
      | own ds => exact (n ds rfl).elim
  · exact h.elim
theorem zip_pend {K : PySem.W.Frag} {H : Hp} : ∀ {vs : List V} {ds : List PyData}, DzAll K H vs ds → ∀ p ∈ vs.zip ds, Dz K H p.1 p.2
  | _, _, .nil, p, hp => by cases hp
  | _, _, .cons a b, p, hp => by
    rcases List.mem_cons.mp hp with e | hp
    · rw [e]; exact a
    · exact zip_pend b p hp
theorem Ok.pushA {K : PySem.W.Frag} {c : Cf} {M : Mz} {σ : Sg} {H : Hp} {ev : Ev} {pd : List (V × PyData)} (k : Ok K c M σ H ev pd) {vs : List V} {ds : List PyData} (h : DzAll K (msk M H) vs ds) : Ok K c M σ H ev (vs.zip ds ++ pd) := by
  refine ⟨k.len, k.val, k.own, k.inj, fun p hp => ?_, k.frame, k.sub, k.dom, k.mkd, k.lk, k.tank⟩
  rcases List.mem_append.mp hp with hp | hp
  · exact zip_pend h p hp
  · exact k.pend p hp
section
variable {X : Cx} {c : Cf} {pos : Pos} {vs : List Nat}
theorem dg_name {i : Nat} {e : Expr} (h : PG X e (gName i)) (hi : i ∈ vs) : DG X c vs e (gN i) := pgM h fun v σ H Q ⟨M, ev, pd, d, R, k, w, q⟩ => by
  obtain ⟨n, w⟩ := gN_of w
  exact q _ w _ H (.set hi) (k.pop1.set n k.top)
abbrev Wgs := List PyData → Ev → (Ev → Prop) → Prop
def gsN : Wgs := fun ds ev Q => match ds with
  | [] => Q ev
  | _ => False
def gsC (g : Wg) (gs : Wgs) : Wgs := fun ds ev Q => match ds with
  | d :: r => g d ev fun e => gs r e Q
  | [] => False
def tGs (K : PySem.W.Frag) (c : Cf) (ks : List Nat) (g : Wgs) : TGs := fun vs σ H Q => ∃ M ev pd ds R, Ok K c M σ H ev (vs.zip ds ++ pd) ∧ vs.length = ds.length ∧ g ds ev R ∧ ∀ ev', R ev' → ∀ σ' H', OffOnly ks σ σ' → Ok K c M σ' H' ev' pd → Q σ' H'
abbrev DGs (X : Cx) (c : Cf) (vs : List Nat) (tg : List Expr) (g : Wgs) : Prop := PGs X tg (tGs X.K c vs g)
theorem pgsM {X : Cx} {e : List Expr} {t t' : TGs} (p : PGs X e t) (h : ∀ v σ H Q, t' v σ H Q → t v σ H Q) : PGs X e t' := ⟨fun pins s σ H v u Q I r q => p.run pins s σ H v u Q I r (h v σ H Q q)⟩
theorem dgs_nil : DGs X c vs [] gsN := pgsM pgs_nil fun vs σ H Q ⟨M, ev, pd, ds, R, k, l, w, q⟩ => by
  unfold gsN at w
  split at w
  · have e : vs = [] := List.length_eq_zero_iff.mp l
    subst e
    exact ⟨rfl, q _ w _ _ .refl k⟩
  · exact w.elim
theorem dgs_cons {e : Expr} {es : List Expr} {g : Wg} {gs : Wgs} (h : DG X c vs e g) (h2 : DGs X c vs es gs) (hs : (assignEach (e :: es) X.env).map (·.2) = assign e X.env :: (assignEach es X.env).map (·.2) := by rfl) : DGs X c vs (e :: es) (gsC g gs) :=
  pgsM (pgs_cons h h2 hs) fun vs σ H Q ⟨M, ev, pd, ds, R, k, l, w, q⟩ => by
    unfold gsC at w
    split at w
    · rename_i d r
      cases vs with
      | nil => cases l
      | cons v us =>
        refine ⟨v, us, rfl, M, ev, _, d, _, k, w, fun ev1 h1 σ1 H1 o1 k1 => ⟨M, ev1, pd, r, R, k1, by simpa using l, h1, fun ev2 h2 σ2 H2 o2 k2 => q ev2 h2 σ2 H2 (o1.trans o2) k2⟩⟩
    · exact w.elim
def gT (n : Nat) (gs : Wgs) : Wg := fun d ev Q => match d with
  | .tuple ds => ds.length = n ∧ gs ds ev Q
  | _ => False
theorem dg_tup {es : List Expr} {gs : Wgs} {n k : Nat} (hc : X.calm = true) (h : DGs X c vs es gs) (h1 : (assignEach es X.env).length = n := by rfl) (h2 : (assignEach es X.env).findIdx? (·.1) = none := by rfl) :
    DG X c vs (.Tuple es k pos) (gT n gs) := pgM (pg_tup (n := n) hc h h1 h2) fun v σ H Q ⟨M, ev, pd, d, R, k, w, q⟩ => by
  have t := k.top
  unfold gT at w
  split at w
  · cases t with
    | tup g1 g2 => exact ⟨_, _, rfl, sqT_up msk_sub g1, by rw [g2.len]; exact w.1, M, ev, pd, _, R, k.pop1.pushA g2, g2.len, w.2, q⟩
  · exact w.elim
/-- x[i] = v, x an own list -/
def gSb (i : Nat) (w : Wx) : Wg := fun d ev Q => match ev[i]? with
  | some (some (.own _)) => w ev fun j e => match j with
    | .int j => match e[i]? with
      | some (some (.own ds)) => match ixN ds.length j with
        | some n => Q (e.set i (some (.own (ds.set n d))))
        | none => False
      | _ => False
    | _ => False
  | _ => False
theorem Ok.slotV {K : PySem.W.Frag} {c : Cf} {M : Mz} {σ : Sg} {H : Hp} {ev : Ev} {pd : List (V × PyData)} (k : Ok K c M σ H ev pd) {i : Nat} {ds : List PyData} (h : ev[i]? = some (some (.own ds))) : ∃ a vs, σ[i]? = some (some (.ref a)) ∧ H a = some (.lst vs) ∧ (M a).1 = 1 ∧ DzAll K (msk M H) vs ds :=
  let ⟨a, vs, e1, e2, _, e4, e5⟩ := k.own i ds h
  ⟨a, vs, e1, e4, e2, e5⟩
theorem msk_upd {M : Mz} {H : Hp} {a : Addr} {o : HO} (h : (M a).1 ≠ 0) : msk M (upd H a o) = msk M H := by
  funext b
  unfold msk
  by_cases z : (M b).1 = 0
  · rw [if_pos z, if_pos z, upd_ne (fun y => h (by rw [← y]; exact z))]
  · rw [if_neg z, if_neg z]
theorem Ok.put {K : PySem.W.Frag} {c : Cf} {M : Mz} {σ : Sg} {H : Hp} {ev : Ev} {pd : List (V × PyData)} (k : Ok K c M σ H ev pd) {i : Nat} {a : Addr} {ds es : List PyData} {us : List V} (h : ev[i]? = some (some (.own ds))) (ha : σ[i]? = some (some (.ref a))) (q : DzAll K (msk M H) us es) :
    Ok K c M σ (upd H a (.lst us)) (ev.set i (some (.own es))) pd := by
  obtain ⟨a', vs, e1, e2, e3, e4⟩ := k.slotV h
  obtain rfl : a' = a := by rw [ha] at e1; cases e1; rfl
  exact k.write h ha (fun b o e n => by rw [upd_ne n]; exact e) upd_same (by rw [msk_upd (by rw [e3]; decide)]; exact q)
theorem dg_sub {i : Nat} {eo ei : Expr} {w : Wx} (ho : PE X eo (tVar i)) (hi : DE X c ei w) (h1 : ∀ v : Value, assign (.Subscript eo ei pos) X.env v = (do
      let ov ← holding [v] (eval eo X.env)
      let iv ← holding [v, ov] (eval ei X.env)
      standAt pos
      holding [v, ov, iv] (setItem ov iv v)
      release [v, ov, iv] []) := by intro _; rfl) : DG X c vs (.Subscript eo ei pos) (gSb i w) := pgM (pg_sub (pos := pos) ho hi set_list h1) fun v σ H Q ⟨M, ev, pd, d, R, k, w, q⟩ => by
  unfold gSb at w
  split at w
  · rename_i ds0 e0
    obtain ⟨a, us, a1, a2, a3, a4⟩ := k.slotV e0
    refine ⟨.ref a, a1, M, ev, _, _, k, w, fun j e h u H1 k1 => ?_⟩
    have t := k1.top
    split at h
    · cases t
      split at h
      · rename_i ds e1
        split at h
        · rename_i n e2
          obtain ⟨a', us', b1, b2, b3, b4⟩ := k1.slotV e1
          obtain rfl : a = a' := by rw [a1] at b1; cases b1; rfl
          exact ⟨a, us', _, n, rfl, rfl, b2, by rw [b4.len]; exact e2, q _ h σ _ .refl (k1.pop1.pop1.put e1 a1 (b4.set k1.pop1.top n))⟩
        · exact h.elim
      · exact h.elim
    · exact h.elim
  · exact w.elim
end
def wAsg (w : Wx) (g : Wg) : Ws := fun E ev => w ev fun d e => g d e E.nx
section
variable {X : Cx} {c : Cf} {pos : Pos} {vs : List Nat}
theorem asg_rd {w : Wx} {g : Wg} {De : Ends} {σ : Sg} {H : Hp} (h : tS X.K c (wAsg w g) De σ H) : tAsg (tE X.K c w) (tG X.K c vs g) De σ H := by
  obtain ⟨M, ev, pd, R, k, h, f⟩ := h
  exact ⟨M, ev, pd, _, k, h, fun d e q v H' k' => ⟨M, e, pd, d, _, k', q, fun ev' z σ' H'' _ k'' => f.nx ev' z M σ' H'' k''⟩⟩
theorem ds_asg {tg e : Expr} {w : Wx} {g : Wg} (he : DE X c e w) (hg : DG X c vs tg g) (h1 : swapsWithSole [tg] e pos.line X.env = pure false := by rfl) (h2 : swappedStores [tg] e X.env = pure none := by rfl) (h3 : (assignEach [tg] X.env).map (·.2) = [assign tg X.env] := by rfl) :
    DS X c (.Assign [tg] e pos) (wAsg w g) := psM (ps_asg he hg h1 h2 h3) fun _ _ _ h => asg_rd (vs := vs) h
theorem ds_set {i : Nat} {x : Str} {e : Expr} {w : Wx} {pos' : Pos} (hN : X.N.Nodup) (hi : X.N[i]? = some x) (hx : Loc X.env.scope x) (he : DE X c e w) (h1 : swapsWith e (some (.Name x pos')) pos.line X.env = pure false := by rfl)
    (hf : X.fn x = true ∨ X.env.scope.names.lookup x = some .local := by first | exact .inl rfl | exact .inr rfl | assumption) : DS X c (.Assign [.Name x pos'] e pos) (wAsg w (gN i)) :=
  psM (ps_set hN hi hx he h1 hf) fun De σ H ⟨M, ev, pd, R, k, h, f⟩ => ⟨M, ev, pd, _, k, h, fun d e q v H' k' => by
    obtain ⟨n, w⟩ := gN_of q
    exact f.nx _ w M _ H' (k'.pop1.set n k'.top)⟩
/-- a, b = e, f, both read ahead of both stores -/
def wPar (i j : Nat) (u : Wa) : Ws := fun E ev => u ev fun ds e => match ds with
  | [x, y] => gN i x e fun e1 => gN j y e1 E.nx
  | _ => False
theorem ds_par {i j : Nat} {x y : Str} {a b : Expr} {u : Wa} {px py pt : Pos} {kt k2 pt2} (hc : X.calm = true) (hN : X.N.Nodup) (hi : X.N[i]? = some x) (hj : X.N[j]? = some y) (hij : i ≠ j)
    (hx : X.env.scope.names.lookup x = some .local) (hy : X.env.scope.names.lookup y = some .local) (ha : DA X c [a, b] u)
    (hw : swappedStores [.Tuple [.Name x px, .Name y py] kt pt] (.Tuple [a, b] k2 pt2) X.env = pure (some [x, y]))
    (hs : swapsWithSole [.Tuple [.Name x px, .Name y py] kt pt] (.Tuple [a, b] k2 pt2) pos.line X.env = pure false := by rfl) :
    DS X c (.Assign [.Tuple [.Name x px, .Name y py] kt pt] (.Tuple [a, b] k2 pt2) pos) (wPar i j u) :=
  psM (ps_par hc hN hi hj hij hx hy ha hw hs) fun De σ H ⟨M, ev, pd, R, k, h, f⟩ => ⟨M, ev, pd, _, k, h, fun ds e q vs H' k' r => by
    split at q
    · cases r with
      | cons r1 r2 =>
        cases r2 with
        | cons r2 r3 =>
          cases r3
          obtain ⟨n1, w1⟩ := gN_of q
          obtain ⟨n2, w2⟩ := gN_of w1
          exact ⟨_, _, rfl, f.nx _ w2 M _ H' ((k'.set n1 r1).set n2 r2)⟩
    · exact q.elim⟩
end
/-- J walks the data ds, as long as p is held -/
theorem Ok.popL {K : PySem.W.Frag} {c : Cf} {M : Mz} {σ : Sg} {H : Hp} {ev : Ev} {pd : List (V × PyData)} (p : List (V × PyData)) (k : Ok K c M σ H ev (p ++ pd)) : Ok K c M σ H ev pd := k.pop fun r hr => List.mem_append_right _ hr
def Walks (K : PySem.W.Frag) (J : It) (p : List (V × PyData)) (ds : List PyData) : Prop := ∀ (c : Cf) (M : Mz) (σ : Sg) (H : Hp) (ev : Ev) (pd : List (V × PyData)) (i : Nat), Ok K c M σ H ev (p ++ pd) →
  (ds.length ≤ i → J.stop i H) ∧ ∀ d, ds[i]? = some d → J.go i H ∧ ∀ x H', J.yld i H x H' → Ok K c M σ H' ev ((x, d) :: (p ++ pd)) ∧ ∀ b o, H b = some o → H' b = some o
def tI (K : PySem.W.Frag) (c : Cf) (w : Wa) : TI := fun σ H R => ∃ M ev pd Rr, Ok K c M σ H ev pd ∧ w ev Rr ∧ ∀ ds ev', Rr ds ev' → ∀ p H' J, Ok K c M σ H' ev' (p ++ pd) → Walks K J p ds → R J H'
abbrev DI (X : Cx) (c : Cf) (tg iter : Expr) (w : Wa) : Prop := PI X tg iter (tI X.K c w)
theorem piM {X : Cx} {tg e : Expr} {t t' : TI} (p : PI X tg e t) (h : ∀ σ H Q, t' σ H Q → t σ H Q) : PI X tg e t' := ⟨fun pins s σ H Q I q => p.run pins s σ H Q I (h σ H Q q)⟩
def diL (w : Wx) : Wa := fun ev Q => w ev fun d e => match d with
  | .list ds => Q ds e
  | _ => False
def diT (w : Wx) : Wa := fun ev Q => w ev fun d e => match d with
  | .tuple ds => Q ds e
  | _ => False
def rngD (lo : Int) (n : Nat) : List PyData := (List.range n).map fun i => .int (lo + (i : Nat))
def diR1 (u : Wa) : Wa := fun ev Q => u ev fun ds e => match ds with
  | [.int j] => (-(2 ^ 62) ≤ j ∧ j < 2 ^ 62) ∧ Q (rngD 0 j.toNat) e
  | _ => False
theorem rng_get {lo : Int} {n i : Nat} {d : PyData} (h : (rngD lo n)[i]? = some d) : i < n ∧ d = .int (lo + (i : Nat)) := by
  unfold rngD at h
  rw [List.getElem?_map] at h
  obtain ⟨j, h1, h2⟩ := Option.map_eq_some_iff.mp h
  by_cases q : i < n
  · rw [List.getElem?_range q] at h1
    cases h1
    exact ⟨q, h2.symm⟩
  · rw [List.getElem?_eq_none (by simpa using q)] at h1
    cases h1
section
variable {X : Cx} {c : Cf} {pos p : Pos} {tg : Expr}
theorem walks_lst {K : PySem.W.Frag} {a : Addr} {ds : List PyData} : Walks K (Itl K a) [(.ref a, .list ds)] ds := by
  intro c M σ H ev pd i k
  have t := k.top
  cases t with
  | lst h r =>
    rename_i xs
    refine ⟨fun l => ⟨xs, sqL_up msk_sub h, by rw [r.len]; exact l⟩, fun d e => ?_⟩
    obtain ⟨v, e1, e2⟩ := r.get i e
    refine ⟨⟨xs, v, sqL_up msk_sub h, e1⟩, fun x H' y => ?_⟩
    obtain ⟨y1, y2⟩ := y
    subst y1
    have z := y2 xs (sqL_up msk_sub h)
    rw [e1] at z
    cases z
    exact ⟨k.push e2, fun _ _ q => q⟩
theorem walks_tup {K : PySem.W.Frag} {a : Addr} {ds : List PyData} : Walks K (Itt K a) [(.ref a, .tuple ds)] ds := by
  intro c M σ H ev pd i k
  have t := k.top
  cases t with
  | tup h r =>
    rename_i xs
    refine ⟨fun l => ⟨xs, sqT_up msk_sub h, by rw [r.len]; exact l⟩, fun d e => ?_⟩
    obtain ⟨v, e1, e2⟩ := r.get i e
    refine ⟨⟨xs, v, sqT_up msk_sub h, e1⟩, fun x H' y => ?_⟩
    obtain ⟨y1, y2⟩ := y
    subst y1
    have z := y2 xs (sqT_up msk_sub h)
    rw [e1] at z
    cases z
    exact ⟨k.push e2, fun _ _ q => q⟩
theorem walks_rng {K : PySem.W.Frag} {lo : Int} {n : Nat} : Walks K (Itr lo n) [(.non, .none)] (rngD lo n) := by
  intro c M σ H ev pd i k
  refine ⟨fun l => (by have z : n ≤ i := by (simpa [rngD] using l)
                       exact z), fun d e => ?_⟩
  obtain ⟨q1, q2⟩ := rng_get e
  refine ⟨q1, fun x H' y => ?_⟩
  obtain ⟨y1, y2⟩ := y
  subst y1
  subst y2
  subst q2
  exact ⟨k.push (.int _), fun _ _ q => q⟩
theorem di_list {l : Expr} {w : Wx} (h : DE X c l w) : DI X c tg l (diL w) := piM (pi_list h) fun σ H Q ⟨M, ev, pd, R, k, w, q⟩ => ⟨M, ev, pd, _, k, w, fun d e y v H1 k1 => by
  have t := k1.top
  split at y
  · cases t with
    | lst g r => exact ⟨_, rfl, ⟨_, sqL_up msk_sub g⟩, q _ e y _ H1 _ k1 walks_lst⟩
  · exact y.elim⟩
theorem di_tup {l : Expr} {w : Wx} (h : DE X c l w) : DI X c tg l (diT w) := piM (pi_tup h) fun σ H Q ⟨M, ev, pd, R, k, w, q⟩ => ⟨M, ev, pd, _, k, w, fun d e y v H1 k1 => by
  have t := k1.top
  split at y
  · cases t with
    | tup g r => exact ⟨_, rfl, ⟨_, sqT_up msk_sub g⟩, q _ e y _ H1 _ k1 walks_tup⟩
  · exact y.elim⟩
theorem di_rng1 {a : Expr} {u : Wa} (hg : Gl X "range") (hm : X.mg "range" = none) (ha : DA X c [a] u) (h1 : starEach [a] X.env = [(false, eval a X.env)] := by rfl) : DI X c tg (.Call (.Name "range" p) [a] [] pos) (diR1 u) :=
  piM (pi_range1 hg hm ha h1) fun σ H Q ⟨M, ev, pd, R, k, w, q⟩ => ⟨M, ev, pd, _, k, w, fun ds e y vs H1 k1 r => by
    split at y
    · cases r with
      | cons r1 r2 =>
        cases r1; cases r2
        exact ⟨_, rfl, y.1.1, y.1.2, q _ e y.2 _ H1 _ (k1.push .non) walks_rng⟩
    · exact y.elim⟩
end
def foD (g : Wg) (b : Ws) : List PyData → Ed → Ev → Prop
  | [], E, ev => E.nx ev
  | d :: ds, E, ev => g d ev fun e => b { nx := foD g b ds E, rt := E.rt, bk := E.nx, ct := foD g b ds E, rl := E.rl } e
def wFor (u : Wa) (g : Wg) (b : Ws) : Ws := fun E ev => u ev fun ds e => foD g b ds E e
section
variable {X : Cx} {c : Cf} {pos : Pos} {vs : List Nat}
theorem drop_cons {α : Type} {l : List α} {i : Nat} {x : α} (h : l[i]? = some x) : l.drop i = x :: l.drop (i + 1) := by
  have hi : i < l.length := by
    by_cases q : i < l.length
    · exact q
    · rw [List.getElem?_eq_none (by omega)] at h; cases h
  rw [List.getElem?_eq_getElem hi] at h
  rw [List.drop_eq_getElem_cons hi, Option.some.inj h]
theorem ds_for {tg iter : Expr} {body : List Stmt} {u : Wa} {g : Wg} {b : Ws} (hp : PassesOwn (model X.prog X.w) X.A X.env X.xe) (hc : X.calm = true) (hi : DI X c tg iter u) (hg : DG X c vs tg g) (hb : DSs X c body b)
    (h1 : ∀ x : Value, foldedSetIterable iter X.env x = pure x := by intro _; rfl) : DS X c (.For tg iter body [] pos) (wFor u g b) :=
  psM (ps_for hp hc hi hg hb h1) fun De σ H ⟨M, ev, pd, R, k, h, f⟩ => ⟨M, ev, pd, _, k, h, fun ds e q p H1 J k1 wk => by
    refine ⟨fun i m σ' H' => ∃ M' e', Ok X.K c M' σ' H' e' (p ++ pd) ∧ foD g b (ds.drop i) R e' ∧ i + m = ds.length, ⟨ds.length, M, e, k1, q, Nat.zero_add _⟩, fun i m σ' H' hW => ?_⟩
    obtain ⟨M', e', k', q', l⟩ := hW
    obtain ⟨w1, w2⟩ := wk c M' σ' H' e' pd i k'
    by_cases z : i < ds.length
    · obtain ⟨d, hd⟩ : ∃ d, ds[i]? = some d := ⟨_, List.getElem?_eq_getElem z⟩
      rw [drop_cons hd] at q'
      obtain ⟨y1, y2⟩ := w2 d hd
      refine .inr ⟨y1, fun σ2 H2 => ∃ M' e', Ok X.K c M' σ2 H2 e' (p ++ pd) ∧ foD g b (ds.drop (i + 1)) R e', fun σ2 H2 ⟨M2, e2, k2, q2⟩ => ⟨m - 1, by omega, M2, e2, k2, q2, by omega⟩, fun x H2 hy => ?_⟩
      obtain ⟨k2, _⟩ := y2 x H2 hy
      refine ⟨M', e', p ++ pd, d, _, k2, q', fun e3 q3 σ3 H3 _ k3 => ?_⟩
      refine ⟨M', e3, p ++ pd, _, k3, q3, ⟨fun e4 q4 M4 σ4 H4 k4 => ⟨M4, e4, k4, q4⟩, fun d e4 q4 M4 σ4 v H4 k4 r4 => f.rt d e4 q4 M4 σ4 v H4 (k4.popL p) r4, fun e4 q4 M4 σ4 H4 k4 => f.nx e4 q4 M4 σ4 H4 (k4.popL p), fun e4 q4 M4 σ4 H4 k4 => ⟨M4, e4, k4, q4⟩, fun ds e4 q4 M4 σ4 p4 vs H4 k4 => f.rl ds e4 q4 M4 σ4 p4 vs H4 (k4.popL p)⟩⟩
    · rw [List.drop_of_length_le (by omega)] at q'
      exact .inl ⟨w1 (by omega), f.nx e' q' M' σ' H' (k'.popL p)⟩⟩
def whD (t : Wt) (b : Ws) : Nat → Ed → Ev → Prop
  | 0, _, _ => False
  | n + 1, E, ev => t ev fun x e => if x = true then b { nx := whD t b n E, rt := E.rt, bk := E.nx, ct := whD t b n E, rl := E.rl } e else E.nx e
def wWhile (t : Wt) (b : Ws) : Ws := fun E ev => ∃ n, whD t b n E ev
theorem ds_while {tst : Expr} {body : List Stmt} {t : Wt} {b : Ws} (hp : PassesOwn (model X.prog X.w) X.A X.env X.xe) (ht : DT X c tst t) (hb : DSs X c body b) : DS X c (.While tst body [] pos) (wWhile t b) :=
  psM (ps_while hp ht hb) fun De σ H ⟨M, ev, pd, R, k, ⟨n, h⟩, f⟩ => by
    refine ⟨fun m σ' H' => ∃ M' e', Ok X.K c M' σ' H' e' pd ∧ whD t b m R e', ⟨n, M, ev, k, h⟩, fun m σ' H' hW => ?_⟩
    obtain ⟨M', e', k', q'⟩ := hW
    cases m with
    | zero => exact q'.elim
    | succ m =>
      refine ⟨M', e', pd, _, k', q', fun z e2 q2 H2 k2 => ?_⟩
      by_cases z : z = true
      · rw [if_pos z] at q2 ⊢
        refine ⟨fun σ3 H3 => ∃ M' e', Ok X.K c M' σ3 H3 e' pd ∧ whD t b m R e', fun σ3 H3 h3 => ⟨m, Nat.lt_succ_self m, h3⟩, M', e2, pd, _, k2, q2, ⟨fun e4 q4 M4 σ4 H4 k4 => ⟨M4, e4, k4, q4⟩, f.rt, f.nx, fun e4 q4 M4 σ4 H4 k4 => ⟨M4, e4, k4, q4⟩, f.rl⟩⟩
      · rw [if_neg z] at q2 ⊢
        exact f.nx e2 q2 M' σ' H2 k2
end
end Z
set_option Elab.async false
set_option linter.all false
set_option maxRecDepth 100000
namespace Z
open PySem L2
def wipeD (ev : Ev) : List Nat → Ev
  | [] => ev
  | v :: vs => (wipeD ev vs).set v none
/-- the comprehension's own names hold nothing -/
def cleanB (ev : Ev) : List Nat → Bool
  | [] => true
  | v :: vs => (match ev[v]? with
    | some none => true
    | _ => false) && cleanB ev vs
theorem clean_at {ev : Ev} : ∀ {vs : List Nat}, cleanB ev vs = true → ∀ v ∈ vs, ev[v]? = some none
  | [], _, v, h => by cases h
  | u :: us, c, v, h => by
    unfold cleanB at c
    rw [Bool.and_eq_true] at c
    rcases List.mem_cons.mp h with e | h
    · rw [e]
      have c1 := c.1
      split at c1
      · assumption
      · cases c1
    · exact clean_at c.2 v h
theorem wipe_get {σ : Sg} {j : Nat} : ∀ {vs : List Nat}, (wipe σ vs)[j]? = if j ∈ vs ∧ j < σ.length then some none else σ[j]?
  | [] => by rw [if_neg (by simp)]; rfl
  | v :: vs => by
    have ih := wipe_get (σ := σ) (j := j) (vs := vs)
    unfold wipe
    by_cases e : v = j
    · subst e
      by_cases l : v < σ.length
      · rw [List.getElem?_set_self (by rw [wipe_length]; exact l), if_pos ⟨List.mem_cons_self .., l⟩]
      · rw [if_neg (fun z => l z.2), List.getElem?_eq_none (by rw [List.length_set, wipe_length]; omega), List.getElem?_eq_none (by omega)]
    · rw [List.getElem?_set_ne e, ih]
      by_cases m : j ∈ vs ∧ j < σ.length
      · rw [if_pos m, if_pos ⟨List.mem_cons_of_mem _ m.1, m.2⟩]
      · rw [if_neg m, if_neg (fun z => m ⟨by
          rcases List.mem_cons.mp z.1 with y | y
          · exact absurd y.symm e
          · exact y, z.2⟩)]
theorem wipe_off {σ σ' : Sg} {vs : List Nat} (h : OffOnly vs (wipe σ vs) σ') : wipe σ' vs = wipe σ vs := by
  apply List.ext_getElem?
  intro j
  rw [wipe_get, wipe_get, h.1, wipe_length]
  by_cases m : j ∈ vs ∧ j < σ.length
  · rw [if_pos m, if_pos m]
  · rw [if_neg m, if_neg m]
    by_cases n : j ∈ vs
    · have l : ¬ j < σ.length := fun z => m ⟨n, z⟩
      rw [List.getElem?_eq_none (by rw [h.1, wipe_length]; omega), List.getElem?_eq_none (by omega)]
    · rw [h.2 j n, wipe_get, if_neg (fun z => n z.1)]
section
variable {K : PySem.W.Frag} {c : Cf} {M : Mz} {σ σ' : Sg} {H : Hp} {ev : Ev} {pd : List (V × PyData)}
/-- the slots of other values by slot, where they agree on what is held -/
theorem Ok.slots (k : Ok K c M σ H ev pd) (hl : σ'.length = σ.length) (h : ∀ (i : Nat) (s : Sl), ev[i]? = some (some s) → σ'[i]? = σ[i]?) : Ok K c M σ' H ev pd := by
  refine ⟨by rw [hl]; exact k.len, fun i d e => ?_, fun i ds e => ?_, fun i j a ds es e1 e2 z1 z2 => ?_, k.pend, k.frame, k.sub, k.dom, k.mkd, k.lk, fun a t => ?_⟩
  · rw [h i _ e]; exact k.val i d e
  · rw [h i _ e]; exact k.own i ds e
  · rw [h i _ e1] at z1
    rw [h j _ e2] at z2
    exact k.inj i j a ds es e1 e2 z1 z2
  · obtain ⟨m, z1, ds, z2⟩ := k.tank a t
    exact ⟨m, by rw [h 0 _ z2]; exact z1, ds, z2⟩
/-- less is known of the slots -/
theorem Ok.less {ev' : Ev} (k : Ok K c M σ H ev pd) (hl : ev'.length = ev.length) (h : ∀ (i : Nat) (s : Sl), ev'[i]? = some (some s) → ev[i]? = some (some s)) (ht : ∀ ds : List PyData, ev[0]? = some (some (.own ds)) → ev'[0]? = some (some (.own ds))) : Ok K c M σ H ev' pd := by
  refine ⟨by rw [hl]; exact k.len, fun i d e => k.val i d (h i _ e), fun i ds e => k.own i ds (h i _ e), fun i j a ds es e1 e2 => k.inj i j a ds es (h i _ e1) (h j _ e2), k.pend, k.frame, k.sub, k.dom, k.mkd, k.lk, fun a t => ?_⟩
  obtain ⟨m, z1, ds, z2⟩ := k.tank a t
  exact ⟨m, z1, ds, ht ds z2⟩
theorem wipeD_length : ∀ {vs : List Nat}, (wipeD ev vs).length = ev.length
  | [] => rfl
  | v :: vs => by unfold wipeD; rw [List.length_set, wipeD_length]
theorem wipeD_some {i : Nat} {s : Sl} : ∀ {vs : List Nat}, (wipeD ev vs)[i]? = some (some s) → ev[i]? = some (some s) ∧ i ∉ vs
  | [], h => ⟨h, by simp⟩
  | v :: vs, h => by
    unfold wipeD at h
    rcases get_set h with ⟨_, e, _⟩ | ⟨n, e⟩
    · cases e
    · obtain ⟨a, b⟩ := wipeD_some e
      exact ⟨a, fun z => by
        rcases List.mem_cons.mp z with y | y
        · exact n y.symm
        · exact b y⟩
theorem wipeD_out {i : Nat} : ∀ {vs : List Nat}, i ∉ vs → (wipeD ev vs)[i]? = ev[i]?
  | [], _ => rfl
  | v :: vs, h => by
    unfold wipeD
    rw [List.getElem?_set_ne (fun e => h (by rw [e]; exact List.mem_cons_self ..)), wipeD_out fun z => h (List.mem_cons_of_mem _ z)]
end
/-- what a comprehension makes: g the target, t the tests, e the element, vs its own names -/
def lcD (vs : List Nat) (g : Wg) (t : Wt) (el : Wx) : List PyData → List PyData → Ev → (List PyData → Ev → Prop) → Prop
  | [], acc, ev, Q => acc.length ≤ 1000 ∧ Q acc ev
  | d :: ds, acc, ev, Q => g d ev fun e1 => t e1 fun b e2 => if b = true then el e2 fun y e3 => acc.length < 1000 ∧ lcD vs g t el ds (acc ++ [y]) (wipeD e3 vs) Q else lcD vs g t el ds acc (wipeD e2 vs) Q
def dLc (vs : List Nat) (u : Wa) (g : Wg) (t : Wt) (el : Wx) : Wx := fun ev Q => match vs.all (fun v => v != 0) with
  | true => u ev fun ds e => match cleanB e vs with
    | true => lcD vs g t el ds [] e fun acc e' => Q (.list acc) e'
    | false => lcD vs g t el ds [] (wipeD e vs) fun acc e' => Q (.list acc) e'
  | false => False
def dYes : Wt := fun ev Q => Q true ev
section
variable {X : Cx} {c : Cf}
abbrev DTs (X : Cx) (c : Cf) (ifs : List Expr) (w : Wt) : Prop := PTs X ifs (tT X.K c w)
theorem ptsM {X : Cx} {e : List Expr} {t t' : TT} (p : PTs X e t) (h : ∀ σ H Q, t' σ H Q → t σ H Q) : PTs X e t' := ⟨fun pins s σ H Q I q => p.run pins s σ H Q I (h σ H Q q)⟩
theorem dts_nil : DTs X c [] dYes := ptsM pts_nil fun σ H Q ⟨M, ev, pd, R, k, w, q⟩ => q _ _ w H k
theorem dts_one {e : Expr} {w : Wt} (h : DT X c e w) : DTs X c [e] w := pts_one h
theorem zip_all {K : PySem.W.Frag} {H : Hp} : ∀ {vs : List V} {ds : List PyData}, vs.length = ds.length → (∀ p ∈ vs.zip ds, Dz K H p.1 p.2) → DzAll K H vs ds
  | [], [], _, _ => .nil
  | v :: vs, d :: ds, l, h => .cons (h (v, d) (List.mem_cons_self ..)) (zip_all (by simpa using l) fun p hp => h p (List.mem_cons_of_mem _ hp))
/-- between two turns: the slots are wiped, the list so far stands at D -/
structure Mid (K : PySem.W.Frag) (c : Cf) (M : Mz) (vs : List Nat) (σ : Sg) (D : Addr) (pd : List (V × PyData)) (H : Hp) (ev : Ev) (acc : List PyData) (va : List V) : Prop where
  ok : Ok K c (stM M D (2, some (.lst va))) (wipe σ vs) H ev (va.zip acc ++ pd)
  ll : va.length = acc.length
  nw : ∀ v ∈ vs, ∀ s, ev[v]? ≠ some (some s)
theorem Mid.mk2 {K : PySem.W.Frag} {c : Cf} {M : Mz} {vs : List Nat} {σ σ2 : Sg} {D : Addr} {pd : List (V × PyData)} {H : Hp} {ev : Ev} {acc : List PyData} {va : List V} {M1 : Mz} (nz : ∀ v ∈ vs, v ≠ 0) (hw : wipe σ2 vs = wipe σ vs) (e : M1 = stM M D (2, some (.lst va)))
    (k : Ok K c M1 σ2 H ev (va.zip acc ++ pd)) (ll : va.length = acc.length) : Mid K c M vs σ D pd H (wipeD ev vs) acc va := by
  subst e
  refine ⟨?_, ll, fun v hv s z => (wipeD_some z).2 hv⟩
  rw [← hw]
  have k1 := k.less (ev' := wipeD ev vs) wipeD_length (fun i s z => (wipeD_some z).1) fun ds z => by rw [wipeD_out (fun m => nz 0 m rfl)]; exact z
  exact k1.slots (wipe_length _ _) fun i s z => wipe_out fun m => (wipeD_some z).2 m
theorem lc_rd {K : PySem.W.Frag} {vs : List Nat} {u : Wa} {g : Wg} {t : Wt} {el : Wx} {σ : Sg} {H : Hp} {Q : VK} (h : tE K c (dLc vs u g t el) σ H Q) : tLc (tI K c u) (tG K c vs g) (tT K c t) (tE K c el) vs σ H Q := by
  obtain ⟨M, ev, pd, R, k, h, q⟩ := h
  unfold dLc at h
  split at h
  · rename_i hz
    have nz : ∀ v ∈ vs, v ≠ 0 := fun v hv => by
      have := List.all_eq_true.mp hz v hv
      simpa using this
    refine ⟨M, ev, pd, _, k, h, fun ds e y p H1 J k1 wk D hD => ?_⟩
    have sp : ∃ e0, Ok K c M σ H1 e0 (p ++ pd) ∧ (∀ v ∈ vs, ∀ s, e0[v]? ≠ some (some s)) ∧ lcD vs g t el ds [] e0 (fun acc e' => R (.list acc) e') := by
      split at y
      · rename_i hc
        exact ⟨e, k1, fun v hv s z => (by rw [clean_at hc v hv] at z; cases z), y⟩
      · exact ⟨wipeD e vs, k1.less wipeD_length (fun i s z => (wipeD_some z).1) (fun ds z => by rw [wipeD_out (fun m => nz 0 m rfl)]; exact z), fun v hv s z => (wipeD_some z).2 hv, y⟩
    clear y k1
    obtain ⟨e, k1, cl, y⟩ := sp
    · have h0 := (k1.h0 hD).1
      have mD := k1.plain hD
      have W0 : Mid K c M vs σ D (p ++ pd) (upd H1 D (.lst [])) e [] [] := by
        refine ⟨?_, rfl, fun v hv s z => ?_⟩
        · have k0 : Ok K c (stM M D (2, some (.lst []))) σ (upd H1 D (.lst [])) e (p ++ pd) := k1.lock hD fun u z => by
            cases z
            exact ⟨rfl, rfl⟩
          exact k0.slots (wipe_length _ _) fun i s z => wipe_out fun m => cl i m s z
        · exact cl v hv s z
      refine ⟨fun i m H2 => ∃ acc va e2, Mid K c M vs σ D (p ++ pd) H2 e2 acc va ∧ lcD vs g t el (ds.drop i) acc e2 (fun acc e' => R (.list acc) e') ∧ i + m = ds.length,
        ⟨ds.length, [], [], e, W0, y, Nat.zero_add _⟩, fun i m H2 hW => ?_⟩
      obtain ⟨acc, va, e2, k2, y2, lm⟩ := hW
      have kp : Ok K c (stM M D (2, some (.lst va))) (wipe σ vs) H2 e2 (p ++ (va.zip acc ++ pd)) := k2.ok.pop fun r hr => by
        rcases List.mem_append.mp hr with z | z
        · exact List.mem_append_right _ (List.mem_append_left _ z)
        · rcases List.mem_append.mp z with z | z
          · exact List.mem_append_left _ z
          · exact List.mem_append_right _ (List.mem_append_right _ z)
      obtain ⟨w1, w2⟩ := wk c _ _ H2 e2 _ i kp
      by_cases z : i < ds.length
      · obtain ⟨d, hd⟩ : ∃ d, ds[i]? = some d := ⟨_, List.getElem?_eq_getElem z⟩
        rw [drop_cons hd] at y2
        obtain ⟨z1, z2⟩ := w2 d hd
        refine .inr ⟨z1, fun H3 => ∃ acc va e2, Mid K c M vs σ D (p ++ pd) H3 e2 acc va ∧ lcD vs g t el (ds.drop (i + 1)) acc e2 (fun acc e' => R (.list acc) e'),
          fun H3 ⟨a, b, e3, q1, q2⟩ => ⟨m - 1, by omega, a, b, e3, q1, q2, by omega⟩, fun x H3 hy => ?_⟩
        obtain ⟨k3, _⟩ := z2 x H3 hy
        have k3' : Ok K c (stM M D (2, some (.lst va))) (wipe σ vs) H3 e2 ((x, d) :: (va.zip acc ++ (p ++ pd))) := k3.pop fun r hr => by
          rcases List.mem_cons.mp hr with z | z
          · rw [z]; exact List.mem_cons_self ..
          · rcases List.mem_append.mp z with z | z
            · exact List.mem_cons_of_mem _ (List.mem_append_right _ (List.mem_append_left _ z))
            · rcases List.mem_append.mp z with z | z
              · exact List.mem_cons_of_mem _ (List.mem_append_left _ z)
              · exact List.mem_cons_of_mem _ (List.mem_append_right _ (List.mem_append_right _ z))
        refine ⟨_, e2, _, d, _, k3', y2, fun e4 q4 σ4 H4 of4 k4 => ?_⟩
        have hw4 := wipe_off of4
        refine ⟨hw4, _, e4, _, _, k4, q4, fun b e5 q5 H5 k5 => ?_⟩
        by_cases hb : b = true
        · rw [if_pos hb] at q5 ⊢
          refine ⟨_, e5, _, _, k5, q5, fun y e6 q6 v H6 k6 => ?_⟩
          obtain ⟨l6, q6⟩ := q6
          have hl : H6 D = some (.lst va) := (k6.lk D _ (by rw [stM_at])).1
          have k7 := k6.more (D := D) (o := .lst (va ++ [v])) (by rw [stM_at]) h0
          rw [stM_stM] at k7
          refine ⟨va, hl, Nat.lt_of_le_of_lt (by rw [k2.ll]; omega) (small1000 (Nat.le_of_lt l6)), acc ++ [y], va ++ [v], wipeD e6 vs, Mid.mk2 nz hw4 rfl (k7.pop fun r hr => ?_) (by rw [List.length_append, List.length_append, k2.ll]; rfl), q6⟩
          rw [List.zip_append k2.ll] at hr
          rcases List.mem_append.mp hr with z | z
          · rcases List.mem_append.mp z with z | z
            · exact List.mem_cons_of_mem _ (List.mem_append_left _ z)
            · have z' : r = (v, y) := by simpa using z
              rw [z']; exact List.mem_cons_self ..
          · exact List.mem_cons_of_mem _ (List.mem_append_right _ z)
        · rw [if_neg hb] at q5 ⊢
          exact ⟨acc, va, wipeD e5 vs, Mid.mk2 nz hw4 rfl k5 k2.ll, q5⟩
      · rw [List.drop_of_length_le (by omega)] at y2
        have hl : H2 D = some (.lst va) := (k2.ok.lk D _ (by rw [stM_at])).1
        have ra : DzAll K (msk (stM M D (2, some (.lst va))) H2) va acc := zip_all k2.ll fun r hr => k2.ok.pend r (List.mem_append_left _ hr)
        have k5 := k2.ok.unlock (by rw [stM_at]) h0 hl ra
        rw [stM_stM, stM_id mD] at k5
        have k6 : Ok K c M σ H2 e2 pd := (k5.pop fun r hr => List.mem_cons_of_mem _ (List.mem_append_right _ (List.mem_append_right _ hr))).slots (by rw [wipe_length]) fun i s z => (wipe_out fun mm => k2.nw i mm s z).symm
        exact .inl ⟨w1 (by omega), q _ _ y2.2 _ H2 (k6.push k5.top)⟩
  · exact h.elim
theorem de_lc {elt tg iter : Expr} {ifs : List Expr} {scope : Scope} {own : List (Str × Nat)} {pos : Pos} {u : Wa} {g : Wg} {t : Wt} {el : Wx} (hc : X.calm = true) (hN : X.N.Nodup) (hi : DI X c tg iter u) (ok : BlkOk X.N X.env.scope scope own)
    (hg : ∀ (s : Shared) (H : Hp) (C : Addr) (cl : List (Str × Addr)) (fp : List Addr), DG (X.blk s H scope (compEnvC scope cl C X.env) fp) c (own.map (·.2)) tg g) (ht : ∀ (s : Shared) (H : Hp) (C : Addr) (cl : List (Str × Addr)) (fp : List Addr), DTs (X.blk s H scope (compEnvC scope cl C X.env) fp) c ifs t)
    (he : ∀ (s : Shared) (H : Hp) (C : Addr) (cl : List (Str × Addr)) (fp : List Addr), DE (X.blk s H scope (compEnvC scope cl C X.env) fp) c elt el) (hs : ∀ x, foldedSetIterable iter X.env x = pure x := by intro _; rfl) :
    DE X c (.ListComp elt [⟨tg, iter, ifs, 0⟩] scope pos) (dLc (own.map (·.2)) u g t el) := peM (pe_lc hc hN hi ok hg ht he hs) fun _ _ _ h => lc_rd h
theorem ds_setLc {i : Nat} {y : Str} {py : Pos} {elt tg iter : Expr} {ifs : List Expr} {scope : Scope} {own : List (Str × Nat)} {pos spos : Pos} {u : Wa} {g : Wg} {t : Wt} {el : Wx} (hc : X.calm = true) (hN : X.N.Nodup) (hy : X.N[i]? = some y) (hyl : X.env.scope.names.lookup y = some .local)
    (hsw : swapsWith (.ListComp elt [⟨tg, iter, ifs, 0⟩] scope pos) (some (.Name y py)) spos.line X.env = pure true) (hi : DI X c tg iter u) (ok : BlkOk X.N X.env.scope scope own)
    (hg : ∀ (s : Shared) (H : Hp) (C : Addr) (cl : List (Str × Addr)) (fp : List Addr), DG (X.blk s H scope (compEnvC scope cl C X.env) fp) c (own.map (·.2)) tg g) (ht : ∀ (s : Shared) (H : Hp) (C : Addr) (cl : List (Str × Addr)) (fp : List Addr), DTs (X.blk s H scope (compEnvC scope cl C X.env) fp) c ifs t)
    (he : ∀ (s : Shared) (H : Hp) (C : Addr) (cl : List (Str × Addr)) (fp : List Addr), DE (X.blk s H scope (compEnvC scope cl C X.env) fp) c elt el) (hs : ∀ x, foldedSetIterable iter X.env x = pure x := by intro _; rfl) :
    DS X c (.Assign [.Name y py] (.ListComp elt [⟨tg, iter, ifs, 0⟩] scope pos) spos) (wAsg (dLc (own.map (·.2)) u g t el) (gN i)) :=
  psM (ps_setLc hc hN hy hyl hsw hi ok hg ht he hs) fun De σ H ⟨M, ev, pd, R, k, h, f⟩ => lc_rd (Q := fun x H1 => gName i x σ H1 De.nx) ⟨M, ev, pd, _, k, h, fun d e q v H' k' => by
    obtain ⟨n, w⟩ := gN_of q
    exact f.nx _ w M _ H' (k'.pop1.set n k'.top)⟩
end
end Z
set_option Elab.async false
set_option linter.all false
set_option maxRecDepth 100000
namespace Z
open PySem L2
section
variable {X : Cx} {c : Cf} {pos : Pos}
theorem Ok.ownNew {K : PySem.W.Frag} {M : Mz} {σ : Sg} {H : Hp} {ev : Ev} {pd : List (V × PyData)} (k : Ok K c M σ H ev pd) {i : Nat} {p : Addr} {vs : List V} {ds : List PyData} (n : notOwn ev i) (h : H p = none) (r : DzAll K (msk M H) vs ds) :
    Ok K c (stM M p (1, none)) (σ.set i (some (.ref p))) (upd H p (.lst vs)) (ev.set i (some (.own ds))) pd := by
  have k1 : Ok K c (stM M p (1, none)) σ (upd H p (.lst vs)) ev pd := k.lock h fun u z => by cases z
  have hm : ∀ b u, msk M H b = some u → msk (stM M p (1, none)) (upd H p (.lst vs)) b = some u := fun b u e => by
    obtain ⟨a, q⟩ := msk_ok e
    have ne : b ≠ p := ne_of_none a h
    exact msk_of (by rw [upd_ne ne]; exact a) (by rw [stM_off ne]; exact q)
  have il := n.lt
  refine ⟨by rw [List.length_set, List.length_set]; exact k1.len, fun j d z => ?_, fun j es z => ?_, fun j l a ds1 ds2 z1 z2 z3 z4 => ?_, k1.pend, k1.frame, k1.sub, k1.dom, k1.mkd, k1.lk, fun a t => ?_⟩
  · rcases get_set z with ⟨rfl, z1, _⟩ | ⟨ne, z⟩
    · cases z1
    · obtain ⟨v, y1, y2⟩ := k1.val j d z
      exact ⟨v, by rw [List.getElem?_set_ne ne]; exact y1, y2⟩
  · rcases get_set z with ⟨rfl, z1, _⟩ | ⟨ne, z⟩
    · cases z1
      exact ⟨p, vs, List.getElem?_set_self (by rw [k.len]; exact il), by rw [stM_at], .inl (k.h0 h).1, upd_same, r.up hm⟩
    · obtain ⟨a, ws, y1, y2⟩ := k1.own j es z
      exact ⟨a, ws, by rw [List.getElem?_set_ne ne]; exact y1, y2⟩
  · -- the new one stands apart from all own lists
    have ap : ∀ (j : Nat) (es : List PyData) (a : Addr), ev[j]? = some (some (.own es)) → σ[j]? = some (some (.ref a)) → a ≠ p := fun j es a q1 q2 => by
      obtain ⟨a', ws, y1, y2, y3, y4, _⟩ := k.own j es q1
      rw [q2] at y1
      cases y1
      exact ne_of_none y4 h
    rcases get_set z1 with ⟨rfl, y1, _⟩ | ⟨n1, z1⟩
    · rcases get_set z2 with ⟨rfl, y2, _⟩ | ⟨n2, z2⟩
      · rfl
      · rw [List.getElem?_set_self (by rw [k.len]; exact il)] at z3
        rw [List.getElem?_set_ne n2] at z4
        cases z3
        exact absurd rfl (ap l _ _ z2 z4)
    · rw [List.getElem?_set_ne n1] at z3
      rcases get_set z2 with ⟨rfl, y2, _⟩ | ⟨n2, z2⟩
      · rw [List.getElem?_set_self (by rw [k.len]; exact il)] at z4
        cases z4
        exact absurd rfl (ap j _ _ z1 z3)
      · rw [List.getElem?_set_ne n2] at z4
        exact k1.inj j l a ds1 ds2 z1 z2 z3 z4
  · obtain ⟨m, y1, ws, y2⟩ := k1.tank a t
    have ne : i ≠ 0 := fun z => n.no (by rw [z]; exact y2)
    exact ⟨m, by rw [List.getElem?_set_ne ne]; exact y1, ws, by rw [List.getElem?_set_ne ne]; exact y2⟩
/-- x[j], len(x), x an own list -/
def dOwnIx (i : Nat) (w : Wx) : Wx := fun ev Q => match ev[i]? with
  | some (some (.own _)) => w ev fun j e => match j with
    | .int j => match e[i]? with
      | some (some (.own ds)) => match atI ds j with
        | some d => Q d e
        | none => False
      | _ => False
    | _ => False
  | _ => False
theorem de_ownIx {i : Nat} {eo ei : Expr} {w : Wx} (ho : PE X eo (tVar i)) (hi : DE X c ei w) (hs : PlainIx ei := by exact fun _ _ => rfl) : DE X c (.Subscript eo ei pos) (dOwnIx i w) := peM (pe_ix ix_list ho hi hs) fun σ H Q ⟨M, ev, pd, R, k, w, q⟩ => by
  unfold dOwnIx at w
  split at w
  · rename_i ds0 e0
    obtain ⟨a, us, a1, a2, a3, a4⟩ := k.slotV e0
    refine ⟨.ref a, a1, M, ev, _, _, k, w, fun j e h u H1 k1 => ?_⟩
    have t := k1.top
    split at h
    · cases t
      split at h
      · rename_i ds e1
        split at h
        · rename_i d e2
          obtain ⟨a', us', b1, b2, b3, b4⟩ := k1.slotV e1
          obtain rfl : a = a' := by rw [a1] at b1; cases b1; rfl
          obtain ⟨z, y1, y2⟩ := atI_rel b4 e2
          exact ⟨a, us', _, z, rfl, rfl, sq_lst b2, y1, q _ _ h _ _ (k1.pop1.push y2)⟩
        · exact h.elim
      · exact h.elim
    · exact h.elim
  · exact w.elim
end
/-- a def at f keeps the promise sp, where no repr is under way -/
structure FnG (P : Program) (w : World) (K : PySem.W.Frag) (mg : Str → Option Value) (base : Heap) (CX : CXT) (k : Nat) (f : Addr) (fd : FuncData) (ps : List Str) (sp : Sp) : Prop where
  ar : ∀ vs H Q E, sp vs H Q E → vs.length = ps.length
  go : ∀ (A : Around) (outer : List Env) (s : Shared) (H : Hp) (args : Args) (us : List Value) (vs : List V) (Q : VK) (E : XK), A.guards = some [] → Room k A → Env0 P w K mg base A outer s H → BindsTo s fd args (ps.zip us) → Vals vs us → sp vs H Q E →
    codeAny (model P w) A (.call (.ref f) args) (CR CX outer P w H s Q E) s
section
variable {P : Program} {w : World} {K : PySem.W.Frag} {mg : Str → Option Value} {base : Heap} {CX : CXT}
theorem fnG_of {x qual : Str} {st : Stmt} {f : Addr} {fd : FuncData} {N ps : List Str} {k : Nat} {sp : Sp} (F : Fun K x qual st f fd) (S : FnScope N ps (defScope st)) (ar : ∀ vs H Q E, sp vs H Q E → vs.length = ps.length)
    (body : ∀ (cdv : Value) (A : Around) (outer : List Env) (s : Shared) (H : Hp) (vs : List V) (Q : VK) (E : XK), A.guards = some [] → Room k (A.deeper (PyProof.Rows.envOfC qual (defScope st) s.heap.objs.size f cdv)) → sp vs H Q E →
      ∃ t, PSs (cxOf CX P w K mg base N qual (defScope st) f cdv A outer s H E) (defBody st) t ∧ t { nx := fun _ H' => Q .non H', rt := Q } (L2.start N vs) H) : FnG P w K mg base CX (k + 1) f fd ps sp := by
  obtain ⟨oc, od, kV, doc, pm, an, cdv, ct, osl, rfl, lk, hcd⟩ := F.ex
  constructor
  · exact ar
  intro A outer s H args us vs Q E hG hr e0 hb r hsp
  have inK : K.In s.heap := e0.mod.kin.keeps (fun b o q => (e0.bs b o q).1)
  have lim := e0.mod.nolimit.keeps (fun b o q => (e0.bs b o q).1)
  refine PySem.codeAny_call_function (hr.depth) (inK _ _ lk) rfl S.co S.gen rfl (PySem.W.codeRec_of inK hcd) (hb _ _ _ _ ?_)
  refine PySem.wpAny_newFunctionEnv_cells S.kind ?_ ?_
  · rintro ⟨n, v⟩ hy
    have m := (List.of_mem_zip hy).1
    cases S.par n m with
    | inl q => exact .inl q
    | inr q => exact .inr ⟨q, PySem.W.cellsFrom_some _ _ _ (.inl q)⟩
  · intro env he s1 x
    subst he
    refine ⟨lim.keeps x.toInCall.keep, PySem.codeAny_func ?_⟩
    obtain ⟨t, ht, hq⟩ := body cdv A outer s H vs Q E hG (hr.deeper _) hsp
    have I := inv_start (CX := CX) (E := E) S hr.hd e0 (ar _ _ _ _ hsp) r x
    refine wpAny_mono (ht.run [] s1 _ H _ I hq) ?_ ?_
    · intro fl s' hs
      cases fl with
      | next =>
        obtain ⟨σ', H', J, q⟩ := hs
        exact ⟨V.non, H', J.os, J.bare, J.base, J.hok, rfl, q⟩
      | ret u =>
        obtain ⟨v, σ', H', J, rv, q⟩ := hs
        exact ⟨v, H', J.os, J.bare, J.base, J.hok, rv, q⟩
      | brk => obtain ⟨_, _, _, q⟩ := hs; exact q.elim
      | cont => obtain ⟨_, _, _, q⟩ := hs; exact q.elim
    · intro e s' hs
      exact hs
end
end Z
set_option Elab.async false
set_option linter.all false
set_option maxRecDepth 100000
namespace Z
open PySem L2
/-- what the caller hides stands in the heap -/
structure MkOk (Mk : Mz) (H : Hp) : Prop where
  dom : ∀ a, (Mk a).1 ≠ 0 → ∃ o, H a = some o
  lk : ∀ a o, (Mk a).2 = some o → H a = some o ∧ ((Mk a).1 = 2 ∨ (Mk a).1 = 0)
abbrev Cp := List PyData → (PyData → Prop) → Prop
abbrev Ct := List PyData → List PyData → (PyData → List PyData → Prop) → Prop
/-- data in, data out -/
def spP (K : PySem.W.Frag) (n : Nat) (C : Cp) : Sp := fun vs H Q _ => ∃ (Mk : Mz) (ds : List PyData) (R : PyData → Prop), vs.length = n ∧ MkOk Mk H ∧ DzAll K (msk Mk H) vs ds ∧ C ds R ∧
  ∀ d, R d → ∀ v H', (∀ b o, H b = some o → H' b = some o) → Dz K (msk Mk H') v d → Q v H'
/-- the first argument is a list that is changed in place -/
def spT (K : PySem.W.Frag) (n : Nat) (C : Ct) : Sp := fun vs H Q _ => ∃ (Mk : Mz) (a : Addr) (ws us : List V) (ts ds : List PyData) (R : PyData → List PyData → Prop), vs = .ref a :: ws ∧ vs.length = n ∧ MkOk Mk H ∧ (Mk a).1 = 1 ∧ H a = some (.lst us) ∧
  DzAll K (msk Mk H) us ts ∧ DzAll K (msk Mk H) ws ds ∧ C ts ds R ∧
  ∀ d ts', R d ts' → ∀ v H' us', (∀ b o, H b = some o → b ≠ a → H' b = some o) → H' a = some (.lst us') → DzAll K (msk Mk H') us' ts' → Dz K (msk Mk H') v d → Q v H'
def ev0 (m : Nat) (ds : List PyData) : Ev := ds.map (fun d => some (.val d)) ++ List.replicate m none
def edP (R : PyData → Prop) : Ed := { nx := fun _ => R .none, rt := fun d _ => R d, rl := fun ds _ => R (.list ds) }
def tkR (R : PyData → List PyData → Prop) (d : PyData) (ev : Ev) : Prop := match ev[(0 : Nat)]? with
  | some (some (.own ts)) => R d ts
  | _ => False
def edT (R : PyData → List PyData → Prop) : Ed := { nx := tkR R .none, rt := tkR R }
theorem ev0_get {m : Nat} {ds : List PyData} {i : Nat} {s : Sl} (h : (ev0 m ds)[i]? = some (some s)) : ∃ d, s = .val d ∧ ds[i]? = some d := by
  unfold ev0 at h
  by_cases l : i < ds.length
  · rw [List.getElem?_append_left (by simpa using l), List.getElem?_map, List.getElem?_eq_getElem l] at h
    exact ⟨ds[i], by cases h; rfl, List.getElem?_eq_getElem l⟩
  · rw [List.getElem?_append_right (by simpa using l), List.getElem?_replicate] at h
    split at h <;> cases h
theorem start_get {N : List Str} {vs : List V} {i : Nat} {v : V} (h : vs[i]? = some v) : (L2.start N vs)[i]? = some (some v) := by
  have l : i < vs.length := by
    by_cases l : i < vs.length
    · exact l
    · rw [List.getElem?_eq_none (by omega)] at h; cases h
  unfold L2.start
  rw [List.getElem?_append_left (by simpa using l), List.getElem?_map, h]
  rfl
section
variable {P : Program} {wd : World} {K : PySem.W.Frag} {mg : Str → Option Value} {base : Heap}
/-- THE RULE for a def over data -/
theorem okP {x qual : Str} {st : Stmt} {f : Addr} {fd : FuncData} {N ps : List Str} {k n m : Nat} {C : Cp} {w : Ws} (F : Fun K x qual st f fd) (S : FnScope N ps (defScope st)) (hn : ps.length = n) (hN : N.length = n + m)
    (body : ∀ (c : Cf) (cdv : Value) (A : Around) (outer : List Env) (s : Shared) (H : Hp) (E : XK), A.guards = some [] → Room k (A.deeper (PyProof.Rows.envOfC qual (defScope st) s.heap.objs.size f cdv)) → DSs (cxOf CX0 P wd K mg base N qual (defScope st) f cdv A outer s H E).nox c (defBody st) w)
    (sem : ∀ ds R, C ds R → ds.length = n → w (edP R) (ev0 m ds)) : FnG P wd K mg base CX0 (k + 1) f fd ps (spP K n C) := by
  refine fnG_of F S (fun vs H Q E h => ?_) (fun cdv A outer s H vs Q E hG hr h => ?_)
  · obtain ⟨_, _, _, l, _⟩ := h
    rw [l, hn]
  · obtain ⟨Mk, ds, R, l, mk, ra, hC, q⟩ := h
    refine ⟨_, (body ⟨H, fun _ => false, Mk⟩ cdv A outer s H E hG hr).nox, Mk, ev0 m ds, [], edP R, ⟨?_, fun i d e => ?_, fun i es e => ?_, fun i j a es fs e => ?_, fun p hp => (by cases hp), fun b o e _ => e, fun a e => e, mk.dom, mk.dom, mk.lk, fun a e => (by cases e)⟩, sem ds R hC (by rw [← ra.len, l]), ?_⟩
    · unfold L2.start ev0
      rw [List.length_append, List.length_append, List.length_map, List.length_map, List.length_replicate, List.length_replicate, ra.len, hN, ← ra.len, l]
      omega
    · obtain ⟨d', z, e⟩ := ev0_get e
      cases z
      obtain ⟨v, y1, y2⟩ := ra.get i e
      exact ⟨v, start_get y1, y2⟩
    · obtain ⟨d', z, e⟩ := ev0_get e
      cases z
    · obtain ⟨d', z, e⟩ := ev0_get e
      cases z
    · exact ⟨fun ev' h M' σ' H' k' => q _ h _ _ (fun b o e => k'.frame b o e rfl) .non, fun d ev' h M' σ' v H' k' r => q _ h _ _ (fun b o e => k'.frame b o e rfl) r, fun ev' h => h.elim, fun ev' h => h.elim, fun ds ev' h M' σ' p vs H' k' z1 z2 r => q _ h _ _ (fun b o e => k'.frame b o e rfl) (.lst (sq_lst (msk_of z2 (by
          by_cases z : (Mk p).1 = 0
          · exact z
          · obtain ⟨o, y⟩ := mk.dom p z
            rw [show H p = none from z1] at y
            cases y))) r)⟩
theorem DzAll.mono {H H' : Hp} {vs : List V} {ds : List PyData} (h : ∀ b o, H b = some o → H' b = some o) (r : DzAll K H vs ds) : DzAll K H' vs ds := r.up h
/-- THE RULE for a def that changes the list it is handed first -/
theorem okT {x qual : Str} {st : Stmt} {f : Addr} {fd : FuncData} {N ps : List Str} {k n m : Nat} {C : Ct} {w : Ws} (F : Fun K x qual st f fd) (S : FnScope N ps (defScope st)) (hn : ps.length = n + 1) (hN : N.length = n + 1 + m)
    (body : ∀ (c : Cf) (cdv : Value) (A : Around) (outer : List Env) (s : Shared) (H : Hp) (E : XK), A.guards = some [] → Room k (A.deeper (PyProof.Rows.envOfC qual (defScope st) s.heap.objs.size f cdv)) → DSs (cxOf CX0 P wd K mg base N qual (defScope st) f cdv A outer s H E).nox c (defBody st) w)
    (sem : ∀ ts ds R, C ts ds R → ds.length = n → w (edT R) (some (.own ts) :: ev0 m ds)) : FnG P wd K mg base CX0 (k + 1) f fd ps (spT K (n + 1) C) := by
  refine fnG_of F S (fun vs H Q E h => ?_) (fun cdv A outer s H vs Q E hG hr h => ?_)
  · obtain ⟨_, _, _, _, _, _, _, _, l, _⟩ := h
    rw [l, hn]
  · obtain ⟨Mk, a, ws, us, ts, ds, R, rfl, l, mk, ma, ha, rt, ra, hC, q⟩ := h
    have lw : ws.length = n := by simpa using l
    refine ⟨_, (body ⟨H, fun b => decide (b = a), Mk⟩ cdv A outer s H E hG hr).nox, Mk, some (.own ts) :: ev0 m ds, [], edT R, ⟨?_, fun i d e => ?_, fun i es e => ?_, fun i j b es fs e1 e2 _ _ => ?_, fun p hp => (by cases hp), fun b o e _ => e, fun b e => e, mk.dom, mk.dom, mk.lk, fun b e => ?_⟩, sem ts ds R hC (by rw [← ra.len, lw]), ?_⟩
    · unfold L2.start ev0
      simp only [List.length_append, List.length_cons, List.length_map, List.length_replicate, hN, ← ra.len, lw]
      omega
    · cases i with
      | zero => cases e
      | succ i =>
        obtain ⟨d', z, e⟩ := ev0_get (show (ev0 m ds)[i]? = some (some (.val d)) from e)
        cases z
        obtain ⟨v, y1, y2⟩ := ra.get i e
        exact ⟨v, start_get (i := i + 1) y1, y2⟩
    · cases i with
      | zero => cases e; exact ⟨a, us, start_get (i := 0) rfl, ma, .inr (by simp), ha, rt⟩
      | succ i =>
        obtain ⟨d', z, e⟩ := ev0_get (show (ev0 m ds)[i]? = some (some (.own es)) from e)
        cases z
    · have z1 : i = 0 := by
        cases i with
        | zero => rfl
        | succ i => obtain ⟨d', z, _⟩ := ev0_get (show (ev0 m ds)[i]? = some (some (.own es)) from e1); cases z
      have z2 : j = 0 := by
        cases j with
        | zero => rfl
        | succ i => obtain ⟨d', z, _⟩ := ev0_get (show (ev0 m ds)[i]? = some (some (.own fs)) from e2); cases z
      rw [z1, z2]
    · have z : b = a := by simpa using e
      subst z
      exact ⟨by rw [ma]; decide, start_get (i := 0) rfl, ts, rfl⟩
    · have fin : ∀ d ev' M' σ' v H', Ok K ⟨H, fun b => decide (b = a), Mk⟩ M' σ' H' ev' [] → (edT R).rt d ev' → Dz K (msk Mk H') v d → Q v H' := by
        intro d ev' M' σ' v H' k' h r
        have h : tkR R d ev' := h
        unfold tkR at h
        split at h
        · rename_i ts' e
          obtain ⟨b, us', e1, e2, e3, e4, e5⟩ := k'.own 0 ts' e
          obtain ⟨m1, y1, zs, y2⟩ := k'.tank a (by simp)
          rw [y1] at e1
          cases e1
          exact q d ts' h v H' us' (fun b o z n => k'.frame b o z (by simpa using n)) e4 (e5.up (msk_less k'.sub)) r
        · exact h.elim
      exact ⟨fun ev' h M' σ' H' k' => fin .none ev' M' σ' .non H' k' h .non, fun d ev' h M' σ' v H' k' r => fin d ev' M' σ' v H' k' h r, fun ev' h => h.elim, fun ev' h => h.elim, fun ds ev' h => h.elim⟩
end
section
variable {P : Program} {wd : World} {K : PySem.W.Frag} {mg : Str → Option Value} {base : Heap}
def spF (K : PySem.W.Frag) (n : Nat) (C : List PyData → (List PyData → Prop) → Prop) : Sp := fun vs H Q _ => ∃ (Mk : Mz) (ds : List PyData) (R : List PyData → Prop), vs.length = n ∧ MkOk Mk H ∧ DzAll K (msk Mk H) vs ds ∧ C ds R ∧
  ∀ es, R es → ∀ p us H', H p = none → (∀ b o, H b = some o → H' b = some o) → H' p = some (.lst us) → DzAll K (msk Mk H') us es → Q (.ref p) H'
def edF (R : List PyData → Prop) : Ed := { nx := fun _ => False, rt := fun _ _ => False, rl := fun ds _ => R ds }
theorem okF {x qual : Str} {st : Stmt} {f : Addr} {fd : FuncData} {N ps : List Str} {k n m : Nat} {C : List PyData → (List PyData → Prop) → Prop} {w : Ws} (F : Fun K x qual st f fd) (S : FnScope N ps (defScope st)) (hn : ps.length = n) (hN : N.length = n + m)
    (body : ∀ (c : Cf) (cdv : Value) (A : Around) (outer : List Env) (s : Shared) (H : Hp) (E : XK), A.guards = some [] → Room k (A.deeper (PyProof.Rows.envOfC qual (defScope st) s.heap.objs.size f cdv)) → DSs (cxOf CX0 P wd K mg base N qual (defScope st) f cdv A outer s H E).nox c (defBody st) w)
    (sem : ∀ ds R, C ds R → ds.length = n → w (edF R) (ev0 m ds)) : FnG P wd K mg base CX0 (k + 1) f fd ps (spF K n C) := by
  refine fnG_of F S (fun vs H Q E h => ?_) (fun cdv A outer s H vs Q E hG hr h => ?_)
  · obtain ⟨_, _, _, l, _⟩ := h
    rw [l, hn]
  · obtain ⟨Mk, ds, R, l, mk, ra, hC, q⟩ := h
    refine ⟨_, (body ⟨H, fun _ => false, Mk⟩ cdv A outer s H E hG hr).nox, Mk, ev0 m ds, [], edF R, ⟨?_, fun i d e => ?_, fun i es e => ?_, fun i j a es fs e => ?_, fun p hp => (by cases hp), fun b o e _ => e, fun a e => e, mk.dom, mk.dom, mk.lk, fun a e => (by cases e)⟩, sem ds R hC (by rw [← ra.len, l]), ?_⟩
    · simp only [L2.start, ev0, List.length_append, List.length_map, List.length_replicate, hN, ← ra.len, l]
      omega
    · obtain ⟨d', z, e⟩ := ev0_get e
      cases z
      obtain ⟨v, y1, y2⟩ := ra.get i e
      exact ⟨v, start_get y1, y2⟩
    · obtain ⟨d', z, e⟩ := ev0_get e
      cases z
    · obtain ⟨d', z, e⟩ := ev0_get e
      cases z
    · exact ⟨fun ev' h => h.elim, fun d ev' h => h.elim, fun ev' h => h.elim, fun ev' h => h.elim, fun ds ev' h M' σ' p vs H' k' z1 z2 r => q _ h p vs H' z1 (fun b o e => k'.frame b o e rfl) z2 r⟩
end
structure Cl (P : Program) (wd : World) (K : PySem.W.Frag) (mg : Str → Option Value) (base : Heap) (k : Nat) (x : Str) (ps : List Str) (sp : Sp) : Prop where
  ex : ∃ f fd, mg x = some (.ref f) ∧ PySem.W.keepIn K (.ref f) = true ∧ Binds K fd ps [] ∧ FnG P wd K mg base CX0 k f fd ps sp
section
variable {X : Cx} {c : Cf} {k kg n : Nat} {x : Str} {ps : List Str} {p pos : Pos} {e : Expr} {es : List Expr} {u : Wa}
theorem runG {f : Addr} {fd : FuncData} {sp : Sp} {args : Args} {us : List Value} {vs : List V} {pins : List (Addr × Obj)} {σ : Sg} {H : Hp} {s : Shared} {Q : VK} (F : FnG X.prog X.w X.K X.mg X.base CX0 kg f fd ps sp) (hk : kg ≤ k) (hr : Room k X.A) (hG : X.A.guards = some [])
    (I : Inv X pins σ H s) (hb : BindsTo s fd args (ps.zip us)) (r : Vals vs us) (h : sp vs H Q E0) : codeAny (model X.prog X.w) X.A (.call (.ref f) args) (fun rr s' => match rr with
      | .ok (.ret v) => EP X pins σ Q v s'
      | _ => False) s :=
  codeAny_mono (F.go X.A X.stack s H args us vs Q E0 hG (hr.mono hk) I.env0 hb r h) fun rr s' hq => by
    cases rr with
    | error e => exact hq.elim
    | ok fl => cases fl with
      | ret v => exact I.after hq
      | next => exact hq.elim
      | brk => exact hq.elim
      | cont => exact hq.elim
theorem callG {f : Addr} {args : Args} {us : List Value} {kw : List (Str × Value)} {pins : List (Addr × Obj)} {σ : Sg} {s : Shared} {Q : VK} (h : codeAny (model X.prog X.w) X.A (.call (.ref f) ⟨us, kw⟩) (fun rr s' => match rr with
      | .ok (.ret v) => EP X pins σ Q v s'
      | _ => False) s) : wpAny (model X.prog X.w) X.A (call (.ref f) us kw) (EP X pins σ Q) X.xe s := wpAny_call (codeAny_mono h fun rr s' hq => by
    cases rr with
    | error e => exact hq.elim
    | ok fl => cases fl with
      | ret v => exact hq
      | next => exact hq.elim
      | brk => exact hq.elim
      | cont => exact hq.elim)
/-- f(e, ..) by any promise -/
theorem pe_cG {sp : Sp} {t : TA} (F : Cl X.prog X.w X.K X.mg X.base kg x ps sp) (hk : kg ≤ k) (hr : Room k X.A) (hG : X.A.guards = some []) (hg : Gl X x) (ha : PA X (e :: es) t) (h2 : (x == ("__debug__" : Str)) = false) (h3 : starEach (e :: es) X.env = (false, eval e X.env) :: starEach es X.env) (h4 : (backTo pos (starEach es X.env)).any (·.1) = false) :
    PE X (.Call (.Name x p) (e :: es) [] pos) (fun σ H Q => t σ H fun vs H1 => sp vs H1 Q E0) := by
  obtain ⟨f, fd, hm, hkp, hb, F⟩ := F.ex
  constructor
  intro pins s σ H Q I h
  apply wpAny_Call_Name_kw
  apply ld_glob I hg hm _ h2
  refine PySem.W.callWith_K (h₀ := X.base) I.ok.mod.kin hkp (thn (ha.run pos pins s σ H _ I h) ?_) h3 h4
  rintro us s1 ⟨vs, H1, I1, r, q⟩
  refine ⟨I1.kIn, ?_⟩
  have ar := F.ar _ _ _ _ q
  have b := hb s1 us I1.kIn (by rw [List.append_nil, ← r.length, ar])
  rw [List.append_nil] at b
  exact callG (args := ⟨us, []⟩) (us := us) (kw := []) (runG F hk hr hG I1 b r q)
theorem Ok.mkOk {K : PySem.W.Frag} {M : Mz} {σ : Sg} {H : Hp} {ev : Ev} {pd : List (V × PyData)} (k : Ok K c M σ H ev pd) : MkOk M H := ⟨k.dom, k.lk⟩
theorem spP_rd {K : PySem.W.Frag} {C : Cp} {σ : Sg} {H : Hp} {Q : VK} {E : XK} (h : tE K c (fun ev Q => u ev fun ds e => ds.length = n ∧ C ds fun d => Q d e) σ H Q) : tA K c u σ H fun vs H1 => spP K n C vs H1 Q E := by
  obtain ⟨M, ev, pd, R, k, w, q⟩ := h
  exact ⟨M, ev, pd, _, k, w, fun ds e ⟨l, h1⟩ vs H1 k1 r => ⟨M, ds, _, by rw [r.len, l], k1.mkOk, r, h1, fun d hd v H' g z => q d e hd v H' ((k1.grow g).push z)⟩⟩
/-- the call of a def over data -/
def dFn (n : Nat) (C : Cp) (u : Wa) : Wx := fun ev Q => u ev fun ds e => ds.length = n ∧ C ds fun d => Q d e
theorem de_fn {C : Cp} (F : Cl X.prog X.w X.K X.mg X.base kg x ps (spP X.K n C)) (hk : kg ≤ k) (hr : Room k X.A) (hG : X.A.guards = some []) (hg : Gl X x) (ha : DA X c (e :: es) u) (h2 : (x == ("__debug__" : Str)) = false := by decide) (h3 : starEach (e :: es) X.env = (false, eval e X.env) :: starEach es X.env := by rfl) (h4 : (backTo pos (starEach es X.env)).any (·.1) = false := by rfl) :
    DE X c (.Call (.Name x p) (e :: es) [] pos) (dFn n C u) := peM (pe_cG F hk hr hG hg ha h2 h3 h4) fun _ _ _ h => spP_rd h
/-- f(x, e, ..), x an own list that f changes -/
def dFnT (i n : Nat) (C : Ct) (u : Wa) : Wx := fun ev Q => match ev[i]? with
  | some (some (.own _)) => u ev fun ds e => match e[i]? with
    | some (some (.own ts)) => ds.length + 1 = n ∧ C ts ds fun d ts' => Q d (e.set i (some (.own ts')))
    | _ => False
  | _ => False
theorem de_fnT {i : Nat} {C : Ct} (F : Cl X.prog X.w X.K X.mg X.base kg x ps (spT X.K n C)) (hk : kg ≤ k) (hr : Room k X.A) (hG : X.A.guards = some []) (hg : Gl X x) (ho : PE X e (tVar i)) (ha : DA X c es u) (h2 : (x == ("__debug__" : Str)) = false := by decide) (h3 : starEach (e :: es) X.env = (false, eval e X.env) :: starEach es X.env := by rfl) (h4 : (backTo pos (starEach es X.env)).any (·.1) = false := by rfl) :
    DE X c (.Call (.Name x p) (e :: es) [] pos) (dFnT i n C u) := peM (pe_cG F hk hr hG hg (pa_cons ho ha h3) h2 h3 h4) fun σ H Q ⟨M, ev, pd, R, k, w, q⟩ => by
  unfold dFnT at w
  split at w
  · rename_i ts0 e0
    obtain ⟨a, us, a1, a2, a3, a4⟩ := k.slotV e0
    refine ⟨.ref a, a1, M, ev, _, _, k, w, fun ds e h vs H1 k1 r => ?_⟩
    split at h
    · rename_i ts e1
      obtain ⟨l, h⟩ := h
      obtain ⟨a', us', b1, b2, b3, b4⟩ := k1.slotV e1
      obtain rfl : a = a' := by rw [a1] at b1; cases b1; rfl
      exact ⟨M, a, vs, us', ts, ds, _, rfl, by rw [List.length_cons, r.len, l], k1.mkOk, b3, b2, b4, r, h, fun d ts' hd v H' us2 g1 g2 g3 g4 => q d _ hd v H' ((k1.write e1 a1 g1 g2 g3).push g4)⟩
    · exact h.elim
  · exact w.elim
def allInt : List PyData → Bool
  | [] => true
  | .int _ :: r => allInt r
  | _ :: _ => false
theorem ints_any {K : PySem.W.Frag} {H H' : Hp} : ∀ {vs : List V} {ds : List PyData}, allInt ds = true → DzAll K H vs ds → DzAll K H' vs ds
  | _, _, _, .nil => .nil
  | _, _, h, .cons a b => by
    cases a with
    | int i => exact .cons (.int i) (ints_any h b)
    | _ => cases h
/-- f(g(e, ..)), g a def that hands back a new list, f one that changes it -/
def dFnF (n : Nat) (Cg : List PyData → (List PyData → Prop) → Prop) (C : Ct) (u : Wa) : Wx := fun ev Q => u ev fun ds e => ds.length = n ∧ Cg ds fun ts => allInt ts = true ∧ C ts [] fun d _ => Q d e
theorem de_fnF {kf : Nat} {y : Str} {qs : List Str} {Cg : List PyData → (List PyData → Prop) → Prop} {C : Ct} {p2 pos2 : Pos} (F : Cl X.prog X.w X.K X.mg X.base kf y qs (spT X.K 1 C)) (G : Cl X.prog X.w X.K X.mg X.base kg x ps (spF X.K n Cg)) (hf : kf ≤ k) (hk : kg ≤ k) (hr : Room k X.A) (hG : X.A.guards = some []) (hy : Gl X y) (hg : Gl X x) (ha : DA X c (e :: es) u)
    (h2 : (x == ("__debug__" : Str)) = false := by decide) (h3 : starEach (e :: es) X.env = (false, eval e X.env) :: starEach es X.env := by rfl) (h4 : (backTo pos (starEach es X.env)).any (·.1) = false := by rfl)
    (g2 : (y == ("__debug__" : Str)) = false := by decide) (g3 : starEach [.Call (.Name x p) (e :: es) [] pos] X.env = (false, eval (.Call (.Name x p) (e :: es) [] pos) X.env) :: starEach [] X.env := by rfl) (g4 : (backTo pos2 (starEach [] X.env)).any (·.1) = false := by rfl) :
    DE X c (.Call (.Name y p2) [.Call (.Name x p) (e :: es) [] pos] [] pos2) (dFnF n Cg C u) :=
  peM (pe_cG F hf hr hG hy (pa_cons (pe_cG G hk hr hG hg ha h2 h3 h4) pa_nil g3) g2 g3 g4) fun σ H Q ⟨M, ev, pd, R, k, w, q⟩ =>
    ⟨M, ev, pd, _, k, w, fun ds e ⟨l, h1⟩ vs H1 k1 r => ⟨M, ds, _, by rw [r.len, l], k1.mkOk, r, h1, fun ts ⟨ti, ht⟩ p us H2 f1 f2 f3 f4 => by
      have k2 := k1.grow f2
      have ne : ∀ {b : Addr} {o : HO}, H1 b = some o → b ≠ p := fun e => ne_of_none e f1
      have m0 : M p = (0, none) := k1.plain f1
      refine ⟨stM M p (1, none), p, [], us, ts, [], _, rfl, rfl, ⟨fun a e => ?_, fun a o e => ?_⟩, by rw [stM_at], f3, ?_, .nil, ht, fun d ts' hd v H3 us' g1 g2 g3 g4 => ?_⟩
      · by_cases z : a = p
        · rw [z]; exact ⟨_, f3⟩
        · rw [stM_off z] at e; exact k2.dom a e
      · by_cases z : a = p
        · rw [z, stM_at] at e; cases e
        · rw [stM_off z] at e ⊢; exact k2.lk a o e
      · exact ints_any ti f4
      · refine q d _ hd v H3 (?_ : Ok X.K c M σ H3 _ ((v, d) :: pd))
        have gr : ∀ b o, H1 b = some o → H3 b = some o := fun b o e => g1 b o (f2 b o e) (ne e)
        refine (k1.grow gr).push (g4.up (msk_less fun a e => ?_))
        by_cases z : a = p
        · rw [z, m0] at e; exact absurd rfl e
        · rw [stM_off z]; exact e⟩⟩
end
end Z
set_option Elab.async false
set_option linter.all false
set_option maxRecDepth 100000
namespace Z
open PySem L2
abbrev theArd : Around := PySem.callerA
/-- nothing is tracked but the script, and that as it is -/
structure Entry (P : Program) (w : World) (K : PySem.W.Frag) (s : Shared) (a : Addr) (ns : List Int) (H : Hp) : Prop where
  frz : ∀ b u, H b = some u → b = a ∧ ∃ ob v, u = .frz ob v
  off : ∀ u, H a = some u → K.lookup a = none
  hok : HOk P w H s.heap
  sq : SqL K H a (ns.map V.int)
theorem entry_of {P : Program} {w : World} {K : PySem.W.Frag} {s : Shared} {a : Addr} {vs : List Value} {ns : List Int} (X : K.In s.heap) (ha : s.heap.get? a = some { cls := .type "list", data := .seq vs.toArray }) (hi : PyProof.Rows.IntsAre vs ns) (hl : ns.length ≤ sizeLine) : ∃ H, Entry P w K s a ns H := by
  have rv := vals_ints hi
  have lv : (ns.map V.int).length = ns.length := List.length_map _
  cases q : K.lookup a with
  | none =>
    refine ⟨upd (fun _ => none) a (.frz { cls := .type "list", data := .seq vs.toArray } (.lst (ns.map V.int))), ⟨fun b u e => ?_, fun _ _ => q, fun b u e => ?_, .inl (.inr ⟨_, upd_same⟩)⟩⟩
    · by_cases z : b = a
      · rw [z, upd_same] at e
        cases e
        exact ⟨z, _, _, rfl⟩
      · rw [upd_ne z] at e
        cases e
    · by_cases z : b = a
      · subst z
        rw [upd_same] at e
        cases e
        exact ⟨ha, by rw [lv]; exact hl, vs, _, rv, ha⟩
      · rw [upd_ne z] at e
        cases e
  | some o =>
    have e := X a o q
    rw [ha] at e
    cases e
    exact ⟨fun _ => none, ⟨fun b u e => (by cases e), fun u e => (by cases e), fun b u e => (by cases e), .inr ⟨_, vs.toArray, _, q, rfl, rfl, rfl, by rw [List.size_toArray, hi.length]; exact hl, by simpa using rv⟩⟩⟩
theorem law_run {P : Program} {w : World} {K : PySem.W.Frag} {mg mb : Str → Option Value} {k : Nat} {fa a : Addr} {fd : FuncData} {x : Str} {C : Cp} {s : Shared} {vs : List Value} {ns : List Int} (X : K.In s.heap) (hm : s.heap.Ns mainGlobals mg) (hb : s.heap.Ns builtinsNs mb)
    (hbb : ∀ x : Str, x ≠ "__name__" → mb x = bootBuiltins x) (lim : s.heap.NoLimit) (hg : s.gens = #[]) (ha : s.heap.get? a = some { cls := .type "list", data := .seq vs.toArray }) (hi : PyProof.Rows.IntsAre vs ns) (hl : ns.length ≤ sizeLine) (hr : Room k theArd)
    (F : ∀ base : Heap, K.In base → base.Ns mainGlobals mg → FnG P w K mg base CX0 k fa fd [x] (spP K 1 C)) (bind : ∀ (s : Shared) (u : Value), BindsTo s fd ⟨[u], []⟩ [(x, u)]) (hC : C [.list (ns.map PyData.int)] (fun d => d = .bool true)) :
    codeAny (model P w) theArd (.call (.ref fa) ⟨[.ref a], []⟩) (fun r s' => r = .ok (.ret (.bool true)) ∧ PySem.OldK s.heap s'.heap ∧ s'.os = s.os ∧ PyProof.Rows.AllBare s'.gens) s := by
  obtain ⟨H, T⟩ := entry_of (P := P) (w := w) X ha hi hl
  -- an object of the heap that is not the script is not tracked
  have un : ∀ {b : Addr} {o : Obj}, s.heap.get? b = some o → (b = a → K.lookup a ≠ none) ∨ b ≠ a → H b = none := fun {b o} e n => by
    cases q : H b with
    | none => rfl
    | some u =>
      obtain ⟨z, _⟩ := T.frz b u q
      subst z
      rcases n with n | n
      · exact absurd (T.off u q) (n rfl)
      · exact absurd rfl n
  have K2 : K.In (hidT s.heap H) := fun b o e => by
    refine hidT_get (X b o e) (un (X b o e) ?_)
    by_cases z : b = a
    · exact .inl fun _ => by rw [← z, e]; simp
    · exact .inr z
  have dict : ∀ {b : Addr} {m : Str → Option Value}, s.heap.Ns b m → (hidT s.heap H).Ns b m := fun {b m} h => by
    obtain ⟨o, es, ep, e, d, r⟩ := h
    refine ⟨o, es, ep, hidT_get e (un e (.inr fun z => ?_)), d, r⟩
    rw [z, ha] at e
    cases e
    cases d
  have md : Mod K mg (hidT s.heap H) := ⟨K2, dict hm, ⟨mb, dict hb, hbb⟩, by obtain ⟨mc, h1, h2⟩ := lim; exact ⟨mc, dict h1, h2⟩⟩
  have e0 : Env0 P w K mg (hidT s.heap H) theArd [] s H := by
    refine ⟨rfl, md, fun b o e => of_hidT e, Nat.le_of_eq (hidT_size _ _), trivial, ?_, T.hok, .of_eq hg⟩
    intro b m
    exact absurd (show b ∈ ([] : List Addr) from m) (by simp)
  have sp : spP K 1 C [.ref a] H (fun v _ => v = .bl true) E0 := by
    refine ⟨fun _ => (0, none), [.list (ns.map PyData.int)], _, rfl, ⟨fun b e => absurd rfl e, fun b o e => by cases e⟩, .cons (.lst (sqL_up (fun b o e => msk_of e rfl) T.sq) ?_) .nil, hC, fun d hd v H' _ z => ?_⟩
    · have all : ∀ l : List Int, DzAll K (msk (fun _ => (0, none)) H) (l.map V.int) (l.map PyData.int) := fun l => by
        induction l with
        | nil => exact .nil
        | cons n l ih => exact .cons (.int n) ih
      exact all ns
    · subst hd
      cases z
      rfl
  refine codeAny_mono ((F _ K2 (dict hm)).go theArd [] s H ⟨[.ref a], []⟩ [.ref a] [.ref a] _ E0 rfl hr e0 (bind s _) (.cons rfl .nil) sp) fun r s' h => ?_
  cases r with
  | error e => exact h.elim
  | ok fl => cases fl with
    | next => exact h.elim
    | brk => exact h.elim
    | cont => exact h.elim
    | ret u =>
      obtain ⟨v, H', os, bare, cur, hok', rv, q⟩ := h
      subst q
      cases rv
      refine ⟨rfl, PySem.OldK.of_keep fun b o e => ?_, os, bare⟩
      cases q : H b with
      | none => exact cur.keep b o e q (by intro z; exact absurd (show b ∈ ([] : List Addr) from z) (by simp)) (by simp)
      | some u =>
        obtain ⟨_, ob, v, z⟩ := T.frz b u q
        subst z
        have g1 := (T.hok b _ q).1
        have g2 := (hok' b _ (cur.frzs b ob v q)).1
        rw [e] at g1
        cases g1
        exact g2
/-- the goal of the head, from the law's promise over data -/
theorem walkG {l : PySem.W.OpenLaw} {k : Nat} {q : Program} {loose : List Str} {XP : (Str → Option Value) → Heap → Prop} {YP : World → Heap → Prop} {d : PySem.DefRec} {K : PySem.Params → PySem.W.Frag} {x : Str} {C : Cp}
    (hn : l.most = some 63) (hdf : d.params.defaults = []) (hr : Room k theArd) (hY : ∀ (w : World) (h : Heap), YP w h → (K w.params).In h)
    (F : ∀ (w : World) (mg : Str → Option Value) (fa : Addr) (h : Heap), (K w.params).In h → h.Ns mainGlobals mg → mg d.name = some (.ref fa) →
      ∃ fd : FuncData, (∀ (s : Shared) (u : Value), BindsTo s fd ⟨[u], []⟩ [(x, u)]) ∧ ∀ base : Heap, (K w.params).In base → base.Ns mainGlobals mg → FnG l.prog w (K w.params) mg base CX0 k fa fd [x] (spP (K w.params) 1 C))
    (hC : ∀ ns : List Int, ns.length ≤ 63 → C [.list (ns.map PyData.int)] (fun d => d = .bool true)) : PySem.W.WalkO q loose XP YP l.row.toRowW d [] (fun f vs => PySem.call f vs) := by
  refine Att.attach_call hn hdf ?_
  intro w s0 s1 mg mb fa o pm cd doc a vs ns G Y ho hd hcd hmg hobj hints hlen hg
  have X := hY w _ Y
  obtain ⟨fd, hb, hF⟩ := F w mg fa _ X G.T.g hmg
  exact law_run X G.T.g G.T.b G.T.builtins G.T.nolimit hg hobj hints (Nat.le_trans hlen (by decide)) hr hF hb (hC ns hlen)
end Z
set_option Elab.async false
set_option linter.all false
set_option maxRecDepth 100000
namespace Z
open PySem L2
structure Gc (K : PySem.W.Frag) (mg : Str → Option Value) (x : Str) (d : PyData) : Prop where
  ex : ∃ v u, mg x = some u ∧ RelV v u ∧ ∀ H, Dz K H v d
theorem gc_tup {K : PySem.W.Frag} {mg : Str → Option Value} {x : Str} {a : Addr} {od : Option Addr} {its : Array Value} {n : Nat} {sl : Array (Option Value)} {vs : List V} {ds : List PyData} (h : mg x = some (.ref a)) (hl : K.lookup a = some ⟨.type "tuple", od, .seq its n, sl⟩)
    (hz : its.size ≤ 1000) (hd : ∀ H, DzAll K H vs ds) (hv : Vals vs its.toList) : Gc K mg x (.tuple ds) := ⟨.ref a, .ref a, h, rfl, fun H => .tup (.inr ⟨_, its, n, hl, rfl, rfl, line_of hz, hv⟩) (hd H)⟩
theorem de_gc {X : Cx} {c : Cf} {x : Str} {d : PyData} {pos : Pos} (g : Gc X.K X.mg x d) (hg : Gl X x) (h2 : (x == ("__debug__" : Str)) = false := by decide) : DE X c (.Name x pos) (dLit d) := by
  obtain ⟨v, u, hm, r, hd⟩ := g.ex
  exact de_lit (pe_glob hg hm r h2) hd
def powC (i j : Int) : Prop := 0 ≤ j ∧ j ≤ 1000000 ∧ i.natAbs < 2 ^ 64
abbrev fPow := fII powC fun i j => .int (i ^ j.toNat)
theorem de_pow {X : Cx} {c : Cf} {a b : Expr} {wa wb : Wx} {pos : Pos} (ha : DE X c a wa) (hb : DE X c b wb) : DE X c (.BinOp a .Pow b pos) (dOp fPow wa wb) := de_op op_pow (rz_ii (fun _ _ h => h) fun _ _ _ => .int _) ha hb
class Sz (n : outParam Nat) (x : Int) : Prop where
  lt : x.natAbs < 2 ^ n
theorem szAddMax {n m k : Nat} {x y : Int} (a : Sz n x) (b : Sz m y) (h1 : n ≤ k) (h2 : m ≤ k) : (x + y).natAbs < 2 ^ (k + 1) := by
  have h3 : 2 ^ n ≤ 2 ^ k := Nat.pow_le_pow_right (by decide) h1
  have h4 : 2 ^ m ≤ 2 ^ k := Nat.pow_le_pow_right (by decide) h2
  have h5 := a.lt
  have h6 := b.lt
  have h7 : (x + y).natAbs ≤ x.natAbs + y.natAbs := Int.natAbs_add_le x y
  rw [Nat.pow_succ]
  omega
instance sz_add {n m : Nat} {x y : Int} [a : Sz n x] [b : Sz m y] : Sz (max n m + 1) (x + y) := ⟨szAddMax a b (Nat.le_max_left ..) (Nat.le_max_right ..)⟩
instance sz_neg {n : Nat} {x : Int} [a : Sz n x] : Sz n (-x) := ⟨by rw [Int.natAbs_neg]; exact a.lt⟩
instance sz_sub {n m : Nat} {x y : Int} [a : Sz n x] [b : Sz m y] : Sz (max n m + 1) (x - y) := ⟨by
  rw [Int.sub_eq_add_neg]
  exact (sz_add (x := x) (y := -y)).lt⟩
instance sz_mul {n m : Nat} {x y : Int} [a : Sz n x] [b : Sz m y] : Sz (n + m) (x * y) := ⟨by
  rw [Int.natAbs_mul, Nat.pow_add]
  exact Nat.mul_lt_mul'' a.lt b.lt⟩
instance sz_div {n : Nat} {x y : Int} [a : Sz n x] : Sz n (x / y) := ⟨Nat.lt_of_le_of_lt (by
  have h := Int.natAbs_ediv_le_natAbs x y
  exact h) a.lt⟩
theorem sz_lt {k : Nat} {x : Int} (h0 : 0 ≤ x) (h : x < (2 : Int) ^ k) : Sz k x := ⟨by
  have e : (x.natAbs : Int) = x := Int.natAbs_of_nonneg h0
  have z : ((2 ^ k : Nat) : Int) = (2 : Int) ^ k := by simp
  omega⟩
theorem Sz.log {n : Nat} {x : Int} (h : Sz n x) : x.natAbs.log2 ≤ n := by
  by_cases z : x.natAbs = 0
  · rw [z, Nat.log2_zero]; exact Nat.zero_le _
  · exact Nat.le_of_lt ((Nat.log2_lt z).mpr h.lt)
/-- small enough for every sum and product of a def -/
abbrev cap : Nat := 20000
abbrev Sm (x : Int) : Prop := Sz cap x
theorem szUp {n m : Nat} {x : Int} (h : Sz n x) (l : n ≤ m) : Sz m x := ⟨Nat.lt_of_lt_of_le h.lt (Nat.pow_le_pow_right (by decide) l)⟩
theorem mulC_of {n m : Nat} {x y : Int} (a : Sz n x) (b : Sz m y) (h : n + m < 1000000) : mulC x y := by
  have h1 := a.log
  have h2 := b.log
  unfold mulC
  omega
theorem divC_of {m : Nat} {x y : Int} (b : Sz m y) (h0 : 0 < y) (h : m < 9000) : divC x y := ⟨h0, by have := b.log; omega⟩
abbrev cp (a b : Int) : PyData := .tuple [.int a, .int b]
theorem lc_map {i : Nat} {el : Wx} {f : PyData → PyData} : ∀ {ds acc : List PyData} {ev : Ev} {Q : List PyData → Ev → Prop}, ev[i]? = some none → acc.length + ds.length ≤ 1000 →
    (∀ d ∈ ds, ∀ R : PyData → Ev → Prop, R (f d) (ev.set i (some (.val d))) → el (ev.set i (some (.val d))) R) → Q (acc ++ ds.map f) ev → lcD [i] (gN i) dYes el ds acc ev Q
  | [], acc, ev, Q, _, l, _, q => by
    rw [List.map_nil, List.append_nil] at q
    exact ⟨l, q⟩
  | d :: ds, acc, ev, Q, e, l, h, q => by
    have g : ∀ P : Ev → Prop, gN i d ev P = P (ev.set i (some (.val d))) := fun P => by
      unfold gN
      rw [e]
    show gN i d ev _
    rw [g]
    have goal : el (ev.set i (some (.val d))) (fun y e3 => acc.length < 1000 ∧ lcD [i] (gN i) dYes el ds (acc ++ [y]) (wipeD e3 [i]) Q) := ?_
    · exact goal
    refine h d (List.mem_cons_self ..) _ ⟨by rw [List.length_cons] at l; omega, ?_⟩
    have back : wipeD (ev.set i (some (.val d))) [i] = ev := by
      show (ev.set i (some (.val d))).set i none = ev
      rw [List.set_set]
      apply List.ext_getElem?
      intro j
      by_cases z : i = j
      · subst z
        have hi : i < ev.length := by
          by_cases y : i < ev.length
          · exact y
          · rw [List.getElem?_eq_none (by omega)] at e; cases e
        rw [List.getElem?_set_self hi, e]
      · rw [List.getElem?_set_ne z]
    rw [back]
    refine lc_map e (by rw [List.length_append, List.length_cons, List.length_nil]; rw [List.length_cons] at l; omega) (fun d' m R r => h d' (List.mem_cons_of_mem _ m) R r) ?_
    rw [List.append_assoc]
    exact q
theorem fAll_of {ds : List PyData} {bs : List Bool} {R : PyData → Prop} (h : bools ds = some bs) (q : R (.bool (bs.all id))) : fAll [.list ds] R := by
  show (match bools ds with
    | some bs => R (.bool (bs.all id))
    | none => False)
  rw [h]
  exact q
theorem atI_lt {α : Type} {xs : List α} {k : Int} (h0 : 0 ≤ k) (h : k < xs.length) : ∃ x ∈ xs, atI xs k = some x := by
  have l : k.toNat < xs.length := by omega
  refine ⟨xs[k.toNat], List.getElem_mem l, ?_⟩
  show (ixN xs.length k).bind _ = _
  unfold ixN
  rw [if_pos h0, if_pos h]
  exact List.getElem?_eq_getElem l
theorem fIx_tup {xs : List PyData} {k : Int} {x : PyData} {R : PyData → Prop} (h : atI xs k = some x) (q : R x) : fIx (.tuple xs) (.int k) R := by
  show (match atI xs k with
    | some d => R d
    | none => False)
  rw [h]
  exact q
theorem fIx_lst {xs : List PyData} {k : Int} {x : PyData} {R : PyData → Prop} (h : atI xs k = some x) (q : R x) : fIx (.list xs) (.int k) R := by
  show (match atI xs k with
    | some d => R d
    | none => False)
  rw [h]
  exact q
/-- a for by what holds between two turns -/
theorem foD_inv {g : Wg} {b : Ws} {E : Ed} (I : Ev → Prop) : ∀ {ds : List PyData} {ev : Ev}, (∀ d ∈ ds, ∀ (ev : Ev) (E' : Ed), I ev → (∀ ev', I ev' → E'.nx ev') → E'.ct = E'.nx → E'.rt = E.rt → E'.rl = E.rl → E'.bk = E.nx → g d ev fun e => b E' e) → I ev → (∀ ev', I ev' → E.nx ev') → foD g b ds E ev
  | [], ev, _, i, n => n ev i
  | d :: ds, ev, h, i, n => h d (List.mem_cons_self ..) ev _ i (fun ev' i' => foD_inv I (fun d' m => h d' (List.mem_cons_of_mem _ m)) i' n) rfl rfl rfl rfl
end Z
set_option Elab.async false
set_option linter.all false
set_option maxRecDepth 100000
namespace Z
open PySem L2
theorem sOk_app (x y : Str) : PyData.strOk (x ++ y) = (PyData.strOk x && PyData.strOk y) := by
  show (x.cps ++ y.cps).all (· < 0x110000) = _
  rw [Array.all_append]
  rfl
theorem sOk_join {s : Str} (h : PyData.strOk s = true) : ∀ ts : List Str, ts.all PyData.strOk = true → PyData.strOk (Str.join s ts) = true
  | [], _ => show PyData.strOk Str.empty = true by decide +kernel
  | [x], h1 => by
    rw [List.all_cons, Bool.and_eq_true] at h1
    exact h1.1
  | x :: y :: ts, h1 => by
    rw [List.all_cons, Bool.and_eq_true] at h1
    show PyData.strOk (x ++ s ++ Str.join s (y :: ts)) = true
    rw [sOk_app, sOk_app, h1.1, h, sOk_join h (y :: ts) h1.2]
    rfl
class Sh (w n k : outParam Nat) (d : PyData) : Prop where
  ok : w ≤ 1900 → d.showable = true
  len : d.shown.length ≤ n
  dep : d.depth ≤ k
  nd : d.hasDict = false
  tx : PyData.strOk d.shown = true
class ShA (w n k : outParam Nat) (ds : List PyData) : Prop where
  ok : w ≤ 1900 → PyData.showableAll ds = true
  len : ((PyData.shownAll ds).map (·.length)).sum + 2 * (PyData.shownAll ds).length ≤ n
  dep : PyData.depthAll ds ≤ k
  nd : PyData.hasDictAll ds = false
  tx : (PyData.shownAll ds).all PyData.strOk = true
instance sh_int {m : Nat} {i : Int} [a : Sz m i] : Sh m (m + 2) 0 (.int i) := ⟨fun h => by
  have := a.log
  simp only [PyData.showable, decide_eq_true_eq]
  omega, by
  have := a.log
  rw [PyData.shown_int, PySem.ofString_length]
  exact PySem.int_text_length_le (k := m + 1) (Nat.succ_pos m) (by omega), Nat.le_refl 0, by simp only [PyData.hasDict], by
  unfold PyData.strOk
  rw [← Array.all_toList, List.all_eq_true]
  intro k hk
  by_cases z : k ≠ 45 ∧ (k < 48 ∨ 57 < k)
  · exact absurd hk (PyProof.Rows.shown_int_free' z i)
  · exact decide_eq_true (by omega)⟩
instance sh_none : Sh 0 4 0 .none := ⟨fun _ => by simp only [PyData.showable], by simp only [PyData.shown]; decide, Nat.le_refl 0, by simp only [PyData.hasDict], by simp only [PyData.shown]; decide +kernel⟩
instance sh_bool {b : Bool} : Sh 0 5 0 (.bool b) := ⟨fun _ => by simp only [PyData.showable], by simp only [PyData.shown]; cases b <;> decide, Nat.le_refl 0, by simp only [PyData.hasDict], by simp only [PyData.shown]; cases b <;> decide +kernel⟩
instance sha_nil : ShA 0 0 0 [] := ⟨fun _ => by simp only [PyData.showableAll], by simp only [PyData.shownAll]; decide, Nat.le_refl 0, by simp only [PyData.hasDictAll], rfl⟩
instance sha_cons {w n k w' n' k' : Nat} {d : PyData} {ds : List PyData} [a : Sh w n k d] [b : ShA w' n' k' ds] : ShA (max w w') (n + 2 + n') (max k k') (d :: ds) := ⟨fun h => by
  simp only [PyData.showableAll, a.ok (by omega), b.ok (by omega), Bool.and_self], by
  have h1 := a.len
  have h2 := b.len
  simp only [PyData.shownAll, List.map_cons, List.sum_cons, List.length_cons]
  omega, by
  have h1 := a.dep
  have h2 := b.dep
  simp only [PyData.depthAll]
  omega, by simp only [PyData.hasDictAll, a.nd, b.nd, Bool.or_self], by simp only [PyData.shownAll, List.all_cons, a.tx, b.tx, Bool.and_self]⟩
instance sha_app {w n k w' n' k' : Nat} {ds es : List PyData} [a : ShA w n k ds] [b : ShA w' n' k' es] : ShA (max w w') (n + n') (max k k') (ds ++ es) := by
  induction ds generalizing w n k with
  | nil => exact ⟨fun h => b.ok (by omega), Nat.le_trans b.len (Nat.le_add_left ..), Nat.le_trans b.dep (Nat.le_max_right ..), b.nd, b.tx⟩
  | cons d ds ih =>
    have al := a.len
    have ad := a.dep
    have an := a.nd
    have at' := a.tx
    simp only [PyData.shownAll, List.map_cons, List.sum_cons, List.length_cons] at al
    simp only [PyData.depthAll] at ad
    simp only [PyData.hasDictAll, Bool.or_eq_false_iff] at an
    simp only [PyData.shownAll, List.all_cons, Bool.and_eq_true] at at'
    have i := ih (w := w) (n := n - (d.shown.length + 2)) (k := k) (a := ⟨fun h => by
      have := a.ok h
      simp only [PyData.showableAll, Bool.and_eq_true] at this
      exact this.2, by omega, by omega, an.2, at'.2⟩)
    refine ⟨fun h => ?_, ?_, ?_, ?_, ?_⟩
    · have h1 := a.ok (by omega)
      simp only [PyData.showableAll, Bool.and_eq_true] at h1
      show PyData.showableAll (d :: (ds ++ es)) = true
      simp only [PyData.showableAll, h1.1, i.ok h, Bool.and_self]
    · have := i.len
      show (((PyData.shownAll (d :: (ds ++ es))).map (·.length)).sum + 2 * (PyData.shownAll (d :: (ds ++ es))).length) ≤ _
      simp only [PyData.shownAll, List.map_cons, List.sum_cons, List.length_cons]
      omega
    · have := i.dep
      show PyData.depthAll (d :: (ds ++ es)) ≤ _
      simp only [PyData.depthAll]
      omega
    · show PyData.hasDictAll (d :: (ds ++ es)) = false
      simp only [PyData.hasDictAll, an.1, i.nd, Bool.or_self]
    · show (PyData.shownAll (d :: (ds ++ es))).all PyData.strOk = true
      simp only [PyData.shownAll, List.all_cons, at'.1, i.tx, Bool.and_self]
instance sh_tup {w n k : Nat} {ds : List PyData} [a : ShA w n k ds] : Sh w (n + 3) (k + 1) (.tuple ds) := ⟨fun h => by simp only [PyData.showable]; exact a.ok h, by
  have h1 := a.len
  have h2 := tupleText_len_le (PyData.shownAll ds)
  simp only [PyData.shown]
  omega, by simp only [PyData.depth]; exact Nat.succ_le_succ a.dep, by simp only [PyData.hasDict]; exact a.nd, by
  rw [PyData.shown_tuple, sOk_app, sOk_app, sOk_join (by decide +kernel) _ a.tx]
  split <;> decide +kernel⟩
instance sh_lst {w n k : Nat} {ds : List PyData} [a : ShA w n k ds] : Sh w (n + 3) (k + 1) (.list ds) := ⟨fun h => by simp only [PyData.showable]; exact a.ok h, by
  have h1 := a.len
  have h2 := listText_len_le (PyData.shownAll ds)
  simp only [PyData.shown]
  omega, by simp only [PyData.depth]; exact Nat.succ_le_succ a.dep, by simp only [PyData.hasDict]; exact a.nd, by
  rw [PyData.shown_list, sOk_app, sOk_app, sOk_join (by decide +kernel) _ a.tx]
  decide +kernel⟩
theorem RP_of {w n k : Nat} {d : PyData} {P : Prop} (a : Sh w n k d) (h : w ≤ 1900) (h1 : n ≤ 10000000) (h2 : k ≤ 100) (q : P) : RP d P := ⟨⟨a.ok h, by have := a.len; rw [sizeLine_eq]; omega, Nat.le_trans a.dep h2, a.nd⟩, q⟩
theorem eqv_int (a b : Int) : PyData.eqv (.int a) (.int b) = decide (a = b) := by
  have h : PyData.eqv (.int a) (.int b) = (a == b) := by simp [PyData.eqv]
  rw [h]
  by_cases z : a = b
  · subst z; simp
  · rw [decide_eq_false z]; exact beq_eq_false_iff_ne.mpr z
theorem eqv_cp (a b c d : Int) : PyData.eqv (cp a b) (cp c d) = decide (a = c ∧ b = d) := by
  have h : PyData.eqv (cp a b) (cp c d) = (PyData.eqv (.int a) (.int c) && PyData.eqv (.int b) (.int d)) := by simp [PyData.eqv, PyData.eqvAll]
  rw [h, eqv_int, eqv_int, Bool.decide_and]
theorem ite_b {x : Bool} {A B : Prop} (h1 : x = true → A) (h2 : x = false → B) : if x = true then A else B := by
  cases x
  · exact h2 rfl
  · exact h1 rfl
theorem ite_t {x : Bool} {A B : Prop} (e : x = true) (h : A) : if x = true then A else B := by rw [if_pos e]; exact h
theorem ite_f {x : Bool} {A B : Prop} (e : x = false) (h : B) : if x = true then A else B := by rw [if_neg (by rw [e]; decide)]; exact h
theorem rB {R : PyData → Prop} {x y : Bool} (q : R (.bool x)) (e : x = y) : R (.bool y) := e ▸ q
end Z
set_option Elab.async false
set_option linter.all false
set_option maxRecDepth 100000
namespace Z
open PySem L2
def Bl (f : PyData → PyData → (PyData → Prop) → Prop) : Prop := ∀ x y (Q : PyData → Prop), f x y Q → f x y fun d => (∃ b, d = .bool b) ∧ Q d
theorem bl_ii {p : Int → Int → Prop} {g : Int → Int → Bool} : Bl (fII p fun i j => .bool (g i j)) := fun x y Q h => by
  unfold fII at h ⊢
  split at h
  · exact ⟨h.1, ⟨_, rfl⟩, h.2⟩
  · exact h.elim
theorem bl_eq : Bl fEq := fun x y Q h => ⟨h.1, ⟨_, rfl⟩, h.2⟩
theorem bl_ne : Bl fNe := fun x y Q h => ⟨h.1, ⟨_, rfl⟩, h.2⟩
theorem bl_is : Bl fIs := fun x y Q h => by
  unfold fIs at h ⊢
  split at h
  · exact ⟨⟨_, rfl⟩, h⟩
  · exact ⟨⟨_, rfl⟩, h⟩
  · exact h.elim
section
variable {X : Cx} {c : Cf} {a b : Expr} {wa wb : Wx} {pos : Pos}
theorem tst_rd {r : R2} {f} (h : RZ2 X.K r f) (B : Bl f) {a b : Wx} {σ : Sg} {H : Hp} {Q : Bool → Hp → Prop} (q : tT X.K c (dTru (dOp f a b)) σ H Q) : tTest (tOp r (tE X.K c a) (tE X.K c b)) σ H Q := by
  obtain ⟨M, ev, pd, R, k, w, q⟩ := q
  exact ⟨M, ev, pd, _, k, w, fun x e1 h1 v H1 k1 => ⟨M, e1, _, _, k1, h1, fun y e2 h2 u H2 k2 =>
    h c M σ H2 e2 pd v u x y _ _ k2.pop1.pop1 k2.pop1.top k2.top (B x y _ h2) fun d w' H' hd ok => by
      obtain ⟨⟨b, rfl⟩, _, hd⟩ := hd
      have t := ok.top
      cases t
      exact ⟨b, rfl, q b e2 hd H' ok.pop1⟩⟩⟩
theorem dt_cmp {op : CmpOp} {r : R2} {f} (ho : OpR X (compareOp op) r) (h : RZ2 X.K r f) (B : Bl f) (ha : DE X c a wa) (hb : DE X c b wb) (hm : behindInMarks op b = false) : DT X c (.Compare a [op] [b] pos) (dTru (dOp f wa wb)) :=
  ptM (pt_cmpR ho ha hb hm) fun _ _ _ q => tst_rd h B q
theorem dt_lt (ha : DE X c a wa) (hb : DE X c b wb) : DT X c (.Compare a [.Lt] [b] pos) (dTru (dOp fLt wa wb)) := dt_cmp op_lt (rz_ii0 fun _ _ _ => .bl _) bl_ii ha hb (nobehind b (by decide) (by decide))
theorem dt_le (ha : DE X c a wa) (hb : DE X c b wb) : DT X c (.Compare a [.LtE] [b] pos) (dTru (dOp fLe wa wb)) := dt_cmp op_le (rz_ii0 fun _ _ _ => .bl _) bl_ii ha hb (nobehind b (by decide) (by decide))
theorem dt_gt (ha : DE X c a wa) (hb : DE X c b wb) : DT X c (.Compare a [.Gt] [b] pos) (dTru (dOp fGt wa wb)) := dt_cmp op_gt (rz_ii0 fun _ _ _ => .bl _) bl_ii ha hb (nobehind b (by decide) (by decide))
theorem dt_ge (ha : DE X c a wa) (hb : DE X c b wb) : DT X c (.Compare a [.GtE] [b] pos) (dTru (dOp fGe wa wb)) := dt_cmp op_ge (rz_ii0 fun _ _ _ => .bl _) bl_ii ha hb (nobehind b (by decide) (by decide))
variable {n : Nat}
theorem dt_eq (hr : Room n X.A) (ha : DE X c a wa) (hb : DE X c b wb) : DT X c (.Compare a [.Eq] [b] pos) (dTru (dOp fEq wa wb)) := dt_cmp (OpR.or op_eq (op_eqD hr.units)) rz_eq bl_eq ha hb (nobehind b (by decide) (by decide))
theorem dt_ne (hr : Room n X.A) (ha : DE X c a wa) (hb : DE X c b wb) : DT X c (.Compare a [.NotEq] [b] pos) (dTru (dOp fNe wa wb)) := dt_cmp (OpR.or op_ne (op_neD hr.units)) rz_ne bl_ne ha hb (nobehind b (by decide) (by decide))
theorem dt_is (ha : DE X c a wa) (hb : DE X c b wb) : DT X c (.Compare a [.Is] [b] pos) (dTru (dOp fIs wa wb)) := dt_cmp (OpR.or op_isBl op_isN) rz_is bl_is ha hb (nobehind b (by decide) (by decide))
end
def wPar3 (i j l : Nat) (u : Wa) : Ws := fun E ev => u ev fun ds e => match ds with
  | [x, y, z] => gN i x e fun e1 => gN j y e1 fun e2 => gN l z e2 E.nx
  | _ => False
theorem ds_par3 {X : Cx} {c : Cf} {pos : Pos} {i j l : Nat} {x y z : Str} {a b d : Expr} {u : Wa} {px py pz pt : Pos} {kt k2 pt2} (hc : X.calm = true) (hN : X.N.Nodup) (hi : X.N[i]? = some x) (hj : X.N[j]? = some y) (hl : X.N[l]? = some z) (hij : i ≠ j) (hil : i ≠ l) (hjl : j ≠ l)
    (hx : X.env.scope.names.lookup x = some .local) (hy : X.env.scope.names.lookup y = some .local) (hz : X.env.scope.names.lookup z = some .local) (ha : DA X c [a, b, d] u)
    (hw : swappedStores [.Tuple [.Name x px, .Name y py, .Name z pz] kt pt] (.Tuple [a, b, d] k2 pt2) X.env = pure (some [x, y, z]))
    (hs : swapsWithSole [.Tuple [.Name x px, .Name y py, .Name z pz] kt pt] (.Tuple [a, b, d] k2 pt2) pos.line X.env = pure false := by rfl) :
    DS X c (.Assign [.Tuple [.Name x px, .Name y py, .Name z pz] kt pt] (.Tuple [a, b, d] k2 pt2) pos) (wPar3 i j l u) :=
  psM (ps_par3 hc hN hi hj hl hij hil hjl hx hy hz ha hw hs) fun De σ H ⟨M, ev, pd, R, k, h, f⟩ => ⟨M, ev, pd, _, k, h, fun ds e q vs H' k' r => by
    split at q
    · cases r with
      | cons r1 r2 =>
        cases r2 with
        | cons r2 r3 =>
          cases r3 with
          | cons r3 r4 =>
            cases r4
            obtain ⟨n1, w1⟩ := gN_of q
            obtain ⟨n2, w2⟩ := gN_of w1
            obtain ⟨n3, w3⟩ := gN_of w2
            exact ⟨_, _, _, rfl, f.nx _ w3 M _ H' (((k'.set n1 r1).set n2 r2).set n3 r3)⟩
    · exact q.elim⟩
end Z
set_option Elab.async false
set_option linter.all false
set_option maxRecDepth 100000
namespace Z
open PySem L2
def gcF (s : Int) (us : List Int) : Int := us.foldl (fun g u => (Int.gcd g u : Int)) s
abbrev gcI (us : List Int) : Int := gcF 0 us
def rd (us : List Int) : List Int := us.map (· / gcI us)
theorem gcF_mul {k : Int} (hk : 0 ≤ k) : ∀ (us : List Int) (s : Int), gcF (k * s) (us.map (k * ·)) = k * gcF s us
  | [], s => rfl
  | u :: us, s => by
    show gcF (Int.gcd (k * s) (k * u) : Int) (us.map (k * ·)) = k * gcF (Int.gcd s u : Int) us
    have e : (Int.gcd (k * s) (k * u) : Int) = k * (Int.gcd s u : Int) := by
      rw [Int.gcd_mul_left, Int.natCast_mul, Int.natAbs_of_nonneg hk]
    rw [e]
    exact gcF_mul hk us _
theorem gcF_dvd : ∀ (us : List Int) (s : Int), gcF s us ∣ s ∧ ∀ u ∈ us, gcF s us ∣ u
  | [], s => ⟨Int.dvd_refl s, fun u h => by cases h⟩
  | u :: us, s => by
    obtain ⟨h1, h2⟩ := gcF_dvd us (Int.gcd s u : Int)
    refine ⟨Int.dvd_trans h1 (Int.gcd_dvd_left ..), fun v hv => ?_⟩
    rcases List.mem_cons.mp hv with e | hv
    · rw [e]; exact Int.dvd_trans h1 (Int.gcd_dvd_right ..)
    · exact h2 v hv
theorem gcF_nn : ∀ (us : List Int) (s : Int), 0 ≤ s → 0 ≤ gcF s us
  | [], s, h => h
  | u :: us, s, _ => gcF_nn us _ (Int.natCast_nonneg _)
theorem gcF_zero : ∀ us : List Int, (∀ u ∈ us, u = 0) → gcF 0 us = 0
  | [], _ => rfl
  | u :: us, h => by
    rw [h u (List.mem_cons_self ..)]
    exact gcF_zero us fun v hv => h v (List.mem_cons_of_mem _ hv)
theorem gc_nn (us : List Int) : 0 ≤ gcI us := gcF_nn us 0 (Int.le_refl 0)
theorem gc_ne {us : List Int} {u : Int} (h : u ∈ us) (n : u ≠ 0) : gcI us ≠ 0 := fun z => by
  have d := (gcF_dvd us 0).2 u h
  rw [show gcF 0 us = 0 from z] at d
  exact n (Int.zero_dvd.mp d)
theorem gc_pos {us : List Int} (h : gcI us ≠ 0) : 0 < gcI us := by have := gc_nn us; omega
theorem gc_mul {k : Int} (hk : 0 ≤ k) (us : List Int) : gcI (us.map (k * ·)) = k * gcI us := by
  have h := gcF_mul hk us 0
  rw [Int.mul_zero] at h
  exact h
theorem rd_scale {k : Int} (hk : 0 < k) (us : List Int) : rd (us.map (k * ·)) = rd us := by
  unfold rd
  rw [gc_mul (Int.le_of_lt hk), List.map_map]
  apply List.map_congr_left
  intro u _
  exact Int.mul_ediv_mul_of_pos u (gcI us) hk
theorem rd_prop {k l : Int} {us vs : List Int} (hk : 0 < k) (hl : 0 < l) (h : us.map (k * ·) = vs.map (l * ·)) : rd us = rd vs := by
  rw [← rd_scale hk us, h, rd_scale hl]
theorem rd_at {us : List Int} {u : Int} (h : u ∈ us) : gcI us * (u / gcI us) = u := Int.mul_ediv_cancel' ((gcF_dvd us 0).2 u h)
theorem rd_back (us : List Int) : (rd us).map (gcI us * ·) = us := by
  unfold rd
  rw [List.map_map]
  have : us.map ((gcI us * ·) ∘ (· / gcI us)) = us.map id := List.map_congr_left fun u hu => rd_at hu
  rw [this, List.map_id]
theorem gc_rd {us : List Int} (h : gcI us ≠ 0) : gcI (rd us) = 1 := by
  have e := gc_mul (gc_nn us) (rd us)
  rw [rd_back us] at e
  have p := gc_pos h
  have e2 : gcI us * 1 = gcI us * gcI (rd us) := by rw [Int.mul_one]; exact e
  exact (Int.eq_of_mul_eq_mul_left (Int.ne_of_gt p) e2).symm
theorem rd_self {us : List Int} (h : gcI us = 1) : rd us = us := by
  unfold rd
  rw [h]
  have : us.map (· / (1 : Int)) = us.map id := List.map_congr_left fun u _ => Int.ediv_one u
  rw [this, List.map_id]
theorem gc_sz {n : Nat} {us : List Int} (h : ∀ u ∈ us, Sz n u) (z : gcI us ≠ 0) : Sz n (gcI us) := by
  by_cases a : ∃ u ∈ us, u ≠ 0
  · obtain ⟨u, hu, hn⟩ := a
    have d := (gcF_dvd us 0).2 u hu
    refine ⟨Nat.lt_of_le_of_lt ?_ (h u hu).lt⟩
    exact Nat.le_of_dvd (by omega) (Int.natAbs_dvd_natAbs.mpr d)
  · exact absurd (gcF_zero us fun u hu => Classical.byContradiction fun n => a ⟨u, hu, n⟩) z
theorem gc_divC {n : Nat} {us : List Int} (h : ∀ u ∈ us, Sz n u) (l : n < 9000) (z : gcI us ≠ 0) (x : Int) : divC x (gcI us) := divC_of (gc_sz h z) (gc_pos z) l
/-- a walk over whole numbers that gathers -/
theorem foD_fold {g : Wg} {b : Ws} {E : Ed} (I : Int → Ev → Prop) (st : Int → Int → Int) : ∀ {us : List Int} {s : Int} {ev : Ev}, (∀ (u s : Int) (ev : Ev) (E' : Ed), I s ev → (∀ ev', I (st s u) ev' → E'.nx ev') → g (.int u) ev fun e => b E' e) → I s ev → (∀ ev', I (us.foldl st s) ev' → E.nx ev') → foD g b (us.map .int) E ev
  | [], s, ev, _, i, n => n ev i
  | u :: us, s, ev, h, i, n => h u s ev _ i fun ev' i' => foD_fold I st h i' n
abbrev pl (a b c : Int) : PyData := .tuple [.int a, .int b, .int c]
/-- a place that is not far -/
structure Rt (n : Nat) (a b r : Int) : Prop where
  one : gcI [a, b, r] = 1
  pos : 0 < r
  sa : Sz n a
  sb : Sz n b
  sr : Sz n r
theorem Rt.up {n m : Nat} {a b r : Int} (h : Rt n a b r) (l : n ≤ m) : Rt m a b r := ⟨h.one, h.pos, szUp h.sa l, szUp h.sb l, szUp h.sr l⟩
theorem gc3_ne {a b c : Int} (h : 0 < c) : gcI [a, b, c] ≠ 0 := gc_ne (u := c) (by simp) (Int.ne_of_gt h)
theorem pos_of_mul {g z c : Int} (hg : 0 < g) (h : g * z = c) (hc : 0 < c) : 0 < z := by
  rcases Int.lt_trichotomy z 0 with y | y | y
  · have := Int.mul_neg_of_pos_of_neg hg y
    omega
  · rw [y, Int.mul_zero] at h
    omega
  · exact y
theorem rd3 {n : Nat} {A B C : Int} (hA : Sz n A) (hB : Sz n B) (hC : Sz n C) (h : 0 < C) : ∃ x y z g, rd [A, B, C] = [x, y, z] ∧ Rt n x y z ∧ 0 < g ∧ g * x = A ∧ g * y = B ∧ g * z = C := by
  have ne := gc3_ne (a := A) (b := B) h
  have e3 : gcI [A, B, C] * (C / gcI [A, B, C]) = C := rd_at (by simp)
  exact ⟨A / gcI [A, B, C], B / gcI [A, B, C], C / gcI [A, B, C], gcI [A, B, C], rfl, ⟨gc_rd ne, pos_of_mul (gc_pos ne) e3 h, inferInstance, inferInstance, inferInstance⟩, gc_pos ne, rd_at (by simp), rd_at (by simp), e3⟩
theorem eqv_pl (a b c x y z : Int) : PyData.eqv (pl a b c) (pl x y z) = decide (a = x ∧ b = y ∧ c = z) := by
  have h : PyData.eqv (pl a b c) (pl x y z) = (PyData.eqv (.int a) (.int x) && (PyData.eqv (.int b) (.int y) && PyData.eqv (.int c) (.int z))) := by simp [PyData.eqv, PyData.eqvAll]
  rw [h, eqv_int, eqv_int, eqv_int, Bool.decide_and, Bool.decide_and]
theorem ne_sq {c d : Int} (h : ¬(c = 0 ∧ d = 0)) : 0 < c * c + d * d := by
  have sq : ∀ x : Int, 0 ≤ x * x ∧ (x ≠ 0 → 0 < x * x) := fun x => by
    rcases Int.lt_trichotomy x 0 with y | y | y
    · have := Int.mul_pos_of_neg_of_neg y y
      exact ⟨by omega, fun _ => this⟩
    · subst y; exact ⟨by decide, fun n => absurd rfl n⟩
    · have := Int.mul_pos y y
      exact ⟨by omega, fun _ => this⟩
  have h1 := sq c
  have h2 := sq d
  by_cases z : c = 0
  · have := h2.2 (fun y => h ⟨z, y⟩)
    omega
  · have := h1.2 z
    omega
abbrev tup (us : List Int) : PyData := .tuple (us.map .int)
end Z
set_option Elab.async false
set_option linter.all false
set_option maxRecDepth 100000
namespace Z
open PySem L2
def rIsqrt : List V → Hp → VK → Prop := fun xs H Q => ∃ i, xs = [.int i] ∧ (0 ≤ i ∧ i.natAbs.log2 < 13000) ∧ Q (.int ((Float64.isqrt i.toNat : Nat) : Int)) H
theorem cr_isqrt {X : Cx} : CallR X (.builtin "math.isqrt") rIsqrt := by
  intro pins s σ H vs us Q I r h
  obtain ⟨a, rfl, ⟨h0, h1⟩, q⟩ := h
  cases r with
  | cons r1 r2 =>
    cases r2
    obtain ⟨t, rfl⟩ := r1
    have e : a.toNat = a.natAbs := by omega
    exact call_function_meets PySem.W.MGF.kind_isqrt PySem.W.MGF.plain_isqrt PySem.W.MGF.entry_isqrt (PySem.W.MGF.args_isqrt _) (PySem.W.mg_run_isqrt a t (by omega) (by rw [e]; omega) (by rw [e]; omega)).meets ⟨.int _, H, I.tok _, ⟨_, rfl⟩, q⟩
def fIsqrt : List PyData → (PyData → Prop) → Prop
  | [.int i], Q => (0 ≤ i ∧ i.natAbs.log2 < 13000) ∧ Q (.int ((Float64.isqrt i.toNat : Nat) : Int))
  | _, _ => False
theorem rz_isqrt {K : PySem.W.Frag} : RZc K rIsqrt fIsqrt := by
  intro c M σ H ev pd vs ds R Q k a w q
  unfold fIsqrt at w
  split at w
  · cases a with | cons a b => cases a; cases b; exact ⟨_, rfl, w.1, q _ _ _ w.2 (k.push (.int _))⟩
  · exact w.elim
section
variable {X : Cx} {c : Cf} {p pos : Pos} {e : Expr} {es : List Expr} {u : Wa}
theorem de_isqrt (hg : Gl X "isqrt") (hm : X.mg "isqrt" = some (.builtin "math.isqrt")) (ha : DA X c (e :: es) u) (h3 : starEach (e :: es) X.env = (false, eval e X.env) :: starEach es X.env := by rfl) (h4 : (backTo pos (starEach es X.env)).any (·.1) = false := by rfl) :
    DE X c (.Call (.Name "isqrt" p) (e :: es) [] pos) (dCal fIsqrt u) := de_cM cr_isqrt rz_isqrt hg hm ha (h3 := h3) (h4 := h4)
end
def shlC (i j : Int) : Prop := 0 ≤ j ∧ j ≤ 1000000 ∧ i.natAbs < 2 ^ 64
abbrev fShl := fII shlC fun i j => .int (i * 2 ^ j.toNat)
theorem de_shl {X : Cx} {c : Cf} {a b : Expr} {wa wb : Wx} {pos : Pos} (ha : DE X c a wa) (hb : DE X c b wb) : DE X c (.BinOp a .LShift b pos) (dOp fShl wa wb) := de_op op_shl (rz_ii (fun _ _ h => h) fun _ _ _ => .int _) ha hb
end Z
set_option Elab.async false
set_option linter.all false
set_option maxRecDepth 100000
namespace Z
open PySem L2 RZ
def zipD (xs ys : List PyData) : List PyData := List.zipWith (fun a b => .tuple [a, b]) xs ys
def diZ (u : Wa) : Wa := fun ev Q => u ev fun ds e => match ds with
  | [.tuple xs, .tuple ys] => Q (zipD xs ys) e
  | _ => False
theorem zipD_get {xs ys : List PyData} {i : Nat} {d : PyData} (h : (zipD xs ys)[i]? = some d) : ∃ x y, xs[i]? = some x ∧ ys[i]? = some y ∧ d = .tuple [x, y] := by
  unfold zipD at h
  rw [List.getElem?_zipWith] at h
  split at h
  · rename_i x y h1 h2
    cases h
    exact ⟨x, y, h1, h2, rfl⟩
  · cases h
theorem walks_zip {K : PySem.W.Frag} {a b : Addr} {xs ys : List PyData} : Walks K (ItzT K a b) [(.ref a, .tuple xs), (.ref b, .tuple ys)] (zipD xs ys) := by
  intro c M σ H ev pd i k
  have t := k.top
  have t2 := k.pop1.top
  cases t with
  | tup h r =>
    rename_i vs
    cases t2 with
    | tup h2 r2 =>
      rename_i us
      refine ⟨fun l => ⟨vs, us, sqT_up msk_sub h, sqT_up msk_sub h2, ?_⟩, fun d e => ?_⟩
      · rw [r.len, r2.len]
        unfold zipD at l
        rw [List.length_zipWith] at l
        omega
      · obtain ⟨x, y, ex, ey, rfl⟩ := zipD_get e
        obtain ⟨v, e1, e2⟩ := r.get i ex
        obtain ⟨u, e3, e4⟩ := r2.get i ey
        refine ⟨⟨vs, us, v, u, sqT_up msk_sub h, sqT_up msk_sub h2, e1, e3⟩, fun w H' yl => ?_⟩
        obtain ⟨T, v', u', rfl, hT, rfl, z1, z2⟩ := yl
        have y1 := z1 vs (sqT_up msk_sub h)
        have y2 := z2 us (sqT_up msk_sub h2)
        rw [e1] at y1
        rw [e3] at y2
        cases y1
        cases y2
        refine ⟨k.newTup hT (.cons e2 (.cons e4 .nil)), fun b o q => ?_⟩
        have n : b ≠ T := fun z => by rw [z, hT] at q; cases q
        rw [upd_ne n]
        exact q
theorem di_zip {X : Cx} {c : Cf} {pos p tpos : Pos} {elts : List Expr} {kk : Nat} {a b : Expr} {u : Wa} (hg : Gl X "zip") (hm : X.mg "zip" = none) (ha : DA X c [a, b] u) (h1 : starEach [a, b] X.env = (false, eval a X.env) :: starEach [b] X.env := by rfl) (h2 : (backTo pos (starEach [b] X.env)).any (·.1) = false := by rfl) :
    DI X c (.Tuple elts kk tpos) (.Call (.Name "zip" p) [a, b] [] pos) (diZ u) :=
  piM (pi_zipA hg hm ha h1 h2) fun σ H Q ⟨M, ev, pd, R, k, w, q⟩ => ⟨M, ev, pd, _, k, w, fun ds e y vs H1 k1 r => by
    split at y
    · cases r with
      | cons r1 r2 =>
        cases r2 with
        | cons r2 r3 =>
          cases r3
          cases r1 with
          | tup g1 s1 =>
            cases r2 with
            | tup g2 s2 =>
              exact ⟨_, _, _, _, rfl, .inr ⟨sqT_up msk_sub g1, sqT_up msk_sub g2, q _ e y [_, _] H1 _ ((k1.push (.tup g2 s2)).push (.tup g1 s1)) walks_zip⟩⟩
    · exact y.elim⟩
end Z
set_option Elab.async false
set_option linter.all false
set_option maxRecDepth 100000
namespace Z
open PySem L2
def gtL : List Int → List Int → Bool
  | [], _ => false
  | _ :: _, [] => true
  | p :: ps, r :: rs => if p = r then gtL ps rs else decide (r < p)
theorem gtL_at : ∀ (k i : Nat) (ps rs : List Int), min ps.length rs.length = i + k →
    Ob.lexAt (fun j => decide (ps.getD j 0 = rs.getD j 0)) (fun j => decide (rs.getD j 0 < ps.getD j 0)) (decide (ps.length > rs.length)) i k = gtL (ps.drop i) (rs.drop i)
  | 0, i, ps, rs, h => by
    rw [Ob.lexAt_zero]
    by_cases z : ps.length ≤ rs.length
    · rw [decide_eq_false (by omega), List.drop_of_length_le (show ps.length ≤ i by omega)]
      rfl
    · have l : i < ps.length := by omega
      rw [decide_eq_true (by omega), List.drop_of_length_le (show rs.length ≤ i by omega), List.drop_eq_getElem_cons l]
      rfl
  | k + 1, i, ps, rs, h => by
    have l1 : i < ps.length := by omega
    have l2 : i < rs.length := by omega
    have g1 : ps.getD i 0 = ps[i] := by simp [l1]
    have g2 : rs.getD i 0 = rs[i] := by simp [l2]
    rw [Ob.lexAt_succ, List.drop_eq_getElem_cons l1, List.drop_eq_getElem_cons l2]
    show _ = if ps[i] = rs[i] then gtL _ _ else decide (rs[i] < ps[i])
    rw [g1, g2]
    by_cases z : ps[i] = rs[i]
    · rw [if_pos z, if_pos (decide_eq_true z)]
      exact gtL_at k (i + 1) ps rs (by omega)
    · rw [if_neg z, if_neg (by rw [decide_eq_false z]; decide)]
theorem op_gtQ {X : Cx} (few : X.A.units < cLine) : OpR X (compareOp .Gt) (fun v u H Q => ∃ (a b : Addr) (ps rs : List Int), v = .ref a ∧ u = .ref b ∧ SqT X.K H a (ps.map .int) ∧ SqT X.K H b (rs.map .int) ∧ Q (.bl (gtL ps rs)) H) := by
  intro pins s σ H v u v' u' Q I rv ru ⟨a, b, ps, rs, ev, eu, ta, tb, q⟩
  subst ev eu
  cases rv
  cases ru
  obtain ⟨xs, w1, t1, _⟩ := I.tuple ta
  obtain ⟨ys, w2, t2, _⟩ := I.tuple tb
  have n1 : PyProof.Rows.IntsAre xs ps := Vals.ints w1
  have n2 : PyProof.Rows.IntsAre ys rs := Vals.ints w2
  have c1 : xs.toArray.size = ps.length := by simpa using n1.length
  have c2 : ys.toArray.size = rs.length := by simpa using n2.length
  have f1 : ∀ k (g : k < xs.toArray.size), ∃ t, xs.toArray[k] = .int (ps.getD k 0) t := fun k g => PyProof.Rows.IntsAre.int_at n1 _ _ (by simp only [List.size_toArray] at g; simp [g])
  have f2 : ∀ k (g : k < ys.toArray.size), ∃ t, ys.toArray[k] = .int (rs.getD k 0) t := fun k g => PyProof.Rows.IntsAre.int_at n2 _ _ (by simp only [List.size_toArray] at g; simp [g])
  have run := Ob.RcOp.tuples_gt (A := X.A) (s := s) (e := fun k => decide (ps.getD k 0 = rs.getD k 0)) (r := fun k => decide (rs.getD k 0 < ps.getD k 0)) t1 t2 few (fun k g1 g2 => by
    obtain ⟨o, eo⟩ := f1 k g1
    obtain ⟨o', eo'⟩ := f2 k g2
    rw [eo, eo', show decide (ps.getD k 0 = rs.getD k 0) = (ps.getD k 0 == rs.getD k 0) from rfl]
    exact SeqAt.EqAt.int_int _ _ _ _) (fun k g1 g2 _ => by
    obtain ⟨o, eo⟩ := f1 k g1
    obtain ⟨o', eo'⟩ := f2 k g2
    rw [eo, eo']
    exact Ob.RcOp.gt_int _ _ _ _)
  rw [c1, c2, gtL_at (min ps.length rs.length) 0 ps rs (by omega)] at run
  exact run X.prog X.w X.xe (EP X pins σ Q) ⟨.bl (gtL ps rs), H, I, rfl, q⟩
def intsD : List PyData → Option (List Int)
  | [] => some []
  | .int i :: ds => (intsD ds).map (i :: ·)
  | _ => none
/-- > of whole numbers or of tuples of them -/
def fGtQ : PyData → PyData → (PyData → Prop) → Prop
  | .int i, .int j, Q => Q (.bool (decide (j < i)))
  | .tuple ds, .tuple es, Q => match intsD ds, intsD es with
    | some ps, some rs => Q (.bool (gtL ps rs))
    | _, _ => False
  | _, _, _ => False
theorem intsD_map {K : PySem.W.Frag} {H : Hp} : ∀ {ds : List PyData} {ps : List Int} {vs : List V}, intsD ds = some ps → DzAll K H vs ds → vs = ps.map V.int
  | [], ps, vs, h, r => by
    cases h
    cases r
    rfl
  | d :: ds, ps, vs, h, r => by
    cases r with
    | cons r1 r2 =>
      cases r1 with
      | int i =>
        obtain ⟨qs, e1, e2⟩ := Option.map_eq_some_iff.mp (show (intsD ds).map (i :: ·) = some ps from h)
        rw [intsD_map e1 r2, ← e2]
        rfl
      | _ => exact absurd h (by simp [intsD])
theorem rz_gtQ {K : PySem.W.Frag} : RZ2 K (fun x y H Q => rI0 (fun i j => .bl (decide (i > j))) x y H Q ∨ ∃ (a b : Addr) (ps rs : List Int), x = .ref a ∧ y = .ref b ∧ SqT K H a (ps.map .int) ∧ SqT K H b (rs.map .int) ∧ Q (.bl (gtL ps rs)) H) fGtQ := by
  intro c M σ H ev pd v u x y R Q k a b w q
  unfold fGtQ at w
  split at w
  · cases a
    cases b
    exact .inl ⟨_, _, rfl, rfl, q _ _ _ w (k.push (.bl _))⟩
  · split at w
    · rename_i ps rs e1 e2
      cases a with
      | tup g1 s1 =>
        cases b with
        | tup g2 s2 =>
          have f1 := intsD_map e1 s1
          have f2 := intsD_map e2 s2
          subst f1 f2
          exact .inr ⟨_, _, ps, rs, rfl, rfl, sqT_up msk_sub g1, sqT_up msk_sub g2, q _ _ _ w (k.push (.bl _))⟩
    · exact w.elim
  · exact w.elim
section
variable {X : Cx} {c : Cf} {a b : Expr} {wa wb : Wx} {pos : Pos} {n : Nat}
theorem bl_gtQ : Bl fGtQ := fun x y Q h => by
  unfold fGtQ at h ⊢
  split at h
  · exact ⟨⟨_, rfl⟩, h⟩
  · split at h
    · exact ⟨⟨_, rfl⟩, h⟩
    · exact h.elim
  · exact h.elim
theorem de_gtq (hr : Room n X.A) (ha : DE X c a wa) (hb : DE X c b wb) : DE X c (.Compare a [.Gt] [b] pos) (dOp fGtQ wa wb) := de_cmp (OpR.or op_gt (op_gtQ (by have := hr.units; omega))) rz_gtQ ha hb (nobehind b (by decide) (by decide))
theorem dt_gtq (hr : Room n X.A) (ha : DE X c a wa) (hb : DE X c b wb) : DT X c (.Compare a [.Gt] [b] pos) (dTru (dOp fGtQ wa wb)) := dt_cmp (OpR.or op_gt (op_gtQ (by have := hr.units; omega))) rz_gtQ bl_gtQ ha hb (nobehind b (by decide) (by decide))
end
end Z
set_option Elab.async false
set_option linter.all false
set_option maxRecDepth 100000
namespace Z
open PySem L2
theorem set_back {ev : Ev} {i : Nat} {x : Option Sl} (e : ev[i]? = some none) : wipeD (ev.set i x) [i] = ev := by
  show (ev.set i x).set i none = ev
  rw [List.set_set]
  apply List.ext_getElem?
  intro j
  by_cases z : i = j
  · subst z
    have hi : i < ev.length := by
      by_cases y : i < ev.length
      · exact y
      · rw [List.getElem?_eq_none (by omega)] at e; cases e
    rw [List.getElem?_set_self hi, e]
  · rw [List.getElem?_set_ne z]
theorem lc_keep {i : Nat} {t : Wt} {el : Wx} {p : PyData → Bool} {f : PyData → PyData} : ∀ {ds acc : List PyData} {ev : Ev} {Q : List PyData → Ev → Prop}, ev[i]? = some none → acc.length + ds.length ≤ 1000 →
    (∀ d ∈ ds, ∀ R : Bool → Ev → Prop, R (p d) (ev.set i (some (.val d))) → t (ev.set i (some (.val d))) R) →
    (∀ d ∈ ds, p d = true → ∀ R : PyData → Ev → Prop, R (f d) (ev.set i (some (.val d))) → el (ev.set i (some (.val d))) R) → Q (acc ++ (ds.filter p).map f) ev → lcD [i] (gN i) t el ds acc ev Q
  | [], acc, ev, Q, _, l, _, _, q => by
    rw [List.filter_nil, List.map_nil, List.append_nil] at q
    exact ⟨l, q⟩
  | d :: ds, acc, ev, Q, e, l, ht, he, q => by
    rw [List.length_cons] at l
    have g : ∀ P : Ev → Prop, gN i d ev P = P (ev.set i (some (.val d))) := fun P => by
      unfold gN
      rw [e]
    show gN i d ev _
    rw [g]
    have back := set_back (x := some (.val d)) e
    refine ht d (List.mem_cons_self ..) (fun b e2 => if b = true then el e2 fun y e3 => acc.length < 1000 ∧ lcD [i] (gN i) t el ds (acc ++ [y]) (wipeD e3 [i]) Q else lcD [i] (gN i) t el ds acc (wipeD e2 [i]) Q) ?_
    have ht' := fun d' (m : d' ∈ ds) => ht d' (List.mem_cons_of_mem _ m)
    have he' := fun d' (m : d' ∈ ds) => he d' (List.mem_cons_of_mem _ m)
    by_cases z : p d = true
    · rw [if_pos z]
      rw [List.filter_cons_of_pos z, List.map_cons] at q
      refine he d (List.mem_cons_self ..) z _ ⟨by omega, ?_⟩
      rw [back]
      refine lc_keep e (by rw [List.length_append, List.length_cons, List.length_nil]; omega) ht' he' ?_
      rw [List.append_assoc]
      exact q
    · rw [if_neg z, back]
      rw [List.filter_cons_of_neg z] at q
      exact lc_keep e (by omega) ht' he' q
end Z
set_option Elab.async false
set_option linter.all false
set_option maxRecDepth 100000
namespace Z
open PySem L2
end Z
set_option Elab.async false
set_option linter.all false
set_option maxRecDepth 100000
namespace Z
open PySem L2
mutual
def noLst : PyData → Bool
  | .list _ => false
  | .dict _ => false
  | .tuple ds => noLsts ds
  | _ => true
def noLsts : List PyData → Bool
  | [] => true
  | d :: ds => noLst d && noLsts ds
end
section
variable {K : PySem.W.Frag} {H1 H2 : Hp} {a : Addr} {us : List V}
mutual
theorem Dz.off (ha : H1 a = some (.lst us)) (up : ∀ b o, H1 b = some o → b ≠ a → H2 b = some o) : ∀ {v : V} {d : PyData}, noLst d = true → Dz K H1 v d → Dz K H2 v d
  | _, _, _, .non => .non
  | _, _, _, .bl b => .bl b
  | _, _, _, .int i => .int i
  | _, _, _, .str x => .str x
  | _, _, h, .lst q r => by simp [noLst] at h
  | _, _, h, .tup q r => .tup (by
      rcases q with (q | ⟨o, q⟩) | q
      · exact .inl (.inl (up _ _ q fun z => by rw [z, ha] at q; cases q))
      · exact .inl (.inr ⟨o, up _ _ q fun z => by rw [z, ha] at q; cases q⟩)
      · exact .inr q) (DzAll.off ha up (by simpa [noLst] using h) r)
theorem DzAll.off (ha : H1 a = some (.lst us)) (up : ∀ b o, H1 b = some o → b ≠ a → H2 b = some o) : ∀ {vs : List V} {ds : List PyData}, noLsts ds = true → DzAll K H1 vs ds → DzAll K H2 vs ds
  | _, _, _, .nil => .nil
  | _, _, h, .cons x y => .cons (Dz.off ha up (by simp only [noLsts, Bool.and_eq_true] at h; exact h.1) x) (DzAll.off ha up (by simp only [noLsts, Bool.and_eq_true] at h; exact h.2) y)
end
end
end Z
set_option Elab.async false
set_option linter.all false
set_option maxRecDepth 100000
namespace Z
open PySem L2
section
variable {X : Cx} {c : Cf} {k kg : Nat} {y : Str} {ps : List Str} {p p2 pos kp : Pos} {e : Expr} {u : Wa} {C : Cp}
theorem dzAll_rev {K : PySem.W.Frag} {H : Hp} : ∀ {vs : List V} {ds : List PyData}, DzAll K H vs ds → DzAll K H vs.reverse ds.reverse
  | _, _, .nil => .nil
  | _, _, .cons a b => by
    rw [List.reverse_cons, List.reverse_cons]
    exact (dzAll_rev b).app (.cons a .nil)
def fRev : PyData → (PyData → Prop) → Prop
  | .list ds, Q => Q (.list ds.reverse)
  | _, _ => False
theorem de_rev {w : Wx} {p1 p3 : Pos} {jc : Nat} (ha : DE X c e w) : DE X c (.Subscript e (.Slice none none (some (.UnaryOp .USub (.Constant (.int 1) jc p1) p2)) p3) pos) (dU fRev w) := peM (pe_revL ha) fun σ H Q ⟨M, ev, pd, R, k, w, q⟩ =>
  ⟨M, ev, pd, _, k, w, fun d e h v H1 k1 => by
    have t := k1.top
    unfold fRev at h
    split at h
    · cases t with
      | lst t1 t2 => exact ⟨_, _, rfl, sqL_up msk_sub t1, fun p' hp' => q _ e h _ _ (k1.pop1.newLst hp' (dzAll_rev t2))⟩
    · exact h.elim⟩
end
end Z
set_option Elab.async false
set_option linter.all false
set_option maxRecDepth 100000
set_option synthInstance.maxSize 4000
set_option synthInstance.maxHeartbeats 400000
namespace Z
open PySem L2
def whole : PyData → Bool
  | .int _ => true
  | _ => false
def areW : PyData → Int → Bool
  | .tuple ds, n => decide ((ds.length : Int) = n) && ds.all whole
  | _, _ => false
theorem bools_map : ∀ ds : List PyData, bools (ds.map fun d => .bool (whole d)) = some (ds.map whole)
  | [] => rfl
  | d :: ds => by
    rw [List.map_cons, List.map_cons]
    show (bools (ds.map fun d => PyData.bool (whole d))).map (whole d :: ·) = _
    rw [bools_map ds]
    rfl
abbrev cd (p : Int × Int) : PyData := cp p.1 p.2
/-- the quarter form -/
def qf (a b : Int) : Int × Int := if a = 0 ∧ b = 0 then (a, b) else if 0 < a ∧ 0 ≤ b then (a, b) else if 0 < -b ∧ 0 ≤ a then (-b, a) else if 0 < -a ∧ 0 ≤ -b then (-a, -b) else (-(-b), -a)
/-- the quotient -/
def xq (a b c d : Int) : Option (Int × Int) := if c * c + d * d = 0 then none else if (a * c - b * -d) % (c * c + d * d) = 0 ∧ (a * -d + b * c) % (c * c + d * d) = 0 then some ((a * c - b * -d) / (c * c + d * d), (a * -d + b * c) / (c * c + d * d)) else none
def od : Option (Int × Int) → PyData
  | none => .none
  | some p => cd p
instance sh_odn : Sh 0 4 0 (od none) := sh_none
instance sh_ods {n m : Nat} {x y : Int} [Sz n x] [Sz m y] : Sh (max n (max m 0)) (n + 2 + 2 + (m + 2 + 2 + 0) + 3) (max 0 (max 0 0) + 1) (od (some (x, y))) := inferInstanceAs (Sh _ _ _ (cp x y))
theorem sq0 (c : Int) : 0 ≤ c * c := by
  rcases Int.le_total 0 c with h | h
  · exact Int.mul_nonneg h h
  · exact Int.mul_nonneg_of_nonpos_of_nonpos h h
theorem nrm0 (c d : Int) : 0 ≤ c * c + d * d := Int.add_nonneg (sq0 c) (sq0 d)
/-- what draws come from, after so many draws -/
def Tk (b : Int) (ts : List PyData) : Prop := ∃ r s n : Int, ts = [.int r, .int s, .int n] ∧ 0 ≤ r ∧ (0 ≤ s ∧ s < 2147483629) ∧ 0 ≤ n ∧ n ≤ b
theorem Tk.up {b c : Int} {ts : List PyData} (h : Tk b ts) (l : b ≤ c) : Tk c ts := by
  obtain ⟨r, s, n, e, h1, h2, h3, h4⟩ := h
  exact ⟨r, s, n, e, h1, h2, h3, Int.le_trans h4 l⟩
theorem ne_f {x y : Str} (e : x = y) : tru (.bool (!PyData.eqv (.str x) (.str y))) = false := by rw [eqv_str, decide_eq_true e]; rfl
theorem qf_cases (a b : Int) : (a = 0 ∧ b = 0 ∧ qf a b = (0, 0)) ∨ (¬(a = 0 ∧ b = 0) ∧ 0 < (qf a b).1 ∧ 0 ≤ (qf a b).2 ∧ (qf a b = (a, b) ∨ qf a b = (0 - b, a) ∨ qf a b = (0 - a, 0 - b) ∨ qf a b = (b, 0 - a))) := by
  unfold qf
  by_cases z : a = 0 ∧ b = 0
  · rw [if_pos z, z.1, z.2]; exact .inl ⟨rfl, rfl, rfl⟩
  refine .inr ⟨z, ?_⟩
  rw [if_neg z]
  simp only [Int.zero_sub, Int.neg_neg]
  by_cases y1 : 0 < a ∧ 0 ≤ b
  · rw [if_pos y1]; exact ⟨y1.1, y1.2, .inl rfl⟩
  rw [if_neg y1]
  by_cases y2 : 0 < -b ∧ 0 ≤ a
  · rw [if_pos y2]; exact ⟨y2.1, y2.2, .inr (.inl rfl)⟩
  rw [if_neg y2]
  by_cases y3 : 0 < -a ∧ 0 ≤ -b
  · rw [if_pos y3]; exact ⟨y3.1, y3.2, .inr (.inr (.inl rfl))⟩
  rw [if_neg y3]
  exact ⟨show 0 < b by omega, show 0 ≤ -a by omega, .inr (.inr (.inr rfl))⟩
abbrev rw4 (q l m k : Int) : PyData := .tuple [.int q, .int l, .int m, .int k]
/-- the numbers of a row that is one -/
structure Rw (n : Nat) (q l m k : Int) : Prop where
  one : gcI [q, l, m, k] = 1
  pos : 0 < l * l + m * m - 2 * (q * k + q * k)
  sq : Sz n q
  sl : Sz n l
  sm : Sz n m
  sk : Sz n k
/-- of a round -/
structure Rn (n : Nat) (q l m k : Int) : Prop where
  row : Rw n q l m k
  up : gtL [q, l, m, k] [0, 0, 0, 0] = true
/-- whether the first number that is not 0 is above 0 -/
def posL : List Int → Bool
  | [] => false
  | x :: xs => if x = 0 then posL xs else decide (0 < x)
theorem posL_gt : ∀ xs : List Int, posL xs = gtL xs (List.replicate xs.length 0)
  | [] => rfl
  | x :: xs => by
    show (if x = 0 then posL xs else decide (0 < x)) = if x = 0 then gtL xs (List.replicate xs.length 0) else decide (0 < x)
    rw [posL_gt xs]
/-- the row in its form -/
def fm (us : List Int) : List Int := if posL (rd us) = true then rd us else (rd us).map (0 - ·)
def nz : PyData → Bool
  | .int i => !decide (i = 0)
  | _ => false
theorem nz_first : ∀ {xs : List Int}, (∃ x ∈ xs, x ≠ 0) → ∃ x rest, (xs.map PyData.int).filter nz = .int x :: rest ∧ posL xs = decide (0 < x)
  | [], h => by obtain ⟨x, m, _⟩ := h; cases m
  | y :: ys, h => by
    by_cases z : y = 0
    · have h' : ∃ x ∈ ys, x ≠ 0 := by
        obtain ⟨x, m, n⟩ := h
        rcases List.mem_cons.mp m with e | m
        · exact absurd (e.trans z) n
        · exact ⟨x, m, n⟩
      obtain ⟨x, rest, e1, e2⟩ := nz_first h'
      refine ⟨x, rest, ?_, ?_⟩
      · rw [List.map_cons, List.filter_cons_of_neg (by show ¬ (!decide (y = 0)) = true; rw [decide_eq_true z]; decide)]
        exact e1
      · show (if y = 0 then posL ys else decide (0 < y)) = _
        rw [if_pos z]
        exact e2
    · refine ⟨y, (ys.map PyData.int).filter nz, ?_, ?_⟩
      · rw [List.map_cons, List.filter_cons_of_pos (by show (!decide (y = 0)) = true; rw [decide_eq_false z]; rfl)]
      · show (if y = 0 then posL ys else decide (0 < y)) = _
        rw [if_neg z]
theorem rd_nz {us : List Int} (h : gcI us ≠ 0) : ∃ x ∈ rd us, x ≠ 0 := by
  by_cases a : ∃ x ∈ rd us, x ≠ 0
  · exact a
  · have z := gcF_zero (rd us) fun u hu => Classical.byContradiction fun n => a ⟨u, hu, n⟩
    have o := gc_rd h
    rw [show gcI (rd us) = 0 from z] at o
    omega
theorem all4 {n : Nat} {a b c d : Int} (ha : Sz n a) (hb : Sz n b) (hc : Sz n c) (hd : Sz n d) : ∀ u ∈ [a, b, c, d], Sz n u := fun u hu => by
  simp only [List.mem_cons, List.not_mem_nil, or_false] at hu
  rcases hu with rfl | rfl | rfl | rfl <;> assumption
theorem gc4_ne {q l m k : Int} (h : 0 < l * l + m * m - 4 * (q * k)) : gcI [q, l, m, k] ≠ 0 := by
  by_cases z : l = 0 ∧ m = 0
  · have : q ≠ 0 := fun y => by
      rw [z.1, z.2, y] at h
      simp at h
    exact gc_ne (u := q) (by simp) this
  · by_cases y : l = 0
    · exact gc_ne (u := m) (by simp) fun x => z ⟨y, x⟩
    · exact gc_ne (u := l) (by simp) y
theorem disc_mul {g a b c d x y z w : Int} (h1 : g * x = a) (h2 : g * y = b) (h3 : g * z = c) (h4 : g * w = d) : g * g * (y * y + z * z - 2 * (x * w + x * w)) = b * b + c * c - 4 * (a * d) := by
  have e : g * g * (y * y + z * z - 2 * (x * w + x * w)) = (g * y) * (g * y) + (g * z) * (g * z) - 4 * ((g * x) * (g * w)) := by grind
  rw [e, h1, h2, h3, h4]
/-- a row is made of its numbers by their common divisor -/
theorem rd4 {n : Nat} {A B C D : Int} (hA : Sz n A) (hB : Sz n B) (hC : Sz n C) (hD : Sz n D) (h : 0 < B * B + C * C - 4 * (A * D)) : ∃ q l m k g, rd [A, B, C, D] = [q, l, m, k] ∧ Rw n q l m k ∧ 0 < g ∧ g * q = A ∧ g * l = B ∧ g * m = C ∧ g * k = D := by
  have ne := gc4_ne h
  have e1 : gcI [A, B, C, D] * (A / gcI [A, B, C, D]) = A := rd_at (by simp)
  have e2 : gcI [A, B, C, D] * (B / gcI [A, B, C, D]) = B := rd_at (by simp)
  have e3 : gcI [A, B, C, D] * (C / gcI [A, B, C, D]) = C := rd_at (by simp)
  have e4 : gcI [A, B, C, D] * (D / gcI [A, B, C, D]) = D := rd_at (by simp)
  exact ⟨A / gcI [A, B, C, D], B / gcI [A, B, C, D], C / gcI [A, B, C, D], D / gcI [A, B, C, D], gcI [A, B, C, D], rfl,
    ⟨gc_rd ne, pos_of_mul (Int.mul_pos (gc_pos ne) (gc_pos ne)) (disc_mul e1 e2 e3 e4) h, inferInstance, inferInstance, inferInstance, inferInstance⟩, gc_pos ne, e1, e2, e3, e4⟩
end Z
set_option Elab.async false
set_option linter.all false
set_option maxRecDepth 100000
namespace Z
open PySem L2
abbrev G := Int × Int
def gm (p q : G) : G := (p.1 * q.1 - p.2 * q.2, p.1 * q.2 + p.2 * q.1)
def nm (p : G) : Int := p.1 * p.1 + p.2 * p.2
def gdv (p q : G) : Prop := ∃ r, q = gm p r
theorem gm_comm (p q : G) : gm p q = gm q p := Prod.ext (by simp only [gm]; grind) (by simp only [gm]; grind)
theorem gm_assoc (p q r : G) : gm (gm p q) r = gm p (gm q r) := Prod.ext (by simp only [gm]; grind) (by simp only [gm]; grind)
theorem gm_one (p : G) : gm p (1, 0) = p := Prod.ext (by simp only [gm]; grind) (by simp only [gm]; grind)
theorem gm_zero (p : G) : gm p (0, 0) = (0, 0) := Prod.ext (by simp only [gm]; grind) (by simp only [gm]; grind)
theorem zero_gm (p : G) : gm (0, 0) p = (0, 0) := Prod.ext (by simp only [gm]; grind) (by simp only [gm]; grind)
theorem nm_mul (p q : G) : nm (gm p q) = nm p * nm q := by simp only [gm, nm]; grind
theorem nm_nn (p : G) : 0 ≤ nm p := nrm0 p.1 p.2
theorem nm_pos {p : G} (h : p ≠ (0, 0)) : 0 < nm p := ne_sq fun z => h (Prod.ext z.1 z.2)
theorem nm_zero {p : G} (h : nm p = 0) : p = (0, 0) := Classical.byContradiction fun n => by
  have := nm_pos n
  omega
theorem gdv_refl (p : G) : gdv p p := ⟨(1, 0), (gm_one p).symm⟩
theorem gdv_zero (p : G) : gdv p (0, 0) := ⟨(0, 0), (gm_zero p).symm⟩
theorem gdv_trans {p q r : G} (h : gdv p q) (g : gdv q r) : gdv p r := by
  obtain ⟨s, rfl⟩ := h
  obtain ⟨t, rfl⟩ := g
  exact ⟨gm s t, gm_assoc _ _ _⟩
theorem gdv_mul {p q : G} (h : gdv p q) (r : G) : gdv p (gm q r) := gdv_trans h ⟨r, rfl⟩
theorem gdv_left (p r : G) : gdv p (gm p r) := ⟨r, rfl⟩
theorem gdv_sub {p q r : G} (h : gdv p q) (g : gdv p r) : gdv p (q.1 - r.1, q.2 - r.2) := by
  obtain ⟨s, rfl⟩ := h
  obtain ⟨t, rfl⟩ := g
  exact ⟨(s.1 - t.1, s.2 - t.2), Prod.ext (by simp only [gm]; grind) (by simp only [gm]; grind)⟩
theorem gdv_add {p q r : G} (h : gdv p q) (g : gdv p r) : gdv p (q.1 + r.1, q.2 + r.2) := by
  obtain ⟨s, rfl⟩ := h
  obtain ⟨t, rfl⟩ := g
  exact ⟨(s.1 + t.1, s.2 + t.2), Prod.ext (by simp only [gm]; grind) (by simp only [gm]; grind)⟩
theorem zero_gdv {q : G} (h : gdv (0, 0) q) : q = (0, 0) := by
  obtain ⟨r, rfl⟩ := h
  exact zero_gm r
theorem gm_cancel {k p q : G} (hk : k ≠ (0, 0)) (h : gm k p = gm k q) : p = q := by
  have e : gm k (p.1 - q.1, p.2 - q.2) = (0, 0) := by
    have e1 : (gm k p).1 = (gm k q).1 := by rw [h]
    have e2 : (gm k p).2 = (gm k q).2 := by rw [h]
    simp only [gm] at e1 e2 ⊢
    exact Prod.ext (by show k.1 * (p.1 - q.1) - k.2 * (p.2 - q.2) = 0; grind) (by show k.1 * (p.2 - q.2) + k.2 * (p.1 - q.1) = 0; grind)
  have n : nm k * nm (p.1 - q.1, p.2 - q.2) = 0 := by rw [← nm_mul, e]; rfl
  have kp := nm_pos hk
  have z : nm (p.1 - q.1, p.2 - q.2) = 0 := by
    rcases Int.mul_eq_zero.mp n with y | y
    · omega
    · exact y
  have y := nm_zero z
  have y1 : p.1 - q.1 = 0 := congrArg Prod.fst y
  have y2 : p.2 - q.2 = 0 := congrArg Prod.snd y
  exact Prod.ext (by omega) (by omega)
theorem gdv_cancel {k p q : G} (hk : k ≠ (0, 0)) (h : gdv (gm k p) (gm k q)) : gdv p q := by
  obtain ⟨r, e⟩ := h
  rw [gm_assoc] at e
  exact ⟨r, gm_cancel hk e⟩
theorem sq_one {x : Int} (h : x * x ≤ 1) : x = -1 ∨ x = 0 ∨ x = 1 := by
  have h1 : ¬ 2 ≤ x := fun y => by
    have := Int.mul_le_mul y y (by decide) (by omega)
    omega
  have h2 : ¬ x ≤ -2 := fun y => by
    have := Int.mul_le_mul (show 2 ≤ -x by omega) (show 2 ≤ -x by omega) (by decide) (by omega)
    rw [Int.neg_mul_neg] at this
    omega
  omega
theorem unit_of {r : G} (h : nm r = 1) : r = (1, 0) ∨ r = (0, 1) ∨ r = (-1, 0) ∨ r = (0, -1) := by
  obtain ⟨x, y⟩ := r
  have h' : x * x + y * y = 1 := h
  have hx := sq0 x
  have hy := sq0 y
  rcases sq_one (x := x) (by omega) with rfl | rfl | rfl
  · rcases sq_one (x := y) (by omega) with rfl | rfl | rfl
    · omega
    · exact .inr (.inr (.inl rfl))
    · omega
  · rcases sq_one (x := y) (by omega) with rfl | rfl | rfl
    · exact .inr (.inr (.inr rfl))
    · omega
    · exact .inr (.inl rfl)
  · rcases sq_one (x := y) (by omega) with rfl | rfl | rfl
    · omega
    · exact .inl rfl
    · omega
theorem qf_turn (a b : Int) : qf (-b) a = qf a b := by
  unfold qf
  repeat' split
  all_goals first
    | (exfalso; omega)
    | (refine Prod.ext ?_ ?_ <;> (show _ = _; omega))
    | rfl
def as (p q : G) : Prop := gdv p q ∧ gdv q p
theorem as_refl (p : G) : as p p := ⟨gdv_refl p, gdv_refl p⟩
theorem as_symm {p q : G} (h : as p q) : as q p := ⟨h.2, h.1⟩
theorem as_trans {p q r : G} (h : as p q) (g : as q r) : as p r := ⟨gdv_trans h.1 g.1, gdv_trans g.2 h.2⟩
theorem as_unit {p q : G} (h : as p q) : q = p ∨ q = (-p.2, p.1) ∨ q = (-p.1, -p.2) ∨ q = (p.2, -p.1) := by
  obtain ⟨⟨r, h1⟩, ⟨s, h2⟩⟩ := h
  by_cases z : p = (0, 0)
  · subst z
    rw [zero_gm] at h1
    exact .inl h1
  · have e : gm p (gm r s) = gm p (1, 0) := by rw [← gm_assoc, ← h1, gm_one]; exact h2.symm
    have e2 := gm_cancel z e
    have e3 : nm r * nm s = 1 := by rw [← nm_mul, e2]; rfl
    have e4 : nm r = 1 := by
      have r0 := nm_nn r
      have s0 := nm_nn s
      have r1 : nm r ≠ 0 := fun y => by rw [y, Int.zero_mul] at e3; omega
      have s1 : nm s ≠ 0 := fun y => by rw [y, Int.mul_zero] at e3; omega
      by_cases y : 2 ≤ nm r
      · have := Int.mul_le_mul y (show 1 ≤ nm s by omega) (by decide) r0
        omega
      · omega
    rcases unit_of e4 with rfl | rfl | rfl | rfl
    · exact .inl (by rw [h1, gm_one])
    · exact .inr (.inl (by rw [h1]; exact Prod.ext (by simp only [gm]; omega) (by simp only [gm]; omega)))
    · exact .inr (.inr (.inl (by rw [h1]; exact Prod.ext (by simp only [gm]; omega) (by simp only [gm]; omega))))
    · exact .inr (.inr (.inr (by rw [h1]; exact Prod.ext (by simp only [gm]; omega) (by simp only [gm]; omega))))
theorem qf_as (p : G) : as p (qf p.1 p.2) := by
  rcases qf_cases p.1 p.2 with ⟨h1, h2, e⟩ | ⟨_, _, _, e⟩
  · rw [e]
    have : p = (0, 0) := Prod.ext h1 h2
    rw [this]
    exact as_refl _
  · rcases e with e | e | e | e
    · rw [e]; exact as_refl _
    · rw [e]; exact ⟨⟨(0, 1), Prod.ext (by simp only [gm]; omega) (by simp only [gm]; omega)⟩, ⟨(0, -1), Prod.ext (by simp only [gm]; omega) (by simp only [gm]; omega)⟩⟩
    · rw [e]; exact ⟨⟨(-1, 0), Prod.ext (by simp only [gm]; omega) (by simp only [gm]; omega)⟩, ⟨(-1, 0), Prod.ext (by simp only [gm]; omega) (by simp only [gm]; omega)⟩⟩
    · rw [e]; exact ⟨⟨(0, -1), Prod.ext (by simp only [gm]; omega) (by simp only [gm]; omega)⟩, ⟨(0, 1), Prod.ext (by simp only [gm]; omega) (by simp only [gm]; omega)⟩⟩
theorem qf_sz {n : Nat} {a b : Int} (ha : Sz n a) (hb : Sz n b) : Sz n (qf a b).1 ∧ Sz n (qf a b).2 := by
  unfold qf
  repeat' split
  all_goals exact ⟨inferInstance, inferInstance⟩
structure GC (ns : List G) (g : G) : Prop where
  dv : ∀ n ∈ ns, gdv g n
  big : ∀ d, (∀ n ∈ ns, gdv d n) → gdv d g
theorem GC.nil : GC [] (0, 0) := ⟨fun n h => (by cases h), fun d _ => gdv_zero d⟩
theorem GC.same {ns ms : List G} {g : G} (h : GC ns g) (e : ∀ d, (∀ n ∈ ns, gdv d n) ↔ ∀ m ∈ ms, gdv d m) : GC ms g := ⟨(e g).mp h.dv, fun d q => h.big d ((e d).mpr q)⟩
theorem GC.as {ns : List G} {g h : G} (a : GC ns g) (b : GC ns h) : Z.as g h := ⟨b.big g a.dv, a.big h b.dv⟩
theorem GC.one (g : G) : GC [g] g := ⟨fun n h => by rw [List.mem_singleton.mp h]; exact gdv_refl g, fun d q => q g (by simp)⟩
theorem GC.snoc {ns : List G} {g n h : G} (a : GC ns g) (b : GC [g, n] h) : GC (ns ++ [n]) h := by
  refine ⟨fun m hm => ?_, fun d q => b.big d fun m hm => ?_⟩
  · rcases List.mem_append.mp hm with y | y
    · exact gdv_trans (b.dv g (by simp)) (a.dv m y)
    · rw [List.mem_singleton.mp y]; exact b.dv n (by simp)
  · rcases List.mem_cons.mp hm with y | y
    · rw [y]; exact a.big d fun m hm => q m (List.mem_append_left _ hm)
    · rw [List.mem_singleton.mp y]; exact q n (by simp)
theorem gc2 {a b g : G} : GC [a, b] g ↔ (gdv g a ∧ gdv g b ∧ ∀ d, gdv d a → gdv d b → gdv d g) := by
  constructor
  · intro h
    exact ⟨h.dv a (by simp), h.dv b (by simp), fun d p q => h.big d fun n hn => by
      rcases List.mem_cons.mp hn with y | y
      · rw [y]; exact p
      · rw [List.mem_singleton.mp y]; exact q⟩
  · rintro ⟨h1, h2, h3⟩
    exact ⟨fun n hn => by
      rcases List.mem_cons.mp hn with y | y
      · rw [y]; exact h1
      · rw [List.mem_singleton.mp y]; exact h2, fun d q => h3 d (q a (by simp)) (q b (by simp))⟩
theorem GC.zero (a : G) : GC [a, (0, 0)] a := gc2.mpr ⟨gdv_refl a, gdv_zero a, fun d h _ => h⟩
/-- one number less a multiple of the other one -/
def les (a t b : G) : G := (a.1 - (gm t b).1, a.2 - (gm t b).2)
theorem gdv_les {d a b : G} (t : G) (h : gdv d a) (g : gdv d b) : gdv d (les a t b) := gdv_sub h (by rw [gm_comm]; exact gdv_mul g t)
theorem gdv_les' {d a b : G} {t : G} (h : gdv d (les a t b)) (g : gdv d b) : gdv d a := by
  have := gdv_add h (show gdv d (gm t b) by rw [gm_comm]; exact gdv_mul g t)
  have e : ((les a t b).1 + (gm t b).1, (les a t b).2 + (gm t b).2) = a := Prod.ext (by simp only [les]; omega) (by simp only [les]; omega)
  rw [e] at this
  exact this
theorem GC.step {a b t h : G} (x : GC [b, les a t b] h) : GC [a, b] h := by
  obtain ⟨h1, h2, h3⟩ := gc2.mp x
  exact gc2.mpr ⟨gdv_les' h2 h1, h1, fun d p q => h3 d q (gdv_les t p q)⟩
/-- the nearest multiple leaves at most half the norm -/
theorem half_sq {s e : Int} (h1 : -s ≤ 2 * e) (h2 : 2 * e ≤ s) : 4 * (e * e) ≤ s * s := by
  have : 0 ≤ (s - 2 * e) * (s + 2 * e) := Int.mul_nonneg (by omega) (by omega)
  grind
theorem floor_near {s t : Int} (hs : 0 < s) : -s ≤ 2 * (t - (2 * t + s) / (2 * s) * s) ∧ 2 * (t - (2 * t + s) / (2 * s) * s) ≤ s := by
  have h1 := Int.emod_nonneg (2 * t + s) (show 2 * s ≠ 0 by omega)
  have h2 := Int.emod_lt_of_pos (2 * t + s) (show 0 < 2 * s by omega)
  have h3 := Int.mul_ediv_add_emod (2 * t + s) (2 * s)
  generalize (2 * t + s) / (2 * s) = q at *
  generalize (2 * t + s) % (2 * s) = r at *
  have e : q * s * 2 = 2 * s * q := by grind
  omega
theorem rest_nm {a b c d : Int} (h : 0 < c * c + d * d) : 2 * nm (les (a, b) ((2 * (a * c - b * -d) + (c * c + d * d)) / (2 * (c * c + d * d)), (2 * (a * -d + b * c) + (c * c + d * d)) / (2 * (c * c + d * d))) (c, d)) ≤ c * c + d * d := by
  have f1 := floor_near (t := a * c - b * -d) h
  have f2 := floor_near (t := a * -d + b * c) h
  generalize (2 * (a * c - b * -d) + (c * c + d * d)) / (2 * (c * c + d * d)) = u at *
  generalize (2 * (a * -d + b * c) + (c * c + d * d)) / (2 * (c * c + d * d)) = v at *
  have g1 := half_sq f1.1 f1.2
  have g2 := half_sq f2.1 f2.2
  have e : (c * c + d * d) * nm (les (a, b) (u, v) (c, d)) = (a * c - b * -d - u * (c * c + d * d)) * (a * c - b * -d - u * (c * c + d * d)) + (a * -d + b * c - v * (c * c + d * d)) * (a * -d + b * c - v * (c * c + d * d)) := by
    simp only [nm, les, gm]
    grind
  refine Int.le_of_mul_le_mul_left (a := c * c + d * d) ?_ h
  have e2 : (c * c + d * d) * (2 * nm (les (a, b) (u, v) (c, d))) = 2 * ((c * c + d * d) * nm (les (a, b) (u, v) (c, d))) := by grind
  rw [e2, e]
  omega
theorem le_of_sq {a b : Int} (h : a * a ≤ b * b) (hb : 0 ≤ b) : a ≤ b ∧ -b ≤ a := by
  constructor
  · by_cases y : b < a
    · have h1 := Int.mul_le_mul_of_nonneg_left (Int.le_of_lt y) hb
      have h2 := Int.mul_lt_mul_of_pos_right y (show 0 < a by omega)
      omega
    · omega
  · by_cases y : b < -a
    · have h1 := Int.mul_le_mul_of_nonneg_left (Int.le_of_lt y) hb
      have h2 := Int.mul_lt_mul_of_pos_right y (show 0 < -a by omega)
      rw [Int.neg_mul_neg] at h2
      omega
    · omega
theorem sz_sq {n : Nat} {a c d : Int} (h : 2 * (a * a) ≤ c * c + d * d) (hc : Sz n c) (hd : Sz n d) : Sz n a := by
  have key : ∀ b : Int, Sz n b → a * a ≤ b * b → Sz n a := fun b hb q => ⟨by
    have e : (b.natAbs : Int) * (b.natAbs : Int) = b * b := Int.natAbs_mul_self' b
    have l := le_of_sq (a := a) (b := (b.natAbs : Int)) (by rw [e]; exact q) (Int.natCast_nonneg _)
    have := hb.lt
    omega⟩
  by_cases z : c * c ≤ d * d
  · exact key d hd (by omega)
  · exact key c hc (by omega)
theorem sz_nm {n : Nat} {x y c d : Int} (h : 2 * nm (x, y) ≤ c * c + d * d) (hc : Sz n c) (hd : Sz n d) : Sz n x ∧ Sz n y := by
  have h' : 2 * (x * x + y * y) ≤ c * c + d * d := h
  have hx := sq0 x
  have hy := sq0 y
  exact ⟨sz_sq (by omega) hc hd, sz_sq (by omega) hc hd⟩
/-- the divisor of numbers that are longer by a factor -/
theorem GC.longer {ns : List G} {k g h : G} (hk : k ≠ (0, 0)) (a : GC ns g) (b : GC (ns.map (gm k)) h) : Z.as (gm k g) h := by
  constructor
  · refine b.big _ fun m hm => ?_
    obtain ⟨n, hn, rfl⟩ := List.mem_map.mp hm
    obtain ⟨r, e⟩ := a.dv n hn
    exact ⟨r, by rw [gm_assoc, ← e]⟩
  · obtain ⟨m, rfl⟩ := b.big k fun n hn => by
      obtain ⟨n, _, rfl⟩ := List.mem_map.mp hn
      exact gdv_left k n
    have q := a.big m fun n hn => gdv_cancel hk (b.dv _ (List.mem_map_of_mem hn))
    obtain ⟨r, e⟩ := q
    exact ⟨r, by rw [gm_assoc, ← e]⟩
theorem GC.ne {ns : List G} {g : G} (a : GC ns g) (h : ∃ n ∈ ns, n ≠ (0, 0)) : g ≠ (0, 0) := fun z => by
  obtain ⟨n, hn, e⟩ := h
  have := a.dv n hn
  rw [z] at this
  exact e (zero_gdv this)
end Z
set_option Elab.async false
set_option linter.all false
set_option maxRecDepth 100000
namespace Z
open PySem L2
theorem foD_pre {g : Wg} {b : Ws} {E : Ed} (I : List PyData → Ev → Prop) : ∀ {ds pre : List PyData} {ev : Ev}, (∀ (pre : List PyData) (d : PyData) (ev : Ev) (E' : Ed), d ∈ ds → I pre ev → (∀ ev', I (pre ++ [d]) ev' → E'.nx ev') → E'.ct = E'.nx → E'.rt = E.rt → E'.rl = E.rl → E'.bk = E.nx → g d ev fun e => b E' e) → I pre ev → (∀ ev', I (pre ++ ds) ev' → E.nx ev') → foD g b ds E ev
  | [], pre, ev, _, i, n => n ev (by rw [List.append_nil]; exact i)
  | d :: ds, pre, ev, h, i, n => h pre d ev _ (List.mem_cons_self ..) i (fun ev' i' => foD_pre I (fun p d' e' E' m => h p d' e' E' (List.mem_cons_of_mem _ m)) i' fun e i'' => n e (by rw [List.append_assoc] at i''; exact i'')) rfl rfl rfl rfl
def toG : PyData → G
  | .tuple [.int a, .int b] => (a, b)
  | _ => (0, 0)
theorem toG_map (ps : List G) : (ps.map cd).map toG = ps := by
  rw [List.map_map]
  have : ps.map (toG ∘ cd) = ps.map id := List.map_congr_left fun p _ => rfl
  rw [this, List.map_id]
theorem cd_inj {ps qs : List G} (h : ps.map cd = qs.map cd) : ps = qs := by
  have := congrArg (List.map toG) h
  rw [toG_map, toG_map] at this
  exact this
theorem eqv_cd (p q : G) : PyData.eqv (cd p) (cd q) = decide (p = q) := by
  show PyData.eqv (cp p.1 p.2) (cp q.1 q.2) = _
  rw [eqv_cp]
  by_cases z : p = q
  · rw [decide_eq_true z, decide_eq_true ⟨congrArg Prod.fst z, congrArg Prod.snd z⟩]
  · rw [decide_eq_false z, decide_eq_false fun y => z (Prod.ext y.1 y.2)]
/-- a slot that holds no own list -/
def fr (s : Option Sl) : Prop := s = none ∨ ∃ v, s = some (.val v)
theorem fr_none : fr none := .inl rfl
theorem fr_val {v : PyData} : fr (some (.val v)) := .inr ⟨v, rfl⟩
theorem gN_fr {i : Nat} {d : PyData} {ev : Ev} {Q : Ev → Prop} {s : Option Sl} (e : ev[i]? = some s) (h : fr s) (q : Q (ev.set i (some (.val d)))) : gN i d ev Q := by
  unfold gN
  rw [e]
  rcases h with rfl | ⟨v, rfl⟩ <;> exact q
theorem gs_fr {i : Nat} {gs : Wgs} {d : PyData} {r : List PyData} {ev : Ev} {Q : Ev → Prop} {s : Option Sl} (e : ev[i]? = some s) (h : fr s) (q : gs r (ev.set i (some (.val d))) Q) : gsC (gN i) gs (d :: r) ev Q := gN_fr (Q := fun e => gs r e Q) e h q
end Z
set_option Elab.async false
set_option linter.all false
set_option maxRecDepth 100000
namespace Z
open PySem L2
theorem posL4 {q l m k : Int} : gtL [q, l, m, k] [0, 0, 0, 0] = posL [q, l, m, k] := (posL_gt [q, l, m, k]).symm
theorem posL_neg : ∀ {xs : List Int}, (∃ x ∈ xs, x ≠ 0) → posL xs = false → posL (xs.map (0 - ·)) = true
  | [], h, _ => by obtain ⟨x, m, _⟩ := h; cases m
  | y :: ys, h, e => by
    show (if 0 - y = 0 then posL (ys.map (0 - ·)) else decide (0 < 0 - y)) = true
    have e' : (if y = 0 then posL ys else decide (0 < y)) = false := e
    by_cases z : y = 0
    · rw [if_pos z] at e'
      rw [if_pos (by omega)]
      refine posL_neg ?_ e'
      obtain ⟨x, m, n⟩ := h
      rcases List.mem_cons.mp m with w | w
      · exact absurd (w.trans z) n
      · exact ⟨x, w, n⟩
    · rw [if_neg z] at e'
      rw [if_neg (by omega)]
      have := of_decide_eq_false e'
      exact decide_eq_true (by omega)
theorem gcF_neg : ∀ (us : List Int) (s : Int), gcF s (us.map (0 - ·)) = gcF s us
  | [], _ => rfl
  | u :: us, s => by
    show gcF (Int.gcd s (0 - u) : Int) (us.map (0 - ·)) = gcF (Int.gcd s u : Int) us
    rw [Int.zero_sub, Int.gcd_neg]
    exact gcF_neg us _
theorem disc_neg (q l m k : Int) : (0 - l) * (0 - l) + (0 - m) * (0 - m) - 2 * ((0 - q) * (0 - k) + (0 - q) * (0 - k)) = l * l + m * m - 2 * (q * k + q * k) := by grind
theorem Rw.neg {n : Nat} {q l m k : Int} (h : Rw n q l m k) : Rw n (0 - q) (0 - l) (0 - m) (0 - k) := by
  have hs : ∀ x : Int, Sz n x → Sz n (0 - x) := fun x a => by rw [Int.zero_sub]; exact sz_neg
  exact ⟨by
    have := gcF_neg [q, l, m, k] 0
    exact this.trans h.one, by rw [disc_neg]; exact h.pos, hs _ h.sq, hs _ h.sl, hs _ h.sm, hs _ h.sk⟩
/-- the round of numbers -/
theorem fm_any {n : Nat} {A B C D : Int} (hA : Sz n A) (hB : Sz n B) (hC : Sz n C) (hD : Sz n D) (h : 0 < B * B + C * C - 4 * (A * D)) : ∃ q l m k g, fm [A, B, C, D] = [q, l, m, k] ∧ Rn n q l m k ∧ g ≠ 0 ∧ g * q = A ∧ g * l = B ∧ g * m = C ∧ g * k = D := by
  obtain ⟨q, l, m, k, g, e, rw', hg, e1, e2, e3, e4⟩ := rd4 hA hB hC hD h
  unfold fm
  rw [e]
  by_cases z : posL [q, l, m, k] = true
  · rw [if_pos z]
    exact ⟨q, l, m, k, g, rfl, ⟨rw', by rw [posL4]; exact z⟩, by omega, e1, e2, e3, e4⟩
  · rw [if_neg z]
    have ne : ∃ x ∈ [q, l, m, k], x ≠ 0 := by
      rw [← e]
      exact rd_nz (gc4_ne h)
    refine ⟨0 - q, 0 - l, 0 - m, 0 - k, -g, rfl, ⟨rw'.neg, by rw [posL4]; exact posL_neg ne (by simpa using z)⟩, by omega, ?_, ?_, ?_, ?_⟩
    · rw [← e1, Int.zero_sub, Int.neg_mul_neg]
    · rw [← e2, Int.zero_sub, Int.neg_mul_neg]
    · rw [← e3, Int.zero_sub, Int.neg_mul_neg]
    · rw [← e4, Int.zero_sub, Int.neg_mul_neg]
theorem Rn.q0 {n : Nat} {q l m k : Int} (h : Rn n q l m k) : q = 0 ∨ 0 < q := by
  have u := h.up
  rw [posL4] at u
  have u' : (if q = 0 then posL [l, m, k] else decide (0 < q)) = true := u
  by_cases z : q = 0
  · exact .inl z
  · rw [if_neg z] at u'
    exact .inr (of_decide_eq_true u')
theorem Rw.up {n m : Nat} {a b c d : Int} (h : Rw n a b c d) (l : n ≤ m) : Rw m a b c d := ⟨h.one, h.pos, szUp h.sq l, szUp h.sl l, szUp h.sm l, szUp h.sk l⟩
theorem Rn.up' {n m : Nat} {a b c d : Int} (h : Rn n a b c d) (l : n ≤ m) : Rn m a b c d := ⟨h.row.up l, h.up⟩
end Z
set_option Elab.async false
set_option linter.all false
set_option maxRecDepth 100000
namespace Z
open PySem L2
section
variable {X : Cx} {c : Cf} {pos : Pos}
/-- a, b, c = a list -/
def gL (n : Nat) (gs : Wgs) : Wg := fun d ev Q => match d with
  | .list ds => ds.length = n ∧ gs ds ev Q
  | _ => False
theorem dg_lst {vs : List Nat} {es : List Expr} {gs : Wgs} {n k : Nat} (hc : X.calm = true) (h : DGs X c vs es gs) (h1 : (assignEach es X.env).length = n := by rfl) (h2 : (assignEach es X.env).findIdx? (·.1) = none := by rfl) :
    DG X c vs (.Tuple es k pos) (gL n gs) := pgM (pg_unl (n := n) hc h h1 h2) fun v σ H Q ⟨M, ev, pd, d, R, k, w, q⟩ => by
  have t := k.top
  unfold gL at w
  split at w
  · cases t with
    | lst g1 g2 => exact ⟨_, _, rfl, sqL_up msk_sub g1, by rw [g2.len]; exact w.1, M, ev, pd, _, R, k.pop1.pushA g2, g2.len, w.2, q⟩
  · exact w.elim
end
end Z
set_option Elab.async false
set_option linter.all false
set_option maxRecDepth 100000
namespace Z
open PySem L2
def ga (p q : G) : G := (p.1 + q.1, p.2 + q.2)
def gu (p q : G) : G := (p.1 - q.1, p.2 - q.2)
def gn (p : G) : G := (-p.1, -p.2)
def gj (p : G) : G := (p.1, -p.2)
def gt (p : G) : G := (-p.2, p.1)
/-- four numbers as data -/
abbrev q4 (a b c d : G) : PyData := .tuple [cd a, cd b, cd c, cd d]
/-- a map as data -/
abbrev mp (f : Int) (a b c d : G) : PyData := .tuple [.int f, cd a, cd b, cd c, cd d]
def dtm (a b c d : G) : G := gu (gm a d) (gm b c)
/-- n bits hold each of the four numbers -/
structure S4 (n : Nat) (a b c d : G) : Prop where
  a1 : Sz n a.1
  a2 : Sz n a.2
  b1 : Sz n b.1
  b2 : Sz n b.2
  c1 : Sz n c.1
  c2 : Sz n c.2
  d1 : Sz n d.1
  d2 : Sz n d.2
def isQ (p : G) : Prop := 0 < p.1 ∧ 0 ≤ p.2
instance (p : G) : Decidable (isQ p) := inferInstanceAs (Decidable (_ ∧ _))
/-- the number that says how a map is turned -/
def led (a b : G) : G := if a ≠ (0, 0) then a else b
/-- the form of a map's numbers -/
structure Fm (n : Nat) (a b c d : G) : Prop where
  sz : S4 n a b c d
  gc : GC [a, b, c, d] (1, 0)
  dt : dtm a b c d ≠ (0, 0)
  qt : isQ (led a b)
theorem gm_gt (g p : G) : gm g (gt p) = gm (gt g) p := Prod.ext (by simp only [gm, gt]; grind) (by simp only [gm, gt]; grind)
theorem gt_ne {p : G} (h : p ≠ (0, 0)) : gt p ≠ (0, 0) := fun z => h (Prod.ext (by have := congrArg Prod.snd z; exact this) (by have := congrArg Prod.fst z; simp only [gt] at this; show p.2 = 0; omega))
theorem gt_4 (p : G) : gt (gt (gt (gt p))) = p := Prod.ext (by simp only [gt]; omega) (by simp only [gt]; omega)
theorem led_gt (a b : G) : led (gt a) (gt b) = gt (led a b) := by
  unfold led
  by_cases z : a = (0, 0)
  · have z' : gt a = (0, 0) := by rw [z]; rfl
    rw [if_neg (fun n => n z'), if_neg (fun n => n z)]
  · rw [if_pos z, if_pos (gt_ne z)]
theorem ngS {n : Nat} {x : Int} (h : Sz n x) : Sz n (-x) := sz_neg
theorem S4.gt {n : Nat} {a b c d : G} (h : S4 n a b c d) : S4 n (gt a) (gt b) (gt c) (gt d) :=
  ⟨ngS h.a2, h.a1, ngS h.b2, h.b1, ngS h.c2, h.c1, ngS h.d2, h.d1⟩
theorem gt_gmR (p : G) : gt p = gm p (0, 1) := Prod.ext (by simp only [gm, gt]; grind) (by simp only [gm, gt]; grind)
theorem gt_back (p : G) : p = gm (gt p) (0, -1) := Prod.ext (by simp only [gm, gt]; grind) (by simp only [gm, gt]; grind)
theorem gdv_gt {d p : G} : gdv d (gt p) ↔ gdv d p := ⟨fun h => by rw [gt_back p]; exact gdv_trans h ⟨_, rfl⟩, fun h => by rw [gt_gmR]; exact gdv_trans h ⟨_, rfl⟩⟩
theorem al4 {d a b c e : G} : (∀ n ∈ [a, b, c, e], gdv d n) ↔ (gdv d a ∧ gdv d b ∧ gdv d c ∧ gdv d e) := ⟨fun h => ⟨h _ (by simp), h _ (by simp), h _ (by simp), h _ (by simp)⟩, fun h n hn => by
  rcases List.mem_cons.mp hn with e | hn
  · rw [e]; exact h.1
  rcases List.mem_cons.mp hn with e | hn
  · rw [e]; exact h.2.1
  rcases List.mem_cons.mp hn with e | hn
  · rw [e]; exact h.2.2.1
  · rw [List.mem_singleton.mp hn]; exact h.2.2.2⟩
theorem GC.gt {a b c e g : G} (h : GC [a, b, c, e] g) : GC [Z.gt a, Z.gt b, Z.gt c, Z.gt e] g := h.same fun d => by
  rw [al4, al4, gdv_gt, gdv_gt, gdv_gt, gdv_gt]
theorem dtm_gt (a b c d : G) : dtm (gt a) (gt b) (gt c) (gt d) = gn (dtm a b c d) := Prod.ext (by simp only [dtm, gu, gm, gt, gn]; grind) (by simp only [dtm, gu, gm, gt, gn]; grind)
theorem gn_ne {p : G} (h : p ≠ (0, 0)) : gn p ≠ (0, 0) := fun z => h (Prod.ext (by have := congrArg Prod.fst z; simp only [gn] at this; show p.1 = 0; omega) (by have := congrArg Prod.snd z; simp only [gn] at this; show p.2 = 0; omega))
/-- what is left of four numbers once their divisor is taken out -/
theorem GC.quot {a b c d m g x y z w : G} (h : GC [a, b, c, d, m] g) (hm : ∀ k, gdv k a → gdv k b → gdv k c → gdv k d → gdv k m) (hg : g ≠ (0, 0)) (ha : a = gm g x) (hb : b = gm g y) (hc : c = gm g z) (hd : d = gm g w) : GC [x, y, z, w] (1, 0) := by
  refine ⟨fun n _ => ⟨n, by rw [gm_comm, gm_one]⟩, fun k q => ?_⟩
  obtain ⟨qx, qy, qz, qw⟩ := al4.mp q
  have st : ∀ {u v : G}, u = gm g v → gdv k v → gdv (gm g k) u := fun e h => by
    obtain ⟨r, h⟩ := h
    exact ⟨r, by rw [e, h, gm_assoc]⟩
  have e := h.big (gm g k) fun n hn => by
    have da := st ha qx
    have db := st hb qy
    have dc := st hc qz
    have dd := st hd qw
    rcases List.mem_cons.mp hn with e | hn
    · rw [e]; exact da
    rcases List.mem_cons.mp hn with e | hn
    · rw [e]; exact db
    rcases List.mem_cons.mp hn with e | hn
    · rw [e]; exact dc
    rcases List.mem_cons.mp hn with e | hn
    · rw [e]; exact dd
    · rw [List.mem_singleton.mp hn]; exact hm _ da db dc dd
  obtain ⟨r, e⟩ := e
  rw [gm_assoc] at e
  exact ⟨r, gm_cancel hg (by rw [gm_one]; exact e)⟩
theorem dtm_gm (g a b c d : G) : dtm (gm g a) (gm g b) (gm g c) (gm g d) = gm (gm g g) (dtm a b c d) := Prod.ext (by simp only [dtm, gu, gm]; grind) (by simp only [dtm, gu, gm]; grind)
theorem xq_gm {a b c d : Int} {p : G} (hz : (c, d) ≠ ((0, 0) : G)) (h : ((a, b) : G) = gm (c, d) p) : xq a b c d = some p := by
  have ea : a = c * p.1 - d * p.2 := congrArg Prod.fst h
  have eb : b = c * p.2 + d * p.1 := congrArg Prod.snd h
  have n1 : 0 < c * c + d * d := nm_pos hz
  have n : c * c + d * d ≠ 0 := by omega
  have e1 : a * c - b * -d = (c * c + d * d) * p.1 := by rw [ea, eb]; grind
  have e2 : a * -d + b * c = (c * c + d * d) * p.2 := by rw [ea, eb]; grind
  unfold xq
  rw [if_neg n, e1, e2, if_pos ⟨Int.mul_emod_right _ _, Int.mul_emod_right _ _⟩, Int.mul_ediv_cancel_left _ n, Int.mul_ediv_cancel_left _ n]
/-- a factor is no longer than its product -/
theorem sz_fac {n : Nat} {g p : G} (hg : g ≠ (0, 0)) {q : G} (e : q = gm g p) (h1 : Sz n q.1) (h2 : Sz n q.2) : Sz (n + 1) p.1 ∧ Sz (n + 1) p.2 := by
  have a : nm q = nm g * nm p := by rw [e, nm_mul]
  have b : 0 < nm g := nm_pos hg
  have c : 0 ≤ nm p := nm_nn p
  have d : nm p ≤ nm q := by
    rw [a]
    have := Int.mul_le_mul_of_nonneg_right (show 1 ≤ nm g from b) c
    omega
  have k1 : 2 * (p.1 * p.1) ≤ (2 * q.1) * (2 * q.1) + (2 * q.2) * (2 * q.2) := by
    simp only [nm] at d
    have := nrm0 p.2 0
    have := nrm0 q.1 0
    have := nrm0 q.2 0
    grind
  have k2 : 2 * (p.2 * p.2) ≤ (2 * q.1) * (2 * q.1) + (2 * q.2) * (2 * q.2) := by
    simp only [nm] at d
    have := nrm0 p.1 0
    have := nrm0 q.1 0
    have := nrm0 q.2 0
    grind
  have t1 : Sz (n + 1) (2 * q.1) := ⟨by have := h1.lt; rw [Nat.pow_succ]; omega⟩
  have t2 : Sz (n + 1) (2 * q.2) := ⟨by have := h2.lt; rw [Nat.pow_succ]; omega⟩
  exact ⟨sz_sq k1 t1 t2, sz_sq k2 t1 t2⟩
end Z
set_option Elab.async false
set_option linter.all false
set_option maxRecDepth 100000
namespace Z
open PySem L2
theorem gc_ex2 : ∀ (k : Nat) (a b : G), (nm b).toNat ≤ k → ∃ h, GC [a, b] h
  | 0, a, b, hk => by
    have h0 := nm_nn b
    have e : b = (0, 0) := nm_zero (by omega)
    exact ⟨a, by rw [e]; exact GC.zero a⟩
  | k + 1, a, b, hk => by
    by_cases e : b = (0, 0)
    · exact ⟨a, by rw [e]; exact GC.zero a⟩
    · have np : 0 < b.1 * b.1 + b.2 * b.2 := nm_pos e
      have r := rest_nm (a := a.1) (b := a.2) (c := b.1) (d := b.2) np
      have hb : nm b = b.1 * b.1 + b.2 * b.2 := rfl
      obtain ⟨h, g⟩ := gc_ex2 k b (les (a.1, a.2) ((2 * (a.1 * b.1 - a.2 * -b.2) + (b.1 * b.1 + b.2 * b.2)) / (2 * (b.1 * b.1 + b.2 * b.2)), (2 * (a.1 * -b.2 + a.2 * b.1) + (b.1 * b.1 + b.2 * b.2)) / (2 * (b.1 * b.1 + b.2 * b.2))) (b.1, b.2)) (by
        have nn := nm_nn (les (a.1, a.2) ((2 * (a.1 * b.1 - a.2 * -b.2) + (b.1 * b.1 + b.2 * b.2)) / (2 * (b.1 * b.1 + b.2 * b.2)), (2 * (a.1 * -b.2 + a.2 * b.1) + (b.1 * b.1 + b.2 * b.2)) / (2 * (b.1 * b.1 + b.2 * b.2))) (b.1, b.2))
        omega)
      exact ⟨h, GC.step g⟩
theorem gc_ex : ∀ ns : List G, ∃ g, GC ns.reverse g
  | [] => ⟨_, GC.nil⟩
  | n :: ns => by
    obtain ⟨g, h⟩ := gc_ex ns
    obtain ⟨k, hk⟩ := gc_ex2 _ g n (Nat.le_refl _)
    exact ⟨k, by rw [List.reverse_cons]; exact h.snoc hk⟩
theorem gc_ex' (ns : List G) : ∃ g, GC ns g := by
  obtain ⟨g, h⟩ := gc_ex ns.reverse
  exact ⟨g, by rw [List.reverse_reverse] at h; exact h⟩
theorem gm_nz {g x : G} (hg : g ≠ (0, 0)) : gm g x = (0, 0) ↔ x = (0, 0) := ⟨fun h => gm_cancel hg (by rw [h, gm_zero]), fun h => by rw [h, gm_zero]⟩
theorem isQ_unit {l u : G} (hu : nm u = 1) (h : isQ l) (h2 : isQ (gm u l)) : u = (1, 0) := by
  unfold isQ gm at *
  rcases unit_of hu with e | e | e | e
  · exact e
  all_goals (subst e; simp only at *; omega)
theorem led_gm {g x y : G} (hg : g ≠ (0, 0)) : led (gm g x) (gm g y) = gm g (led x y) := by
  unfold led
  by_cases z : x = (0, 0)
  · rw [if_neg (fun n => n ((gm_nz hg).mpr z)), if_neg (fun n => n z)]
  · rw [if_pos (fun n => z ((gm_nz hg).mp n)), if_pos z]
/-- factors out of both make the same numbers only if the forms are the same -/
theorem Fm.uniq {n m : Nat} {x y z w x' y' z' w' g h : G} (F : Fm n x y z w) (F' : Fm m x' y' z' w') (hg : g ≠ (0, 0)) (hh : h ≠ (0, 0)) (e1 : gm g x = gm h x') (e2 : gm g y = gm h y') (e3 : gm g z = gm h z') (e4 : gm g w = gm h w') : x = x' ∧ y = y' ∧ z = z' ∧ w = w' := by
  obtain ⟨D, hD⟩ := gc_ex' ([x, y, z, w].map (gm g))
  have a1 := F.gc.longer hg hD
  have hD' : GC ([x', y', z', w'].map (gm h)) D := by
    have : [x, y, z, w].map (gm g) = [x', y', z', w'].map (gm h) := by
      show [gm g x, gm g y, gm g z, gm g w] = [gm h x', gm h y', gm h z', gm h w']
      rw [e1, e2, e3, e4]
    rw [← this]
    exact hD
  have a2 := F'.gc.longer hh hD'
  rw [gm_one] at a1 a2
  have a := as_trans a1 (as_symm a2)
  obtain ⟨⟨r, hr⟩, ⟨s, hs⟩⟩ := a
  -- h = g r, g = h s
  have u1 : nm r = 1 := by
    have t : gm g (gm r s) = gm g (1, 0) := by rw [← gm_assoc, ← hr, ← hs, gm_one]
    have t2 := gm_cancel hg t
    have t3 : nm r * nm s = 1 := by rw [← nm_mul, t2]; rfl
    have := nm_nn r
    have := nm_nn s
    rcases Int.lt_or_le (nm r) 2 with p | p
    · rcases Int.lt_or_le (nm r) 1 with q | q
      · have : nm r = 0 := by omega
        rw [this, Int.zero_mul] at t3
        cases t3
      · omega
    · rcases Int.lt_or_le (nm s) 1 with q | q
      · have : nm s = 0 := by omega
        rw [this, Int.mul_zero] at t3
        cases t3
      · have := Int.mul_le_mul p q (by decide) (by omega)
        omega
  have st : ∀ {u v : G}, gm g u = gm h v → u = gm r v := fun e => gm_cancel hg (by rw [e, hr, gm_assoc])
  have r1 : r = (1, 0) := isQ_unit u1 F'.qt (by
    have q := F.qt
    rw [st e1, st e2, led_gm (fun z => by rw [z] at u1; cases u1)] at q
    exact q)
  have fin : ∀ {u v : G}, gm g u = gm h v → u = v := fun e => by rw [st e, r1, gm_comm, gm_one]
  exact ⟨fin e1, fin e2, fin e3, fin e4⟩
end Z
set_option Elab.async false
set_option linter.all false
set_option maxRecDepth 100000
namespace Z
open PySem L2
def m1 (a b e g : G) : G := ga (gm a e) (gm b g)
/-- a number as a map of the hand f reads it -/
def cj (f : Int) (p : G) : G := if f = 1 then gj p else p
theorem gj_ne {p : G} (h : p ≠ (0, 0)) : gj p ≠ (0, 0) := fun z => h (Prod.ext (by have := congrArg Prod.fst z; exact this) (by have := congrArg Prod.snd z; simp only [gj] at this; show p.2 = 0; omega))
theorem gj_gj (p : G) : gj (gj p) = p := Prod.ext rfl (by simp only [gj]; omega)
theorem gj_gm (p q : G) : gj (gm p q) = gm (gj p) (gj q) := Prod.ext (by simp only [gm, gj]; grind) (by simp only [gm, gj]; grind)
theorem gj_ga (p q : G) : gj (ga p q) = ga (gj p) (gj q) := Prod.ext (by simp only [ga, gj]) (by simp only [ga, gj]; omega)
theorem cj_cj (f : Int) (p : G) : cj f (cj f p) = p := by
  unfold cj
  by_cases h : f = 1
  · rw [if_pos h, if_pos h, gj_gj]
  · rw [if_neg h, if_neg h]
theorem cj_gm (f : Int) (p q : G) : cj f (gm p q) = gm (cj f p) (cj f q) := by
  unfold cj
  by_cases h : f = 1
  · rw [if_pos h, if_pos h, if_pos h, gj_gm]
  · rw [if_neg h, if_neg h, if_neg h]
theorem cj_ga (f : Int) (p q : G) : cj f (ga p q) = ga (cj f p) (cj f q) := by
  unfold cj
  by_cases h : f = 1
  · rw [if_pos h, if_pos h, if_pos h, gj_ga]
  · rw [if_neg h, if_neg h, if_neg h]
theorem cj_ne {f : Int} {p : G} (h : p ≠ (0, 0)) : cj f p ≠ (0, 0) := by
  unfold cj
  by_cases z : f = 1
  · rw [if_pos z]; exact gj_ne h
  · rw [if_neg z]; exact h
theorem gj_sz {n : Nat} {p : G} (h1 : Sz n p.1) (h2 : Sz n p.2) : Sz n (gj p).1 ∧ Sz n (gj p).2 := ⟨h1, sz_neg⟩
theorem cj_sz {n : Nat} {f : Int} {p : G} (h1 : Sz n p.1) (h2 : Sz n p.2) : Sz n (cj f p).1 ∧ Sz n (cj f p).2 := by
  unfold cj
  by_cases z : f = 1
  · rw [if_pos z]; exact gj_sz h1 h2
  · rw [if_neg z]; exact ⟨h1, h2⟩
theorem S4.cj {n : Nat} {f : Int} {a b c d : G} (s : S4 n a b c d) : S4 n (Z.cj f a) (Z.cj f b) (Z.cj f c) (Z.cj f d) :=
  ⟨(cj_sz s.a1 s.a2).1, (cj_sz s.a1 s.a2).2, (cj_sz s.b1 s.b2).1, (cj_sz s.b1 s.b2).2, (cj_sz s.c1 s.c2).1, (cj_sz s.c1 s.c2).2, (cj_sz s.d1 s.d2).1, (cj_sz s.d1 s.d2).2⟩
theorem S4.up {n m : Nat} {a b c d : G} (s : S4 n a b c d) (h : n ≤ m) : S4 m a b c d := ⟨szUp s.a1 h, szUp s.a2 h, szUp s.b1 h, szUp s.b2 h, szUp s.c1 h, szUp s.c2 h, szUp s.d1 h, szUp s.d2 h⟩
theorem S4.adj {n : Nat} {a b c d : G} (s : S4 n a b c d) : S4 n d (gn b) (gn c) a := ⟨s.d1, s.d2, ngS s.b1, ngS s.b2, ngS s.c1, ngS s.c2, s.a1, s.a2⟩
theorem Fm.up {n m : Nat} {a b c d : G} (s : Fm n a b c d) (h : n ≤ m) : Fm m a b c d := ⟨s.sz.up h, s.gc, s.dt, s.qt⟩
theorem m1_sz {n : Nat} {a b e g : G} (a1 : Sz n a.1) (a2 : Sz n a.2) (b1 : Sz n b.1) (b2 : Sz n b.2) (e1 : Sz n e.1) (e2 : Sz n e.2) (g1 : Sz n g.1) (g2 : Sz n g.2) : Sz (2 * n + 2) (m1 a b e g).1 ∧ Sz (2 * n + 2) (m1 a b e g).2 := by
  have h : max (max (n + n) (n + n) + 1) (max (n + n) (n + n) + 1) + 1 ≤ 2 * n + 2 := by omega
  exact ⟨szUp (inferInstance : Sz _ ((a.1 * e.1 - a.2 * e.2) + (b.1 * g.1 - b.2 * g.2))) h, szUp (inferInstance : Sz _ ((a.1 * e.2 + a.2 * e.1) + (b.1 * g.2 + b.2 * g.1))) h⟩
theorem S4.mul {n : Nat} {a b c d e f g h : G} (s : S4 n a b c d) (t : S4 n e f g h) : S4 (2 * n + 2) (m1 a b e g) (m1 a b f h) (m1 c d e g) (m1 c d f h) := by
  have k1 := m1_sz s.a1 s.a2 s.b1 s.b2 t.a1 t.a2 t.c1 t.c2
  have k2 := m1_sz s.a1 s.a2 s.b1 s.b2 t.b1 t.b2 t.d1 t.d2
  have k3 := m1_sz s.c1 s.c2 s.d1 s.d2 t.a1 t.a2 t.c1 t.c2
  have k4 := m1_sz s.c1 s.c2 s.d1 s.d2 t.b1 t.b2 t.d1 t.d2
  exact ⟨k1.1, k1.2, k2.1, k2.2, k3.1, k3.2, k4.1, k4.2⟩
end Z
set_option Elab.async false
set_option linter.all false
set_option maxRecDepth 100000
namespace Z
open PySem L2
def tk : Nat → G → G
  | 0, p => p
  | k + 1, p => gt (tk k p)
theorem tk_unit : ∀ k : Nat, k ≤ 3 → ∃ u : G, (∀ x, gm x u = tk k x) ∧ Sz 1 u.1 ∧ Sz 1 u.2
  | 0, _ => ⟨(1, 0), fun x => by rw [gm_one]; rfl, ⟨by decide⟩, ⟨by decide⟩⟩
  | 1, _ => ⟨(0, 1), fun x => (gt_gmR x).symm, ⟨by decide⟩, ⟨by decide⟩⟩
  | 2, _ => ⟨(-1, 0), fun x => Prod.ext (by simp only [gm, tk, gt]; grind) (by simp only [gm, tk, gt]; grind), ⟨by decide⟩, ⟨by decide⟩⟩
  | 3, _ => ⟨(0, -1), fun x => Prod.ext (by simp only [gm, tk, gt]; grind) (by simp only [gm, tk, gt]; grind), ⟨by decide⟩, ⟨by decide⟩⟩
theorem qf_tk (p : G) : ∃ k, k ≤ 3 ∧ qf p.1 p.2 = tk k p := by
  rcases as_unit (qf_as p) with e | e | e | e
  · exact ⟨0, by decide, e⟩
  · exact ⟨1, by decide, e⟩
  · exact ⟨2, by decide, e⟩
  · exact ⟨3, by decide, by rw [e]; exact Prod.ext (by simp only [tk, gt]; omega) (by simp only [tk, gt])⟩
theorem isQ_qf {p : G} (h : p ≠ (0, 0)) : isQ (qf p.1 p.2) := by
  have n : ¬ (p.1 = 0 ∧ p.2 = 0) := fun z => h (Prod.ext z.1 z.2)
  unfold qf isQ
  rw [if_neg n]
  split
  · simp only; omega
  · split
    · simp only; omega
    · split
      · simp only; omega
      · simp only; omega
theorem tk_S4 {n : Nat} {a b c d : G} (h : S4 n a b c d) : ∀ k, S4 n (tk k a) (tk k b) (tk k c) (tk k d)
  | 0 => h
  | k + 1 => (tk_S4 h k).gt
theorem tk_GC {a b c d g : G} (h : GC [a, b, c, d] g) : ∀ k, GC [tk k a, tk k b, tk k c, tk k d] g
  | 0 => h
  | k + 1 => (tk_GC h k).gt
theorem tk_dtm {a b c d : G} (h : dtm a b c d ≠ (0, 0)) : ∀ k, dtm (tk k a) (tk k b) (tk k c) (tk k d) ≠ (0, 0)
  | 0 => h
  | k + 1 => by
    show dtm (gt _) (gt _) (gt _) (gt _) ≠ _
    rw [dtm_gt]
    exact gn_ne (tk_dtm h k)
theorem tk_led (a b : G) : ∀ k, led (tk k a) (tk k b) = tk k (led a b)
  | 0 => rfl
  | k + 1 => by
    show led (gt _) (gt _) = gt _
    rw [led_gt, tk_led a b k]
theorem tk_fac (g : G) (hg : g ≠ (0, 0)) : ∀ k, ∃ D : G, D ≠ (0, 0) ∧ ∀ x, gm g x = gm D (tk k x)
  | 0 => ⟨g, hg, fun _ => rfl⟩
  | k + 1 => by
    obtain ⟨D, h1, h2⟩ := tk_fac g hg k
    exact ⟨gt (gt (gt D)), gt_ne (gt_ne (gt_ne h1)), fun x => by rw [h2 x]; show _ = gm _ (gt _); rw [gm_gt, gt_4]⟩
/-- a map's form, once the leading number is turned into the quarter -/
theorem Fm.turn {n k : Nat} {x y z w : G} (S : S4 n x y z w) (g : GC [x, y, z, w] (1, 0)) (d : dtm x y z w ≠ (0, 0)) (hl : led x y ≠ (0, 0)) (e : qf (led x y).1 (led x y).2 = tk k (led x y)) : Fm n (tk k x) (tk k y) (tk k z) (tk k w) :=
  ⟨tk_S4 S k, tk_GC g k, tk_dtm d k, by rw [tk_led, ← e]; exact isQ_qf hl⟩
theorem led_nz {a b c d : G} (h : dtm a b c d ≠ (0, 0)) : led a b ≠ (0, 0) := fun z => h (by
  unfold led at z
  by_cases y : a = (0, 0)
  · rw [if_neg (fun n => n y)] at z
    rw [y, z]
    exact Prod.ext (by simp only [dtm, gu, gm]; grind) (by simp only [dtm, gu, gm]; grind)
  · rw [if_pos y] at z
    exact absurd z y)
/-- the first number that is not 0 -/
theorem first_led {x y z w : G} (h : led x y ≠ (0, 0)) : ∃ r, ([cd x, cd y, cd z, cd w].filter fun d => !PyData.eqv d (cd (0, 0))) = cd (led x y) :: r := by
  unfold led at *
  by_cases e : x = (0, 0)
  · rw [if_neg (fun n => n e)] at h ⊢
    rw [List.filter_cons_of_neg (by rw [eqv_cd, decide_eq_true e]; decide), List.filter_cons_of_pos (by rw [eqv_cd, decide_eq_false h]; rfl)]
    exact ⟨_, rfl⟩
  · rw [if_pos e]
    rw [List.filter_cons_of_pos (by rw [eqv_cd, decide_eq_false e]; rfl)]
    exact ⟨_, rfl⟩
theorem atI_hd {d : PyData} {ds : List PyData} : atI (d :: ds) 0 = some d := by
  show (ixN (d :: ds).length 0).bind _ = _
  unfold ixN
  rw [if_pos (by decide), if_pos (by rw [List.length_cons]; omega)]
  rfl
theorem fIx_hd {d : PyData} {ds : List PyData} {Q : PyData → Prop} (q : Q d) : fIx (.list (d :: ds)) (.int 0) Q := fIx_lst atI_hd q
end Z
set_option Elab.async false
set_option linter.all false
set_option maxRecDepth 100000
namespace Z
open PySem L2
section
variable {X : Cx} {c : Cf} {k kg n : Nat} {x : Str} {ps : List Str} {p pos : Pos} {e : Expr} {es : List Expr} {u : Wa}
/-- the own list that a call hands back -/
theorem Ok.take {K : PySem.W.Frag} {M : Mz} {σ : Sg} {H1 H' : Hp} {ev : Ev} {pd : List (V × PyData)} (k1 : Ok K c M σ H1 ev pd) {i j : Nat} {a p : Addr} {ts ts' es : List PyData} {us' zs : List V} (e1 : ev[j]? = some (some (.own ts))) (a1 : σ[j]? = some (some (.ref a)))
    (g0 : H1 p = none) (g1 : ∀ b o, H1 b = some o → b ≠ a → H' b = some o) (g2 : H' a = some (.lst us')) (g3 : DzAll K (msk M H') us' ts') (g4 : H' p = some (.lst zs)) (g5 : DzAll K (msk M H') zs es) (nt : noLsts ts' = true) (ne : noLsts es = true) (hi : notOwn (ev.set j (some (.own ts'))) i) :
    Ok K c (stM M p (1, none)) (σ.set i (some (.ref p))) H' ((ev.set j (some (.own ts'))).set i (some (.own es))) pd := by
  have hmp : (M p).1 = 0 := k1.free g0
  obtain ⟨a', vs, y1, y2, y3, y4, y5⟩ := k1.own j ts e1
  obtain rfl : a' = a := by rw [a1] at y1; cases y1; rfl
  have nap : a' ≠ p := ne_of_none y4 g0
  let Hm : Hp := fun b => if b = p then none else H' b
  have hm_off : ∀ {b : Addr}, b ≠ p → Hm b = H' b := fun n => if_neg n
  have hm_at : Hm p = none := if_pos rfl
  have vp : msk M H' p = some (.lst zs) := msk_of g4 hmp
  have off : ∀ b o, msk M H' b = some o → b ≠ p → msk M Hm b = some o := fun b o q n => by
    obtain ⟨q1, q2⟩ := msk_ok q
    exact msk_of (by rw [hm_off n]; exact q1) q2
  have w := k1.write e1 a1 (H' := Hm) (us := us') (es := ts') (fun b o q n => by rw [hm_off (ne_of_none q g0)]; exact g1 b o q n) (by rw [hm_off nap]; exact g2) (g3.off vp off nt)
  have r := w.ownNew (i := i) (p := p) (vs := zs) (ds := es) hi hm_at (g5.off vp off ne)
  have eH : upd Hm p (.lst zs) = H' := by
    funext b
    by_cases z : b = p
    · rw [z, upd_same, g4]
    · rw [upd_ne z, hm_off z]
  rw [eH] at r
  exact r
end
end Z
set_option Elab.async false
set_option linter.all false
set_option maxRecDepth 100000
namespace Z
open PySem L2
instance : Add G := ⟨ga⟩
instance : Sub G := ⟨gu⟩
instance : Neg G := ⟨gn⟩
instance : Mul G := ⟨gm⟩
def gnat (n : Nat) : G := ((n : Int), 0)
def gint (n : Int) : G := (n, 0)
def gpow (p : G) : Nat → G
  | 0 => (1, 0)
  | n + 1 => gm (gpow p n) p
theorem gadd (p q : G) : p + q = (p.1 + q.1, p.2 + q.2) := rfl
theorem gmul (p q : G) : p * q = (p.1 * q.1 - p.2 * q.2, p.1 * q.2 + p.2 * q.1) := rfl
instance gring : Lean.Grind.CommRing G where
  natCast := ⟨gnat⟩
  ofNat := fun n => ⟨gnat n⟩
  nsmul := ⟨fun n p => gm (gnat n) p⟩
  npow := ⟨fun p n => gpow p n⟩
  intCast := ⟨gint⟩
  zsmul := ⟨fun n p => gm (gint n) p⟩
  add_zero := fun a => Prod.ext (Int.add_zero _) (Int.add_zero _)
  add_comm := fun a b => Prod.ext (Int.add_comm _ _) (Int.add_comm _ _)
  add_assoc := fun a b c => Prod.ext (Int.add_assoc _ _ _) (Int.add_assoc _ _ _)
  mul_assoc := gm_assoc
  mul_one := gm_one
  one_mul := fun a => by show gm (1, 0) a = a; rw [gm_comm, gm_one]
  left_distrib := fun a b c => Prod.ext (by simp only [gadd, gmul]; grind) (by simp only [gadd, gmul]; grind)
  right_distrib := fun a b c => Prod.ext (by simp only [gadd, gmul]; grind) (by simp only [gadd, gmul]; grind)
  zero_mul := zero_gm
  mul_zero := gm_zero
  pow_zero := fun a => rfl
  pow_succ := fun a n => rfl
  ofNat_succ := fun a => Prod.ext (by show ((a + 1 : Nat) : Int) = (a : Int) + 1; omega) rfl
  ofNat_eq_natCast := fun n => rfl
  nsmul_eq_natCast_mul := fun n a => rfl
  neg_zsmul := fun i a => Prod.ext (by show (-i) * a.1 - 0 * a.2 = -(i * a.1 - 0 * a.2); grind) (by show (-i) * a.2 + 0 * a.1 = -(i * a.2 + 0 * a.1); grind)
  zsmul_natCast_eq_nsmul := fun n a => rfl
  neg_add_cancel := fun a => Prod.ext (Int.add_left_neg _) (Int.add_left_neg _)
  sub_eq_add_neg := fun a b => Prod.ext Int.sub_eq_add_neg Int.sub_eq_add_neg
  mul_comm := gm_comm
  intCast_neg := fun i => rfl
  intCast_ofNat := fun n => rfl
theorem gn_r (a : G) : gn a = -a := rfl
theorem z_r : ((0, 0) : G) = 0 := rfl
theorem gmc {k p q : G} (hk : k ≠ 0) (h : k * p = k * q) : p = q := gm_cancel hk h
theorem gz {p q : G} (h : p * q = 0) (hp : p ≠ 0) : q = 0 := gmc hp (by rw [h]; grind)
theorem gnz {p q : G} (hp : p ≠ 0) (hq : q ≠ 0) : p * q ≠ 0 := fun h => hq (gz h hp)
theorem cj_mul (f : Int) (p q : G) : cj f (p * q) = cj f p * cj f q := cj_gm f p q
theorem cj_add (f : Int) (p q : G) : cj f (p + q) = cj f p + cj f q := cj_ga f p q
theorem cj_neg (f : Int) (p : G) : cj f (-p) = -cj f p := by
  unfold cj
  by_cases h : f = 1
  · rw [if_pos h, if_pos h]; rfl
  · rw [if_neg h, if_neg h]
theorem cj_sub (f : Int) (p q : G) : cj f (p - q) = cj f p - cj f q := by
  rw [show p - q = p + -q by grind, cj_add, cj_neg]; grind
theorem cj_nz {f : Int} {p : G} (h : p ≠ 0) : cj f p ≠ 0 := cj_ne h
theorem cj_cj2 {f i : Int} (hf : f = 0 ∨ f = 1) (hi : i = 0 ∨ i = 1) (p : G) : cj f (cj i p) = cj ((f + i) % 2) p := by
  rcases hf with rfl | rfl <;> rcases hi with rfl | rfl
  · rfl
  · rfl
  · rfl
  · exact gj_gj p
structure M4 where
  a : G
  b : G
  c : G
  d : G
namespace M4
def mul (A B : M4) : M4 := ⟨A.a * B.a + A.b * B.c, A.a * B.b + A.b * B.d, A.c * B.a + A.d * B.c, A.c * B.b + A.d * B.d⟩
def adj (A : M4) : M4 := ⟨A.d, -A.b, -A.c, A.a⟩
def cj (f : Int) (A : M4) : M4 := ⟨Z.cj f A.a, Z.cj f A.b, Z.cj f A.c, Z.cj f A.d⟩
def sm (g : G) (A : M4) : M4 := ⟨g * A.a, g * A.b, g * A.c, g * A.d⟩
def dt (A : M4) : G := A.a * A.d - A.b * A.c
def one : M4 := ⟨1, 0, 0, 1⟩
end M4
theorem m4_ext {A B : M4} (h1 : A.a = B.a) (h2 : A.b = B.b) (h3 : A.c = B.c) (h4 : A.d = B.d) : A = B := by
  cases A; cases B; simp only at h1 h2 h3 h4; rw [h1, h2, h3, h4]
theorem mul_one (A : M4) : A.mul M4.one = A := m4_ext (by simp only [M4.mul, M4.one]; grind) (by simp only [M4.mul, M4.one]; grind) (by simp only [M4.mul, M4.one]; grind) (by simp only [M4.mul, M4.one]; grind)
theorem one_mul (A : M4) : M4.one.mul A = A := m4_ext (by simp only [M4.mul, M4.one]; grind) (by simp only [M4.mul, M4.one]; grind) (by simp only [M4.mul, M4.one]; grind) (by simp only [M4.mul, M4.one]; grind)
theorem adj_mul (A B : M4) : (A.mul B).adj = B.adj.mul A.adj := m4_ext (by simp only [M4.mul, M4.adj]; grind) (by simp only [M4.mul, M4.adj]; grind) (by simp only [M4.mul, M4.adj]; grind) (by simp only [M4.mul, M4.adj]; grind)
theorem adj_adj (A : M4) : A.adj.adj = A := m4_ext rfl (by simp only [M4.adj]; grind) (by simp only [M4.adj]; grind) rfl
theorem cjm_mul (f : Int) (A B : M4) : (A.mul B).cj f = (A.cj f).mul (B.cj f) := m4_ext (by simp only [M4.mul, M4.cj, cj_add, cj_mul]) (by simp only [M4.mul, M4.cj, cj_add, cj_mul]) (by simp only [M4.mul, M4.cj, cj_add, cj_mul]) (by simp only [M4.mul, M4.cj, cj_add, cj_mul])
theorem cjm_adj (f : Int) (A : M4) : A.adj.cj f = (A.cj f).adj := m4_ext rfl (by simp only [M4.adj, M4.cj, cj_neg]) (by simp only [M4.adj, M4.cj, cj_neg]) rfl
theorem cjm_cj {f i : Int} (hf : f = 0 ∨ f = 1) (hi : i = 0 ∨ i = 1) (A : M4) : (A.cj i).cj f = A.cj ((f + i) % 2) := m4_ext (cj_cj2 hf hi _) (cj_cj2 hf hi _) (cj_cj2 hf hi _) (cj_cj2 hf hi _)
theorem cjm_self (f : Int) (A : M4) : (A.cj f).cj f = A := m4_ext (cj_cj f _) (cj_cj f _) (cj_cj f _) (cj_cj f _)
theorem cjm_sm (f : Int) (g : G) (A : M4) : (A.sm g).cj f = (A.cj f).sm (cj f g) := m4_ext (cj_mul ..) (cj_mul ..) (cj_mul ..) (cj_mul ..)
theorem adj_sm (g : G) (A : M4) : (A.sm g).adj = A.adj.sm g := m4_ext rfl (by simp only [M4.adj, M4.sm]; grind) (by simp only [M4.adj, M4.sm]; grind) rfl
theorem adj_mul' (A : M4) : A.adj.mul A = M4.one.sm A.dt := m4_ext (by simp only [M4.mul, M4.adj, M4.sm, M4.one, M4.dt]; grind) (by simp only [M4.mul, M4.adj, M4.sm, M4.one, M4.dt]; grind) (by simp only [M4.mul, M4.adj, M4.sm, M4.one, M4.dt]; grind) (by simp only [M4.mul, M4.adj, M4.sm, M4.one, M4.dt]; grind)
theorem sm_mul (g : G) (A B : M4) : (A.sm g).mul B = (A.mul B).sm g := m4_ext (by simp only [M4.mul, M4.sm]; grind) (by simp only [M4.mul, M4.sm]; grind) (by simp only [M4.mul, M4.sm]; grind) (by simp only [M4.mul, M4.sm]; grind)
theorem mul_sm (g : G) (A B : M4) : A.mul (B.sm g) = (A.mul B).sm g := m4_ext (by simp only [M4.mul, M4.sm]; grind) (by simp only [M4.mul, M4.sm]; grind) (by simp only [M4.mul, M4.sm]; grind) (by simp only [M4.mul, M4.sm]; grind)
theorem sm_sm (g h : G) (A : M4) : (A.sm h).sm g = A.sm (g * h) := m4_ext (by simp only [M4.sm]; grind) (by simp only [M4.sm]; grind) (by simp only [M4.sm]; grind) (by simp only [M4.sm]; grind)
theorem dt_mul (A B : M4) : (A.mul B).dt = A.dt * B.dt := by simp only [M4.mul, M4.dt]; grind
theorem dt_adj (A : M4) : A.adj.dt = A.dt := by simp only [M4.adj, M4.dt]; grind
theorem dt_cj (f : Int) (A : M4) : (A.cj f).dt = cj f A.dt := by simp only [M4.cj, M4.dt, cj_sub, cj_mul]
theorem dt_sm (g : G) (A : M4) : (A.sm g).dt = g * g * A.dt := by simp only [M4.sm, M4.dt]; grind
/-- the same numbers but for factors -/
def Sim (A B : M4) : Prop := ∃ g h : G, g ≠ 0 ∧ h ≠ 0 ∧ A.sm g = B.sm h
theorem one_ne : (1 : G) ≠ 0 := by intro h; have := congrArg Prod.fst h; cases this
theorem sm_one (A : M4) : A.sm 1 = A := m4_ext (by simp only [M4.sm]; grind) (by simp only [M4.sm]; grind) (by simp only [M4.sm]; grind) (by simp only [M4.sm]; grind)
theorem Sim.refl (A : M4) : Sim A A := ⟨1, 1, one_ne, one_ne, rfl⟩
theorem Sim.of {A B : M4} (h : A = B) : Sim A B := h ▸ Sim.refl A
theorem Sim.symm {A B : M4} (s : Sim A B) : Sim B A := by obtain ⟨g, h, x, y, e⟩ := s; exact ⟨h, g, y, x, e.symm⟩
theorem Sim.trans {A B C : M4} (s : Sim A B) (t : Sim B C) : Sim A C := by
  obtain ⟨g, h, x, y, e⟩ := s
  obtain ⟨k, l, u, v, f⟩ := t
  refine ⟨k * g, h * l, gnz u x, gnz y v, ?_⟩
  rw [← sm_sm, e, sm_sm, show k * h = h * k by grind, ← sm_sm, f, sm_sm]
theorem Sim.smr (A : M4) {g : G} (h : g ≠ 0) : Sim A (A.sm g) := ⟨g, 1, h, one_ne, (sm_one _).symm⟩
theorem Sim.mul {A B C D : M4} (s : Sim A B) (t : Sim C D) : Sim (A.mul C) (B.mul D) := by
  obtain ⟨g, h, x, y, e⟩ := s
  obtain ⟨k, l, u, v, f⟩ := t
  refine ⟨g * k, h * l, gnz x u, gnz y v, ?_⟩
  rw [← sm_sm, ← mul_sm, ← sm_mul, e, f, sm_mul, mul_sm, sm_sm]
theorem Sim.adj {A B : M4} (s : Sim A B) : Sim A.adj B.adj := by
  obtain ⟨g, h, x, y, e⟩ := s
  exact ⟨g, h, x, y, by rw [← adj_sm, e, adj_sm]⟩
theorem Sim.cj {A B : M4} (f : Int) (s : Sim A B) : Sim (A.cj f) (B.cj f) := by
  obtain ⟨g, h, x, y, e⟩ := s
  exact ⟨Z.cj f g, Z.cj f h, cj_nz x, cj_nz y, by rw [← cjm_sm, e, cjm_sm]⟩
theorem Sim.inv' (A : M4) (h : A.dt ≠ 0) : Sim (A.adj.mul A) M4.one := by rw [adj_mul']; exact (Sim.smr _ h).symm
abbrev Fm4 (n : Nat) (A : M4) : Prop := Fm n A.a A.b A.c A.d
theorem Fm4.sim {n m : Nat} {A B : M4} (F : Fm4 n A) (F' : Fm4 m B) (s : Sim A B) : A = B := by
  obtain ⟨g, h, x, y, e⟩ := s
  obtain ⟨e1, e2, e3, e4⟩ := F.uniq F' x y (congrArg M4.a e) (congrArg M4.b e) (congrArg M4.c e) (congrArg M4.d e)
  exact m4_ext e1 e2 e3 e4
theorem Fm4.one : Fm4 1 M4.one := ⟨⟨⟨by decide⟩, ⟨by decide⟩, ⟨by decide⟩, ⟨by decide⟩, ⟨by decide⟩, ⟨by decide⟩, ⟨by decide⟩, ⟨by decide⟩⟩, ⟨fun n _ => ⟨n, by rw [gm_comm, gm_one]⟩, fun d q => q (1, 0) (List.mem_cons_self ..)⟩, by decide, by decide⟩
structure V2 where
  x : G
  y : G
def M4.app (A : M4) (v : V2) : V2 := ⟨A.a * v.x + A.b * v.y, A.c * v.x + A.d * v.y⟩
def V2.cj (f : Int) (v : V2) : V2 := ⟨Z.cj f v.x, Z.cj f v.y⟩
def cr (u v : V2) : G := u.x * v.y - u.y * v.x
def V2.nz (u : V2) : Prop := ¬(u.x = 0 ∧ u.y = 0)
theorem app_cj (f : Int) (A : M4) (v : V2) : (A.app v).cj f = (A.cj f).app (v.cj f) := by simp only [M4.app, V2.cj, M4.cj, cj_add, cj_mul]
theorem app_mul (A B : M4) (v : V2) : (A.mul B).app v = A.app (B.app v) := by
  simp only [M4.app, M4.mul]
  rw [show (A.a * B.a + A.b * B.c) * v.x + (A.a * B.b + A.b * B.d) * v.y = A.a * (B.a * v.x + B.b * v.y) + A.b * (B.c * v.x + B.d * v.y) by grind, show (A.c * B.a + A.d * B.c) * v.x + (A.c * B.b + A.d * B.d) * v.y = A.c * (B.a * v.x + B.b * v.y) + A.d * (B.c * v.x + B.d * v.y) by grind]
theorem vcj_cj2 {f i : Int} (hf : f = 0 ∨ f = 1) (hi : i = 0 ∨ i = 1) (v : V2) : (v.cj i).cj f = v.cj ((f + i) % 2) := by simp only [V2.cj, cj_cj2 hf hi]
/-- the same numbers but for factors lead along one pair -/
theorem Sim.app {A B : M4} (s : Sim A B) (v : V2) : cr (A.app v) (B.app v) = 0 := by
  obtain ⟨g, h, x, y, e⟩ := s
  have e1 : g * A.a = h * B.a := congrArg M4.a e
  have e2 : g * A.b = h * B.b := congrArg M4.b e
  have e3 : g * A.c = h * B.c := congrArg M4.c e
  have e4 : g * A.d = h * B.d := congrArg M4.d e
  have : g * cr (A.app v) (B.app v) = 0 := by
    have t : g * cr (A.app v) (B.app v) = (g * A.a * v.x + g * A.b * v.y) * (B.c * v.x + B.d * v.y) - (g * A.c * v.x + g * A.d * v.y) * (B.a * v.x + B.b * v.y) := by simp only [cr, M4.app]; grind
    rw [t, e1, e2, e3, e4]
    grind
  exact gz this x
end Z
set_option Elab.async false
set_option linter.all false
set_option maxRecDepth 100000
set_option synthInstance.maxSize 4000
set_option synthInstance.maxHeartbeats 400000
namespace Z
open PySem L2
abbrev T3 := Int × Int × Int
abbrev pd (t : T3) : PyData := pl t.1 t.2.1 t.2.2
/-- a place -/
def Pt (t : T3) : Prop := t = (1, 0, 0) ∨ (0 < t.2.2 ∧ gcI [t.1, t.2.1, t.2.2] = 1)
structure S3 (n : Nat) (t : T3) : Prop where
  p : Sz n t.1
  s : Sz n t.2.1
  r : Sz n t.2.2
theorem S3.up {n m : Nat} {t : T3} (h : S3 n t) (l : n ≤ m) : S3 m t := ⟨szUp h.p l, szUp h.s l, szUp h.r l⟩
def vt (t : T3) : V2 := ⟨(t.1, t.2.1), (t.2.2, 0)⟩
theorem eqv_pd (t u : T3) : PyData.eqv (pd t) (pd u) = decide (t = u) := by
  rw [show PyData.eqv (pd t) (pd u) = _ from eqv_pl ..]
  have : (t.1 = u.1 ∧ t.2.1 = u.2.1 ∧ t.2.2 = u.2.2) ↔ t = u := ⟨fun ⟨a, b, c⟩ => Prod.ext a (Prod.ext b c), fun h => by rw [h]; exact ⟨rfl, rfl, rfl⟩⟩
  exact decide_eq_decide.mpr this
theorem S3.far {n : Nat} (h : 1 ≤ n) : S3 n (1, 0, 0) := ⟨szUp (n := 1) ⟨by decide⟩ h, szUp (n := 1) ⟨by decide⟩ h, szUp (n := 1) ⟨by decide⟩ h⟩
theorem Pt.nz {t : T3} (h : Pt t) : (vt t).nz := fun ⟨z1, z2⟩ => by
  have a : t.1 = 0 := congrArg Prod.fst z1
  have b : t.2.2 = 0 := congrArg Prod.fst z2
  rcases h with h | ⟨h, _⟩
  · rw [h] at a; cases a
  · omega
theorem Pt.uniq {t u : T3} (h : Pt t) (g : Pt u) (e : cr (vt t) (vt u) = 0) : t = u := by
  have e1 : t.1 * u.2.2 = t.2.2 * u.1 := by
    have := congrArg Prod.fst e
    have w : (cr (vt t) (vt u)).1 = (t.1 * u.2.2 - t.2.1 * 0) - (t.2.2 * u.1 - 0 * u.2.1) := rfl
    rw [w] at this
    have z : ((0 : G)).1 = 0 := rfl
    rw [z] at this
    grind
  have e2 : t.2.1 * u.2.2 = t.2.2 * u.2.1 := by
    have := congrArg Prod.snd e
    have w : (cr (vt t) (vt u)).2 = (t.1 * 0 + t.2.1 * u.2.2) - (t.2.2 * u.2.1 + 0 * u.1) := rfl
    rw [w] at this
    have z : ((0 : G)).2 = 0 := rfl
    rw [z] at this
    grind
  rcases h with h | ⟨h, o⟩
  · rcases g with g | ⟨g, o'⟩
    · rw [h, g]
    · rw [h] at e1
      have : (1 : Int) * u.2.2 = 0 * u.1 := e1
      omega
  · rcases g with g | ⟨g, o'⟩
    · rw [g] at e1
      have : t.1 * 0 = t.2.2 * 1 := e1
      omega
    · have r := rd_prop (us := [t.1, t.2.1, t.2.2]) (vs := [u.1, u.2.1, u.2.2]) g h (by
        show [u.2.2 * t.1, u.2.2 * t.2.1, u.2.2 * t.2.2] = [t.2.2 * u.1, t.2.2 * u.2.1, t.2.2 * u.2.2]
        rw [show u.2.2 * t.1 = t.2.2 * u.1 by grind, show u.2.2 * t.2.1 = t.2.2 * u.2.1 by grind, show u.2.2 * t.2.2 = t.2.2 * u.2.2 by grind])
      rw [rd_self o, rd_self o'] at r
      simp only [List.cons.injEq, and_true] at r
      exact Prod.ext r.1 (Prod.ext r.2.1 r.2.2)
/-- the place of a quotient -/
def qt (p q : G) : T3 := if q = (0, 0) then (1, 0, 0) else
  let X := p.1 * q.1 - p.2 * -q.2
  let Y := p.1 * -q.2 + p.2 * q.1
  let W := q.1 * q.1 + q.2 * q.2
  (X / gcI [X, Y, W], Y / gcI [X, Y, W], W / gcI [X, Y, W])
theorem qt_ok {n : Nat} {p q : G} (h : ¬(p = 0 ∧ q = 0)) (p1 : Sz n p.1) (p2 : Sz n p.2) (q1 : Sz n q.1) (q2 : Sz n q.2) : Pt (qt p q) ∧ S3 (2 * n + 1) (qt p q) ∧ cr (vt (qt p q)) ⟨p, q⟩ = 0 := by
  unfold qt
  by_cases z : q = (0, 0)
  · rw [if_pos z]
    refine ⟨.inl rfl, S3.far (by omega), ?_⟩
    subst z
    show ((1, 0) : G) * (0, 0) - (0, 0) * p = 0
    rw [z_r]
    grind
  · rw [if_neg z]
    have np : 0 < q.1 * q.1 + q.2 * q.2 := nm_pos z
    have h1 : max (n + n) (n + n) + 1 ≤ 2 * n + 1 := by omega
    have X : Sz (2 * n + 1) (p.1 * q.1 - p.2 * -q.2) := szUp inferInstance h1
    have Y : Sz (2 * n + 1) (p.1 * -q.2 + p.2 * q.1) := szUp inferInstance h1
    have W : Sz (2 * n + 1) (q.1 * q.1 + q.2 * q.2) := szUp inferInstance h1
    obtain ⟨x, y, w, g, e, rt, hg, g1, g2, g3⟩ := rd3 X Y W np
    have e' : ([_, _, _] : List Int) = [x, y, w] := e
    simp only [List.cons.injEq, and_true] at e'
    obtain ⟨ea, eb, ec⟩ := e'
    simp only at ea eb ec ⊢
    rw [ea, eb, ec]
    refine ⟨.inr ⟨rt.pos, rt.one⟩, ⟨rt.sa, rt.sb, rt.sr⟩, ?_⟩
    have gn : ((g, 0) : G) ≠ 0 := fun z => by have : g = 0 := congrArg Prod.fst z; omega
    refine gz (p := (g, 0)) ?_ gn
    have ew : ((g, 0) : G) * cr (vt (x, y, w)) ⟨p, q⟩ = ((g * x, g * y) : G) * q - (g * w, 0) * p := by
      have t1 : ((g * x, g * y) : G) = (g, 0) * (x, y) := Prod.ext (by show g * x = g * x - 0 * y; grind) (by show g * y = g * y + 0 * x; grind)
      have t2 : ((g * w, 0) : G) = (g, 0) * (w, 0) := Prod.ext (by show g * w = g * w - 0 * 0; grind) (by show (0 : Int) = g * 0 + 0 * w; grind)
      rw [t1, t2]
      show (g, 0) * ((x, y) * q - (w, 0) * p) = _
      grind
    rw [ew, g1, g2, g3]
    exact Prod.ext (by show (p.1 * q.1 - p.2 * -q.2) * q.1 - (p.1 * -q.2 + p.2 * q.1) * q.2 - ((q.1 * q.1 + q.2 * q.2) * p.1 - 0 * p.2) = 0; grind) (by show (p.1 * q.1 - p.2 * -q.2) * q.2 + (p.1 * -q.2 + p.2 * q.1) * q.1 - ((q.1 * q.1 + q.2 * q.2) * p.2 + 0 * p.1) = 0; grind)
def lt (f : Int) (A : M4) (t : T3) : T3 := qt (ga (gm A.a (cj f (t.1, t.2.1))) (A.b.1 * t.2.2, A.b.2 * t.2.2)) (ga (gm A.c (cj f (t.1, t.2.1))) (A.d.1 * t.2.2, A.d.2 * t.2.2))
abbrev mp4 (f : Int) (A : M4) : PyData := mp f A.a A.b A.c A.d
abbrev S44 (n : Nat) (A : M4) : Prop := S4 n A.a A.b A.c A.d
theorem sz_any (x : Int) : ∃ n, Sz n x := ⟨x.natAbs.log2 + 1, ⟨Nat.lt_log2_self⟩⟩
theorem S3.any (t : T3) : ∃ n, S3 n t := by
  obtain ⟨a, ha⟩ := sz_any t.1
  obtain ⟨b, hb⟩ := sz_any t.2.1
  obtain ⟨c, hc⟩ := sz_any t.2.2
  exact ⟨max a (max b c), szUp ha (by omega), szUp hb (by omega), szUp hc (by omega)⟩
theorem S44.any (A : M4) : ∃ n, S44 n A := by
  obtain ⟨n1, h1⟩ := sz_any A.a.1
  obtain ⟨n2, h2⟩ := sz_any A.a.2
  obtain ⟨n3, h3⟩ := sz_any A.b.1
  obtain ⟨n4, h4⟩ := sz_any A.b.2
  obtain ⟨n5, h5⟩ := sz_any A.c.1
  obtain ⟨n6, h6⟩ := sz_any A.c.2
  obtain ⟨n7, h7⟩ := sz_any A.d.1
  obtain ⟨n8, h8⟩ := sz_any A.d.2
  exact ⟨n1 + n2 + n3 + n4 + n5 + n6 + n7 + n8, szUp h1 (by omega), szUp h2 (by omega), szUp h3 (by omega), szUp h4 (by omega), szUp h5 (by omega), szUp h6 (by omega), szUp h7 (by omega), szUp h8 (by omega)⟩
theorem Sim.dt {A B : M4} (s : Sim A B) (h : B.dt ≠ 0) : A.dt ≠ 0 := fun z => by
  obtain ⟨g, k, x, y, e⟩ := s
  have e2 := congrArg M4.dt e
  rw [dt_sm, dt_sm, z] at e2
  exact gnz (gnz y y) h (by rw [← e2]; grind)
end Z
set_option Elab.async false
set_option linter.all false
set_option maxRecDepth 100000
set_option synthInstance.maxSize 4000
set_option synthInstance.maxHeartbeats 400000
namespace Z
open PySem L2
theorem nrm_ex {n : Nat} {A : M4} (S : S44 n A) (h : A.dt ≠ 0) : ∃ X : M4, Fm4 (n + 1) X ∧ Sim X A := by
  obtain ⟨a, b, c, d⟩ := A
  have hz : dtm a b c d ≠ (0, 0) := h
  obtain ⟨g, gc⟩ := gc_ex' [a, b, c, d]
  have hg : g ≠ (0, 0) := gc.ne (by
    by_cases y : a = (0, 0)
    · refine ⟨b, by simp, fun z => led_nz hz ?_⟩
      unfold led
      rw [if_neg (fun n => n y)]
      exact z
    · exact ⟨a, by simp, y⟩)
  obtain ⟨x, hx⟩ := gc.dv a (by simp)
  obtain ⟨y, hy⟩ := gc.dv b (by simp)
  obtain ⟨z, hz'⟩ := gc.dv c (by simp)
  obtain ⟨w, hw⟩ := gc.dv d (by simp)
  have dn : dtm x y z w ≠ (0, 0) := fun e => hz (by rw [hx, hy, hz', hw, dtm_gm, e, gm_zero])
  have sx := sz_fac hg hx S.a1 S.a2
  have sy := sz_fac hg hy S.b1 S.b2
  have sz := sz_fac hg hz' S.c1 S.c2
  have sw := sz_fac hg hw S.d1 S.d2
  have S' : S4 (n + 1) x y z w := ⟨sx.1, sx.2, sy.1, sy.2, sz.1, sz.2, sw.1, sw.2⟩
  have gc1 : GC [x, y, z, w] (1, 0) := by
    have g0 : GC [a, b, c, d, (0, 0)] g := gc.snoc (GC.zero g)
    exact g0.quot (fun k _ _ _ _ => gdv_zero k) hg hx hy hz' hw
  have ln := led_nz dn
  obtain ⟨k, hk, ek⟩ := qf_tk (led x y)
  have F := Fm.turn S' gc1 dn ln ek
  obtain ⟨D, hD, fD⟩ := tk_fac g hg k
  exact ⟨⟨tk k x, tk k y, tk k z, tk k w⟩, F, D, 1, hD, one_ne, by
    rw [sm_one]
    exact m4_ext (hx.trans (fD x)).symm (hy.trans (fD y)).symm (hz'.trans (fD z)).symm (hw.trans (fD w)).symm⟩
open Classical in
noncomputable def nrm (A : M4) : M4 := if h : ∃ n X, Fm4 n X ∧ Sim X A then (Classical.choose_spec h).choose else M4.one
theorem nrm_sim {A : M4} (h : A.dt ≠ 0) : Sim (nrm A) A := by
  obtain ⟨n, S⟩ := S44.any A
  obtain ⟨X, F, s⟩ := nrm_ex S h
  have e : ∃ n X, Fm4 n X ∧ Sim X A := ⟨_, X, F, s⟩
  unfold nrm
  rw [dif_pos e]
  exact (Classical.choose_spec e).choose_spec.2
theorem nrm_fm {n : Nat} {A : M4} (S : S44 n A) (h : A.dt ≠ 0) : Fm4 (n + 1) (nrm A) := by
  obtain ⟨X, F, s⟩ := nrm_ex S h
  have e : ∃ n X, Fm4 n X ∧ Sim X A := ⟨_, X, F, s⟩
  have e2 : nrm A = X := by
    unfold nrm
    rw [dif_pos e]
    obtain ⟨F', s'⟩ := (Classical.choose_spec e).choose_spec
    exact F'.sim F (s'.trans s.symm)
  rw [e2]
  exact F
theorem nrm_of {n : Nat} {A X : M4} (h : A.dt ≠ 0) (F : Fm4 n X) (s : Sim X A) : X = nrm A := by
  obtain ⟨m, S⟩ := S44.any A
  exact F.sim (nrm_fm S h) (s.trans (nrm_sim h).symm)
theorem nrm_eq {A B : M4} (h : B.dt ≠ 0) (s : Sim A B) : nrm A = nrm B := by
  obtain ⟨m, S⟩ := S44.any A
  exact nrm_of h (nrm_fm S (s.dt h)) ((nrm_sim (s.dt h)).trans s)
theorem nrm_self {n : Nat} {A : M4} (F : Fm4 n A) : nrm A = A := (nrm_of F.dt F (Sim.refl A)).symm
theorem nrm_dt {A : M4} (h : A.dt ≠ 0) : (nrm A).dt ≠ 0 := (nrm_sim h).dt h
/-- one map after another one, the way back -/
noncomputable def aft (f : Int) (A B : M4) : M4 := nrm (A.mul (B.cj f))
noncomputable def bck (f : Int) (A : M4) : M4 := nrm (A.adj.cj f)
theorem dtMul {f : Int} {A B : M4} (h : A.dt ≠ 0) (g : B.dt ≠ 0) : (A.mul (B.cj f)).dt ≠ 0 := by rw [dt_mul, dt_cj]; exact gnz h (cj_nz g)
theorem dtAdj {f : Int} {A : M4} (h : A.dt ≠ 0) : (A.adj.cj f).dt ≠ 0 := by rw [dt_cj, dt_adj]; exact cj_nz h
theorem bck_dt {f : Int} {A : M4} (h : A.dt ≠ 0) : (bck f A).dt ≠ 0 := nrm_dt (dtAdj h)
theorem bck_bck {f : Int} {n : Nat} {A : M4} (F : Fm4 n A) : bck f (bck f A) = A := by
  have h := F.dt
  refine (nrm_of (dtAdj (bck_dt h)) F ?_).symm
  have s := (nrm_sim (dtAdj (f := f) h)).adj.cj f
  rw [show (A.adj.cj f).adj.cj f = A by rw [← cjm_adj, adj_adj, cjm_self]] at s
  exact s.symm
theorem bck_aft {f : Int} {A : M4} (h : A.dt ≠ 0) : aft f (bck f A) A = M4.one := by
  refine (nrm_of (dtMul (bck_dt h) h) Fm4.one ?_).symm
  have s : Sim ((bck f A).mul (A.cj f)) ((A.adj.cj f).mul (A.cj f)) := (nrm_sim (dtAdj (f := f) h)).mul (Sim.refl (A.cj f))
  have e : (A.adj.cj f).mul (A.cj f) = ((A.cj f).adj).mul (A.cj f) := by rw [cjm_adj]
  rw [e] at s
  refine (s.trans (Sim.inv' _ ?_)).symm
  rw [dt_cj]
  exact cj_nz h
theorem bck_mul {f i : Int} {A B : M4} (hf : f = 0 ∨ f = 1) (hi : i = 0 ∨ i = 1) (hA : A.dt ≠ 0) (hB : B.dt ≠ 0) : bck ((f + i) % 2) (aft f A B) = aft i (bck i B) (bck f A) := by
  have s1 := (nrm_sim (dtMul (f := f) hA hB)).adj.cj ((f + i) % 2)
  have s2 := (nrm_sim (dtAdj (f := i) hB)).mul ((nrm_sim (dtAdj (f := f) hA)).cj i)
  have e : ((A.mul (B.cj f)).adj).cj ((f + i) % 2) = (B.adj.cj i).mul ((A.adj.cj f).cj i) := by
    rw [adj_mul, cjm_mul, cjm_cj hi hf, ← cjm_adj, show (f + i) % 2 = (i + f) % 2 by rw [Int.add_comm], ← cjm_cj hi hf, cjm_self]
  rw [e] at s1
  exact nrm_eq (dtMul (bck_dt hB) (bck_dt hA)) (s1.trans s2.symm)
theorem shp_flat {ps : List PyData} (h : ∀ p ∈ ps, p.canLay0 = true ∧ p.depth ≤ 8) : shp (.list ps) ∧ shp (.tuple ps) := by
  have a : ∀ ps : List PyData, (∀ p ∈ ps, p.canLay0 = true ∧ p.depth ≤ 8) → PyData.canLayAll0 ps = true ∧ PyData.depthAll ps ≤ 8 := by
    intro ps
    induction ps with
    | nil => intro _; exact ⟨by simp only [PyData.canLayAll0], by simp only [PyData.depthAll]; omega⟩
    | cons p ps ih =>
      intro h
      obtain ⟨i1, i2⟩ := ih fun q m => h q (List.mem_cons_of_mem _ m)
      obtain ⟨j1, j2⟩ := h p (List.mem_cons_self ..)
      refine ⟨?_, ?_⟩
      · simp only [PyData.canLayAll0, j1, i1, Bool.and_true]
      · simp only [PyData.depthAll]
        omega
  obtain ⟨a1, a2⟩ := a ps h
  have b : (PyData.list ps).depth ≤ 64 ∧ (PyData.tuple ps).depth ≤ 64 := by
    simp only [PyData.depth]
    omega
  unfold shp SeqAt.shaped
  simp only [PyData.canLay0, a1, Bool.true_and, decide_eq_true_eq]
  exact b
end Z
set_option Elab.async false
set_option linter.all false
set_option maxRecDepth 100000
namespace Z
open PySem L2 PyProof.Rows
end Z
set_option Elab.async false
set_option linter.all false
set_option maxRecDepth 100000
set_option synthInstance.maxSize 4000
set_option synthInstance.maxHeartbeats 400000
namespace Z
open PySem L2
theorem cr_ne {t u : T3} (T : Pt t) (U : Pt u) (n : t ≠ u) : cr (vt t) (vt u) ≠ 0 := fun e => n (T.uniq U e)
/-- three places that are not equal -/
structure Tr (a b c : T3) : Prop where
  pa : Pt a
  pb : Pt b
  pc : Pt c
  ab : a ≠ b
  ac : a ≠ c
  bc : b ≠ c
def mir (q l m k : Int) : M4 := ⟨(-l, -m), (-2 * k, 0), (2 * q, 0), (l, -m)⟩
theorem mir_dt {q l m k : Int} (h : 0 < l * l + m * m - 4 * (q * k)) : (mir q l m k).dt ≠ 0 := fun z => by
  have e : (mir q l m k).dt.1 = ((-l) * l - (-m) * (-m)) - ((-2 * k) * (2 * q) - 0 * 0) := rfl
  rw [z] at e
  have e0 : ((0 : G)).1 = 0 := rfl
  rw [e0] at e
  grind
def nx (t u : T3) : Int := (t.1 * u.2.2 - u.1 * t.2.2) * (t.1 * u.2.2 - u.1 * t.2.2) + (t.2.1 * u.2.2 - u.2.1 * t.2.2) * (t.2.1 * u.2.2 - u.2.1 * t.2.2)
abbrev t3 (a b c : T3) : PyData := .tuple [pd a, pd b, pd c]
end Z
set_option Elab.async false
set_option linter.all false
set_option maxRecDepth 100000
namespace Z
open PySem L2 PyProof.Rows
end Z
set_option Elab.async false
set_option linter.all false
set_option maxRecDepth 100000
set_option synthInstance.maxSize 4000
set_option synthInstance.maxHeartbeats 400000
namespace Z
open PySem L2
def ap (t u : T3) : G := (t.1 * u.2.2 - u.1 * t.2.2, t.2.1 * u.2.2 - u.2.1 * t.2.2)
theorem ap_cr (t u : T3) : ap t u = cr (vt t) (vt u) := Prod.ext (by show _ = (t.1 * u.2.2 - t.2.1 * 0) - (t.2.2 * u.1 - 0 * u.2.1); simp only [ap]; grind) (by show _ = (t.1 * 0 + t.2.1 * u.2.2) - (t.2.2 * u.2.1 + 0 * u.1); simp only [ap]; grind)
theorem ap_ne {t u : T3} (T : Pt t) (U : Pt u) (n : t ≠ u) : ap t u ≠ 0 := by rw [ap_cr]; exact cr_ne T U n
theorem qt_any {p q : G} (h : ¬(p = 0 ∧ q = 0)) : Pt (qt p q) ∧ cr (vt (qt p q)) ⟨p, q⟩ = 0 := by
  obtain ⟨n1, s1⟩ := sz_any p.1
  obtain ⟨n2, s2⟩ := sz_any p.2
  obtain ⟨n3, s3⟩ := sz_any q.1
  obtain ⟨n4, s4⟩ := sz_any q.2
  obtain ⟨P, _, c⟩ := qt_ok (n := n1 + n2 + n3 + n4) h (szUp s1 (by omega)) (szUp s2 (by omega)) (szUp s3 (by omega)) (szUp s4 (by omega))
  exact ⟨P, c⟩
/-- four places that are not equal -/
structure Qd (a b c d : T3) : Prop where
  tr : Tr a b c
  p4 : Pt d
  ad : a ≠ d
  bd : b ≠ d
  cd : c ≠ d
def up4 (a b c d : T3) : G := ap a c * ap b d
def lo4 (a b c d : T3) : G := ap b c * ap a d
def rt4 (a b c d : T3) : T3 := qt (up4 a b c d) (lo4 a b c d)
section
variable {a b c d : T3}
theorem Qd.up (h : Qd a b c d) : up4 a b c d ≠ 0 := gnz (ap_ne h.tr.pa h.tr.pc h.tr.ac) (ap_ne h.tr.pb h.p4 h.bd)
theorem Qd.nz (h : Qd a b c d) : ¬(up4 a b c d = 0 ∧ lo4 a b c d = 0) := fun z => h.up z.1
theorem Qd.pt (h : Qd a b c d) : Pt (rt4 a b c d) := (qt_any h.nz).1
end
end Z
set_option Elab.async false
set_option linter.all false
set_option maxRecDepth 100000
set_option synthInstance.maxSize 4000
set_option synthInstance.maxHeartbeats 400000
namespace Z
open PySem L2
theorem posL_neg2 : ∀ {xs : List Int}, posL xs = true → posL (xs.map (0 - ·)) = false
  | [], h => rfl
  | y :: ys, h => by
    have h : (if y = 0 then posL ys else decide (0 < y)) = true := h
    show (if 0 - y = 0 then posL (ys.map (0 - ·)) else decide (0 < 0 - y)) = false
    by_cases z : y = 0
    · rw [if_pos z] at h
      rw [if_pos (by omega)]
      exact posL_neg2 h
    · rw [if_neg z] at h
      rw [if_neg (by omega)]
      have := of_decide_eq_true h
      exact decide_eq_false (by omega)
theorem map_neg2 (us : List Int) : (us.map (0 - ·)).map (0 - ·) = us := by
  rw [List.map_map]
  have : us.map ((0 - ·) ∘ (0 - ·)) = us.map id := List.map_congr_left fun u _ => by show 0 - (0 - u) = u; omega
  rw [this, List.map_id]
theorem rd_neg (us : List Int) : rd (us.map (0 - ·)) = (rd us).map (0 - ·) := by
  unfold rd
  rw [show gcI (us.map (0 - ·)) = gcI us from gcF_neg us 0, List.map_map, List.map_map]
  exact List.map_congr_left fun u hu => by
    show (0 - u) / gcI us = 0 - u / gcI us
    rw [Int.zero_sub, Int.zero_sub]
    exact Int.neg_ediv_of_dvd ((gcF_dvd us 0).2 u hu)
theorem fm_neg {us : List Int} (h : gcI us ≠ 0) : fm (us.map (0 - ·)) = fm us := by
  unfold fm
  rw [rd_neg]
  by_cases p : posL (rd us) = true
  · rw [if_pos p, posL_neg2 p, if_neg (by decide), map_neg2]
  · rw [if_neg p, posL_neg (rd_nz h) (by simpa using p), if_pos rfl]
def sg (v : Int) : Int := if 0 < v then 1 else if v < 0 then -1 else 0
/-- whether three places lie in a row -/
def dp (a b c : T3) : Int := a.1 * (b.2.1 * c.2.2 - c.2.1 * b.2.2) - a.2.1 * (b.1 * c.2.2 - c.1 * b.2.2) + a.2.2 * (b.1 * c.2.1 - c.1 * b.2.1)
end Z
set_option Elab.async false
set_option linter.all false
set_option maxRecDepth 100000
namespace Z
open PySem L2
end Z
set_option autoImplicit false
namespace Z
/-- the value of a row's form on two complex numbers -/
def vO (q l m k : Int) (x y : G) : Int := q * (x.1 * x.1 + x.2 * x.2) + (l * (x.1 * y.1 + x.2 * y.2) + m * (x.2 * y.1 - x.1 * y.2)) + k * (y.1 * y.1 + y.2 * y.2)
/-- the middle numbers -/
def sO (q l m k : Int) (A : M4) : G :=
  (2 * q * (A.a.1 * A.b.1 + A.a.2 * A.b.2) + 2 * k * (A.c.1 * A.d.1 + A.c.2 * A.d.2) + (l * (A.a.1 * A.d.1 + A.a.2 * A.d.2) + m * (A.a.2 * A.d.1 - A.a.1 * A.d.2)) + (l * (A.b.1 * A.c.1 + A.b.2 * A.c.2) - m * (A.b.1 * A.c.2 - A.b.2 * A.c.1)),
   2 * q * (A.a.2 * A.b.1 - A.a.1 * A.b.2) + 2 * k * (A.c.2 * A.d.1 - A.c.1 * A.d.2) + (l * (A.a.2 * A.d.1 - A.a.1 * A.d.2) - m * (A.a.1 * A.d.1 + A.a.2 * A.d.2)) + (l * (A.b.1 * A.c.2 - A.b.2 * A.c.1) + m * (A.b.1 * A.c.1 + A.b.2 * A.c.2)))
/-- rows as four numbers -/
abbrev R4 := Int × Int × Int × Int
def dsc (r : R4) : Int := r.2.1 * r.2.1 + r.2.2.1 * r.2.2.1 - 4 * (r.1 * r.2.2.2)
/-- a row led back by a map -/
def rlb (f : Int) (A : M4) (r : R4) : R4 := (vO r.1 r.2.1 r.2.2.1 r.2.2.2 A.a A.c, (sO r.1 r.2.1 r.2.2.1 r.2.2.2 A).1, if f = 1 then (sO r.1 r.2.1 r.2.2.1 r.2.2.2 A).2 else 0 - (sO r.1 r.2.1 r.2.2.1 r.2.2.2 A).2, vO r.1 r.2.1 r.2.2.1 r.2.2.2 A.b A.d)
set_option maxHeartbeats 4000000 in
theorem dsc_rlb (f : Int) (A : M4) (r : R4) : dsc (rlb f A r) = nm A.dt * dsc r := by
  obtain ⟨⟨a1, a2⟩, ⟨b1, b2⟩, ⟨c1, c2⟩, ⟨d1, d2⟩⟩ := A
  obtain ⟨q, l, m, k⟩ := r
  have e : dsc (rlb f ⟨(a1, a2), (b1, b2), (c1, c2), (d1, d2)⟩ (q, l, m, k)) = dsc (rlb 1 ⟨(a1, a2), (b1, b2), (c1, c2), (d1, d2)⟩ (q, l, m, k)) := by
    by_cases z : f = 1
    · rw [z]
    · simp only [dsc, rlb, if_neg z, if_pos, Int.zero_sub, Int.neg_mul_neg]
  rw [e]
  have h : nm (M4.dt ⟨(a1, a2), (b1, b2), (c1, c2), (d1, d2)⟩) = ((a1 * d1 - a2 * d2) - (b1 * c1 - b2 * c2)) * ((a1 * d1 - a2 * d2) - (b1 * c1 - b2 * c2)) + ((a1 * d2 + a2 * d1) - (b1 * c2 + b2 * c1)) * ((a1 * d2 + a2 * d1) - (b1 * c2 + b2 * c1)) := rfl
  rw [h]
  simp only [dsc, rlb, vO, sO, if_pos]
  grind
def prR (r s : R4) : Int := r.2.1 * s.2.1 + r.2.2.1 * s.2.2.1 - 2 * (r.1 * s.2.2.2 + s.1 * r.2.2.2)
theorem dsc_pr (r : R4) : prR r r = dsc r := by simp only [prR, dsc]; grind
set_option maxHeartbeats 4000000 in
theorem vO_rlb (f : Int) (A : M4) (r : R4) (v : V2) : vO (rlb f A r).1 (rlb f A r).2.1 (rlb f A r).2.2.1 (rlb f A r).2.2.2 v.x v.y = vO r.1 r.2.1 r.2.2.1 r.2.2.2 (A.app (v.cj f)).x (A.app (v.cj f)).y := by
  obtain ⟨⟨a1, a2⟩, ⟨b1, b2⟩, ⟨c1, c2⟩, ⟨d1, d2⟩⟩ := A
  obtain ⟨q, l, m, k⟩ := r
  obtain ⟨⟨x1, x2⟩, ⟨y1, y2⟩⟩ := v
  by_cases z : f = 1
  · subst z
    have e : (M4.app ⟨(a1, a2), (b1, b2), (c1, c2), (d1, d2)⟩ (V2.cj 1 ⟨(x1, x2), (y1, y2)⟩)) = ⟨((a1 * x1 - a2 * -x2) + (b1 * y1 - b2 * -y2), (a1 * -x2 + a2 * x1) + (b1 * -y2 + b2 * y1)), ((c1 * x1 - c2 * -x2) + (d1 * y1 - d2 * -y2), (c1 * -x2 + c2 * x1) + (d1 * -y2 + d2 * y1))⟩ := rfl
    rw [e]
    simp only [rlb, vO, sO, if_pos]
    grind
  · have e : (V2.cj f ⟨(x1, x2), (y1, y2)⟩) = ⟨(x1, x2), (y1, y2)⟩ := by simp only [V2.cj, cj, if_neg z]
    have e' : (M4.app ⟨(a1, a2), (b1, b2), (c1, c2), (d1, d2)⟩ ⟨(x1, x2), (y1, y2)⟩) = ⟨((a1 * x1 - a2 * x2) + (b1 * y1 - b2 * y2), (a1 * x2 + a2 * x1) + (b1 * y2 + b2 * y1)), ((c1 * x1 - c2 * x2) + (d1 * y1 - d2 * y2), (c1 * x2 + c2 * x1) + (d1 * y2 + d2 * y1))⟩ := rfl
    rw [e, e']
    simp only [rlb, vO, sO, if_neg z]
    grind
/-- the form of a row on two complex numbers -/
def vR (r : R4) (v : V2) : Int := vO r.1 r.2.1 r.2.2.1 r.2.2.2 v.x v.y
theorem vR_rlb (f : Int) (A : M4) (r : R4) (v : V2) : vR (rlb f A r) v = vR r (A.app (v.cj f)) := vO_rlb f A r v
/-- rows are told apart by their forms -/
theorem vR_ext {r s : R4} (h : ∀ v : V2, vR r v = vR s v) : r = s := by
  obtain ⟨q, l, m, k⟩ := r
  obtain ⟨q2, l2, m2, k2⟩ := s
  have h1 := h ⟨(1, 0), (0, 0)⟩
  have h2 := h ⟨(0, 0), (1, 0)⟩
  have h3 := h ⟨(1, 0), (1, 0)⟩
  have h4 := h ⟨(0, 1), (1, 0)⟩
  simp only [vR, vO] at h1 h2 h3 h4
  have e1 : q = q2 := by omega
  have e2 : k = k2 := by omega
  have e3 : l = l2 := by omega
  have e4 : m = m2 := by omega
  rw [e1, e2, e3, e4]
theorem vR_mul (c : G) (r : R4) (v : V2) : vR r ⟨c * v.x, c * v.y⟩ = nm c * vR r v := by
  obtain ⟨c1, c2⟩ := c
  obtain ⟨q, l, m, k⟩ := r
  obtain ⟨⟨x1, x2⟩, ⟨y1, y2⟩⟩ := v
  have e : (⟨((c1, c2) : G) * (x1, x2), ((c1, c2) : G) * (y1, y2)⟩ : V2) = ⟨(c1 * x1 - c2 * x2, c1 * x2 + c2 * x1), (c1 * y1 - c2 * y2, c1 * y2 + c2 * y1)⟩ := rfl
  show vR (q, l, m, k) ⟨((c1, c2) : G) * (x1, x2), ((c1, c2) : G) * (y1, y2)⟩ = _
  rw [e]
  have n : nm ((c1, c2) : G) = c1 * c1 + c2 * c2 := rfl
  rw [n]
  simp only [vR, vO]
  grind
/-- led back by one map and then by another: led back by the first after the other -/
theorem rlb_mul {f i : Int} (hf : f = 0 ∨ f = 1) (hi : i = 0 ∨ i = 1) (A B : M4) (r : R4) : rlb i B (rlb f A r) = rlb ((f + i) % 2) (A.mul (B.cj f)) r := vR_ext fun v => by
  rw [vR_rlb, vR_rlb, vR_rlb, app_cj, app_mul, vcj_cj2 hf hi]
def smR (c : Int) (r : R4) : R4 := (c * r.1, c * r.2.1, c * r.2.2.1, c * r.2.2.2)
theorem vR_sm (c : Int) (r : R4) (v : V2) : vR (smR c r) v = c * vR r v := by simp only [vR, vO, smR]; grind
theorem rlb_smr (f : Int) (A : M4) (c : Int) (r : R4) : rlb f A (smR c r) = smR c (rlb f A r) := vR_ext fun v => by rw [vR_rlb, vR_sm, vR_sm, vR_rlb]
theorem rlb_sma (f : Int) (A : M4) (g : G) (r : R4) : rlb f (A.sm g) r = smR (nm g) (rlb f A r) := vR_ext fun v => by
  rw [vR_rlb, vR_sm, vR_rlb, ← vR_mul]
  congr 1
  simp only [M4.app, M4.sm]
  rw [show g * A.a * (v.cj f).x + g * A.b * (v.cj f).y = g * (A.a * (v.cj f).x + A.b * (v.cj f).y) by grind, show g * A.c * (v.cj f).x + g * A.d * (v.cj f).y = g * (A.c * (v.cj f).x + A.d * (v.cj f).y) by grind]
theorem rlb_one (r : R4) : rlb 0 M4.one r = r := vR_ext fun v => by
  rw [vR_rlb]
  congr 1
  have e : v.cj 0 = v := by simp only [V2.cj, cj]; rfl
  rw [e]
  obtain ⟨x, y⟩ := v
  simp only [M4.app, M4.one]
  rw [show (1 : G) * x + 0 * y = x by grind, show (0 : G) * x + 1 * y = y by grind]
end Z
set_option autoImplicit false
namespace Z
def fmR (r : R4) : List Int := fm [r.1, r.2.1, r.2.2.1, r.2.2.2]
theorem gcR {r : R4} (h : 0 < dsc r) : gcI [r.1, r.2.1, r.2.2.1, r.2.2.2] ≠ 0 := gc4_ne h
theorem fm_up {us : List Int} {c : Int} (hc : 0 < c) : fm (us.map (c * ·)) = fm us := by
  unfold fm
  rw [rd_scale hc]
theorem fmR_sm {c : Int} (hc : c ≠ 0) {r : R4} (h : gcI [r.1, r.2.1, r.2.2.1, r.2.2.2] ≠ 0) : fmR (smR c r) = fmR r := by
  by_cases z : 0 < c
  · exact fm_up (us := [r.1, r.2.1, r.2.2.1, r.2.2.2]) z
  · have z : 0 < -c := by omega
    have e := fm_up (us := [r.1, r.2.1, r.2.2.1, r.2.2.2]) z
    have g : gcI ([r.1, r.2.1, r.2.2.1, r.2.2.2].map (-c * ·)) ≠ 0 := by
      rw [gc_mul (by omega)]
      exact Int.mul_ne_zero (by omega) h
    rw [← fm_neg g] at e
    have e2 : (([r.1, r.2.1, r.2.2.1, r.2.2.2].map (-c * ·)).map (0 - ·)) = [c * r.1, c * r.2.1, c * r.2.2.1, c * r.2.2.2] := by
      simp only [List.map_cons, List.map_nil, Int.zero_sub, Int.neg_mul, Int.neg_neg]
    rw [e2] at e
    exact e
end Z
set_option autoImplicit false
set_option linter.all false
namespace Z
open PySem L2
abbrev lsR (r : R4) : List Int := [r.1, r.2.1, r.2.2.1, r.2.2.2]
def toR : List Int → R4
  | [x, y, z, w] => (x, y, z, w)
  | _ => (0, 0, 0, 0)
def nf (r : R4) : R4 := toR (fmR r)
theorem fm_len (us : List Int) : (fm us).length = us.length := by
  unfold fm rd
  split <;> simp
theorem toR_ls : ∀ {us : List Int}, us.length = 4 → us = lsR (toR us)
  | [_, _, _, _], _ => rfl
theorem fmR_nf (r : R4) : fmR r = lsR (nf r) := toR_ls (fm_len _)
/-- a round in its form -/
structure Rd (n : Nat) (r : R4) : Prop where
  one : gcI (lsR r) = 1
  pos : 0 < dsc r
  up : posL (lsR r) = true
  s1 : Sz n r.1
  s2 : Sz n r.2.1
  s3 : Sz n r.2.2.1
  s4 : Sz n r.2.2.2
theorem dsc2 (r : R4) : r.2.1 * r.2.1 + r.2.2.1 * r.2.2.1 - 2 * (r.1 * r.2.2.2 + r.1 * r.2.2.2) = dsc r := by unfold dsc; grind
theorem Rd.rn {n : Nat} {r : R4} (h : Rd n r) : Rn n r.1 r.2.1 r.2.2.1 r.2.2.2 := ⟨⟨h.one, by rw [dsc2]; exact h.pos, h.s1, h.s2, h.s3, h.s4⟩, by rw [posL4]; exact h.up⟩
theorem Rd.of {n : Nat} {r : R4} (h : Rn n r.1 r.2.1 r.2.2.1 r.2.2.2) : Rd n r := ⟨h.row.one, by rw [← dsc2]; exact h.row.pos, by rw [← posL4]; exact h.up, h.row.sq, h.row.sl, h.row.sm, h.row.sk⟩
theorem Rd.up' {n m : Nat} {r : R4} (h : Rd n r) (l : n ≤ m) : Rd m r := ⟨h.one, h.pos, h.up, szUp h.s1 l, szUp h.s2 l, szUp h.s3 l, szUp h.s4 l⟩
abbrev SR (n : Nat) (r : R4) : Prop := Sz n r.1 ∧ Sz n r.2.1 ∧ Sz n r.2.2.1 ∧ Sz n r.2.2.2
theorem Rd.sr {n : Nat} {r : R4} (h : Rd n r) : SR n r := ⟨h.s1, h.s2, h.s3, h.s4⟩
theorem SR.up {n m : Nat} {r : R4} (h : SR n r) (l : n ≤ m) : SR m r := ⟨szUp h.1 l, szUp h.2.1 l, szUp h.2.2.1 l, szUp h.2.2.2 l⟩
theorem SR.any (r : R4) : ∃ n, SR n r := by
  obtain ⟨a, h1⟩ := sz_any r.1
  obtain ⟨b, h2⟩ := sz_any r.2.1
  obtain ⟨c, h3⟩ := sz_any r.2.2.1
  obtain ⟨d, h4⟩ := sz_any r.2.2.2
  exact ⟨a + b + c + d, szUp h1 (by omega), szUp h2 (by omega), szUp h3 (by omega), szUp h4 (by omega)⟩
theorem nf_ok {n : Nat} {r : R4} (s : SR n r) (d : 0 < dsc r) : Rd n (nf r) ∧ ∃ g, g ≠ 0 ∧ smR g (nf r) = r := by
  obtain ⟨q, l, m, k, g, e, h, hg, e1, e2, e3, e4⟩ := fm_any s.1 s.2.1 s.2.2.1 s.2.2.2 d
  have z : nf r = (q, l, m, k) := by unfold nf fmR; rw [e]; rfl
  rw [z]
  exact ⟨Rd.of h, g, hg, Prod.ext e1 (Prod.ext e2 (Prod.ext e3 e4))⟩
theorem nf_sc {r : R4} (d : 0 < dsc r) : ∃ g, g ≠ 0 ∧ smR g (nf r) = r := let ⟨_, s⟩ := SR.any r; (nf_ok s d).2
theorem nf_pos {r : R4} (d : 0 < dsc r) : 0 < dsc (nf r) := let ⟨_, s⟩ := SR.any r; (nf_ok s d).1.pos
theorem nf_sm {c : Int} (hc : c ≠ 0) {r : R4} (d : 0 < dsc r) : nf (smR c r) = nf r := by unfold nf; rw [fmR_sm hc (gcR d)]
theorem nf_self {n : Nat} {r : R4} (h : Rd n r) : nf r = r := by
  unfold nf fmR fm
  rw [rd_self h.one, if_pos h.up]
  rfl
theorem dsc_rlbp {f : Int} {A : M4} {r : R4} (h : A.dt ≠ 0) (d : 0 < dsc r) : 0 < dsc (rlb f A r) := by
  rw [dsc_rlb]
  exact Int.mul_pos (nm_pos h) d
theorem rlb_sim {f : Int} {A B : M4} {r : R4} (s : Sim A B) (h : B.dt ≠ 0) (d : 0 < dsc r) : nf (rlb f A r) = nf (rlb f B r) := by
  have hA := s.dt h
  obtain ⟨g, k, x, y, e⟩ := s
  have a : nf (rlb f (A.sm g) r) = nf (rlb f A r) := by rw [rlb_sma]; exact nf_sm (Int.ne_of_gt (nm_pos x)) (dsc_rlbp hA d)
  have b : nf (rlb f (B.sm k) r) = nf (rlb f B r) := by rw [rlb_sma]; exact nf_sm (Int.ne_of_gt (nm_pos y)) (dsc_rlbp h d)
  rw [← a, e, b]
theorem rlb_nf {f : Int} {A : M4} {r : R4} (h : A.dt ≠ 0) (d : 0 < dsc r) : nf (rlb f A (nf r)) = nf (rlb f A r) := by
  obtain ⟨g, hg, e⟩ := nf_sc d
  have p := nf_pos d
  generalize nf r = s at *
  rw [← e, rlb_smr, nf_sm hg (dsc_rlbp h p)]
/-- the round to which a map leads a round -/
noncomputable def ldr (f : Int) (A : M4) (r : R4) : R4 := nf (rlb f (bck f A) r)
theorem ldr_aft {f i : Int} {A B : M4} {r : R4} (hf : f = 0 ∨ f = 1) (hi : i = 0 ∨ i = 1) (hA : A.dt ≠ 0) (hB : B.dt ≠ 0) (d : 0 < dsc r) : ldr ((f + i) % 2) (aft f A B) r = ldr f A (ldr i B r) := by
  unfold ldr
  rw [bck_mul hf hi hA hB, rlb_nf (bck_dt hA) (dsc_rlbp (bck_dt hB) d), rlb_mul hi hf, Int.add_comm f i]
  exact rlb_sim (nrm_sim (dtMul (bck_dt hB) (bck_dt hA))) (dtMul (bck_dt hB) (bck_dt hA)) d
theorem ldr_one {n : Nat} {r : R4} (R : Rd n r) : ldr 0 M4.one r = r := by
  have e : bck 0 M4.one = M4.one := by
    unfold bck
    have : M4.one.adj.cj 0 = M4.one := m4_ext rfl rfl rfl rfl
    rw [this]
    exact nrm_self Fm4.one
  unfold ldr
  rw [e, rlb_one, nf_self R]
theorem ff0 {f : Int} (hf : f = 0 ∨ f = 1) : (f + f) % 2 = 0 := by rcases hf with rfl | rfl <;> rfl
theorem ldr_back {n : Nat} {f : Int} {A : M4} {r : R4} (hf : f = 0 ∨ f = 1) (hA : A.dt ≠ 0) (R : Rd n r) : ldr f (bck f A) (ldr f A r) = r := by
  rw [← ldr_aft hf hf (bck_dt hA) hA R.pos, bck_aft hA, ff0 hf, ldr_one R]
theorem ldr_inj {n m : Nat} {f : Int} {A : M4} {r s : R4} (hf : f = 0 ∨ f = 1) (hA : A.dt ≠ 0) (R : Rd n r) (S : Rd m s) : ldr f A r = ldr f A s ↔ r = s := ⟨fun e => by
  have a := ldr_back hf hA R
  rw [e, ldr_back hf hA S] at a
  exact a.symm, fun e => by rw [e]⟩
theorem sg_sc {k l x y : Int} (hk : 0 < k) (hl : 0 < l) (e : k * x = l * y) : sg x = sg y := by
  have pos : ∀ {c z : Int}, 0 < c → (0 < c * z ↔ 0 < z) := fun {c z} h => ⟨fun q => by
    apply Classical.byContradiction
    intro n
    have : c * z ≤ c * 0 := Int.mul_le_mul_of_nonneg_left (by omega) (by omega)
    omega, fun q => Int.mul_pos h q⟩
  have neg : ∀ {c z : Int}, 0 < c → (c * z < 0 ↔ z < 0) := fun {c z} h => by
    have p := pos (c := c) (z := -z) h
    rw [Int.mul_neg] at p
    omega
  have a1 := pos (z := x) hk
  have a2 := neg (z := x) hk
  have b1 := pos (z := y) hl
  have b2 := neg (z := y) hl
  unfold sg
  rw [e] at a1 a2
  by_cases p : 0 < y
  · rw [if_pos p, if_pos (a1.mp (b1.mpr p))]
  · rw [if_neg p, if_neg (fun z => p (b1.mp (a1.mpr z)))]
    by_cases p' : y < 0
    · rw [if_pos p', if_pos (a2.mp (b2.mpr p'))]
    · rw [if_neg p', if_neg (fun z => p' (b2.mp (a2.mpr z)))]
/-- sizes of a row led back -/
theorem rlb_szn {f : Int} {A : M4} {r : R4} {n m : Nat} (S : S44 n A) (s : SR m r) : SR (m + 2 * n + 8) (rlb f A r) := by
  obtain ⟨⟨a1, a2⟩, ⟨b1, b2⟩, ⟨c1, c2⟩, ⟨d1, d2⟩⟩ := A
  obtain ⟨q, l, p, k⟩ := r
  obtain ⟨A1, A2, B1, B2, C1, C2, D1, D2⟩ := S
  obtain ⟨s1, s2, s3, s4⟩ := s
  have A1 : Sz n a1 := A1
  have A2 : Sz n a2 := A2
  have B1 : Sz n b1 := B1
  have B2 : Sz n b2 := B2
  have C1 : Sz n c1 := C1
  have C2 : Sz n c2 := C2
  have D1 : Sz n d1 := D1
  have D2 : Sz n d2 := D2
  have s1 : Sz m q := s1
  have s2 : Sz m l := s2
  have s3 : Sz m p := s3
  have s4 : Sz m k := s4
  have t2 : ∀ {x y : Int}, Sz (2 * n) x → Sz (2 * n) y → Sz (2 * n + 1) (x + y) := fun {x y} a b => szUp (inferInstance : Sz _ (x + y)) (by omega)
  have t2' : ∀ {x y : Int}, Sz (2 * n) x → Sz (2 * n) y → Sz (2 * n + 1) (x - y) := fun {x y} a b => szUp (inferInstance : Sz _ (x - y)) (by omega)
  have mu : ∀ {x y : Int}, Sz n x → Sz n y → Sz (2 * n) (x * y) := fun {x y} a b => szUp (inferInstance : Sz _ (x * y)) (by omega)
  have ml : ∀ {x y : Int}, Sz m x → Sz (2 * n + 1) y → Sz (m + 2 * n + 1) (x * y) := fun {x y} a b => szUp (inferInstance : Sz _ (x * y)) (by omega)
  have dl : ∀ {x y : Int}, Sz m x → Sz (2 * n + 1) y → Sz (m + 2 * n + 3) (2 * x * y) := fun {x y} a b => by
    have h2 : Sz 2 (2 : Int) := ⟨by decide⟩
    exact szUp (inferInstance : Sz _ (2 * x * y)) (by omega)
  have ad : ∀ {j : Nat} {x y : Int}, Sz j x → Sz j y → Sz (j + 1) (x + y) := fun {j x y} a b => szUp (inferInstance : Sz _ (x + y)) (by omega)
  have sb : ∀ {j : Nat} {x y : Int}, Sz j x → Sz j y → Sz (j + 1) (x - y) := fun {j x y} a b => szUp (inferInstance : Sz _ (x - y)) (by omega)
  have v : ∀ {x1 x2 y1 y2 : Int}, Sz n x1 → Sz n x2 → Sz n y1 → Sz n y2 → Sz (m + 2 * n + 8) (vO q l p k (x1, x2) (y1, y2)) := fun {x1 x2 y1 y2} g1 g2 h1 h2 => by
    refine szUp (show Sz (m + 2 * n + 4) (q * (x1 * x1 + x2 * x2) + (l * (x1 * y1 + x2 * y2) + p * (x2 * y1 - x1 * y2)) + k * (y1 * y1 + y2 * y2)) from ?_) (by omega)
    exact ad (ad (szUp (ml s1 (t2 (mu g1 g1) (mu g2 g2))) (by omega)) (ad (ml s2 (t2 (mu g1 h1) (mu g2 h2))) (ml s3 (t2' (mu g2 h1) (mu g1 h2))))) (szUp (ml s4 (t2 (mu h1 h1) (mu h2 h2))) (by omega))
  have w1 : Sz (m + 2 * n + 7) (sO q l p k ⟨(a1, a2), (b1, b2), (c1, c2), (d1, d2)⟩).1 := by
    refine szUp (show Sz (m + 2 * n + 6) (2 * q * (a1 * b1 + a2 * b2) + 2 * k * (c1 * d1 + c2 * d2) + (l * (a1 * d1 + a2 * d2) + p * (a2 * d1 - a1 * d2)) + (l * (b1 * c1 + b2 * c2) - p * (b1 * c2 - b2 * c1))) from ?_) (by omega)
    exact ad (ad (ad (dl s1 (t2 (mu A1 B1) (mu A2 B2))) (dl s4 (t2 (mu C1 D1) (mu C2 D2)))) (szUp (ad (ml s2 (t2 (mu A1 D1) (mu A2 D2))) (ml s3 (t2' (mu A2 D1) (mu A1 D2)))) (by omega))) (szUp (sb (ml s2 (t2 (mu B1 C1) (mu B2 C2))) (ml s3 (t2' (mu B1 C2) (mu B2 C1)))) (by omega))
  have w2 : Sz (m + 2 * n + 7) (sO q l p k ⟨(a1, a2), (b1, b2), (c1, c2), (d1, d2)⟩).2 := by
    refine szUp (show Sz (m + 2 * n + 6) (2 * q * (a2 * b1 - a1 * b2) + 2 * k * (c2 * d1 - c1 * d2) + (l * (a2 * d1 - a1 * d2) - p * (a1 * d1 + a2 * d2)) + (l * (b1 * c2 - b2 * c1) + p * (b1 * c1 + b2 * c2))) from ?_) (by omega)
    exact ad (ad (ad (dl s1 (t2' (mu A2 B1) (mu A1 B2))) (dl s4 (t2' (mu C2 D1) (mu C1 D2)))) (szUp (sb (ml s2 (t2' (mu A2 D1) (mu A1 D2))) (ml s3 (t2 (mu A1 D1) (mu A2 D2)))) (by omega))) (szUp (ad (ml s2 (t2' (mu B1 C2) (mu B2 C1))) (ml s3 (t2 (mu B1 C1) (mu B2 C2)))) (by omega))
  refine ⟨v A1 A2 C1 C2, szUp w1 (by omega), ?_, v B1 B2 D1 D2⟩
  show Sz (m + 2 * n + 8) (if f = 1 then _ else 0 - _)
  split
  · exact szUp w2 (by omega)
  · rw [Int.zero_sub]; exact szUp (ngS w2) (by omega)
class GS (n : outParam Nat) (p : G) : Prop where
  a : Sz n p.1
  b : Sz n p.2
instance gs_fst {n : Nat} {p : G} [h : GS n p] : Sz n p.1 := h.a
instance gs_snd {n : Nat} {p : G} [h : GS n p] : Sz n p.2 := h.b
instance gs_mk {n m : Nat} {x y : Int} [a : Sz n x] [b : Sz m y] : GS (max n m) (x, y) := ⟨szUp a (Nat.le_max_left ..), szUp b (Nat.le_max_right ..)⟩
instance gs_gm {n m : Nat} {p q : G} [a : GS n p] [b : GS m q] : GS (n + m + 1) (gm p q) := by
  refine ⟨szUp (inferInstance : Sz _ (p.1 * q.1 - p.2 * q.2)) (by omega), szUp (inferInstance : Sz _ (p.1 * q.2 + p.2 * q.1)) (by omega)⟩
instance gs_gj {n : Nat} {p : G} [a : GS n p] : GS n (gj p) := ⟨a.a, ngS a.b⟩
instance gs_ga {n m : Nat} {p q : G} [a : GS n p] [b : GS m q] : GS (max n m + 1) (ga p q) := ⟨(inferInstance : Sz _ (p.1 + q.1)), (inferInstance : Sz _ (p.2 + q.2))⟩
instance gs_gu {n m : Nat} {p q : G} [a : GS n p] [b : GS m q] : GS (max n m + 1) (gu p q) := ⟨(inferInstance : Sz _ (p.1 - q.1)), (inferInstance : Sz _ (p.2 - q.2))⟩
instance gs_nm {n : Nat} {p : G} [a : GS n p] : Sz (2 * n + 1) (nm p) := szUp (inferInstance : Sz _ (p.1 * p.1 + p.2 * p.2)) (by omega)
theorem S4.gs {n : Nat} {a b c d : G} (S : S4 n a b c d) : GS n a ∧ GS n b ∧ GS n c ∧ GS n d := ⟨⟨S.a1, S.a2⟩, ⟨S.b1, S.b2⟩, ⟨S.c1, S.c2⟩, ⟨S.d1, S.d2⟩⟩
theorem sg0 {v : Int} : sg v = 0 ↔ v = 0 := by
  unfold sg
  constructor
  · intro z
    by_cases a : 0 < v
    · rw [if_pos a] at z; omega
    · rw [if_neg a] at z
      by_cases b : v < 0
      · rw [if_pos b] at z; omega
      · omega
  · intro z; rw [z]; rfl
theorem eqv_R (r s : R4) : PyData.eqv (rw4 r.1 r.2.1 r.2.2.1 r.2.2.2) (rw4 s.1 s.2.1 s.2.2.1 s.2.2.2) = decide (r = s) := by
  obtain ⟨a, b, c, d⟩ := r
  obtain ⟨x, y, z, w⟩ := s
  have e : decide (((a, b, c, d) : R4) = (x, y, z, w)) = (decide (a = x) && (decide (b = y) && (decide (c = z) && decide (d = w)))) := by
    by_cases h1 : a = x <;> by_cases h2 : b = y <;> by_cases h3 : c = z <;> by_cases h4 : d = w <;> simp [h1, h2, h3, h4]
  rw [e]
  simp [PyData.eqv, PyData.eqvAll]
  rfl
end Z
set_option autoImplicit false
set_option linter.all false
namespace Z
open PySem L2
abbrev rwR (r : R4) : PyData := rw4 r.1 r.2.1 r.2.2.1 r.2.2.2
def mxR (x : Int) (r : R4) (y : Int) (s : R4) : R4 := (x * r.1 + y * s.1, x * r.2.1 + y * s.2.1, x * r.2.2.1 + y * s.2.2.1, x * r.2.2.2 + y * s.2.2.2)
theorem dsc_mx (x : Int) (r : R4) (y : Int) (s : R4) : dsc (mxR x r y s) = x * x * dsc r + 2 * (x * y * prR r s) + y * y * dsc s := by simp only [dsc, mxR, prR]; grind
theorem pr_mx (x : Int) (r : R4) (y : Int) (s t : R4) : prR t (mxR x r y s) = x * prR t r + y * prR t s := by simp only [mxR, prR]; grind
theorem pr_sym (r s : R4) : prR r s = prR s r := by simp only [prR]; grind
theorem dsc_sm (g : Int) (r : R4) : dsc (smR g r) = g * g * dsc r := by simp only [dsc, smR]; grind
/-- how many places two rounds share -/
def shD (r s : R4) : PyData := if r = s then .none else .int (1 - sg (prR r s * prR r s - prR r r * prR s s))
theorem Rd.q0 {n : Nat} {r : R4} (R : Rd n r) : 0 ≤ r.1 := by
  rcases R.rn.q0 with h | h <;> omega
theorem prR_sz {n : Nat} {r s : R4} (h : SR n r) (h' : SR n s) : Sz (2 * n + 6) (prR r s) := by
  obtain ⟨_, _, _, _⟩ := h
  obtain ⟨_, _, _, _⟩ := h'
  have t2 : Sz 2 (2 : Int) := ⟨by decide⟩
  exact szUp (inferInstance : Sz _ (r.2.1 * s.2.1 + r.2.2.1 * s.2.2.1 - 2 * (r.1 * s.2.2.2 + s.1 * r.2.2.2))) (by omega)
theorem mxR_sz {n a : Nat} {x y : Int} {r s : R4} (sx : Sz a x) (sy : Sz a y) (h : SR n r) (h' : SR n s) : SR (n + a + 1) (mxR x r y s) := by
  obtain ⟨_, _, _, _⟩ := h
  obtain ⟨_, _, _, _⟩ := h'
  exact ⟨szUp (inferInstance : Sz _ (x * r.1 + y * s.1)) (by omega), szUp (inferInstance : Sz _ (x * r.2.1 + y * s.2.1)) (by omega), szUp (inferInstance : Sz _ (x * r.2.2.1 + y * s.2.2.1)) (by omega), szUp (inferInstance : Sz _ (x * r.2.2.2 + y * s.2.2.2)) (by omega)⟩
end Z
set_option autoImplicit false
set_option linter.all false
namespace Z
open PySem L2
theorem set_back2 {ev : Ev} {i j : Nat} {x y : Option Sl} (n : i ≠ j) (e : ev[i]? = some none) (e' : ev[j]? = some none) : wipeD ((ev.set i x).set j y) [i, j] = ev := by
  show (((ev.set i x).set j y).set j none).set i none = ev
  have hi : i < ev.length := by
    by_cases z : i < ev.length
    · exact z
    · rw [List.getElem?_eq_none (by omega)] at e; cases e
  have hj : j < ev.length := by
    by_cases z : j < ev.length
    · exact z
    · rw [List.getElem?_eq_none (by omega)] at e'; cases e'
  apply List.ext_getElem?
  intro k
  by_cases b : i = k
  · subst b
    rw [List.getElem?_set_self (by simpa using hi), e]
  · rw [List.getElem?_set_ne b]
    by_cases a : j = k
    · subst a
      rw [List.getElem?_set_self (by simpa using hj), e']
    · rw [List.getElem?_set_ne a, List.getElem?_set_ne a, List.getElem?_set_ne b]
theorem lc_map2 {i j : Nat} {el : Wx} {f : PyData → PyData → PyData} (n : i ≠ j) : ∀ {ps : List (PyData × PyData)} {ds acc : List PyData} {ev : Ev} {Q : List PyData → Ev → Prop}, ev[i]? = some none → ev[j]? = some none → ds = ps.map (fun p => .tuple [p.1, p.2]) → acc.length + ps.length ≤ 1000 →
    (∀ p ∈ ps, ∀ R : PyData → Ev → Prop, R (f p.1 p.2) ((ev.set i (some (.val p.1))).set j (some (.val p.2))) → el ((ev.set i (some (.val p.1))).set j (some (.val p.2))) R) → Q (acc ++ ps.map (fun p => f p.1 p.2)) ev → lcD [i, j] (gT 2 (gsC (gN i) (gsC (gN j) gsN))) dYes el ds acc ev Q
  | [], ds, acc, ev, Q, _, _, hds, l, _, q => by
    subst hds
    rw [List.map_nil, List.append_nil] at q
    exact ⟨l, q⟩
  | p :: ps, ds, acc, ev, Q, e, e', hds, l, h, q => by
    subst hds
    refine ⟨rfl, ?_⟩
    have e2 : (ev.set i (some (.val p.1)))[j]? = some none := by rw [List.getElem?_set_ne n]; exact e'
    refine gs_fr e fr_none ?_
    refine gs_fr e2 fr_none ?_
    refine (show el ((ev.set i (some (.val p.1))).set j (some (.val p.2))) (fun y e3 => acc.length < 1000 ∧ lcD [i, j] (gT 2 (gsC (gN i) (gsC (gN j) gsN))) dYes el (ps.map (fun p => .tuple [p.1, p.2])) (acc ++ [y]) (wipeD e3 [i, j]) Q) from ?_)
    refine h p (List.mem_cons_self ..) _ ⟨by rw [List.length_cons] at l; omega, ?_⟩
    rw [set_back2 n e e']
    refine lc_map2 n e e' rfl (by rw [List.length_append, List.length_cons, List.length_nil]; rw [List.length_cons] at l; omega) (fun d' m R r => h d' (List.mem_cons_of_mem _ m) R r) ?_
    rw [List.append_assoc]
    exact q
end Z
set_option autoImplicit false
set_option linter.all false
namespace Z
open PySem L2
def mirR (r : R4) : M4 := mir r.1 r.2.1 r.2.2.1 r.2.2.2
noncomputable def mi (r : R4) : M4 := nrm (mirR r)
theorem mirR_dt {r : R4} (d : 0 < dsc r) : (mirR r).dt ≠ 0 := mir_dt d
theorem mi_sim {r : R4} (d : 0 < dsc r) : Sim (mi r) (mirR r) := nrm_sim (mirR_dt d)
theorem mirR_back (r : R4) : (mirR r).adj.cj 1 = (mirR r).sm ((-1, 0) : G) := by
  refine m4_ext ?_ ?_ ?_ ?_ <;> refine Prod.ext ?_ ?_
  all_goals simp only [mirR, mir, M4.adj, M4.cj, M4.sm, cj, gmul, gj, if_pos]
  all_goals (try simp only [← gn_r, gn])
  all_goals grind
theorem bck_mi {r : R4} (d : 0 < dsc r) : bck 1 (mi r) = mi r := by
  have s : Sim ((mi r).adj.cj 1) (mirR r) := ((mi_sim d).adj.cj 1).trans (by rw [mirR_back]; exact (Sim.smr _ (by decide)).symm)
  exact nrm_eq (mirR_dt d) s
/-- the mirror image of a row -/
def mrR (r s : R4) : R4 := mxR (dsc r) s (-2 * prR r s) r
theorem rlb_mir (r s : R4) : rlb 1 (mirR r) s = mrR r s := by
  refine Prod.ext ?_ (Prod.ext ?_ (Prod.ext ?_ ?_))
  all_goals simp only [rlb, vO, sO, mirR, mir, mrR, mxR, dsc, prR, if_pos]
  all_goals grind
theorem mrR_pos {r s : R4} (d : 0 < dsc r) (e : 0 < dsc s) : 0 < dsc (mrR r s) := by rw [← rlb_mir]; exact dsc_rlbp (mirR_dt d) e
theorem ldr_mi {r s : R4} (d : 0 < dsc r) (e : 0 < dsc s) : ldr 1 (mi r) s = nf (mrR r s) := by
  unfold ldr
  rw [bck_mi d, rlb_sim (mi_sim d) (mirR_dt d) e, rlb_mir]
theorem mi_sm {c : Int} (hc : c ≠ 0) {r : R4} (d : 0 < dsc r) : mi (smR c r) = mi r := by
  have e : mirR (smR c r) = (mirR r).sm (c, 0) := by
    refine m4_ext ?_ ?_ ?_ ?_ <;> refine Prod.ext ?_ ?_
    all_goals simp only [mirR, mir, M4.sm, smR, gmul]
    all_goals grind
  exact nrm_eq (mirR_dt d) (by rw [e]; exact (Sim.smr _ (fun z => hc (congrArg Prod.fst z))).symm)
theorem mi_nf {r : R4} (d : 0 < dsc r) : mi (nf r) = mi r := by
  obtain ⟨g, hg, e⟩ := nf_sc d
  have p := nf_pos d
  generalize nf r = s at *
  rw [← e, mi_sm hg p]
def mm (r s : R4) : M4 := (mirR r).mul ((mirR s).cj 1)
instance : DecidableEq M4 := fun A B => decidable_of_iff (A.a = B.a ∧ A.b = B.b ∧ A.c = B.c ∧ A.d = B.d) ⟨fun h => m4_ext h.1 h.2.1 h.2.2.1 h.2.2.2, fun h => by subst h; exact ⟨rfl, rfl, rfl, rfl⟩⟩
noncomputable def hid (w : Ws) : Ws := Classical.choose (⟨w, rfl⟩ : ∃ q, q = w)
theorem hid_eq (w : Ws) : hid w = w := Classical.choose_spec (⟨w, rfl⟩ : ∃ q, q = w)
theorem hid_of {w : Ws} {E : Ed} {ev : Ev} (h : w E ev) : hid w E ev := by rw [hid_eq]; exact h
theorem foD_m {α : Type} {d : α → PyData} {g : Wg} {b : Ws} {E : Ed} {ps : List α} {ds : List PyData} {ev : Ev} (I : Ev → Prop) (hds : ds = ps.map d) (step : ∀ t ∈ ps, ∀ (ev : Ev) (E' : Ed), I ev → (∀ ev', I ev' → E'.nx ev') → g (d t) ev fun e => b E' e) (i : I ev) (fin : ∀ ev, I ev → E.nx ev) : foD g b ds E ev := by
  subst hds
  refine foD_inv I (fun v hv ev E' iv nx _ _ _ _ => ?_) i fin
  obtain ⟨t, m, rfl⟩ := List.mem_map.mp hv
  exact step t m ev E' iv nx
end Z
set_option Elab.async false
set_option linter.all false
set_option maxRecDepth 100000
namespace Z
open PySem L2
end Z
set_option autoImplicit false
set_option linter.all false
namespace Z
open PySem L2
theorem Pt.pos {t : T3} (T : Pt t) (n : t ≠ (1, 0, 0)) : 0 < t.2.2 := by
  rcases T with z | ⟨p, _⟩
  · exact absurd z n
  · exact p
theorem prR_sz2 {n m : Nat} {r s : R4} (h : SR n r) (h' : SR m s) : Sz (n + m + 6) (prR r s) := by
  obtain ⟨_, _, _, _⟩ := h
  obtain ⟨_, _, _, _⟩ := h'
  have t2 : Sz 2 (2 : Int) := ⟨by decide⟩
  exact szUp (inferInstance : Sz _ (r.2.1 * s.2.1 + r.2.2.1 * s.2.2.1 - 2 * (r.1 * s.2.2.2 + s.1 * r.2.2.2))) (by omega)
theorem mrR_sz2 {n m : Nat} {r s : R4} (h : SR n r) (h' : SR m s) : SR (2 * n + m + 10) (mrR r s) := by
  have j1 : Sz (2 * n + 6) (dsc r) := by rw [← dsc_pr]; exact szUp (prR_sz2 h h) (by omega)
  have j2 := prR_sz2 h h'
  have t2 : Sz 2 (-2 : Int) := ⟨by decide⟩
  have j3 : Sz (n + m + 8) (-2 * prR r s) := szUp (inferInstance : Sz _ (-2 * prR r s)) (by omega)
  obtain ⟨_, _, _, _⟩ := h
  obtain ⟨_, _, _, _⟩ := h'
  exact ⟨szUp (inferInstance : Sz _ (dsc r * s.1 + -2 * prR r s * r.1)) (by omega), szUp (inferInstance : Sz _ (dsc r * s.2.1 + -2 * prR r s * r.2.1)) (by omega), szUp (inferInstance : Sz _ (dsc r * s.2.2.1 + -2 * prR r s * r.2.2.1)) (by omega), szUp (inferInstance : Sz _ (dsc r * s.2.2.2 + -2 * prR r s * r.2.2.2)) (by omega)⟩
end Z
set_option Elab.async false
set_option linter.all false
set_option maxRecDepth 100000
namespace Z
open PySem L2
/-- no caught exception -/
def isX : PyData → Bool
  | .dict ((.int _, _) :: _) => true
  | _ => false
theorem okE_in {d : PyData} {P : Prop} (h : isX d = false) (p : P) : okE d P := by
  unfold okE
  split
  · exact Bool.noConfusion h
  · exact p
def okv : PyData → Bool
  | .tuple xs => Nat.ble xs.length 1000 && xs.all fun x => !isX x
  | d => !isX d
theorem okv_x {d : PyData} (h : okv d = true) : isX d = false := by
  cases d with
  | dict ps => exact Bool.eq_false_iff.mpr fun z => by rw [show okv (.dict ps) = !isX (.dict ps) from rfl, z] at h; cases h
  | _ => rfl
theorem okv_t {xs : List PyData} (h : okv (.tuple xs) = true) : xs.length ≤ 1000 ∧ ∀ x ∈ xs, isX x = false := by
  have h : (Nat.ble xs.length 1000 && xs.all fun x => !isX x) = true := h
  rw [Bool.and_eq_true] at h
  refine ⟨Nat.le_of_ble_eq_true h.1, fun x m => ?_⟩
  have := List.all_eq_true.mp h.2 x m
  cases z : isX x with
  | false => rfl
  | true => rw [z] at this; cases this
end Z
set_option Elab.async false
set_option linter.all false
set_option maxRecDepth 100000
namespace Z
open PySem PySem.W PySem.Calls PyProof.Rows PySem.HandSPX
/-- the two fields that the program's errors have -/
def Fld (fl : Str) : Prop := fl = PySem.Str.ofString "given" ∨ fl = PySem.Str.ofString "index"
end Z
set_option Elab.async false
set_option linter.all false
set_option maxRecDepth 100000
namespace Z
open PySem PySem.Spec PyProof.Rows L2
/-- the field of an error that has none -/
def noF : Str := PySem.Str.ofString ""
theorem Fld.ne {fl : Str} (h : Fld fl) : fl ≠ noF := by
  rcases h with rfl | rfl <;> decide +kernel
end Z
set_option Elab.async false
set_option linter.all false
set_option maxRecDepth 100000
namespace Z
open PySem PySem.Spec PyProof.Rows L2
end Z
set_option Elab.async false
set_option linter.all false
set_option maxRecDepth 100000
namespace Z
open PySem PySem.Spec PyProof.Rows L2
end Z
set_option Elab.async false
set_option linter.all false
set_option maxRecDepth 100000
namespace Z
open PySem PySem.Spec PyProof.Rows L2
end Z
set_option Elab.async false
set_option linter.all false
set_option maxRecDepth 100000
namespace Z
open PySem PySem.Spec PyProof.Rows L2
end Z
set_option Elab.async false
set_option linter.all false
set_option maxRecDepth 100000
namespace Z
open PySem PySem.Spec PyProof.Rows L2
end Z
set_option Elab.async false
set_option linter.all false
set_option maxRecDepth 100000
namespace Z
open PySem PySem.Spec PyProof.Rows L2
end Z
set_option Elab.async false
set_option linter.all false
set_option maxRecDepth 100000
namespace Z
open PySem PySem.Spec PyProof.Rows L2
end Z
set_option Elab.async false
set_option linter.all false
set_option maxRecDepth 100000
namespace Z
open PySem PySem.Spec PyProof.Rows L2
end Z
set_option Elab.async false
set_option linter.all false
set_option maxRecDepth 100000
set_option maxHeartbeats 4000000
namespace L2
open PySem PySem.Spec PyProof.Rows
end L2
namespace Z
open PySem PySem.Spec PyProof.Rows L2
mutual
def nlD : PyData → Bool
  | .list _ => false
  | .dict [] => true
  | .dict (_ :: _) => false
  | .tuple ds => nlAll ds
  | _ => true
def nlAll : List PyData → Bool
  | [] => true
  | d :: ds => nlD d && nlAll ds
end
section
variable {X : Cx} {pins : List (Addr × Obj)} {σ : L2.St} {H : Hp} {s : Shared}
mutual
theorem Dz.readsN (I : Inv X pins σ H s) : ∀ (d : PyData) (v : V) (u : Value), Dz X.K H v d → nlD d = true → RelV v u → ∃ as, Reads s.heap u d as ∧ sysModules ∉ as
  | .none, _, _, h, _, r => by
    cases h
    cases r
    exact ⟨_, Reads.none, List.not_mem_nil⟩
  | .bool b, _, _, h, _, r => by
    cases h
    cases r
    exact ⟨_, Reads.bool b, List.not_mem_nil⟩
  | .int i, _, _, h, _, r => by
    cases h
    obtain ⟨t, rfl⟩ := r
    exact ⟨_, Reads.int i t, List.not_mem_nil⟩
  | .str x, _, _, h, _, r => by
    cases h
    obtain ⟨t, rfl⟩ := r
    exact ⟨_, Reads.str x t, List.not_mem_nil⟩
  | .list ds, _, _, _, n, _ => by rw [nlD] at n; cases n
  | .tuple ds, _, _, h, n, r => by
    cases h with
    | tup hs ha =>
      cases r
      obtain ⟨its, rv, ⟨o, ho, hc, n', hd⟩, _⟩ := I.tuple hs
      obtain ⟨as, hr, na⟩ := DzAll.readsN I ds _ its ha (by rw [nlD] at n; exact n) rv
      exact ⟨_, Reads.tuple ho hc hd hr, na⟩
  | .dict [], _, _, h, _, r => by
    cases h with
    | dct0 hb =>
      cases r
      rename_i b
      obtain ⟨_, hs, vs, kv, o, es, ep, go, ed, de, _, pr, _⟩ : ObjOk X.prog X.w H s.heap b (.dK []) := I.hok b _ hb
      cases kv
      have ee : es.toList = [] := by cases h : es.toList with
        | nil => rfl
        | cons y l => rw [h] at pr; cases pr
      refine ⟨b :: [] ++ [], Reads.dict go ed.1 de (by rw [ee]; exact .nil) (by rw [ee]; exact .nil), fun h => ?_⟩
      simp only [List.append_nil, List.mem_cons, List.not_mem_nil, or_false] at h
      rw [← h] at hs
      cases hs
  | .dict (_ :: _), _, _, _, n, _ => by rw [nlD] at n; cases n
theorem DzAll.readsN (I : Inv X pins σ H s) : ∀ (ds : List PyData) (vs : List V) (us : List Value), DzAll X.K H vs ds → nlAll ds = true → Vals vs us → ∃ as, ReadsAll s.heap us ds as ∧ sysModules ∉ as
  | [], _, _, h, _, r => by
    cases h
    cases r
    exact ⟨_, ReadsAll.nil, List.not_mem_nil⟩
  | d :: ds, _, _, h, n, r => by
    rw [nlAll, Bool.and_eq_true] at n
    cases h with
    | cons h1 h2 =>
      cases r with
      | cons r1 r2 =>
        obtain ⟨as, q1, n1⟩ := Dz.readsN I d _ _ h1 n.1 r1
        obtain ⟨bs, q2, n2⟩ := DzAll.readsN I ds _ _ h2 n.2 r2
        exact ⟨_, ReadsAll.cons q1 q2, fun m => (List.mem_append.mp m).elim n1 n2⟩
end
end
end Z
set_option Elab.async false
set_option linter.all false
set_option maxRecDepth 100000
set_option maxHeartbeats 4000000
namespace Z
open PySem PySem.Spec PyProof.Rows L2
def ltL : List Int → List Int → Bool
  | [], [] => false
  | [], _ :: _ => true
  | _ :: _, [] => false
  | p :: ps, r :: rs => if p = r then ltL ps rs else decide (p < r)
abbrev il (t : T3) : List Int := [t.1, t.2.1, t.2.2]
end Z
namespace Z
open PySem PySem.Spec PyProof.Rows L2
end Z
set_option Elab.async false
set_option linter.all false
set_option maxRecDepth 100000
set_option maxHeartbeats 4000000
namespace Z
open PySem PySem.Spec PyProof.Rows L2
def M4.tr (A : M4) : G := A.a + A.d
def M4.al (A : M4) : G := A.a - A.d
def M4.lv (A : M4) : G := A.al * A.al + A.b * A.c * (4, 0)
theorem four : ((4, 0) : G) = 4 := rfl
theorem lv_tr (A : M4) : A.lv = A.tr * A.tr - 4 * A.dt := by
  simp only [M4.lv, M4.al, M4.tr, M4.dt, four]
  grind
theorem Sim.tr {X Y : M4} (s : Sim X Y) : ∃ g h : G, g ≠ 0 ∧ h ≠ 0 ∧ g * X.tr = h * Y.tr ∧ g * g * X.dt = h * h * Y.dt ∧ g * g * X.lv = h * h * Y.lv := by
  obtain ⟨g, h, hg, hh, e⟩ := s
  have e1 : g * X.a = h * Y.a := congrArg M4.a e
  have e2 : g * X.b = h * Y.b := congrArg M4.b e
  have e3 : g * X.c = h * Y.c := congrArg M4.c e
  have e4 : g * X.d = h * Y.d := congrArg M4.d e
  have et : g * X.tr = h * Y.tr := by simp only [M4.tr]; grind
  have ed : g * g * X.dt = h * h * Y.dt := by simp only [M4.dt]; grind
  exact ⟨g, h, hg, hh, et, ed, by rw [lv_tr, lv_tr]; grind⟩
end Z
set_option Elab.async false
set_option linter.all false
set_option maxRecDepth 100000
set_option maxHeartbeats 4000000
namespace Z
open PySem PySem.Spec PyProof.Rows L2
def wd (u w : G) : Str := if nm u = nm w then "winds" else if (gm u (gj w)).2 ≠ 0 then "spirals" else if 0 < (gm u (gj w)).1 then "pulls" else "swings"
end Z
set_option Elab.async false
set_option linter.all false
set_option maxRecDepth 100000
set_option maxHeartbeats 4000000
namespace Z
open PySem PySem.Spec PyProof.Rows L2
def M4.sq (A : M4) : M4 := A.mul (A.cj 1)
end Z
set_option Elab.async false
set_option linter.all false
set_option maxRecDepth 100000
set_option maxHeartbeats 4000000
namespace Z
open PySem PySem.Spec PyProof.Rows L2
end Z
set_option autoImplicit false
set_option linter.all false
namespace Z
open PySem L2
def KQ (f : Int) (A : M4) (r s : R4) (v : Int) : Prop := ∃ k g : Int, 0 < k ∧ 0 < g ∧ smR k (rlb f A r) = smR (v * g) s
theorem smR_smR (a b : Int) (r : R4) : smR a (smR b r) = smR (a * b) r := by simp only [smR, Int.mul_assoc]
theorem KQ.mul {f i : Int} {A B : M4} {r s t : R4} {v w : Int} (hf : f = 0 ∨ f = 1) (hi : i = 0 ∨ i = 1) (h : KQ f A r s v) (h2 : KQ i B s t w) : KQ ((f + i) % 2) (A.mul (B.cj f)) r t (v * w) := by
  obtain ⟨k, g, hk, hg, e⟩ := h
  obtain ⟨l, m, hl, hm, e2⟩ := h2
  refine ⟨k * l, g * m, Int.mul_pos hk hl, Int.mul_pos hg hm, ?_⟩
  rw [← rlb_mul hf hi]
  have e3 : smR (k * l) (rlb i B (rlb f A r)) = smR l (rlb i B (smR k (rlb f A r))) := by rw [rlb_smr, smR_smR, Int.mul_comm]
  have e4 : smR l (smR (v * g) (rlb i B s)) = smR (v * g) (smR l (rlb i B s)) := by rw [smR_smR, smR_smR, Int.mul_comm]
  rw [e3, e, rlb_smr, e4, e2, smR_smR, show v * g * (w * m) = v * w * (g * m) by grind]
theorem KQ.sim {f : Int} {A B : M4} {r s : R4} {v : Int} (S : Sim A B) (h : KQ f A r s v) : KQ f B r s v := by
  obtain ⟨a, b, ha, hb, e⟩ := S
  obtain ⟨k, g, hk, hg, e2⟩ := h
  have e3 : smR (nm a) (rlb f A r) = smR (nm b) (rlb f B r) := by rw [← rlb_sma, ← rlb_sma, e]
  refine ⟨k * nm b, g * nm a, Int.mul_pos hk (nm_pos hb), Int.mul_pos hg (nm_pos ha), ?_⟩
  rw [← smR_smR, ← e3, smR_smR, Int.mul_comm, ← smR_smR, e2, smR_smR, show nm a * (v * g) = v * (g * nm a) by grind]
end Z
set_option autoImplicit false
set_option linter.all false
namespace Z
open PySem L2
def sw {α : Type} : List α → List α
  | [a, b] => [b, a]
  | l => l
theorem sw_len {α : Type} : ∀ l : List α, (sw l).length = l.length
  | [] => rfl
  | [_] => rfl
  | [_, _] => rfl
  | _ :: _ :: _ :: _ => rfl
theorem vals_sw {vs : List V} {us : List Value} (r : Vals vs us) : Vals (sw vs) (sw us) := by
  match vs, us, r with
  | [], [], r => exact r
  | [_], [_], r => exact r
  | [_, _], [_, _], .cons a (.cons b c) => exact .cons b (.cons a c)
  | _ :: _ :: _ :: _, _ :: _ :: _ :: _, r => exact r
theorem dz_sw {K : PySem.W.Frag} {H : Hp} {vs : List V} {ds : List PyData} (r : DzAll K H vs ds) : DzAll K H (sw vs) (sw ds) := by
  match vs, ds, r with
  | [], [], r => exact r
  | [_], [_], r => exact r
  | [_, _], [_, _], .cons a (.cons b c) => exact .cons b (.cons a c)
  | _ :: _ :: _ :: _, _ :: _ :: _ :: _, r => exact r
structure ClKs (P : Program) (wd : World) (K : PySem.W.Frag) (mg : Str → Option Value) (base : Heap) (k : Nat) (x : Str) (ps ks : List Str) (sp : Sp) : Prop where
  ex : ∃ f fd, mg x = some (.ref f) ∧ PySem.W.keepIn K (.ref f) = true ∧ KBn K fd ps 0 ks (fun _ ws => sw ws) (fun _ zs => sw zs) ∧ ks.length = ps.length ∧ FnG P wd K mg base CX0 k f fd ps sp
theorem kb_sw {K : PySem.W.Frag} {x qual : Str} {st : Stmt} {f : Addr} {fd : FuncData} {ps ks : List Str} (F : Fun K x qual st f fd) (hl : ks.length = ps.length)
    (h : ∀ (kV doc pm : Value) (an : Option Addr) (cdv ct : Value) (us : List Value), us.length = ps.length → bindArgs (PySem.W.fnOf x qual (defArgs st) (defBody st) (defScope st) .none kV doc pm an cdv ct) ⟨[], ks.zip us⟩ = pure (ps.zip (sw us))) : KBn K fd ps 0 ks (fun _ ws => sw ws) (fun _ zs => sw zs) := by
  obtain ⟨oc, od, kV, doc, pm, an, cdv, ct, osl, rfl, lk, hcd⟩ := F.ex
  exact ⟨fun s us ws _ l0 l => by
    have e : us = [] := List.length_eq_zero_iff.mp l0
    subst e
    exact .of_eq (h kV doc pm an cdv ct ws (l.trans hl)), fun _ r => vals_sw r⟩
section
variable {X : Cx} {c : Cf} {k kg n : Nat} {x : Str} {ps ks : List Str} {p pos : Pos} {e : Expr} {es : List Expr} {u : Wa}
theorem pe_cGKs {sp : Sp} {t : TA} {kws : List Keyword} (F : ClKs X.prog X.w X.K X.mg X.base kg x ps ks sp) (hk : kg ≤ k) (hr : Room k X.A) (hG : X.A.guards = some []) (hg : Gl X x) (ha : PK X kws t) (h1 : (backToKw pos (keywordEach kws X.env)).all (·.1.isSome) = true) (h2 : (backToKw pos (keywordEach kws X.env)).filterMap (·.1) = ks)
    (h3 : (x == ("__debug__" : Str)) = false) (h4 : ((backTo pos (starEach [] X.env)).any (·.1) || (backToKw pos (keywordEach kws X.env)).any (·.1.isNone)) = false) : PE X (.Call (.Name x p) [] kws pos) (fun σ H Q => t σ H fun vs H1 => sp (sw vs) H1 Q E0) := by
  obtain ⟨f, fd, hm, hkp, hb, hl, F⟩ := F.ex
  constructor
  intro pins s σ H Q I h
  apply wpAny_Call_Name_kw
  apply ld_glob I hg hm _ h3
  refine PySem.W.callWith_KW0 (h₀ := X.base) I.ok.mod.kin hkp h1 (thn (ha.run pos pins s σ H _ I h) ?_) h4
  rintro ws s1 ⟨vs, H1, I1, r, q⟩
  refine ⟨I1.kIn, ?_⟩
  rw [h2]
  have ar := F.ar _ _ _ _ q
  rw [sw_len] at ar
  have b := hb.to s1 [] ws I1.kIn rfl (by rw [← r.length, ar, hl])
  exact callG (args := ⟨[], ks.zip ws⟩) (us := []) (kw := ks.zip ws) (runG F hk hr hG I1 b (vals_sw r) q)
theorem spP_rds {K : PySem.W.Frag} {C : Cp} {σ : Sg} {H : Hp} {Q : VK} {E : XK} (h : tE K c (fun ev Q => u ev fun ds e => ds.length = n ∧ C (sw ds) fun d => Q d e) σ H Q) : tA K c u σ H fun vs H1 => spP K n C (sw vs) H1 Q E := by
  obtain ⟨M, ev, pd, R, k, w, q⟩ := h
  exact ⟨M, ev, pd, _, k, w, fun ds e ⟨l, h1⟩ vs H1 k1 r => ⟨M, sw ds, _, by rw [sw_len, r.len, l], k1.mkOk, dz_sw r, h1, fun d hd v H' g z => q d e hd v H' ((k1.grow g).push z)⟩⟩
def dFnS (n : Nat) (C : Cp) (u : Wa) : Wx := fun ev Q => u ev fun ds e => ds.length = n ∧ C (sw ds) fun d => Q d e
theorem de_fnKs {C : Cp} {kws : List Keyword} (F : ClKs X.prog X.w X.K X.mg X.base kg x ps ks (spP X.K n C)) (hk : kg ≤ k) (hr : Room k X.A) (hG : X.A.guards = some []) (hg : Gl X x) (ha : DK X c kws u) (h1 : (backToKw pos (keywordEach kws X.env)).all (·.1.isSome) = true := by rfl) (h2 : (backToKw pos (keywordEach kws X.env)).filterMap (·.1) = ks := by rfl)
    (h3 : (x == ("__debug__" : Str)) = false := by decide) (h4 : ((backTo pos (starEach [] X.env)).any (·.1) || (backToKw pos (keywordEach kws X.env)).any (·.1.isNone)) = false := by rfl) : DE X c (.Call (.Name x p) [] kws pos) (dFnS n C u) := peM (pe_cGKs F hk hr hG hg ha h1 h2 h3 h4) fun _ _ _ h => spP_rds h
end
end Z
set_option autoImplicit false
set_option linter.all false
namespace Z
open PySem L2
def fBits : PyData → (PyData → Prop) → Prop
  | .int i, Q => Q (.int (Builtin.Int.intBits i : Nat))
  | _, _ => False
section
variable {X : Cx} {c : Cf} {a : Expr} {wa : Wx} {pos apos : Pos}
theorem de_bits (ha : DE X c a wa) (h1 : attributeBase a (Str.ofString "bit_length") X.env (eval a X.env) = eval a X.env := by rfl) (h2 : (apos.endLine == pos.line) = true := by rfl) : DE X c (.Call (.Attribute a (Str.ofString "bit_length") apos) [] [] pos) (dU fBits wa) := peM (pe_bits ha h1 h2) fun σ H Q ⟨M, ev, pd, R, k, w, q⟩ =>
  ⟨M, ev, pd, _, k, w, fun d e h v H1 k1 => by
    have t := k1.top
    unfold fBits at h
    split at h
    · cases t
      exact ⟨_, rfl, q _ _ h _ _ (k1.pop1.push (.int _))⟩
    · exact h.elim⟩
end
end Z
set_option autoImplicit false
set_option linter.all false
namespace Z
open PySem L2
abbrev il4 (t : R4) : List Int := [t.1, t.2.1, t.2.2.1, t.2.2.2]
def ltR (t u : R4) : Bool := ltL (il4 t) (il4 u)
def leR (t u : R4) : Bool := !ltR u t
theorem dataLt_rw (t u : R4) : PySem.W.dataLt (rwR t) (rwR u) = ltR t u := by
  have h : PySem.W.dataLt (rwR t) (rwR u) = PySem.W.rowLt ((il4 t).map .int) ((il4 u).map .int) := PySem.W.dataLt_tuple _ _
  rw [h, PySem.W.dataLt_ints]
  unfold ltR
  have lex : ∀ xs ys : List Int, decide (xs < ys) = ltL xs ys := by
    intro xs
    induction xs with
    | nil => intro ys; cases ys <;> simp [ltL]
    | cons x xs ih =>
      intro ys
      cases ys with
      | nil => simp [ltL]
      | cons y ys =>
        unfold ltL
        rw [← ih]
        by_cases z : x = y
        · rw [if_pos z]; simp [List.cons_lt_cons_iff, z]
        · rw [if_neg z]; simp [List.cons_lt_cons_iff, z]
  exact lex _ _
theorem dataLe_rw : PySem.W.dataLe false rwR = leR := by
  funext t u
  show (!PySem.W.dataLt (rwR u) (rwR t)) = _
  rw [dataLt_rw]
  rfl
def srR (ts : List R4) : List R4 := ts.mergeSort leR
theorem srR0 : srR [] = [] := by unfold srR; rw [List.mergeSort]
theorem srR1 (t : R4) : srR [t] = [t] := by unfold srR; rw [List.mergeSort]
theorem srR2 (t u : R4) : srR [t, u] = if ltR u t then [u, t] else [t, u] := by
  unfold srR
  simp [List.mergeSort, List.MergeSort.Internal.splitInTwo, List.merge, leR]
  cases ltR u t <;> rfl
def AllR (P : V → R4 → Prop) : List V → List R4 → Prop
  | [], [] => True
  | x :: xs, t :: ts => P x t ∧ AllR P xs ts
  | _, _ => False
def rSortR (X : Cx) : List V → Hp → VK → Prop := fun vs H Q => ∃ (a : Addr) (xs : List V) (ts : List R4) (P : V → R4 → Prop), vs = [.ref a] ∧ SqL X.K H a xs ∧ (∀ x t, P x t → Dz X.K H x (rwR t)) ∧ AllR P xs ts ∧ ts.length ≤ 1000 ∧
  ∀ ys p, AllR P ys (srR ts) → H p = none → Q (.ref p) (upd H p (.lst ys))
theorem nlD_rw (t : R4) : nlD (rwR t) = true := by simp [nlD, nlAll]
theorem each_ofR {P : V → R4 → Prop} : ∀ {xs : List V} {ts : List R4} {us : List Value}, AllR P xs ts → Vals xs us → PySem.W.EachIs (fun u (t : R4) => ∃ x, RelV x u ∧ P x t) us ts
  | [], [], _, _, .nil => .nil
  | [], _ :: _, _, h, _ => h.elim
  | x :: xs, [], _, h, _ => h.elim
  | x :: xs, t :: ts, _, ⟨a, b⟩, .cons r rs => .cons ⟨x, r, a⟩ (each_ofR b rs)
theorem vals_ofR {P : V → R4 → Prop} : ∀ {us : List Value} {ts : List R4}, PySem.W.EachIs (fun u (t : R4) => ∃ x, RelV x u ∧ P x t) us ts → ∃ ys, Vals ys us ∧ AllR P ys ts
  | _, _, .nil => ⟨[], .nil, trivial⟩
  | _, _, .cons ⟨x, r, a⟩ t => by
    obtain ⟨ys, h1, h2⟩ := vals_ofR t
    exact ⟨x :: ys, .cons r h1, a, h2⟩
theorem allR_dz {K : PySem.W.Frag} {H : Hp} : ∀ {xs : List V} {ts : List R4}, DzAll K H xs (ts.map rwR) → AllR (fun x t => Dz K H x (rwR t)) xs ts
  | [], [], _ => trivial
  | [], _ :: _, h => by cases h
  | x :: xs, [], h => by cases h
  | x :: xs, t :: ts, .cons a b => ⟨a, allR_dz b⟩
theorem dz_allR {K : PySem.W.Frag} {H : Hp} : ∀ {xs : List V} {ts : List R4}, AllR (fun x t => Dz K H x (rwR t)) xs ts → DzAll K H xs (ts.map rwR)
  | [], [], _ => .nil
  | [], _ :: _, h => h.elim
  | x :: xs, [], h => h.elim
  | x :: xs, t :: ts, ⟨a, b⟩ => .cons a (dz_allR b)
theorem cr_sortR {X : Cx} {n : Nat} (hr : Room n X.A) : CallR X (.builtin "sorted") (rSortR X) := by
  intro pins s σ H vs us Q I r h
  obtain ⟨a, xs, ts, P, rfl, hs, hP, hd, hl, q⟩ := h
  have un := hr.un
  obtain ⟨its, rv, il, hz⟩ := I.list hs
  rw [Vals.ref1 r]
  have e := each_ofR hd rv
  have er : PySem.W.EachIs (fun v (t : R4) => ∃ as, Reads s.heap v (rwR t) as) its ts := e.mono fun u t ⟨x, r, d⟩ => by
    obtain ⟨as, h, _⟩ := Dz.readsN I _ _ _ (hP x t d) (nlD_rw t) r
    exact ⟨as, h⟩
  have hu : ∀ b : R4, b ∈ ts → X.A.units + 2 + (rwR b).depth < cLine := fun b _ => by
    have hd : (rwR b).depth = 1 := by simp [PyData.depth, PyData.depthAll]
    omega
  refine PySem.W.sorted_data (enc := rwR) il.isList e er (PySem.W.AllAlike.of fun b b' => by simp [PySem.W.alike, PySem.W.alikeAll]) (PySem.W.Sortable.tuples fun b => ⟨_, _, rfl⟩) (by rw [sizeLine_eq]; omega) hu fun out ho eo => ?_
  rw [dataLe_rw] at eo
  obtain ⟨ys, h1, h2⟩ := vals_ofR eo
  obtain ⟨ep, he'⟩ := PyProof.Rows.sortedAll_at s.heap its (List.toArray out)
  have hlen : ys.length ≤ sizeLine := by
    rw [h1.length, ho, sizeLine_eq]
    omega
  exact ⟨.ref _, upd H (s.heap.objs.size + 1) (.lst ys), I.laid (t' := s.toks) (fun _ _ => PyProof.Rows.sortedAll_old) (Nat.le_succ _) ⟨hlen, out, ep, h1, he'⟩, rfl, q _ _ h2 (I.hok.fresh (Nat.le_succ _))⟩
/-- sorted(xs) of triples -/
def fSortR : List PyData → (PyData → Prop) → Prop := fun ds Q => ∃ ts : List R4, ds = [.list (ts.map rwR)] ∧ ts.length ≤ 1000 ∧ Q (.list ((srR ts).map rwR))
theorem rz_sortR {X : Cx} : RZc X.K (rSortR X) fSortR := by
  intro c M σ H ev rwR' vs ds R Q k a w q
  obtain ⟨ts, rfl, l, w⟩ := w
  cases a with
  | cons a b =>
    cases b
    cases a with
    | lst g1 s1 =>
      exact ⟨_, _, ts, fun x t => Dz X.K (msk M H) x (rwR t), rfl, sqL_up msk_sub g1, fun x t h => h.up msk_sub, allR_dz s1, l, fun ys p hy hn => q _ _ _ w (k.newLst hn (dz_allR hy))⟩
section
variable {X : Cx} {c : Cf} {p pos : Pos} {e : Expr} {es : List Expr} {u : Wa}
theorem de_sortR {n : Nat} (hr : Room n X.A) (hg : Gl X "sorted") (hm : X.mg "sorted" = none) (ha : DA X c (e :: es) u) (h3 : starEach (e :: es) X.env = (false, eval e X.env) :: starEach es X.env := by rfl) (h4 : (backTo pos (starEach es X.env)).any (·.1) = false := by rfl) :
    DE X c (.Call (.Name "sorted" p) (e :: es) [] pos) (dCal fSortR u) := de_cB (cr_sortR hr) rz_sortR hg hm (by decide +kernel) ha (h3 := h3) (h4 := h4)
end
end Z
set_option Elab.async false
set_option linter.all false
set_option maxRecDepth 100000
namespace Z
open PySem L2
theorem lc_keepA {α : Type} {i : Nat} {t : Wt} {el : Wx} {d : α → PyData} {p : α → Bool} {f : α → PyData} : ∀ {xs : List α} {ds acc : List PyData} {ev : Ev} {Q : List PyData → Ev → Prop}, ds = xs.map d → ev[i]? = some none → acc.length + xs.length ≤ 1000 →
    (∀ x ∈ xs, ∀ R : Bool → Ev → Prop, R (p x) (ev.set i (some (.val (d x)))) → t (ev.set i (some (.val (d x)))) R) →
    (∀ x ∈ xs, p x = true → ∀ R : PyData → Ev → Prop, R (f x) (ev.set i (some (.val (d x)))) → el (ev.set i (some (.val (d x)))) R) → Q (acc ++ (xs.filter p).map f) ev → lcD [i] (gN i) t el ds acc ev Q
  | [], _, acc, ev, Q, rfl, _, l, _, _, q => by
    rw [List.filter_nil, List.map_nil, List.append_nil] at q
    exact ⟨l, q⟩
  | x :: xs, _, acc, ev, Q, rfl, e, l, ht, he, q => by
    rw [List.length_cons] at l
    have g : ∀ P : Ev → Prop, gN i (d x) ev P = P (ev.set i (some (.val (d x)))) := fun P => by
      unfold gN
      rw [e]
    show gN i (d x) ev _
    rw [g]
    have back := set_back (x := some (.val (d x))) e
    refine ht x (List.mem_cons_self ..) (fun b e2 => if b = true then el e2 fun y e3 => acc.length < 1000 ∧ lcD [i] (gN i) t el (xs.map d) (acc ++ [y]) (wipeD e3 [i]) Q else lcD [i] (gN i) t el (xs.map d) acc (wipeD e2 [i]) Q) ?_
    have ht' := fun d' (m : d' ∈ xs) => ht d' (List.mem_cons_of_mem _ m)
    have he' := fun d' (m : d' ∈ xs) => he d' (List.mem_cons_of_mem _ m)
    by_cases z : p x = true
    · rw [if_pos z]
      rw [List.filter_cons_of_pos z, List.map_cons] at q
      refine he x (List.mem_cons_self ..) z _ ⟨by omega, ?_⟩
      rw [back]
      refine lc_keepA rfl e (by rw [List.length_append, List.length_cons, List.length_nil]; omega) ht' he' ?_
      rw [List.append_assoc]
      exact q
    · rw [if_neg z, back]
      rw [List.filter_cons_of_neg z] at q
      exact lc_keepA rfl e (by omega) ht' he' q
end Z
set_option synthInstance.maxSize 4000
set_option synthInstance.maxHeartbeats 400000
set_option maxHeartbeats 1000000
set_option Elab.async false
set_option linter.all false
set_option maxRecDepth 100000
namespace Lk58
open PySem L2 Z
local macro_rules | `(tactic| walk_at "sz") => `(tactic| first
  | exact mulC_of inferInstance inferInstance (by decide +kernel)
  | exact divC_of inferInstance (by first | assumption | omega | decide) (by decide +kernel)
  | exact szUp inferInstance (by decide +kernel))
local macro_rules | `(tactic| walk_at "rp") => `(tactic| refine RP_of inferInstance (by decide +kernel) (by decide +kernel) (by decide +kernel) ?_)
local macro_rules | `(tactic| walk_at "go") => `(tactic| repeat' (first
  | exact trivial
  | exact rfl
  | assumption
  | exact Or.inl rfl
  | exact Or.inr ⟨rfl, rfl⟩
  | walk_at "sz"
  | refine And.intro ?_ ?_
  | exact Nat.le_of_ble_eq_true rfl))
local macro_rules | `(tactic| walk_at "all") => `(tactic| repeat' (first
  | exact trivial
  | exact rfl
  | assumption
  | exact Or.inl rfl
  | exact Or.inr ⟨rfl, rfl⟩
  | walk_at "sz"
  | walk_at "rp"
  | refine And.intro ?_ ?_
  | exact Nat.le_of_ble_eq_true rfl
  | refine ⟨_, _, _, _, rfl, ?_⟩
  | refine ⟨_, _, rfl, ?_⟩
  | fail))
local macro_rules | `(tactic| walk_at "mu") => `(tactic| repeat' (first
  | exact trivial
  | walk_at "sz"
  | refine And.intro ?_ ?_))
local macro_rules | `(tactic| walk_at "ne") => `(tactic| (rw [eqv_str, decide_eq_true (p := _ = _) rfl]; refine ite_f rfl ?_))
local macro_rules | `(tactic| walk_at "ob") => `(tactic| repeat (first
  | refine And.intro trivial ?_
  | refine And.intro rfl ?_
  | refine And.intro (Nat.le_of_ble_eq_true rfl) ?_
  | refine And.intro (by walk_at "sz") ?_
  | refine And.intro (Or.inl rfl) ?_
  | refine And.intro (Or.inr ⟨rfl, rfl⟩) ?_))
set_option exponentiation.threshold 400
def rt (n : Int) : Int := ((Float64.isqrt n.toNat : Nat) : Int)
theorem rt_spec {n : Int} (h : 0 ≤ n) : 0 ≤ rt n ∧ rt n * rt n ≤ n ∧ n < (rt n + 1) * (rt n + 1) := by
  have s := Float64.isqrt_spec n.toNat
  unfold rt
  generalize Float64.isqrt n.toNat = r at *
  refine ⟨Int.natCast_nonneg _, ?_, ?_⟩
  · have e : ((r * r : Nat) : Int) ≤ (n.toNat : Int) := Int.ofNat_le.mpr s.1
    rw [Int.natCast_mul] at e
    omega
  · have e : (n.toNat : Int) < (((r + 1) * (r + 1) : Nat) : Int) := Int.ofNat_lt.mpr s.2
    rw [Int.natCast_mul] at e
    have e2 : ((r + 1 : Nat) : Int) = (r : Int) + 1 := rfl
    rw [e2] at e
    omega
theorem rt_uniq {n r : Int} (h : 0 ≤ r) (h1 : r * r ≤ n) (h2 : n < (r + 1) * (r + 1)) : rt n = r := by
  have n0 : 0 ≤ n := Int.le_trans (Int.mul_nonneg h h) h1
  obtain ⟨s0, s1, s2⟩ := rt_spec n0
  have a : rt n ≤ r := by
    by_cases y : r < rt n
    · have : (r + 1) * (r + 1) ≤ rt n * rt n := Int.mul_le_mul (by omega) (by omega) (by omega) (by omega)
      omega
    · omega
  have b : r ≤ rt n := by
    by_cases y : rt n < r
    · have : (rt n + 1) * (rt n + 1) ≤ r * r := Int.mul_le_mul (by omega) (by omega) (by omega) (by omega)
      omega
    · omega
  omega
def wr (n : Int) : Option Int := if rt n * rt n = n then some (rt n) else none
theorem wr_sq {r : Int} (h : 0 ≤ r) : wr (r * r) = some r := by
  have e : rt (r * r) = r := rt_uniq h (Int.le_refl _) (by
    have : (r + 1) * (r + 1) = r * r + 2 * r + 1 := by grind
    omega)
  unfold wr
  rw [e, if_pos rfl]
theorem wr_some {n r : Int} (h0 : 0 ≤ n) (h : wr n = some r) : 0 ≤ r ∧ r * r = n := by
  unfold wr at h
  by_cases z : rt n * rt n = n
  · rw [if_pos z] at h
    cases h
    exact ⟨(rt_spec h0).1, z⟩
  · rw [if_neg z] at h
    cases h
def oi : Option Int → PyData
  | none => .none
  | some i => .int i
theorem sq_nn (x : Int) : 0 ≤ x * x := by
  rcases Int.le_total 0 x with h | h
  · exact Int.mul_nonneg h h
  · exact Int.mul_nonneg_of_nonpos_of_nonpos h h
theorem rt_sz {n : Nat} {x : Int} (a : Sz n x) (h : 0 ≤ x) : Sz n (rt x) := ⟨by
  obtain ⟨s0, s1, _⟩ := rt_spec h
  have : rt x ≤ x := by
    by_cases z : rt x = 0
    · omega
    · have : rt x * 1 ≤ rt x * rt x := Int.mul_le_mul_of_nonneg_left (by omega) s0
      omega
  have := a.lt
  omega⟩
theorem wr_sz {n : Nat} {x r : Int} (a : Sz n x) (h : 0 ≤ x) (e : wr x = some r) : Sz n r := by
  unfold wr at e
  by_cases z : rt x * rt x = x
  · rw [if_pos z] at e
    cases e
    exact rt_sz a h
  · rw [if_neg z] at e
    cases e
instance szc_0 : Sz 1 (0 : Int) := ⟨by decide⟩
instance szc_1 : Sz 1 (1 : Int) := ⟨by decide⟩
instance szc_2 : Sz 2 (2 : Int) := ⟨by decide⟩
instance szc_3 : Sz 2 (3 : Int) := ⟨by decide⟩
instance szc_4 : Sz 3 (4 : Int) := ⟨by decide⟩
instance szc_5 : Sz 3 (5 : Int) := ⟨by decide⟩
instance szc_9 : Sz 4 (9 : Int) := ⟨by decide⟩
instance szc_10 : Sz 4 (10 : Int) := ⟨by decide⟩
instance szc_13 : Sz 4 (13 : Int) := ⟨by decide⟩
instance szc_17 : Sz 5 (17 : Int) := ⟨by decide⟩
instance szc_18 : Sz 5 (18 : Int) := ⟨by decide⟩
instance szc_31 : Sz 5 (31 : Int) := ⟨by decide⟩
instance szc_40 : Sz 6 (40 : Int) := ⟨by decide⟩
instance szc_67 : Sz 7 (67 : Int) := ⟨by decide⟩
instance szc_1000 : Sz 10 (1000 : Int) := ⟨by decide⟩
instance szc_2203 : Sz 12 (2203 : Int) := ⟨by decide⟩
instance szc_6211 : Sz 13 (6211 : Int) := ⟨by decide⟩
instance szc_10037 : Sz 14 (10037 : Int) := ⟨by decide⟩
instance szc_20023 : Sz 15 (20023 : Int) := ⟨by decide⟩
instance szc_30029 : Sz 15 (30029 : Int) := ⟨by decide⟩
instance szc_47917 : Sz 16 (47917 : Int) := ⟨by decide⟩
instance szc_66245 : Sz 17 (66245 : Int) := ⟨by decide⟩
instance szc_90011 : Sz 17 (90011 : Int) := ⟨by decide⟩
instance szc_1000000 : Sz 20 (1000000 : Int) := ⟨by decide⟩
instance szc_2147483549 : Sz 31 (2147483549 : Int) := ⟨by decide⟩
def c_is_whole : Cp := fun ds R => ∃ d, ds = [d] ∧ isX d = false ∧ R (.bool (whole d))
def c_are_wholes : Cp := fun ds R => ∃ v n, ds = [v, .int n] ∧ okv v = true ∧ R (.bool (areW v n))
def c_common_of : Cp := fun ds R => ∃ us : List Int, ds = [tup us] ∧ R (.int (gcI us))
def c_reduced : Cp := fun ds R => ∃ us : List Int, ds = [tup us] ∧ us.length ≤ 1000 ∧ (∀ u ∈ us, Sz 8100 u) ∧ gcI us ≠ 0 ∧ R (tup (rd us))
def c_sign_of : Cp := fun ds R => ∃ n : Int, ds = [.int n] ∧ R (.int (if 0 < n then 1 else if n < 0 then -1 else 0))
def c_whole_root : Cp := fun ds R => ∃ n, ds = [.int n] ∧ 0 ≤ n ∧ Sz 8000 n ∧ R (oi (wr n))
def c_paired : Cp := fun ds R => ∃ q l m k q2 l2 m2 k2, ds = [rw4 q l m k, rw4 q2 l2 m2 k2] ∧ (Sm q ∧ Sm l ∧ Sm m ∧ Sm k ∧ Sm q2 ∧ Sm l2 ∧ Sm m2 ∧ Sm k2) ∧ R (.int (l * l2 + m * m2 - 2 * (q * k2 + q2 * k)))
def c_is_row : Cp := fun ds R => ∃ n q l m k, ds = [rw4 q l m k] ∧ Rw n q l m k ∧ n ≤ 4000 ∧ R (.bool true)
def c_is_round : Cp := fun ds R => ∃ n q l m k, ds = [rw4 q l m k] ∧ Rn n q l m k ∧ n ≤ 4000 ∧ R (.bool true)
def c_require_round : Cp := fun ds R => ∃ n q l m k, ds = [rw4 q l m k] ∧ Rn n q l m k ∧ n ≤ 4000 ∧ R .none
def c_require_both_rounds : Cp := fun ds R => ∃ n q l m k q2 l2 m2 k2, ds = [rw4 q l m k, rw4 q2 l2 m2 k2] ∧ (Rn n q l m k ∧ Rn n q2 l2 m2 k2) ∧ n ≤ 4000 ∧ R .none
def c_require_unlike_rounds : Cp := fun ds R => ∃ r s : R4, ds = [rwR r, rwR s] ∧ r ≠ s ∧ R .none
def c_opposite : Cp := fun ds R => ∃ us : List Int, ds = [tup us] ∧ us.length ≤ 1000 ∧ R (tup (us.map (0 - ·)))
def c_round_from : Cp := fun ds R => ∃ a b c d : Int, ds = [rw4 a b c d] ∧ (Sz 8000 a ∧ Sz 8000 b ∧ Sz 8000 c ∧ Sz 8000 d) ∧ 0 < b * b + c * c - 4 * (a * d) ∧ R (tup (fm [a, b, c, d]))
def c_mixed : Cp := fun ds R => ∃ (x y : Int) (r s : R4), ds = [.tuple [.int r.1, .int r.2.1, .int r.2.2.1, .int r.2.2.2], .int x, .tuple [.int s.1, .int s.2.1, .int s.2.2.1, .int s.2.2.2], .int y] ∧ (Sz 5000 x ∧ Sz 5000 y ∧ SR 5000 r ∧ SR 5000 s) ∧ R (rw4 (mxR x r y s).1 (mxR x r y s).2.1 (mxR x r y s).2.2.1 (mxR x r y s).2.2.2)
/-- what two rows make together -/
def pr (q l m k q2 l2 m2 k2 : Int) : Int := l * l2 + m * m2 - 2 * (q * k2 + q2 * k)
instance szc_pr {n1 n2 : Nat} {q l m k q2 l2 m2 k2 : Int} [Sz n1 q] [Sz n1 l] [Sz n1 m] [Sz n1 k] [Sz n2 q2] [Sz n2 l2] [Sz n2 m2] [Sz n2 k2] : Sz (n1 + n2 + 10) (pr q l m k q2 l2 m2 k2) := by
  have h : max (max (n1 + n2) (n1 + n2) + 1) (2 + (max (n1 + n2) (n2 + n1) + 1)) + 1 ≤ n1 + n2 + 10 := by omega
  exact szUp (inferInstance : Sz _ (l * l2 + m * m2 - 2 * (q * k2 + q2 * k))) h
def c_crossing_parts : Cp := fun ds R => ∃ q l m k q2 l2 m2 k2, ds = [rw4 q l m k, rw4 q2 l2 m2 k2] ∧ (Rn 2000 q l m k ∧ Rn 2000 q2 l2 m2 k2) ∧ R (cp (pr q l m k q2 l2 m2 k2 * pr q l m k q2 l2 m2 k2) (pr q l m k q l m k * pr q2 l2 m2 k2 q2 l2 m2 k2))
def c_shared : Cp := fun ds R => ∃ q l m k q2 l2 m2 k2, ds = [rw4 q l m k, rw4 q2 l2 m2 k2] ∧ (Rn 2000 q l m k ∧ Rn 2000 q2 l2 m2 k2) ∧ R (if PyData.eqv (rw4 q l m k) (rw4 q2 l2 m2 k2) = true then .none else .int (1 - sg (pr q l m k q2 l2 m2 k2 * pr q l m k q2 l2 m2 k2 - pr q l m k q l m k * pr q2 l2 m2 k2 q2 l2 m2 k2)))
def c_mirrored_round : Cp := fun ds R => ∃ (r s : R4) (n : Nat), ds = [.tuple [.int r.1, .int r.2.1, .int r.2.2.1, .int r.2.2.2], .tuple [.int s.1, .int s.2.1, .int s.2.2.1, .int s.2.2.2]] ∧ (Rd n r ∧ Rd n s ∧ n ≤ 700) ∧ R (rwR (nf (mrR r s)))
def c_is_real : Cp := fun ds R => ∃ r : R4, ds = [rwR r] ∧ SR 8000 r ∧ R (.bool (decide (0 < dsc r)))
def knd (v : Int) : Str := if v = 1 then Str.ofString "about" else if v = 0 then Str.ofString "touching" else Str.ofString "through"
def c_pencil_kind : Cp := fun ds R => ∃ (r s : R4) (n : Nat), ds = [rwR r, rwR s] ∧ Rd n r ∧ Rd n s ∧ n ≤ 2000 ∧ r ≠ s ∧ R (.str (knd (sg (prR r s * prR r s - dsc r * dsc s))))
def c_count_exchanging : Cp := fun ds R => ∃ (r s : R4) (n : Nat), ds = [rwR r, rwR s] ∧ Rd n r ∧ Rd n s ∧ n ≤ 2000 ∧ r ≠ s ∧ R (.int (if sg (prR r s * prR r s - dsc r * dsc s) = -1 then 2 else 1))
def exl (r s : R4) : List R4 := match wr (dsc r * dsc s) with
  | none => []
  | some g => srR (([mxR (dsc s) r g s, mxR (dsc s) r (-g) s].filter fun x => decide (0 < dsc x)).map nf)
def c_exchanging : Cp := fun ds R => ∃ (r s : R4) (n : Nat), ds = [rwR r, rwR s] ∧ Rd n r ∧ Rd n s ∧ n ≤ 500 ∧ r ≠ s ∧ R (.tuple ((exl r s).map rwR))
def c_law_well : List PyData → (List PyData → Prop) → Prop := fun ds R => ∃ (ns : List Int) (k : Int), ds = [.list (ns.map .int), .int k] ∧ ns.length ≤ 63 ∧ 0 ≤ k ∧ k ≤ 2 ∧ ∀ r s, 0 ≤ r → 0 ≤ s → s < 2147483549 → R [.int r, .int s, .int 0]
def c_law_dip : Ct := fun ts ds R => ∃ b m, Tk b ts ∧ b < 1000000000000 ∧ ds = [.int m] ∧ 0 < m ∧ m < 1000000000 ∧ ∀ k ts', 0 ≤ k → k < m → Tk (b + 1) ts' → R (.int k) ts'
def c_law_of : Ct := fun ts ds R => ∃ b xs, Tk b ts ∧ b < 1000000000000 ∧ (ds = [.tuple xs] ∨ ds = [.list xs]) ∧ 0 < xs.length ∧ xs.length ≤ 1000 ∧ ∀ x ts', x ∈ xs → Tk (b + 1) ts' → R x ts'
def c_law_whole : Ct := fun ts ds R => ∃ b w, Tk b ts ∧ b < 900000000000 ∧ ds = [.int w] ∧ 0 < w ∧ w ≤ 1000000 ∧ ∀ x ts', -(2 * w) ≤ x → x ≤ 2 * w → Tk (b + 2) ts' → R (.int x) ts'
def c_law_rounds : Cp := fun ds R => ∃ ns : List Int, ds = [.list (ns.map .int)] ∧ ns.length ≤ 63 ∧ ∀ k, 2 ≤ k → k ≤ 3 → R (.int k)
def c_law_gcd : Cp := fun ds R => ∃ a b : Int, ds = [.int a, .int b] ∧ R (.int (Int.gcd a b : Nat))
def c_law_cut : Cp := fun ds R => ∃ us : List Int, ds = [tup us] ∧ us.length ≤ 1000 ∧ (∀ u ∈ us, Sz 8100 u) ∧ gcI us ≠ 0 ∧ R (tup (rd us))
def c_law_form : Cp := fun ds R => ∃ us : List Int, ds = [tup us] ∧ us.length ≤ 1000 ∧ (∀ u ∈ us, Sz 8100 u) ∧ gcI us ≠ 0 ∧ R (tup (fm us))
def c_law_root : Cp := fun ds R => ∃ n : Int, ds = [.int n] ∧ 0 ≤ n ∧ Sz 4000 n ∧ R (.int (rt n))
def c_law_times : Cp := fun ds R => ∃ a b c d, ds = [cp a b, cp c d] ∧ (Sm a ∧ Sm b ∧ Sm c ∧ Sm d) ∧ R (cp (a * c - b * d) (a * d + b * c))
def c_law_plus : Cp := fun ds R => ∃ a b c d, ds = [cp a b, cp c d] ∧ (Sm a ∧ Sm b ∧ Sm c ∧ Sm d) ∧ R (cp (a + c) (b + d))
def c_law_minus : Cp := fun ds R => ∃ p : G, ds = [cd p] ∧ R (cd (-p))
def c_law_conj : Cp := fun ds R => ∃ a b, ds = [cp a b] ∧ R (cp a (-b))
def c_law_norm : Cp := fun ds R => ∃ a b, ds = [cp a b] ∧ (Sm a ∧ Sm b) ∧ R (.int (a * a + b * b))
def c_law_scaled : Cp := fun ds R => ∃ (k : Int) (p : G), ds = [.int k, cd p] ∧ (Sm k ∧ Sm p.1 ∧ Sm p.2) ∧ R (cp (k * p.1) (k * p.2))
def c_law_over : Cp := fun ds R => ∃ (n : Nat) (x y c : G), ds = [cd x, cd y] ∧ x = gm y c ∧ y ≠ (0, 0) ∧ n ≤ 2000 ∧ (Sz n x.1 ∧ Sz n x.2 ∧ Sz n y.1 ∧ Sz n y.2) ∧ R (cd c)
def c_law_deep : Cp := fun ds R => ∃ (n : Nat) (x y : G), ds = [cd x, cd y] ∧ n ≤ 900 ∧ (Sz n x.1 ∧ Sz n x.2 ∧ Sz n y.1 ∧ Sz n y.2) ∧ ∀ h : G, GC [x, y] h → Sz n h.1 → Sz n h.2 → R (cd h)
def c_law_quarter : Cp := fun ds R => ∃ a b, ds = [cp a b] ∧ R (cd (qf a b))
def c_law_chart : Cp := fun ds R => ∃ (f : Int) (a b c d : G) (n : Nat), ds = [.int f, .list [cd a, cd b, cd c, cd d]] ∧ S4 n a b c d ∧ n ≤ 800 ∧ dtm a b c d ≠ (0, 0) ∧
  ∀ g x y z w : G, g ≠ (0, 0) → a = gm g x → b = gm g y → c = gm g z → d = gm g w → Fm (n + 1) x y z w → R (mp f x y z w)
def c_law_d : Cp := fun ds R => ∃ r : R4, ds = [rwR r] ∧ SR 4000 r ∧ R (.int (dsc r))
def c_law_j : Cp := fun ds R => ∃ r s : R4, ds = [rwR r, rwR s] ∧ SR 4000 r ∧ SR 4000 s ∧ R (.int (prR r s))
def c_law_mixed : Cp := fun ds R => ∃ (x y : Int) (r s : R4), ds = [.int x, rwR r, .int y, rwR s] ∧ (Sz 3000 x ∧ Sz 3000 y) ∧ SR 3000 r ∧ SR 3000 s ∧ R (rwR (mxR x r y s))
def c_law_row_back : Cp := fun ds R => ∃ (f : Int) (A : M4) (r : R4), ds = [mp4 f A, rwR r] ∧ (f = 0 ∨ f = 1) ∧ S44 3000 A ∧ SR 2000 r ∧ R (rwR (rlb f A r))
def c_law_round : Ct := fun ts ds R => ∃ b w, Tk b ts ∧ b < 700000000000 ∧ ds = [.int w] ∧ 0 < w ∧ w ≤ 1000000 ∧ ∀ (r : R4) ts', Rd 22 r → Tk (b + 12) ts' → R (rwR r) ts'
def c_law_four : Ct := fun ts ds R => ∃ b w, Tk b ts ∧ b < 700000000000 ∧ ds = [.int w] ∧ 0 < w ∧ w ≤ 1000000 ∧ ∀ (A : M4) ts', S44 22 A → A.dt ≠ 0 → Tk (b + 16) ts' → R (.list [cd A.a, cd A.b, cd A.c, cd A.d]) ts'
def c_law_map : Ct := fun ts ds R => ∃ b w, Tk b ts ∧ b < 600000000000 ∧ ds = [.int w] ∧ 0 < w ∧ w ≤ 1000000 ∧ ∀ (f : Int) (A : M4) ts', (f = 0 ∨ f = 1) → Fm4 23 A → Tk (b + 17) ts' → R (mp4 f A) ts'
def c_law_shared : Cp := fun ds R => ∃ (r s : R4) (n : Nat), ds = [rwR r, rwR s] ∧ SR n r ∧ SR n s ∧ n ≤ 1000 ∧ R (.int (1 - sg (prR r s * prR r s - dsc r * dsc s)))
def c_law_pair : Ct := fun ts ds R => ∃ b w, Tk b ts ∧ b < 450000000000 ∧ ds = [.int w] ∧ 0 < w ∧ w ≤ 1000000 ∧ ∀ (r s : R4) ts', Rd 80 r → Rd 80 s → r ≠ s → Tk (b + 60) ts' → R (.list [rwR r, rwR s]) ts'
def c_law_due : Cp := fun ds R => ∃ (r s : R4) (n : Nat), ds = [rwR r, rwR s] ∧ Rd n r ∧ Rd n s ∧ n ≤ 200 ∧ R (.tuple ((exl r s).map rwR))
def c_law_image : Cp := fun ds R => ∃ (r s : R4) (n m : Nat), ds = [rwR r, rwR s] ∧ Rd n r ∧ Rd m s ∧ n ≤ 900 ∧ m ≤ 900 ∧ R (rwR (nf (mrR r s)))
def c_law_told : Cp := fun ds R => ∃ (r s : R4), ds = [rwR r, rwR s] ∧ Rd 80 r ∧ Rd 80 s ∧ r ≠ s ∧ R (.bool true)
def c_law_right : Ct := fun ts ds R => ∃ b, Tk b ts ∧ b < 400000000000 ∧ ds = [] ∧ ∀ ts', R (.bool true) ts'
def c_law : Cp := fun ds R => ∃ ns : List Int, ds = [.list (ns.map .int)] ∧ ns.length ≤ 63 ∧ R (.bool true)
def w_is_whole : Ws := (wRet (dAnd (dIsa isInt (dVar 0)) (dNot (dIsa isBool (dVar 0)))))
theorem sem_is_whole : ∀ ds R, c_is_whole ds R → ds.length = 1 → w_is_whole (edP R) (ev0 0 ds) := by
  intro ds R h _
  obtain ⟨d, rfl, o, q⟩ := h
  refine okE_in o ?_
  cases d <;> exact q
def w_are_wholes : Ws := (wSeq (wIf (dOrT (dNotT (dTru (dIsa isTuple (dVar 0)))) (dTru (dOp fNe (dCal fLen (daC (dVar 0) daN)) (dVar 1)))) (wRet (dLit (.bool false))) wNx) (wRet (dCal fAll (daC (dLc [2] (diT (dVar 0)) (gN 2) dYes (dFn 1 c_is_whole (daC (dVar 2) daN))) daN))))
theorem sem_are_wholes : ∀ ds R, c_are_wholes ds R → ds.length = 2 → w_are_wholes (edP R) (ev0 1 ds) := by
  intro ds R h _
  obtain ⟨v, n, rfl, o, q⟩ := h
  refine okE_in (okv_x o) ?_
  cases v with
  | tuple xs =>
    obtain ⟨hl, hx⟩ := okv_t o
    refine ⟨trivial, Or.inr ⟨rfl, rfl⟩, trivial, ?_⟩
    have e := eqv_int (xs.length : Int) n
    by_cases z : (xs.length : Int) = n
    · have t : tru (.bool (!PyData.eqv (.int (xs.length : Int)) (.int n))) = false := by rw [e, decide_eq_true z]; rfl
      rw [t]
      refine lc_map (f := fun d => .bool (whole d)) rfl (by rw [List.length_nil, Nat.zero_add]; exact hl) (fun d hd R r => ⟨rfl, d, rfl, hx d hd, r⟩) ?_
      have a : (xs.map whole).all id = areW (.tuple xs) n := by
        show _ = (decide ((xs.length : Int) = n) && xs.all whole)
        rw [decide_eq_true z, Bool.true_and, List.all_map]
        rfl
      exact fAll_of (bools_map xs) (by rw [a]; exact q)
    · have t : tru (.bool (!PyData.eqv (.int (xs.length : Int)) (.int n))) = true := by rw [e, decide_eq_false z]; rfl
      rw [t]
      have a : areW (.tuple xs) n = false := by
        show (decide ((xs.length : Int) = n) && xs.all whole) = false
        rw [decide_eq_false z, Bool.false_and]
      rw [a] at q
      exact q
  | _ => exact ⟨trivial, q⟩
def w_common_of : Ws := (wSeq (wAsg (dLit (.int 0)) (gN 1)) (wSeq (wFor (diT (dVar 0)) (gN 2) (wAsg (dCal fGcd (daC (dVar 1) (daC (dVar 2) daN))) (gN 1))) (wRet (dVar 1))))
theorem sem_common_of : ∀ ds R, c_common_of ds R → ds.length = 1 → w_common_of (edP R) (ev0 2 ds) := by
  intro ds R h _
  obtain ⟨us, rfl, q⟩ := h
  refine foD_fold (fun s ev => ∃ o, ev = [some (.val (tup us)), some (.val (.int s)), o] ∧ ∀ t, o ≠ some (.own t)) (fun g u => (Int.gcd g u : Int)) (fun u s ev E' i nx => ?_) ⟨none, rfl, fun _ => by simp⟩ (fun ev i => ?_)
  · obtain ⟨o, rfl, ho⟩ := i
    have e : gN 2 (.int u) [some (.val (tup us)), some (.val (.int s)), o] = fun Q => Q [some (.val (tup us)), some (.val (.int s)), some (.val (.int u))] := by
      cases o with
      | none => rfl
      | some s => cases s with
        | val _ => rfl
        | own t => exact absurd rfl (ho t)
    rw [e]
    exact nx _ ⟨_, rfl, fun _ => by simp⟩
  · obtain ⟨o, rfl, ho⟩ := i
    exact q
def w_reduced : Ws := (wSeq (wAsg (dFn 1 c_common_of (daC (dVar 0) daN)) (gN 1)) (wRet (dCal fTuple (daC (dLc [2] (diT (dVar 0)) (gN 2) dYes (dOp fDiv (dVar 2) (dVar 1))) daN))))
def ovr (g : Int) : PyData → PyData
  | .int i => .int (i / g)
  | d => d
theorem ovr_map (us : List Int) : (us.map PyData.int).map (ovr (gcI us)) = (rd us).map .int := by
  unfold rd
  rw [List.map_map, List.map_map]
  rfl
theorem sem_reduced : ∀ ds R, c_reduced ds R → ds.length = 1 → w_reduced (edP R) (ev0 2 ds) := by
  intro ds R h _
  obtain ⟨us, rfl, hl, hs, hz, q⟩ := h
  refine ⟨rfl, us, rfl, ?_⟩
  refine lc_map (f := ovr (gcI us)) rfl (by rw [List.length_nil, Nat.zero_add, List.length_map]; exact hl) (fun d hd R r => ?_) ?_
  · obtain ⟨i, _, rfl⟩ := List.mem_map.mp hd
    exact ⟨gc_divC hs (by decide) hz i, r⟩
  · rw [ovr_map]
    exact q
def w_sign_of : Ws := (wSeq (wIf (dTru (dOp fGt (dVar 0) (dLit (.int 0)))) (wRet (dLit (.int 1))) wNx) (wRet (dIf (dTru (dOp fLt (dVar 0) (dLit (.int 0)))) (dU fNeg (dLit (.int 1))) (dLit (.int 0)))))
theorem sem_sign_of : ∀ ds R, c_sign_of ds R → ds.length = 1 → w_sign_of (edP R) (ev0 0 ds) := by
  intro ds R h _
  obtain ⟨n, rfl, g⟩ := h
  refine ⟨trivial, trivial, ?_⟩
  by_cases z : 0 < n
  · rw [if_pos z] at g
    exact ite_t (decide_eq_true z) g
  · rw [if_neg z] at g
    refine ite_f (decide_eq_false z) ?_
    refine ⟨trivial, trivial, ?_⟩
    by_cases y : n < 0
    · rw [if_pos y] at g
      exact ite_t (decide_eq_true y) g
    · rw [if_neg y] at g
      exact ite_f (decide_eq_false y) g
def w_whole_root : Ws := (wSeq (wAsg (dCal fIsqrt (daC (dVar 0) daN)) (gN 1)) (wRet (dIf (dTru (dOp fEq (dOp fMul (dVar 1) (dVar 1)) (dVar 0))) (dVar 1) (dLit .none))))
theorem sem_whole_root : ∀ ds R, c_whole_root ds R → ds.length = 1 → w_whole_root (edP R) (ev0 1 ds) := by
  intro ds R h _
  obtain ⟨n, rfl, h0, sn, q⟩ := h
  have sr : Sz 8000 (rt n) := rt_sz sn h0
  have lg := sn.log
  refine ⟨⟨h0, by omega⟩, ?_⟩
  have q' := q
  unfold wr at q'
  refine ⟨(mulC_of sr sr (by decide) : mulC (rt n) (rt n)), Or.inr ⟨rfl, rfl⟩, trivial, ?_⟩
  have e : tru (.bool (PyData.eqv (.int (rt n * rt n)) (.int n))) = decide (rt n * rt n = n) := by rw [eqv_int]; rfl
  by_cases z : rt n * rt n = n
  · rw [if_pos z] at q'
    exact ite_t (by rw [decide_eq_true z] at e; exact e) q'
  · rw [if_neg z] at q'
    exact ite_f (by rw [decide_eq_false z] at e; exact e) q'
abbrev r_paired_3 : Ws := (wRet (dOp fSub (dOp fCat (dOp fMul (dVar 3) (dVar 7)) (dOp fMul (dVar 4) (dVar 8))) (dOp fMul (dLit (.int 2)) (dOp fCat (dOp fMul (dVar 2) (dVar 9)) (dOp fMul (dVar 6) (dVar 5))))))
def w_paired : Ws := (wSeq (wAsg (dVar 0) (gT 4 (gsC (gN 2) (gsC (gN 3) (gsC (gN 4) (gsC (gN 5) gsN)))))) (wSeq (wAsg (dVar 1) (gT 4 (gsC (gN 6) (gsC (gN 7) (gsC (gN 8) (gsC (gN 9) gsN)))))) (wRet (dOp fSub (dOp fCat (dOp fMul (dVar 3) (dVar 7)) (dOp fMul (dVar 4) (dVar 8))) (dOp fMul (dLit (.int 2)) (dOp fCat (dOp fMul (dVar 2) (dVar 9)) (dOp fMul (dVar 6) (dVar 5))))))))
theorem sem_paired : ∀ ds R, c_paired ds R → ds.length = 2 → w_paired (edP R) (ev0 8 ds) := by
  intro ds R h _
  obtain ⟨q, l, m, k, q2, l2, m2, k2, rfl, ⟨s1, s2, s3, s4, s5, s6, s7, s8⟩, g⟩ := h
  refine ⟨rfl, rfl, ?_⟩
  show r_paired_3 (edP R) [some (.val (rw4 q l m k)), some (.val (rw4 q2 l2 m2 k2)), some (.val (.int q)), some (.val (.int l)), some (.val (.int m)), some (.val (.int k)), some (.val (.int q2)), some (.val (.int l2)), some (.val (.int m2)), some (.val (.int k2))]
  exact ⟨by walk_at "sz", by walk_at "sz", by walk_at "sz", by walk_at "sz", by walk_at "sz", trivial, g⟩
theorem paired_ok {r s : R4} {n m : Nat} {R : PyData → Prop} (hr : SR n r) (hs : SR m s) (h1 : n ≤ 20000) (h2 : m ≤ 20000) (q : R (.int (prR r s))) : c_paired [.tuple [.int r.1, .int r.2.1, .int r.2.2.1, .int r.2.2.2], .tuple [.int s.1, .int s.2.1, .int s.2.2.1, .int s.2.2.2]] R :=
  ⟨r.1, r.2.1, r.2.2.1, r.2.2.2, s.1, s.2.1, s.2.2.1, s.2.2.2, rfl, ⟨szUp hr.1 h1, szUp hr.2.1 h1, szUp hr.2.2.1 h1, szUp hr.2.2.2 h1, szUp hs.1 h2, szUp hs.2.1 h2, szUp hs.2.2.1 h2, szUp hs.2.2.2 h2⟩, q⟩
def w_is_row : Ws := (wRet (dAnd (dFn 2 c_are_wholes (daC (dVar 0) (daC (dLit (.int 4)) daN))) (dAnd (dOp fEq (dFn 1 c_common_of (daC (dVar 0) daN)) (dLit (.int 1))) (dOp fGt (dFn 2 c_paired (daC (dVar 0) (daC (dVar 0) daN))) (dLit (.int 0))))))
theorem areW_rw (q l m k : Int) : areW (rw4 q l m k) 4 = true := rfl
theorem sem_is_row : ∀ ds R, c_is_row ds R → ds.length = 1 → w_is_row (edP R) (ev0 0 ds) := by
  intro ds R h _
  obtain ⟨n, q, l, m, k, rfl, ⟨o, p, s1, s2, s3, s4⟩, ln, g⟩ := h
  have u1 : Sm q := szUp s1 (Nat.le_trans ln (by decide))
  have u2 : Sm l := szUp s2 (Nat.le_trans ln (by decide))
  have u3 : Sm m := szUp s3 (Nat.le_trans ln (by decide))
  have u4 : Sm k := szUp s4 (Nat.le_trans ln (by decide))
  refine ⟨rfl, rw4 q l m k, 4, rfl, rfl, ?_⟩
  rw [areW_rw]
  refine ite_t rfl ?_
  refine ⟨rfl, [q, l, m, k], rfl, Or.inr ⟨rfl, rfl⟩, ?_⟩
  rw [o, eqv_int]
  refine ite_t rfl ?_
  refine ⟨rfl, q, l, m, k, q, l, m, k, rfl, ⟨u1, u2, u3, u4, u1, u2, u3, u4⟩, trivial, ?_⟩
  exact rB (R := R) g (decide_eq_true p).symm
def w_is_round : Ws := (wRet (dAnd (dFn 1 c_is_row (daC (dVar 0) daN)) (dOp fGtQ (dVar 0) (dLit (.tuple [(.int 0), (.int 0), (.int 0), (.int 0)])))))
theorem sem_is_round : ∀ ds R, c_is_round ds R → ds.length = 1 → w_is_round (edP R) (ev0 0 ds) := by
  intro ds R h _
  obtain ⟨n, q, l, m, k, rfl, ⟨r, u⟩, ln, g⟩ := h
  refine ⟨rfl, n, q, l, m, k, rfl, r, ln, ?_⟩
  refine ite_t rfl ?_
  exact rB (R := R) g u.symm
def w_require_round : Ws := (wIf (dNotT (dTru (dFn 1 c_is_round (daC (dVar 0) daN)))) wNever wNx)
theorem sem_require_round : ∀ ds R, c_require_round ds R → ds.length = 1 → w_require_round (edP R) (ev0 0 ds) := by
  intro ds R h _
  obtain ⟨n, q, l, m, k, rfl, r, ln, g⟩ := h
  exact ⟨rfl, n, q, l, m, k, rfl, r, ln, trivial, g⟩
def w_require_both_rounds : Ws := (wSeq (wDrop (dFn 1 c_require_round (daC (dVar 0) daN))) (wDrop (dFn 1 c_require_round (daC (dVar 1) daN))))
theorem sem_require_both_rounds : ∀ ds R, c_require_both_rounds ds R → ds.length = 2 → w_require_both_rounds (edP R) (ev0 0 ds) := by
  intro ds R h _
  obtain ⟨n, q, l, m, k, q2, l2, m2, k2, rfl, ⟨r, r2⟩, ln, g⟩ := h
  exact ⟨rfl, n, q, l, m, k, rfl, r, ln, rfl, n, q2, l2, m2, k2, rfl, r2, ln, g⟩
def w_require_unlike_rounds : Ws := (wIf (dTru (dOp fEq (dVar 0) (dVar 1))) wNever wNx)
theorem sem_require_unlike_rounds : ∀ ds R, c_require_unlike_rounds ds R → ds.length = 2 → w_require_unlike_rounds (edP R) (ev0 0 ds) := by
  intro ds R h _
  obtain ⟨r, s, rfl, n, q⟩ := h
  refine ⟨Or.inr ⟨rfl, rfl⟩, trivial, ?_⟩
  have e : tru (.bool (PyData.eqv (rwR r) (rwR s))) = decide (r = s) := by rw [eqv_R]; rfl
  exact ite_f (by rw [decide_eq_false n] at e; exact e) q
def w_opposite : Ws := (wRet (dCal fTuple (daC (dLc [1] (diT (dVar 0)) (gN 1) dYes (dU fNeg (dVar 1))) daN)))
def ngo : PyData → PyData
  | .int i => .int (0 - i)
  | d => d
theorem ngo_map (us : List Int) : (us.map PyData.int).map ngo = (us.map (0 - ·)).map .int := by
  rw [List.map_map, List.map_map]
  rfl
theorem sem_opposite : ∀ ds R, c_opposite ds R → ds.length = 1 → w_opposite (edP R) (ev0 1 ds) := by
  intro ds R h _
  obtain ⟨us, rfl, hl, q⟩ := h
  refine lc_map (f := ngo) rfl (by rw [List.length_nil, Nat.zero_add, List.length_map]; exact hl) (fun d hd R r => ?_) ?_
  · obtain ⟨i, _, rfl⟩ := List.mem_map.mp hd
    have r : R (.int (0 - i)) _ := r
    rw [Int.zero_sub] at r
    exact r
  · rw [ngo_map]
    exact q
abbrev r_round_from_2 : Ws := (wRet (dIf (dTru (dOp fGtQ (dVar 1) (dLit (.tuple [(.int 0), (.int 0), (.int 0), (.int 0)])))) (dVar 1) (dFn 1 c_opposite (daC (dVar 1) daN))))
def w_round_from : Ws := (wSeq (wAsg (dFn 1 c_reduced (daC (dVar 0) daN)) (gN 1)) (wRet (dIf (dTru (dOp fGtQ (dVar 1) (dLit (.tuple [(.int 0), (.int 0), (.int 0), (.int 0)])))) (dVar 1) (dFn 1 c_opposite (daC (dVar 1) daN)))))
theorem sem_round_from : ∀ ds R, c_round_from ds R → ds.length = 1 → w_round_from (edP R) (ev0 1 ds) := by
  intro ds R h _
  obtain ⟨a, b, c, d, rfl, ⟨sa, sb, sc, sd⟩, hd, q⟩ := h
  obtain ⟨x, y, z, w, g, e, rw', _⟩ := rd4 sa sb sc sd hd
  refine ⟨rfl, [a, b, c, d], rfl, Nat.le_of_ble_eq_true rfl, all4 (szUp sa (by decide)) (szUp sb (by decide)) (szUp sc (by decide)) (szUp sd (by decide)), gc4_ne hd, ?_⟩
  unfold fm at q
  rw [e] at q ⊢
  show r_round_from_2 (edP R) [some (.val (rw4 a b c d)), some (.val (rw4 x y z w))]
  have u := posL4 (q := x) (l := y) (m := z) (k := w)
  by_cases p : posL [x, y, z, w] = true
  · rw [if_pos p] at q
    refine ⟨trivial, ?_⟩
    exact ite_t (u.trans p) q
  · rw [if_neg p] at q
    refine ⟨trivial, ?_⟩
    exact ite_f (u.trans (by simpa using p)) ⟨rfl, [x, y, z, w], rfl, Nat.le_of_ble_eq_true rfl, q⟩
def w_mixed : Ws := (wRet (dCal fTuple (daC (dLc [4, 5] (diZ (daC (dVar 0) (daC (dVar 2) daN))) (gT 2 (gsC (gN 4) (gsC (gN 5) gsN))) dYes (dOp fCat (dOp fMul (dVar 1) (dVar 4)) (dOp fMul (dVar 3) (dVar 5)))) daN)))
@[irreducible] noncomputable def q_mixed_1 : Ws := hid (wRet (dCal fTuple (daC (dLc [4, 5] (diZ (daC (dVar 0) (daC (dVar 2) daN))) (gT 2 (gsC (gN 4) (gsC (gN 5) gsN))) dYes (dOp fCat (dOp fMul (dVar 1) (dVar 4)) (dOp fMul (dVar 3) (dVar 5)))) daN)))
theorem e_mixed : w_mixed = q_mixed_1 := by delta q_mixed_1; simp only [hid_eq]; with_unfolding_all rfl
def mul2 (x y : Int) : PyData → PyData → PyData
  | .int a, .int b => .int (x * a + y * b)
  | d, _ => d
theorem sem_mixed : ∀ ds R, c_mixed ds R → ds.length = 4 → w_mixed (edP R) (ev0 2 ds) := by
  intro ds R h _
  obtain ⟨x, y, r, s, rfl, ⟨sx, sy, ⟨_, _, _, _⟩, ⟨_, _, _, _⟩⟩, g⟩ := h
  rw [e_mixed]; (show q_mixed_1 _ [_, _, _, _, _, _]; delta q_mixed_1; refine hid_of ?_)
  have one : ∀ (a b : Int) (R' : PyData → Ev → Prop) (d1 d2 : PyData), Sz 5000 a → Sz 5000 b → R' (mul2 x y (.int a) (.int b)) [some (.val d1), some (.val (.int x)), some (.val d2), some (.val (.int y)), some (.val (.int a)), some (.val (.int b))] → dOp fCat (dOp fMul (dVar 1) (dVar 4)) (dOp fMul (dVar 3) (dVar 5)) [some (.val d1), some (.val (.int x)), some (.val d2), some (.val (.int y)), some (.val (.int a)), some (.val (.int b))] R' := fun a b R' d1 d2 _ _ r => ⟨by walk_at "sz", by walk_at "sz", r⟩
  refine lc_map2 (f := mul2 x y) (ps := [(.int r.1, .int s.1), (.int r.2.1, .int s.2.1), (.int r.2.2.1, .int s.2.2.1), (.int r.2.2.2, .int s.2.2.2)]) (by decide) rfl rfl rfl ?_ (fun p m R' r' => ?_) ?_
  · exact Nat.le_of_ble_eq_true rfl
  · simp only [List.mem_cons, List.not_mem_nil, or_false] at m
    rcases m with rfl | rfl | rfl | rfl <;> exact one _ _ _ _ _ inferInstance inferInstance r'
  exact g
theorem mixed_ok {x y : Int} {r s : R4} {a b n m : Nat} {R : PyData → Prop} (sx : Sz a x) (sy : Sz b y) (hr : SR n r) (hs : SR m s) (h1 : a ≤ 5000) (h2 : b ≤ 5000) (h3 : n ≤ 5000) (h4 : m ≤ 5000) (q : R (rw4 (mxR x r y s).1 (mxR x r y s).2.1 (mxR x r y s).2.2.1 (mxR x r y s).2.2.2)) : c_mixed [.tuple [.int r.1, .int r.2.1, .int r.2.2.1, .int r.2.2.2], .int x, .tuple [.int s.1, .int s.2.1, .int s.2.2.1, .int s.2.2.2], .int y] R := ⟨x, y, r, s, rfl, ⟨szUp sx h1, szUp sy h2, hr.up h3, hs.up h4⟩, q⟩
abbrev r_crossing_parts_2 : Ws := (wRet (dTup (daC (dOp fMul (dVar 2) (dVar 2)) (daC (dOp fMul (dFn 2 c_paired (daC (dVar 0) (daC (dVar 0) daN))) (dFn 2 c_paired (daC (dVar 1) (daC (dVar 1) daN)))) daN))))
def w_crossing_parts : Ws := (wSeq (wAsg (dFn 2 c_paired (daC (dVar 0) (daC (dVar 1) daN))) (gN 2)) (wRet (dTup (daC (dOp fMul (dVar 2) (dVar 2)) (daC (dOp fMul (dFn 2 c_paired (daC (dVar 0) (daC (dVar 0) daN))) (dFn 2 c_paired (daC (dVar 1) (daC (dVar 1) daN)))) daN)))))
theorem sem_crossing_parts : ∀ ds R, c_crossing_parts ds R → ds.length = 2 → w_crossing_parts (edP R) (ev0 1 ds) := by
  intro ds R h _
  obtain ⟨q, l, m, k, q2, l2, m2, k2, rfl, ⟨⟨⟨one, pos, x1, x2, x3, x4⟩, up⟩, ⟨⟨one2, pos2, y1, y2, y3, y4⟩, up2⟩⟩, g⟩ := h
  have u := fun {x : Int} (s : Sz 2000 x) => (szUp s (by decide) : Sm x)
  refine ⟨rfl, q, l, m, k, q2, l2, m2, k2, rfl, ⟨u x1, u x2, u x3, u x4, u y1, u y2, u y3, u y4⟩, ?_⟩
  show r_crossing_parts_2 (edP R) [some (.val (rw4 q l m k)), some (.val (rw4 q2 l2 m2 k2)), some (.val (.int (pr q l m k q2 l2 m2 k2)))]
  refine ⟨by walk_at "sz", rfl, q, l, m, k, q, l, m, k, rfl, ⟨u x1, u x2, u x3, u x4, u x1, u x2, u x3, u x4⟩, rfl, q2, l2, m2, k2, q2, l2, m2, k2, rfl, ⟨u y1, u y2, u y3, u y4, u y1, u y2, u y3, u y4⟩, ?_⟩
  refine (show mulC (pr q l m k q l m k) (pr q2 l2 m2 k2 q2 l2 m2 k2) ∧ _ from ⟨by walk_at "sz", ?_⟩)
  exact ⟨Nat.le_of_ble_eq_true rfl, g⟩
def w_shared : Ws := (wSeq (wDrop (dFn 2 c_require_both_rounds (daC (dVar 0) (daC (dVar 1) daN)))) (wSeq (wIf (dTru (dOp fEq (dVar 0) (dVar 1))) (wRet (dLit .none)) wNx) (wSeq (wAsg (dFn 2 c_crossing_parts (daC (dVar 0) (daC (dVar 1) daN))) (gT 2 (gsC (gN 2) (gsC (gN 3) gsN)))) (wRet (dOp fSub (dLit (.int 1)) (dFn 1 c_sign_of (daC (dOp fSub (dVar 2) (dVar 3)) daN)))))))
theorem sem_shared : ∀ ds R, c_shared ds R → ds.length = 2 → w_shared (edP R) (ev0 2 ds) := by
  intro ds R h _
  obtain ⟨q, l, m, k, q2, l2, m2, k2, rfl, ⟨r1, r2⟩, g⟩ := h
  refine ⟨rfl, 2000, q, l, m, k, q2, l2, m2, k2, rfl, ⟨r1, r2⟩, by decide, ?_⟩
  refine ⟨Or.inr ⟨rfl, rfl⟩, trivial, ?_⟩
  refine ite_b (fun e => ?_) (fun e => ?_)
  · have e : PyData.eqv (rw4 q l m k) (rw4 q2 l2 m2 k2) = true := e
    rw [if_pos e] at g
    exact g
  · have e : PyData.eqv (rw4 q l m k) (rw4 q2 l2 m2 k2) = false := e
    rw [if_neg (by rw [e]; decide)] at g
    refine ⟨rfl, q, l, m, k, q2, l2, m2, k2, rfl, ⟨r1, r2⟩, ?_⟩
    exact ⟨rfl, trivial, rfl, _, rfl, trivial, g⟩
theorem shared_ok {r s : R4} {n : Nat} {R : PyData → Prop} (h : Rd n r) (h' : Rd n s) (hn : n ≤ 2000) {d : PyData} (e : shD r s = d) (q : R d) : c_shared [rw4 r.1 r.2.1 r.2.2.1 r.2.2.2, rw4 s.1 s.2.1 s.2.2.1 s.2.2.2] R :=
  ⟨r.1, r.2.1, r.2.2.1, r.2.2.2, s.1, s.2.1, s.2.2.1, s.2.2.2, rfl, ⟨(h.up' hn).rn, (h'.up' hn).rn⟩, by
    rw [eqv_R]
    subst e
    unfold shD at q
    by_cases z : r = s
    · rw [if_pos z] at q; rw [if_pos (decide_eq_true z)]; exact q
    · rw [if_neg z] at q; rw [if_neg (by rw [decide_eq_false z]; decide)]; exact q⟩
def w_mirrored_round : Ws := (wSeq (wDrop (dFn 2 c_require_both_rounds (daC (dVar 0) (daC (dVar 1) daN)))) (wRet (dFn 1 c_round_from (daC (dFn 4 c_mixed (daC (dVar 1) (daC (dFn 2 c_paired (daC (dVar 0) (daC (dVar 0) daN))) (daC (dVar 0) (daC (dOp fMul (dU fNeg (dLit (.int 2))) (dFn 2 c_paired (daC (dVar 0) (daC (dVar 1) daN)))) daN))))) daN))))
@[irreducible] noncomputable def q_mirrored_round_2 : Ws := hid (wRet (dFn 1 c_round_from (daC (dFn 4 c_mixed (daC (dVar 1) (daC (dFn 2 c_paired (daC (dVar 0) (daC (dVar 0) daN))) (daC (dVar 0) (daC (dOp fMul (dU fNeg (dLit (.int 2))) (dFn 2 c_paired (daC (dVar 0) (daC (dVar 1) daN)))) daN))))) daN)))
@[irreducible] noncomputable def q_mirrored_round_1 : Ws := hid (wSeq (wDrop (dFn 2 c_require_both_rounds (daC (dVar 0) (daC (dVar 1) daN)))) q_mirrored_round_2)
theorem e_mirrored_round : w_mirrored_round = q_mirrored_round_1 := by delta q_mirrored_round_1 q_mirrored_round_2; simp only [hid_eq]; with_unfolding_all rfl
theorem sem_mirrored_round : ∀ ds R, c_mirrored_round ds R → ds.length = 2 → w_mirrored_round (edP R) (ev0 0 ds) := by
  intro ds R h _
  obtain ⟨r, s, n, rfl, ⟨h1, h2, hn⟩, g⟩ := h
  have j1 : Sz (2 * n + 8) (prR r r) := szUp (prR_sz h1.sr h1.sr) (by omega)
  have j2 := prR_sz h1.sr h2.sr
  have t2 : Sz 2 (-2 : Int) := ⟨by decide⟩
  have j3 : Sz (2 * n + 8) (-2 * prR r s) := szUp (inferInstance : Sz _ (-2 * prR r s)) (by omega)
  have e : mxR (prR r r) s (-2 * prR r s) r = mrR r s := by rw [dsc_pr]; rfl
  have sw := mxR_sz j1 j3 h2.sr h1.sr
  have d := mrR_pos h1.pos h2.pos
  rw [e] at sw
  rw [e_mirrored_round]; (show q_mirrored_round_1 _ [_, _]; delta q_mirrored_round_1; refine hid_of ?_)
  refine ⟨rfl, n, r.1, r.2.1, r.2.2.1, r.2.2.2, s.1, s.2.1, s.2.2.1, s.2.2.2, rfl, ⟨h1.rn, h2.rn⟩, by omega, ?_⟩
  (show q_mirrored_round_2 _ [_, _]; delta q_mirrored_round_2; refine hid_of ?_)
  refine ⟨rfl, paired_ok h1.sr h1.sr (by omega) (by omega) ⟨rfl, paired_ok h1.sr h2.sr (by omega) (by omega) ⟨mulC_of t2 j2 (by omega), rfl, mixed_ok j1 j3 h2.sr h1.sr (by omega) (by omega) (by omega) (by omega) ?_⟩⟩⟩
  rw [e]
  refine ⟨rfl, (mrR r s).1, (mrR r s).2.1, (mrR r s).2.2.1, (mrR r s).2.2.2, rfl, sw.up (by omega), d, ?_⟩
  show R (tup (fmR (mrR r s)))
  rw [fmR_nf]
  exact g
theorem mround_ok {r s w : R4} {n : Nat} {R : PyData → Prop} (h1 : Rd n r) (h2 : Rd n s) (hn : n ≤ 700) (e : nf (mrR r s) = w) (q : R (rwR w)) : c_mirrored_round [.tuple [.int r.1, .int r.2.1, .int r.2.2.1, .int r.2.2.2], .tuple [.int s.1, .int s.2.1, .int s.2.2.1, .int s.2.2.2]] R := ⟨r, s, n, rfl, ⟨h1, h2, hn⟩, by rw [e]; exact q⟩
def w_is_real : Ws := (wRet (dOp fGt (dFn 2 c_paired (daC (dVar 0) (daC (dVar 0) daN))) (dLit (.int 0))))
theorem sem_is_real : ∀ ds R, c_is_real ds R → ds.length = 1 → w_is_real (edP R) (ev0 0 ds) := by
  intro ds R h _
  obtain ⟨r, rfl, s, q⟩ := h
  rw [← dsc_pr] at q
  exact ⟨rfl, paired_ok s s (by decide) (by decide) ⟨trivial, q⟩⟩
theorem real_ok {r : R4} {R : PyData → Prop} (s : SR 8000 r) (q : R (.bool (decide (0 < dsc r)))) : c_is_real [rwR r] R := ⟨r, rfl, s, q⟩
def w_pencil_kind : Ws := (wSeq (wDrop (dFn 2 c_require_both_rounds (daC (dVar 0) (daC (dVar 1) daN)))) (wSeq (wDrop (dFn 2 c_require_unlike_rounds (daC (dVar 0) (daC (dVar 1) daN)))) (wRet (dOp fIx (dLit (.tuple [(.str (PySem.Str.ofString "about")), (.str (PySem.Str.ofString "touching")), (.str (PySem.Str.ofString "through"))])) (dFn 2 c_shared (daC (dVar 0) (daC (dVar 1) daN)))))))
@[irreducible] noncomputable def q_pencil_kind_3 : Ws := hid (wRet (dOp fIx (dLit (.tuple [(.str (PySem.Str.ofString "about")), (.str (PySem.Str.ofString "touching")), (.str (PySem.Str.ofString "through"))])) (dFn 2 c_shared (daC (dVar 0) (daC (dVar 1) daN)))))
@[irreducible] noncomputable def q_pencil_kind_2 : Ws := hid (wSeq (wDrop (dFn 2 c_require_unlike_rounds (daC (dVar 0) (daC (dVar 1) daN)))) q_pencil_kind_3)
@[irreducible] noncomputable def q_pencil_kind_1 : Ws := hid (wSeq (wDrop (dFn 2 c_require_both_rounds (daC (dVar 0) (daC (dVar 1) daN)))) q_pencil_kind_2)
theorem e_pencil_kind : w_pencil_kind = q_pencil_kind_1 := by delta q_pencil_kind_1 q_pencil_kind_2 q_pencil_kind_3; simp only [hid_eq]; with_unfolding_all rfl
theorem sg3 (v : Int) : sg v = 1 ∨ sg v = 0 ∨ sg v = -1 := by
  unfold sg
  by_cases h : 0 < v
  · rw [if_pos h]; exact .inl rfl
  · rw [if_neg h]
    by_cases g : v < 0
    · rw [if_pos g]; exact .inr (.inr rfl)
    · rw [if_neg g]; exact .inr (.inl rfl)
theorem sem_pencil_kind : ∀ ds R, c_pencil_kind ds R → ds.length = 2 → w_pencil_kind (edP R) (ev0 0 ds) := by
  intro ds R h _
  obtain ⟨r, s, n, rfl, h1, h2, hn, ne, q⟩ := h
  rw [e_pencil_kind]; (show q_pencil_kind_1 _ [_, _]; delta q_pencil_kind_1; refine hid_of ?_)
  refine ⟨rfl, n, r.1, r.2.1, r.2.2.1, r.2.2.2, s.1, s.2.1, s.2.2.1, s.2.2.2, rfl, ⟨h1.rn, h2.rn⟩, by omega, ?_⟩
  (show q_pencil_kind_2 _ [_, _]; delta q_pencil_kind_2; refine hid_of ?_)
  refine ⟨rfl, r, s, rfl, ne, ?_⟩
  (show q_pencil_kind_3 _ [_, _]; delta q_pencil_kind_3; refine hid_of ?_)
  have e : shD r s = .int (1 - sg (prR r s * prR r s - dsc r * dsc s)) := by unfold shD; rw [if_neg ne, dsc_pr, dsc_pr]
  refine ⟨rfl, shared_ok h1 h2 hn e ?_⟩
  rcases sg3 (prR r s * prR r s - dsc r * dsc s) with z | z | z <;> rw [z] at q ⊢ <;> exact fIx_tup rfl q
theorem pencil_ok {r s : R4} {n : Nat} {v : Int} {R : PyData → Prop} (h1 : Rd n r) (h2 : Rd n s) (hn : n ≤ 2000) (ne : r ≠ s) (e : sg (prR r s * prR r s - dsc r * dsc s) = v) (q : R (.str (knd v))) : c_pencil_kind [rwR r, rwR s] R := ⟨r, s, n, rfl, h1, h2, hn, ne, by rw [e]; exact q⟩
def w_count_exchanging : Ws := (wRet (dIf (dTru (dOp fEq (dFn 2 c_pencil_kind (daC (dVar 0) (daC (dVar 1) daN))) (dLit (.str (PySem.Str.ofString "through"))))) (dLit (.int 2)) (dLit (.int 1))))
theorem sem_count_exchanging : ∀ ds R, c_count_exchanging ds R → ds.length = 2 → w_count_exchanging (edP R) (ev0 0 ds) := by
  intro ds R h _
  obtain ⟨r, s, n, rfl, h1, h2, hn, ne, q⟩ := h
  refine ⟨rfl, pencil_ok h1 h2 hn ne rfl ?_⟩
  refine ⟨Or.inl rfl, trivial, ?_⟩
  rw [eqv_str]
  rcases sg3 (prR r s * prR r s - dsc r * dsc s) with z | z | z <;> rw [z] at q ⊢
  · exact ite_f (by decide +kernel) q
  · exact ite_f (by decide +kernel) q
  · exact ite_t (by decide +kernel) q
theorem count_ok {r s : R4} {n : Nat} {v : Int} {R : PyData → Prop} (h1 : Rd n r) (h2 : Rd n s) (hn : n ≤ 2000) (ne : r ≠ s) (e : (if sg (prR r s * prR r s - dsc r * dsc s) = -1 then (2 : Int) else 1) = v) (q : R (.int v)) : c_count_exchanging [rwR r, rwR s] R := ⟨r, s, n, rfl, h1, h2, hn, ne, by rw [e]; exact q⟩
def w_exchanging : Ws := (wSeq (wDrop (dFn 2 c_require_both_rounds (daC (dVar 0) (daC (dVar 1) daN)))) (wSeq (wDrop (dFn 2 c_require_unlike_rounds (daC (dVar 0) (daC (dVar 1) daN)))) (wSeq (wAsg (dFn 2 c_paired (daC (dVar 1) (daC (dVar 1) daN))) (gN 2)) (wSeq (wAsg (dFn 1 c_whole_root (daC (dOp fMul (dFn 2 c_paired (daC (dVar 0) (daC (dVar 0) daN))) (dVar 2)) daN)) (gN 3)) (wSeq (wIf (dTru (dOp fIs (dVar 3) (dLit .none))) (wRet (dTup daN)) wNx) (wSeq (wAsg (dLst (daC (dFn 4 c_mixed (daC (dVar 0) (daC (dVar 2) (daC (dVar 1) (daC (dVar 3) daN))))) (daC (dFn 4 c_mixed (daC (dVar 0) (daC (dVar 2) (daC (dVar 1) (daC (dU fNeg (dVar 3)) daN))))) daN))) (gN 4)) (wRet (dCal fTuple (daC (dCal fSortR (daC (dLc [5] (diL (dVar 4)) (gN 5) (dTru (dFn 1 c_is_real (daC (dVar 5) daN))) (dFn 1 c_round_from (daC (dVar 5) daN))) daN)) daN)))))))))
@[irreducible] noncomputable def q_exchanging_6 : Ws := hid (wRet (dTup daN))
@[irreducible] noncomputable def q_exchanging_8 : Ws := hid (wRet (dCal fTuple (daC (dCal fSortR (daC (dLc [5] (diL (dVar 4)) (gN 5) (dTru (dFn 1 c_is_real (daC (dVar 5) daN))) (dFn 1 c_round_from (daC (dVar 5) daN))) daN)) daN)))
@[irreducible] noncomputable def q_exchanging_7 : Ws := hid (wSeq (wAsg (dLst (daC (dFn 4 c_mixed (daC (dVar 0) (daC (dVar 2) (daC (dVar 1) (daC (dVar 3) daN))))) (daC (dFn 4 c_mixed (daC (dVar 0) (daC (dVar 2) (daC (dVar 1) (daC (dU fNeg (dVar 3)) daN))))) daN))) (gN 4)) q_exchanging_8)
@[irreducible] noncomputable def q_exchanging_5 : Ws := hid (wSeq (wIf (dTru (dOp fIs (dVar 3) (dLit .none))) q_exchanging_6 wNx) q_exchanging_7)
@[irreducible] noncomputable def q_exchanging_4 : Ws := hid (wSeq (wAsg (dFn 1 c_whole_root (daC (dOp fMul (dFn 2 c_paired (daC (dVar 0) (daC (dVar 0) daN))) (dVar 2)) daN)) (gN 3)) q_exchanging_5)
@[irreducible] noncomputable def q_exchanging_3 : Ws := hid (wSeq (wAsg (dFn 2 c_paired (daC (dVar 1) (daC (dVar 1) daN))) (gN 2)) q_exchanging_4)
@[irreducible] noncomputable def q_exchanging_2 : Ws := hid (wSeq (wDrop (dFn 2 c_require_unlike_rounds (daC (dVar 0) (daC (dVar 1) daN)))) q_exchanging_3)
@[irreducible] noncomputable def q_exchanging_1 : Ws := hid (wSeq (wDrop (dFn 2 c_require_both_rounds (daC (dVar 0) (daC (dVar 1) daN)))) q_exchanging_2)
theorem e_exchanging : w_exchanging = q_exchanging_1 := by delta q_exchanging_1 q_exchanging_2 q_exchanging_3 q_exchanging_4 q_exchanging_5 q_exchanging_7 q_exchanging_8 q_exchanging_6; simp only [hid_eq]; with_unfolding_all rfl
theorem sem_exchanging : ∀ ds R, c_exchanging ds R → ds.length = 2 → w_exchanging (edP R) (ev0 4 ds) := by
  intro ds R h _
  obtain ⟨r, s, n, rfl, h1, h2, hn, ne, q⟩ := h
  have d1 : Sz 1010 (dsc r) := by rw [← dsc_pr]; exact szUp (prR_sz2 h1.sr h1.sr) (by omega)
  have d2 : Sz 1010 (dsc s) := by rw [← dsc_pr]; exact szUp (prR_sz2 h2.sr h2.sr) (by omega)
  have dd : Sz 2021 (dsc r * dsc s) := szUp (inferInstance : Sz _ (dsc r * dsc s)) (by decide)
  have nn : 0 ≤ dsc r * dsc s := Int.le_of_lt (Int.mul_pos h1.pos h2.pos)
  rw [e_exchanging]; (show q_exchanging_1 _ [_, _, _, _, _, _]; delta q_exchanging_1; refine hid_of ?_)
  refine ⟨rfl, n, r.1, r.2.1, r.2.2.1, r.2.2.2, s.1, s.2.1, s.2.2.1, s.2.2.2, rfl, ⟨h1.rn, h2.rn⟩, by omega, ?_⟩
  (show q_exchanging_2 _ [_, _, _, _, _, _]; delta q_exchanging_2; refine hid_of ?_)
  refine ⟨rfl, r, s, rfl, ne, ?_⟩
  (show q_exchanging_3 _ [_, _, _, _, _, _]; delta q_exchanging_3; refine hid_of ?_)
  refine ⟨rfl, paired_ok h2.sr h2.sr (by omega) (by omega) ?_⟩
  rw [dsc_pr]
  (show q_exchanging_4 _ [_, _, _, _, _, _]; delta q_exchanging_4; refine hid_of ?_)
  refine ⟨rfl, paired_ok h1.sr h1.sr (by omega) (by omega) ?_⟩
  rw [dsc_pr]
  refine ⟨by walk_at "sz", rfl, dsc r * dsc s, rfl, nn, szUp dd (by decide), ?_⟩
  have q' := q
  unfold exl at q'
  cases e : wr (dsc r * dsc s) with
  | none =>
    rw [e] at q'
    (show q_exchanging_5 _ [_, _, _, _, _, _]; delta q_exchanging_5; refine hid_of ?_)
    refine ⟨trivial, ite_t rfl ?_⟩
    (show q_exchanging_6 _ [_, _, _, _, _, _]; delta q_exchanging_6; refine hid_of ?_)
    exact ⟨Nat.le_of_ble_eq_true rfl, q'⟩
  | some g =>
    rw [e] at q'
    have sg' : Sz 2021 g := wr_sz dd nn e
    have sng : Sz 2021 (-g) := ngS sg'
    (show q_exchanging_5 _ [_, _, _, _, _, _]; delta q_exchanging_5; refine hid_of ?_)
    refine ⟨trivial, ite_f rfl ?_⟩
    (show q_exchanging_7 _ [_, _, _, _, _, _]; delta q_exchanging_7; refine hid_of ?_)
    refine ⟨rfl, mixed_ok d2 sg' h1.sr h2.sr (by decide) (by decide) (by omega) (by omega) ?_⟩
    refine ⟨rfl, mixed_ok d2 sng h1.sr h2.sr (by decide) (by decide) (by omega) (by omega) ?_⟩
    refine ⟨Nat.le_of_ble_eq_true rfl, ?_⟩
    have m1 : SR 2522 (mxR (dsc s) r g s) := (mxR_sz (szUp d2 (by decide)) sg' (h1.sr.up hn) (h2.sr.up hn)).up (by decide)
    have m2 : SR 2522 (mxR (dsc s) r (-g) s) := (mxR_sz (szUp d2 (by decide)) sng (h1.sr.up hn) (h2.sr.up hn)).up (by decide)
    (show q_exchanging_8 _ [_, _, _, _, _, _]; delta q_exchanging_8; refine hid_of ?_)
    have hm : ∀ x ∈ [mxR (dsc s) r g s, mxR (dsc s) r (-g) s], SR 2522 x := fun x hx => by
      simp only [List.mem_cons, List.not_mem_nil, or_false] at hx
      rcases hx with rfl | rfl
      · exact m1
      · exact m2
    refine lc_keepA (d := rwR) (p := fun x => decide (0 < dsc x)) (f := fun x => rwR (nf x)) (xs := [mxR (dsc s) r g s, mxR (dsc s) r (-g) s]) rfl rfl (Nat.le_of_ble_eq_true rfl) (fun x hx R q => ?_) (fun x hx px R q => ?_) ?_
    · exact ⟨rfl, real_ok ((hm x hx).up (by decide)) ⟨trivial, q⟩⟩
    · have dx : 0 < dsc x := of_decide_eq_true px
      obtain ⟨z1, z2, z3, z4⟩ := (hm x hx).up (show 2522 ≤ 8000 by decide)
      refine ⟨rfl, x.1, x.2.1, x.2.2.1, x.2.2.2, rfl, ⟨z1, z2, z3, z4⟩, dx, ?_⟩
      show R (tup (fmR x)) _
      rw [fmR_nf]
      exact q
    refine ⟨([mxR (dsc s) r g s, mxR (dsc s) r (-g) s].filter fun x => decide (0 < dsc x)).map nf, by rw [List.nil_append, List.map_map]; rfl, ?_, q'⟩
    rw [List.length_map]
    exact Nat.le_trans (List.length_filter_le ..) (Nat.le_of_ble_eq_true rfl)
theorem mx_rel {r s : R4} {g : Int} (e : g * g = dsc r * dsc s) : smR g (mxR (dsc s) r g s) = smR (dsc s) (mxR g r (dsc r) s) := by
  generalize dsc r = a at *
  generalize dsc s = b at *
  simp only [smR, mxR]
  refine Prod.ext ?_ (Prod.ext ?_ (Prod.ext ?_ ?_)) <;> dsimp only <;> grind
theorem mx_rel2 {r s : R4} {g : Int} (e : g * g = dsc r * dsc s) : smR g (mxR (dsc s) r (-g) s) = smR (dsc s) (mxR g r (0 - dsc r) s) := by
  generalize dsc r = a at *
  generalize dsc s = b at *
  simp only [smR, mxR]
  refine Prod.ext ?_ (Prod.ext ?_ (Prod.ext ?_ ?_)) <;> dsimp only <;> grind
theorem mx_rel3 {r s : R4} {g : Int} (e : g * g = dsc r * dsc s) : smR g (mxR (dsc r) s g r) = smR (dsc r) (mxR (dsc s) r g s) := by
  generalize dsc r = a at *
  generalize dsc s = b at *
  simp only [smR, mxR]
  refine Prod.ext ?_ (Prod.ext ?_ (Prod.ext ?_ ?_)) <;> dsimp only <;> grind
theorem mx_rel4 {r s : R4} {g : Int} (e : g * g = dsc r * dsc s) : smR g (mxR (dsc r) s (-g) r) = smR (-dsc r) (mxR (dsc s) r (-g) s) := by
  generalize dsc r = a at *
  generalize dsc s = b at *
  simp only [smR, mxR]
  refine Prod.ext ?_ (Prod.ext ?_ (Prod.ext ?_ ?_)) <;> dsimp only <;> grind
theorem sg_one {v : Int} : 0 < v ↔ sg v = 1 := by
  unfold sg
  by_cases h : 0 < v
  · rw [if_pos h]; exact ⟨fun _ => rfl, fun _ => h⟩
  · rw [if_neg h]
    refine ⟨fun y => absurd y h, fun y => ?_⟩
    by_cases g : v < 0
    · rw [if_pos g] at y; cases y
    · rw [if_neg g] at y; cases y
theorem sq_pos {g : Int} (h : g ≠ 0) : 0 < g * g := by
  rcases Int.lt_trichotomy g 0 with y | y | y
  · exact Int.mul_pos_of_neg_of_neg y y
  · exact absurd y h
  · exact Int.mul_pos y y
theorem nf_rel {x y : R4} {g b : Int} (hg : g ≠ 0) (hb : b ≠ 0) (e : smR g x = smR b y) : (decide (0 < dsc x) = decide (0 < dsc y)) ∧ (0 < dsc x → nf x = nf y) := by
  have e2 : g * g * dsc x = b * b * dsc y := by rw [← dsc_sm, e, dsc_sm]
  have p : 0 < dsc x ↔ 0 < dsc y := by rw [sg_one, sg_one, sg_sc (sq_pos hg) (sq_pos hb) e2]
  refine ⟨decide_eq_decide.mpr p, fun h => ?_⟩
  rw [← nf_sm hg h, e, nf_sm hb (p.mp h)]
theorem keep2 {x x' y y' : R4} (h1 : (decide (0 < dsc x) = decide (0 < dsc y)) ∧ (0 < dsc x → nf x = nf y)) (h2 : (decide (0 < dsc x') = decide (0 < dsc y')) ∧ (0 < dsc x' → nf x' = nf y')) :
    ([x, x'].filter fun z => decide (0 < dsc z)).map nf = ([y, y'].filter fun z => decide (0 < dsc z)).map nf := by
  simp only [List.filter_cons, List.filter_nil, ← h1.1, ← h2.1]
  by_cases a : 0 < dsc x <;> by_cases b : 0 < dsc x' <;> simp [a, b, h1.2, h2.2]
theorem exl_law {r s : R4} {g : Int} (hr : 0 < dsc r) (hs : 0 < dsc s) (h : wr (dsc r * dsc s) = some g) : exl r s = srR (([mxR g r (dsc r) s, mxR g r (0 - dsc r) s].filter fun x => decide (0 < dsc x)).map nf) := by
  have e := (wr_some (Int.le_of_lt (Int.mul_pos hr hs)) h).2
  have hg : g ≠ 0 := fun z => by rw [z] at e; have := Int.mul_pos hr hs; omega
  unfold exl
  rw [h]
  exact congrArg srR (keep2 (nf_rel hg (by omega) (mx_rel e)) (nf_rel hg (by omega) (mx_rel2 e)))
theorem exl_sym {r s : R4} (hr : 0 < dsc r) (hs : 0 < dsc s) : exl s r = exl r s := by
  unfold exl
  rw [Int.mul_comm (dsc s)]
  cases h : wr (dsc r * dsc s) with
  | none => rfl
  | some g =>
    have e := (wr_some (Int.le_of_lt (Int.mul_pos hr hs)) h).2
    have hg : g ≠ 0 := fun z => by rw [z] at e; have := Int.mul_pos hr hs; omega
    exact congrArg srR (keep2 (nf_rel hg (by omega) (mx_rel3 e)) (nf_rel hg (by omega) (mx_rel4 e)))
theorem mem_srR {x : R4} {l : List R4} : x ∈ srR l ↔ x ∈ l := List.mem_mergeSort
theorem exl_mem {r s x : R4} (hr : 0 < dsc r) (hs : 0 < dsc s) : x ∈ exl r s ↔ ∃ g e, wr (dsc r * dsc s) = some g ∧ (e = g ∨ e = -g) ∧ 0 < dsc (mxR (dsc s) r e s) ∧ x = nf (mxR (dsc s) r e s) := by
  unfold exl
  cases h : wr (dsc r * dsc s) with
  | none => exact ⟨fun z => absurd z List.not_mem_nil, fun ⟨g, _, z, _⟩ => by cases z⟩
  | some g =>
    refine (mem_srR).trans ?_
    constructor
    · intro z
      obtain ⟨y, hy, rfl⟩ := List.mem_map.mp z
      obtain ⟨h1, h2⟩ := List.mem_filter.mp hy
      have h2 := of_decide_eq_true h2
      simp only [List.mem_cons, List.not_mem_nil, or_false] at h1
      rcases h1 with rfl | rfl
      · exact ⟨g, g, rfl, .inl rfl, h2, rfl⟩
      · exact ⟨g, -g, rfl, .inr rfl, h2, rfl⟩
    · intro ⟨g', e, z, he, d, ex⟩
      cases z
      refine List.mem_map.mpr ⟨_, List.mem_filter.mpr ⟨?_, decide_eq_true d⟩, ex.symm⟩
      rcases he with rfl | rfl
      · exact List.mem_cons_self ..
      · exact List.mem_cons_of_mem _ (List.mem_cons_self ..)
theorem exl_len (r s : R4) : (∃ x y, exl r s = [x, y]) ∨ (∃ x, exl r s = [x]) ∨ exl r s = [] := by
  unfold exl
  cases wr (dsc r * dsc s) with
  | none => exact .inr (.inr rfl)
  | some g =>
    have h : ∀ a b : R4, (∃ x y, srR ([a, b].filter (fun x => decide (0 < dsc x)) |>.map nf) = [x, y]) ∨ (∃ x, srR ([a, b].filter (fun x => decide (0 < dsc x)) |>.map nf) = [x]) ∨ srR ([a, b].filter (fun x => decide (0 < dsc x)) |>.map nf) = [] := fun a b => by
      simp only [List.filter_cons, List.filter_nil]
      by_cases x : 0 < dsc a <;> by_cases y : 0 < dsc b <;> simp only [x, y, decide_true, decide_false, if_true, if_false, List.map_cons, List.map_nil, Bool.false_eq_true]
      · rw [srR2]
        by_cases z : ltR (nf b) (nf a) = true
        · rw [if_pos z]; exact .inl ⟨_, _, rfl⟩
        · rw [if_neg z]; exact .inl ⟨_, _, rfl⟩
      · rw [srR1]; exact .inr (.inl ⟨_, rfl⟩)
      · rw [srR1]; exact .inr (.inl ⟨_, rfl⟩)
      · rw [srR0]; exact .inr (.inr rfl)
    exact h _ _
theorem ex_par {r s : R4} {e : Int} (he : e * e = dsc r * dsc s) : dsc (mxR (dsc s) r e s) = 2 * dsc s * (dsc r * dsc s + e * prR r s) ∧ prR (mxR (dsc s) r e s) r = dsc r * dsc s + e * prR r s ∧ prR (mxR (dsc s) r e s) s = dsc s * (prR r s + e) := by
  refine ⟨?_, ?_, ?_⟩
  · rw [dsc_mx]; generalize dsc r = a at *; generalize dsc s = b at *; generalize prR r s = p at *; grind
  · rw [pr_sym, pr_mx, dsc_pr]; generalize dsc r = a at *; generalize dsc s = b at *; generalize prR r s = p at *; grind
  · rw [pr_sym, pr_mx, dsc_pr, pr_sym s r]; generalize dsc r = a at *; generalize dsc s = b at *; generalize prR r s = p at *; grind
theorem ex_m1 {r s : R4} {e : Int} (he : e * e = dsc r * dsc s) : mrR (mxR (dsc s) r e s) r = smR (-2 * (dsc r * dsc s + e * prR r s) * e) s := by
  obtain ⟨h1, h2, _⟩ := ex_par he
  unfold mrR
  rw [h1, h2]
  generalize dsc r = a at *; generalize dsc s = b at *; generalize prR r s = p at *
  simp only [mxR, smR]
  refine Prod.ext ?_ (Prod.ext ?_ (Prod.ext ?_ ?_)) <;> dsimp only <;> grind
theorem ex_m2 {r s : R4} {e : Int} (he : e * e = dsc r * dsc s) : mrR (mxR (dsc s) r e s) s = smR (-2 * (dsc s * dsc s) * (prR r s + e)) r := by
  obtain ⟨h1, _, h2⟩ := ex_par he
  unfold mrR
  rw [h1, h2]
  generalize dsc r = a at *; generalize dsc s = b at *; generalize prR r s = p at *
  simp only [mxR, smR]
  refine Prod.ext ?_ (Prod.ext ?_ (Prod.ext ?_ ?_)) <;> dsimp only <;> grind
theorem mr_nf {y r : R4} (dy : 0 < dsc y) (dr : 0 < dsc r) : nf (mrR (nf y) r) = nf (mrR y r) := by
  rw [← ldr_mi (nf_pos dy) dr, ← ldr_mi dy dr, mi_nf dy]
theorem ex_img {n m : Nat} {r s x : R4} (Rr : Rd n r) (Rs : Rd m s) (h : x ∈ exl r s) : nf (mrR x r) = s ∧ nf (mrR x s) = r := by
  have hr := Rr.pos
  have hs := Rs.pos
  obtain ⟨g, e, hw, he, hd, rfl⟩ := (exl_mem hr hs).mp h
  have gg := (wr_some (Int.le_of_lt (Int.mul_pos hr hs)) hw).2
  have ee : e * e = dsc r * dsc s := by rcases he with rfl | rfl <;> grind
  obtain ⟨h1, _, _⟩ := ex_par ee
  have t0 : dsc r * dsc s + e * prR r s ≠ 0 := fun z => by rw [h1, z, Int.mul_zero] at hd; omega
  have e0 : e ≠ 0 := fun z => by rw [z] at ee; have := Int.mul_pos hr hs; omega
  have p0 : prR r s + e ≠ 0 := fun z => t0 (by
    have : dsc r * dsc s + e * prR r s = e * (prR r s + e) := by grind
    rw [this, z, Int.mul_zero])
  have b0 : dsc s * dsc s ≠ 0 := fun z => by have := Int.mul_pos hs hs; omega
  refine ⟨?_, ?_⟩
  · rw [mr_nf hd hr, ex_m1 ee, nf_sm (Int.mul_ne_zero (Int.mul_ne_zero (by decide) t0) e0) hs, nf_self Rs]
  · rw [mr_nf hd hs, ex_m2 ee, nf_sm (Int.mul_ne_zero (Int.mul_ne_zero (by decide) b0) p0) hr, nf_self Rr]
theorem ex_rd {n : Nat} {r s x : R4} (Rr : Rd n r) (Rs : Rd n s) (h : x ∈ exl r s) : Rd (5 * n + 14) x := by
  have hr := Rr.pos
  have hs := Rs.pos
  obtain ⟨g, e, hw, he, hd, rfl⟩ := (exl_mem hr hs).mp h
  have d1 : Sz (2 * n + 6) (dsc r) := by rw [← dsc_pr]; exact szUp (prR_sz2 Rr.sr Rr.sr) (by omega)
  have d2 : Sz (2 * n + 6) (dsc s) := by rw [← dsc_pr]; exact szUp (prR_sz2 Rs.sr Rs.sr) (by omega)
  have dd : Sz (4 * n + 13) (dsc r * dsc s) := szUp (inferInstance : Sz _ (dsc r * dsc s)) (by omega)
  have sg' : Sz (4 * n + 13) g := wr_sz dd (Int.le_of_lt (Int.mul_pos hr hs)) hw
  have se : Sz (4 * n + 13) e := by rcases he with rfl | rfl; exact sg'; exact ngS sg'
  exact (nf_ok ((mxR_sz (szUp d2 (by omega)) se Rr.sr Rs.sr).up (by omega)) hd).1
theorem ex_has {n m : Nat} {x t : R4} (X : Rd n x) (T : Rd m t) (ne : nf (mrR x t) ≠ t) : x ∈ exl t (nf (mrR x t)) := by
  have dx := X.pos
  have dt := T.pos
  have dm := mrR_pos dx dt
  obtain ⟨k, hk, ek⟩ := nf_sc dm
  have du := nf_pos dm
  have hp : prR x t ≠ 0 := fun z => ne (by
    have e : mrR x t = smR (dsc x) t := by
      unfold mrR
      rw [z]
      simp only [mxR, smR]
      refine Prod.ext ?_ (Prod.ext ?_ (Prod.ext ?_ ?_)) <;> dsimp only <;> omega
    rw [e, nf_sm (by omega) dt, nf_self T])
  have e1 : k * k * dsc (nf (mrR x t)) = dsc x * dsc x * dsc t := by
    rw [← dsc_sm, ek]
    unfold mrR
    rw [dsc_mx, pr_sym t x]
    generalize prR x t = p; generalize dsc x = a; generalize dsc t = b
    grind
  generalize nf (mrR x t) = u at *
  have e2 : k * k * (dsc t * dsc u) = (dsc x * dsc t) * (dsc x * dsc t) := by
    generalize dsc x = a at *; generalize dsc t = b at *; generalize dsc u = c at *
    grind
  have dv : k ∣ dsc x * dsc t := by
    refine (Int.pow_dvd_pow_iff (n := 2) (by decide)).mp ⟨dsc t * dsc u, ?_⟩
    rw [Int.pow_succ, Int.pow_succ, Int.pow_succ, Int.pow_succ, Int.pow_zero, Int.pow_zero, Int.one_mul, Int.one_mul]
    exact e2.symm
  obtain ⟨h, hh⟩ := dv
  have e3 : dsc t * dsc u = h * h := by
    rw [hh] at e2
    refine Int.eq_of_mul_eq_mul_left (Int.mul_ne_zero hk hk) (e2.trans ?_)
    grind
  have ey : smR (k * k) (mxR (dsc u) t (-h) u) = smR (2 * prR x t * dsc x * dsc t) x := by
    have c : ∀ a b : Int, ∀ i j : Int, k * i = dsc x * a - 2 * prR x t * j → k * k * (dsc u * a + -h * i) = 2 * prR x t * dsc x * dsc t * j := fun a _ i j w => by
      generalize prR x t = p at *; generalize dsc x = f at *; generalize dsc t = b at *; generalize dsc u = c at *
      grind
    have w : ∀ i a j : Int, i = dsc x * a + -2 * prR x t * j → i = dsc x * a - 2 * prR x t * j := fun i a j y => by rw [y]; grind
    have k1 := congrArg (fun z : R4 => z.1) ek
    have k2 := congrArg (fun z : R4 => z.2.1) ek
    have k3 := congrArg (fun z : R4 => z.2.2.1) ek
    have k4 := congrArg (fun z : R4 => z.2.2.2) ek
    simp only [smR, mxR]
    exact Prod.ext (c _ 0 _ _ (w _ _ _ k1)) (Prod.ext (c _ 0 _ _ (w _ _ _ k2)) (Prod.ext (c _ 0 _ _ (w _ _ _ k3)) (c _ 0 _ _ (w _ _ _ k4))))
  have n1 : 2 * prR x t * dsc x * dsc t ≠ 0 := Int.mul_ne_zero (Int.mul_ne_zero (Int.mul_ne_zero (by decide) hp) (by omega)) (by omega)
  obtain ⟨q1, q2⟩ := nf_rel (Int.mul_ne_zero hk hk) n1 ey
  have dy : 0 < dsc (mxR (dsc u) t (-h) u) := of_decide_eq_true (q1.trans (decide_eq_true dx))
  have fin : x = nf (mxR (dsc u) t (-h) u) := ((q2 dy).trans (nf_self X)).symm
  refine (exl_mem dt du).mpr ?_
  rcases Int.le_total 0 h with y | y
  · exact ⟨h, -h, by rw [e3]; exact wr_sq y, .inr rfl, dy, fin⟩
  · refine ⟨-h, -h, ?_, .inl rfl, dy, fin⟩
    rw [e3, show h * h = -h * -h by grind]
    exact wr_sq (by omega)
def w_law_well : Ws := (wSeq (wAsg (dOp fCat (dLit (.int 66245)) (dOp fMul (dLit (.int 2203)) (dVar 1))) (gN 2)) (wSeq (wFor (diL (dSl (dVar 0) doN (doS (dLit (.int 9))))) (gN 3) (wAsg (dOp fMod (dCal fInt (daC (dOp fCat (dOp fCat (dOp fMul (dVar 2) (dLit (.int 47917))) (dOp fMod (dCal fInt (daC (dVar 3) daN)) (dLit (.int 2147483549)))) (dLit (.int 31))) daN)) (dLit (.int 2147483549))) (gN 2))) (wSeq (wAsg (dIf (dTru (dOp fLt (dVar 1) (dCal fLen (daC (dVar 0) daN)))) (dCal fInt (daC (dOp fIx (dVar 0) (dVar 1)) daN)) (dLit (.int 0))) (gN 4)) (wSeq (wAsg (dIf (dOrT (dTru (dOp fLt (dVar 4) (dLit (.int 0)))) (dTru (dOp fGe (dVar 4) (dOp fPow (dLit (.int 10)) (dLit (.int 18)))))) (dCal fAbs (daC (dVar 4) daN)) (dLit (.int 0))) (gN 5)) (wRetL (daC (dVar 5) (daC (dOp fMod (dCal fInt (daC (dOp fCat (dOp fCat (dOp fMul (dVar 2) (dLit (.int 30029))) (dOp fMul (dOp fMod (dCal fInt (daC (dVar 4) daN)) (dLit (.int 2147483549))) (dLit (.int 6211)))) (dLit (.int 13))) daN)) (dLit (.int 2147483549))) (daC (dLit (.int 0)) daN))))))))
theorem mod_lt (x : Int) : 0 ≤ x % 2147483549 ∧ x % 2147483549 < 2147483549 := ⟨Int.emod_nonneg _ (by decide), Int.emod_lt_of_pos _ (by decide)⟩
theorem cut_ints {ns : List Int} {lo hi : Option Int} {d : PyData} (h : d ∈ cutD (ns.map PyData.int) lo hi) : ∃ i, d = .int i := by
  have h2 := List.mem_of_mem_take h
  have h3 := List.mem_of_mem_drop h2
  obtain ⟨i, _, e⟩ := List.mem_map.mp h3
  exact ⟨i, e.symm⟩
theorem sem_law_well : ∀ ds R, c_law_well ds R → ds.length = 2 → w_law_well (edF R) (ev0 4 ds) := by
  intro ds R h _
  obtain ⟨ns, k, rfl, hl, h0, h2, q⟩ := h
  have sk : Sz 2 k := sz_lt h0 (by omega)
  refine ⟨by walk_at "sz", ?_⟩
  refine foD_inv (fun ev => ∃ (st : Int) (s : Option Sl), ev = [some (.val (.list (ns.map .int))), some (.val (.int k)), some (.val (.int st)), s, none, none] ∧ (0 ≤ st ∧ st < 2147483549) ∧ ∀ t, s ≠ some (.own t)) (fun d hd ev E' i nx ct rt rl bk => ?_) ⟨66245 + 2203 * k, none, rfl, by omega, fun _ => by simp⟩ (fun ev i => ?_)
  · obtain ⟨st, s, rfl, hst, hs⟩ := i
    obtain ⟨j, rfl⟩ := cut_ints hd
    have e : gN 3 (.int j) [some (.val (.list (ns.map .int))), some (.val (.int k)), some (.val (.int st)), s, none, none] = fun Q => Q [some (.val (.list (ns.map .int))), some (.val (.int k)), some (.val (.int st)), some (.val (.int j)), none, none] := by
      cases s with
      | none => rfl
      | some s => cases s with
        | val _ => rfl
        | own t => exact absurd rfl (hs t)
    rw [e]
    have ss : Sz 31 st := sz_lt hst.1 (by omega)
    refine ⟨by walk_at "sz", show (0 : Int) < 2147483549 by decide, show (0 : Int) < 2147483549 by decide, ?_⟩
    exact nx _ ⟨_, _, rfl, mod_lt _, fun _ => by simp⟩
  · obtain ⟨st, s, rfl, hst, hs⟩ := i
    have ss : Sz 31 st := sz_lt hst.1 (by omega)
    have tail : ∀ (o : Int) (s : Option Sl), wSeq (wAsg (dIf (dOrT (dTru (dOp fLt (dVar 4) (dLit (.int 0)))) (dTru (dOp fGe (dVar 4) (dOp fPow (dLit (.int 10)) (dLit (.int 18)))))) (dCal fAbs (daC (dVar 4) daN)) (dLit (.int 0))) (gN 5)) (wRetL (daC (dVar 5) (daC (dOp fMod (dCal fInt (daC (dOp fCat (dOp fCat (dOp fMul (dVar 2) (dLit (.int 30029))) (dOp fMul (dOp fMod (dCal fInt (daC (dVar 4) daN)) (dLit (.int 2147483549))) (dLit (.int 6211)))) (dLit (.int 13))) daN)) (dLit (.int 2147483549))) (daC (dLit (.int 0)) daN)))) (edF R)
        [some (.val (.list (ns.map .int))), some (.val (.int k)), some (.val (.int st)), s, some (.val (.int o)), none] := by
      intro o s
      have so : Sz 31 (o % 2147483549) := sz_lt (mod_lt o).1 (by have := (mod_lt o).2; omega)
      have fin : ∀ r : Int, 0 ≤ r → wRetL (daC (dVar 5) (daC (dOp fMod (dCal fInt (daC (dOp fCat (dOp fCat (dOp fMul (dVar 2) (dLit (.int 30029))) (dOp fMul (dOp fMod (dCal fInt (daC (dVar 4) daN)) (dLit (.int 2147483549))) (dLit (.int 6211)))) (dLit (.int 13))) daN)) (dLit (.int 2147483549))) (daC (dLit (.int 0)) daN))) (edF R)
          [some (.val (.list (ns.map .int))), some (.val (.int k)), some (.val (.int st)), s, some (.val (.int o)), some (.val (.int r))] := fun r hr =>
        ⟨by walk_at "sz", show (0 : Int) < 2147483549 by decide, by walk_at "sz", show (0 : Int) < 2147483549 by decide, Nat.le_of_ble_eq_true rfl, q r _ hr (mod_lt _).1 (mod_lt _).2⟩
      have ab : 0 ≤ (if o < 0 then -o else o) := by split <;> omega
      refine ⟨trivial, trivial, ?_⟩
      refine ite_b (fun z => ?_) (fun z => ?_)
      · exact fin _ ab
      · refine ⟨⟨by decide, by decide, by decide⟩, trivial, trivial, ?_⟩
        refine ite_b (fun z => ?_) (fun z => ?_)
        · exact fin _ ab
        · exact fin 0 (Int.le_refl 0)
    refine ⟨trivial, trivial, ?_⟩
    refine ite_b (fun z => ?_) (fun z => ?_)
    · have z0 : k < ((ns.map PyData.int).length : Int) := of_decide_eq_true z
      obtain ⟨x, hx, ha⟩ := atI_lt (xs := ns.map PyData.int) h0 z0
      obtain ⟨i, _, rfl⟩ := List.mem_map.mp hx
      refine fIx_lst ha ?_
      exact tail i s
    · exact tail 0 s
def w_law_dip : Ws := (wSeq (wIf (dTru (dOp fGt (dOwnIx 0 (dLit (.int 0))) (dLit (.int 0)))) (wSeq (wAsg (dCal fDivmod (daC (dOwnIx 0 (dLit (.int 0))) (daC (dVar 1) daN))) (gT 2 (gsC (gSb 0 (dLit (.int 0))) (gsC (gN 2) gsN)))) (wRet (dVar 2))) wNx) (wSeq (wAsg (dOp fCat (dOwnIx 0 (dLit (.int 2))) (dLit (.int 1))) (gSb 0 (dLit (.int 2)))) (wSeq (wAsg (dOp fCat (dOp fMod (dCal fInt (daC (dOwnIx 0 (dLit (.int 1))) daN)) (dLit (.int 10037))) (dLit (.int 20023))) (gN 3)) (wSeq (wAsg (dOp fMod (dCal fInt (daC (dOp fCat (dOp fCat (dOp fMul (dOwnIx 0 (dLit (.int 1))) (dVar 3)) (dOp fMul (dLit (.int 90011)) (dOwnIx 0 (dLit (.int 2))))) (dLit (.int 17))) daN)) (dLit (.int 2147483549))) (gSb 0 (dLit (.int 1)))) (wRet (dOp fMod (dCal fInt (daC (dOp fDiv (dOwnIx 0 (dLit (.int 1))) (dLit (.int 67))) daN)) (dVar 1)))))))
theorem sem_law_dip : ∀ ts ds R, c_law_dip ts ds R → ds.length = 1 → w_law_dip (edT R) (some (.own ts) :: ev0 2 ds) := by
  intro ts ds R h _
  obtain ⟨b, m, ⟨r, s, n, rfl, hr, ⟨hs, hs'⟩, hn, hb⟩, hb', rfl, hm, hm', q⟩ := h
  refine ⟨trivial, trivial, ?_⟩
  refine ite_b (fun z => ?_) (fun z => ?_)
  · have z0 : 0 < r := of_decide_eq_true z
    have sm : Sz 30 m := sz_lt (by omega) (by omega)
    refine ⟨⟨hm, by omega⟩, rfl, ?_⟩
    exact q (r % m) _ (Int.emod_nonneg _ (Int.ne_of_gt hm)) (Int.emod_lt_of_pos _ hm) ⟨r / m, s, n, rfl, Int.ediv_nonneg hr (Int.le_of_lt hm), ⟨hs, hs'⟩, hn, by omega⟩
  · have ss : Sz 31 s := sz_lt hs (by omega)
    have sn : Sz 50 (n + 1) := sz_lt (by omega) (by omega)
    have p0 := Int.emod_nonneg s (show (10037 : Int) ≠ 0 by decide)
    have p1 := Int.emod_lt_of_pos s (show (0 : Int) < 10037 by decide)
    have sp : Sz 20 (s % 10037 + 20023) := sz_lt (by omega) (by omega)
    refine ⟨show (0 : Int) < 10037 by decide, ?_⟩
    refine ⟨by walk_at "sz", by walk_at "sz", show (0 : Int) < 2147483549 by decide, ?_⟩
    refine ⟨divC_of (m := 7) ⟨by decide⟩ (by decide) (by decide), hm, ?_⟩
    refine q _ _ (Int.emod_nonneg _ (Int.ne_of_gt hm)) (Int.emod_lt_of_pos _ hm) ⟨r, _, n + 1, rfl, hr, ⟨Int.emod_nonneg _ (by decide), Int.lt_trans (Int.emod_lt_of_pos _ (by decide)) (by decide)⟩, by omega, by omega⟩
def w_law_of : Ws := (wRet (dOp fIx (dVar 1) (dFnT 0 2 c_law_dip (daC (dCal fLen (daC (dVar 1) daN)) daN))))
theorem sem_law_of : ∀ ts ds R, c_law_of ts ds R → ds.length = 1 → w_law_of (edT R) (some (.own ts) :: ev0 0 ds) := by
  intro ts ds R h _
  obtain ⟨b, xs, tk, hb, e, h0, h1, q⟩ := h
  rcases e with rfl | rfl
  · refine ⟨rfl, b, xs.length, tk, hb, rfl, by omega, by omega, fun k ts' k0 k1 tk' => ?_⟩
    obtain ⟨x, hx, ha⟩ := atI_lt (xs := xs) k0 k1
    exact fIx_tup ha (q x ts' hx tk')
  · refine ⟨rfl, b, xs.length, tk, hb, rfl, by omega, by omega, fun k ts' k0 k1 tk' => ?_⟩
    obtain ⟨x, hx, ha⟩ := atI_lt (xs := xs) k0 k1
    exact fIx_lst ha (q x ts' hx tk')
def w_law_whole : Ws := (wSeq (wIf (dTru (dOp fLe (dVar 1) (dLit (.int 1000)))) (wRet (dOp fSub (dFnT 0 2 c_law_dip (daC (dOp fCat (dOp fMul (dLit (.int 2)) (dVar 1)) (dLit (.int 1))) daN)) (dVar 1))) wNx) (wSeq (wAsg (dOp fSub (dFnT 0 2 c_law_dip (daC (dOp fCat (dOp fMul (dLit (.int 2)) (dOp fDiv (dVar 1) (dLit (.int 1000)))) (dLit (.int 1))) daN)) (dOp fDiv (dVar 1) (dLit (.int 1000)))) (gN 2)) (wRet (dOp fCat (dOp fMul (dLit (.int 1000)) (dVar 2)) (dFnT 0 2 c_law_dip (daC (dLit (.int 1000)) daN))))))
theorem sem_law_whole : ∀ ts ds R, c_law_whole ts ds R → ds.length = 1 → w_law_whole (edT R) (some (.own ts) :: ev0 1 ds) := by
  intro ts ds R h _
  obtain ⟨b, w, tk, hb, rfl, h0, h1, q⟩ := h
  have sw : Sz 20 w := sz_lt (by omega) (by omega)
  refine ⟨trivial, trivial, ?_⟩
  refine ite_b (fun z => ?_) (fun z => ?_)
  · refine ⟨by walk_at "sz", rfl, b, _, tk, by omega, rfl, by omega, by omega, fun k ts2 k0 k1 tk2 => ?_⟩
    refine ⟨trivial, ?_⟩
    exact q _ _ (by omega) (by omega) (tk2.up (by omega))
  · have z0 := of_decide_eq_false z
    have d1 := Int.mul_ediv_add_emod w 1000
    have d2 := Int.emod_nonneg w (show (1000 : Int) ≠ 0 by decide)
    have d3 := Int.emod_lt_of_pos w (show (0 : Int) < 1000 by decide)
    have dw : divC w 1000 := divC_of (m := 10) ⟨by decide⟩ (by decide) (by decide)
    have sd : Sz 20 (w / 1000) := sz_lt (by omega) (by omega)
    refine ⟨dw, by walk_at "sz", rfl, b, _, tk, by omega, rfl, by omega, by omega, fun k ts2 k0 k1 tk2 => ?_⟩
    refine ⟨dw, trivial, ?_⟩
    have sk : Sz 21 (k - w / 1000) := ⟨by omega⟩
    refine ⟨by walk_at "sz", rfl, b + 1, _, tk2, by omega, rfl, by omega, by omega, fun k3 ts3 k4 k5 tk3 => ?_⟩
    exact q _ _ (by omega) (by omega) (tk3.up (by omega))
theorem lwhole_ok {b w : Int} {ts : List PyData} {R : PyData → List PyData → Prop} (tk : Tk b ts) (hb : b < 900000000000) (h0 : 0 < w) (h1 : w ≤ 1000000) (q : ∀ (x : Int) ts', -(2 * w) ≤ x → x ≤ 2 * w → Sz 21 x → Tk (b + 2) ts' → R (.int x) ts') : c_law_whole ts [.int w] R := ⟨b, w, tk, hb, rfl, h0, h1, fun x ts' u v k => q x ts' u v ⟨by omega⟩ k⟩
theorem ldip_ok {b m : Int} {ts : List PyData} {R : PyData → List PyData → Prop} (tk : Tk b ts) (hb : b < 1000000000000) (h0 : 0 < m) (h1 : m < 1000000000) (q : ∀ (k : Int) ts', 0 ≤ k → k < m → Tk (b + 1) ts' → R (.int k) ts') : c_law_dip ts [.int m] R := ⟨b, m, tk, hb, rfl, h0, h1, q⟩
theorem lc_tank {i : Nat} {el : Wx} {P : PyData → Prop} {m B : Int} (hm : 0 ≤ m) (env : List PyData → Ev) (hg : ∀ ts d (Q : Ev → Prop), gN i d (env ts) Q = Q ((env ts).set i (some (.val d)))) (hw : ∀ ts d, wipeD ((env ts).set i (some (.val d))) [i] = env ts)
    (step : ∀ (d : PyData) (b : Int) (ts : List PyData) (R : PyData → Ev → Prop), Tk b ts → b ≤ B → (∀ x ts', P x → Tk (b + m) ts' → R x ((env ts').set i (some (.val d)))) → el ((env ts).set i (some (.val d))) R) :
    ∀ (ds acc : List PyData) (b : Int) (ts : List PyData) (Q : List PyData → Ev → Prop), Tk b ts → b + m * ds.length ≤ B → acc.length + ds.length ≤ 1000 → (∀ xs ts', xs.length = ds.length → (∀ x ∈ xs, P x) → Tk (b + m * ds.length) ts' → Q (acc ++ xs) (env ts')) → lcD [i] (gN i) dYes el ds acc (env ts) Q
  | [], acc, b, ts, Q, tk, hb, l, q => by
    have q0 := q [] ts rfl (fun x h => by cases h) (tk.up (by simp))
    rw [List.append_nil] at q0
    exact ⟨l, q0⟩
  | d :: ds, acc, b, ts, Q, tk, hb, l, q => by
    have e : ((d :: ds).length : Int) = (ds.length : Int) + 1 := by rw [List.length_cons]; rfl
    have e2 : m * ((d :: ds).length : Int) = m * (ds.length : Int) + m := by rw [e, Int.mul_add, Int.mul_one]
    rw [e2] at hb
    have h0 : 0 ≤ m * (ds.length : Int) := Int.mul_nonneg hm (Int.natCast_nonneg _)
    unfold lcD
    rw [hg]
    unfold dYes
    refine ite_t rfl ?_
    refine step d b ts _ tk (by omega) fun x ts' px tk' => ⟨by rw [List.length_cons] at l; omega, ?_⟩
    rw [hw]
    refine lc_tank hm env hg hw step ds (acc ++ [x]) (b + m) ts' Q tk' (by omega) (by rw [List.length_append, List.length_singleton]; rw [List.length_cons] at l; omega) fun xs t2 hl hp k2 => ?_
    rw [List.append_assoc]
    exact q (x :: xs) t2 (by rw [List.length_cons, hl, List.length_cons]) (fun y hy => by
      rcases List.mem_cons.mp hy with rfl | hy
      · exact px
      · exact hp y hy) (by rw [e2]; exact k2.up (by omega))
theorem four_of {α : Type} {d : α → PyData} {P : α → Prop} {xs : List PyData} (l : xs.length = 4) (h : ∀ x ∈ xs, ∃ a, x = d a ∧ P a) : ∃ a b c e, xs = [d a, d b, d c, d e] ∧ P a ∧ P b ∧ P c ∧ P e := by
  match xs, l with
  | [x, y, z, w], _ =>
    obtain ⟨a, rfl, pa⟩ := h x (by simp)
    obtain ⟨b, rfl, pb⟩ := h y (by simp)
    obtain ⟨c, rfl, pc⟩ := h z (by simp)
    obtain ⟨e, rfl, pe⟩ := h w (by simp)
    exact ⟨a, b, c, e, rfl, pa, pb, pc, pe⟩
def w_law_rounds : Ws := (wRet (dCal fMax2 (daC (dLit (.int 2)) (daC (dCal fMin2 (daC (dCal fLen (daC (dVar 0) daN)) (daC (dLit (.int 3)) daN))) daN))))
theorem sem_law_rounds : ∀ ds R, c_law_rounds ds R → ds.length = 1 → w_law_rounds (edP R) (ev0 0 ds) := by
  intro ds R h _
  obtain ⟨ns, rfl, hl, q⟩ := h
  have goal : R (.int (if (if (3 : Int) < ((ns.map PyData.int).length : Int) then 3 else ((ns.map PyData.int).length : Int)) > 2 then (if (3 : Int) < ((ns.map PyData.int).length : Int) then 3 else ((ns.map PyData.int).length : Int)) else 2)) := q _ (by split <;> omega) (by split <;> split <;> omega)
  exact goal
def w_law_gcd : Ws := (wSeq (wPar 2 3 (daC (dCal fAbs (daC (dVar 0) daN)) (daC (dCal fAbs (daC (dVar 1) daN)) daN))) (wSeq (wWhile (dTru (dOp fGt (dVar 3) (dLit (.int 0)))) (wPar 2 3 (daC (dVar 3) (daC (dOp fMod (dCal fInt (daC (dVar 2) daN)) (dVar 3)) daN)))) (wRet (dVar 2))))
abbrev T_eucl : Wt := dTru (dOp fGt (dVar 3) (dLit (.int 0)))
abbrev B_eucl : Ws := wPar 2 3 (daC (dVar 3) (daC (dOp fMod (dCal fInt (daC (dVar 2) daN)) (dVar 3)) daN))
theorem eucl {X Y : Option Sl} {E : Ed} : ∀ (b a : Nat), E.nx [X, Y, some (.val (.int (Nat.gcd a b : Nat))), some (.val (.int (0 : Nat)))] → ∃ n, whD T_eucl B_eucl n E [X, Y, some (.val (.int (a : Nat))), some (.val (.int (b : Nat)))] := by
  intro b
  induction b using Nat.strongRecOn with
  | _ b ih =>
    intro a h
    by_cases z : b = 0
    · subst z
      rw [Nat.gcd_zero_right] at h
      exact ⟨1, trivial, trivial, h⟩
    · have l : a % b < b := Nat.mod_lt _ (Nat.pos_of_ne_zero z)
      have e : Nat.gcd a b = Nat.gcd b (a % b) := by rw [Nat.gcd_comm a b, Nat.gcd_rec, Nat.gcd_comm]
      rw [e] at h
      obtain ⟨n, hn⟩ := ih (a % b) l b h
      refine ⟨n + 1, trivial, trivial, ?_⟩
      refine ite_t (decide_eq_true (by show (0 : Int) < (b : Nat); omega)) ?_
      exact ⟨show (0 : Int) < (b : Nat) by omega, hn⟩
theorem sem_law_gcd : ∀ ds R, c_law_gcd ds R → ds.length = 2 → w_law_gcd (edP R) (ev0 2 ds) := by
  intro ds R h _
  obtain ⟨a, b, rfl, q⟩ := h
  have ea : (if a < 0 then -a else a) = ((a.natAbs : Nat) : Int) := by split <;> omega
  have eb : (if b < 0 then -b else b) = ((b.natAbs : Nat) : Int) := by split <;> omega
  show ∃ n, whD T_eucl B_eucl n _ [some (.val (.int a)), some (.val (.int b)), some (.val (.int (if a < 0 then -a else a))), some (.val (.int (if b < 0 then -b else b)))]
  rw [ea, eb]
  exact eucl _ _ q
def w_law_cut : Ws := (wSeq (wAsg (dLit (.int 0)) (gN 1)) (wSeq (wFor (diT (dVar 0)) (gN 2) (wAsg (dFn 2 c_law_gcd (daC (dVar 1) (daC (dVar 2) daN))) (gN 1))) (wRet (dCal fTuple (daC (dLc [2] (diT (dVar 0)) (gN 2) dYes (dOp fDiv (dVar 2) (dVar 1))) daN)))))
def ovl (g : Int) : PyData → PyData
  | .int i => .int (i / g)
  | d => d
theorem ovl_map (us : List Int) : (us.map PyData.int).map (ovl (gcI us)) = (rd us).map .int := by
  unfold rd
  rw [List.map_map, List.map_map]
  rfl
def I_cut (us : List Int) (s : Int) (ev : Ev) : Prop := 0 ≤ s ∧ (ev = [some (.val (tup us)), some (.val (.int s)), none] ∨ ∃ x, ev = [some (.val (tup us)), some (.val (.int s)), some (.val x)])
theorem sem_law_cut : ∀ ds R, c_law_cut ds R → ds.length = 1 → w_law_cut (edP R) (ev0 2 ds) := by
  intro ds R h _
  obtain ⟨us, rfl, hl, hs, hz, q⟩ := h
  refine foD_fold (I_cut us) (fun g u => (Int.gcd g u : Int)) (fun u s ev E' i nx => ?_) ⟨Int.le_refl 0, .inl rfl⟩ (fun ev i => ?_)
  · obtain ⟨s0, i⟩ := i
    have fin : c_law_gcd [.int s, .int u] fun d => E'.nx [some (.val (tup us)), some (.val d), some (.val (.int u))] := ⟨s, u, rfl, nx _ ⟨Int.natCast_nonneg _, .inr ⟨_, rfl⟩⟩⟩
    rcases i with rfl | ⟨x, rfl⟩
    · exact ⟨rfl, fin⟩
    · exact ⟨rfl, fin⟩
  · obtain ⟨s0, i⟩ := i
    have el : ∀ (d : PyData), d ∈ us.map PyData.int → ∀ (R' : PyData → Ev → Prop), R' (ovl (gcI us) d) [some (.val (tup us)), some (.val (.int (gcI us))), some (.val d)] → (dOp fDiv (dVar 2) (dVar 1)) [some (.val (tup us)), some (.val (.int (gcI us))), some (.val d)] R' := fun d hd R' r => by
      obtain ⟨i, _, rfl⟩ := List.mem_map.mp hd
      exact ⟨gc_divC hs (by decide) hz i, r⟩
    rcases i with rfl | ⟨x, rfl⟩
    · refine lc_map (f := ovl (gcI us)) rfl (by rw [List.length_nil, Nat.zero_add, List.length_map]; exact hl) (fun d hd R r => el d hd _ r) ?_
      rw [ovl_map]
      exact q
    · refine lc_map (f := ovl (gcI us)) rfl (by rw [List.length_nil, Nat.zero_add, List.length_map]; exact hl) (fun d hd R r => el d hd _ r) ?_
      rw [ovl_map]
      exact q
def w_law_form : Ws := (wSeq (wAsg (dFn 1 c_law_cut (daC (dVar 0) daN)) (gN 0)) (wSeq (wAsg (dOp fIx (dLc [2] (diT (dVar 0)) (gN 2) (dTru (dOp fNe (dVar 2) (dLit (.int 0)))) (dVar 2)) (dLit (.int 0))) (gN 1)) (wRet (dIf (dTru (dOp fGt (dVar 1) (dLit (.int 0)))) (dVar 0) (dCal fTuple (daC (dLc [2] (diT (dVar 0)) (gN 2) dYes (dOp fSub (dLit (.int 0)) (dVar 2))) daN))))))
def ng : PyData → PyData
  | .int i => .int (0 - i)
  | d => d
theorem ng_map (us : List Int) : (us.map PyData.int).map ng = (us.map (0 - ·)).map .int := by
  rw [List.map_map, List.map_map]
  rfl
theorem atI_head {d : PyData} {ds : List PyData} : atI (d :: ds) 0 = some d := by
  show (ixN (d :: ds).length 0).bind _ = _
  unfold ixN
  rw [if_pos (by decide), if_pos (by rw [List.length_cons]; omega)]
  rfl
theorem sem_law_form : ∀ ds R, c_law_form ds R → ds.length = 1 → w_law_form (edP R) (ev0 2 ds) := by
  intro ds R h _
  obtain ⟨us, rfl, hl, hs, hz, q⟩ := h
  have ll : (rd us).length = us.length := by unfold rd; rw [List.length_map]
  obtain ⟨x, rest, e1, e2⟩ := nz_first (rd_nz hz)
  refine ⟨rfl, us, rfl, hl, hs, hz, ?_⟩
  refine lc_keep (p := nz) (f := id) rfl (by rw [List.length_nil, Nat.zero_add, List.length_map, ll]; exact hl) (fun d hd R r => ?_) (fun d hd hp R r => r) ?_
  · obtain ⟨i, _, rfl⟩ := List.mem_map.mp hd
    refine ⟨Or.inr ⟨rfl, rfl⟩, trivial, ?_⟩
    have e : tru (.bool (!PyData.eqv (.int i) (.int 0))) = nz (.int i) := by rw [eqv_int]; rfl
    rw [e]
    exact r
  · rw [e1]
    refine fIx_lst (show atI ([] ++ List.map id (PyData.int x :: rest)) 0 = some (.int x) from atI_head) ?_
    refine ⟨trivial, trivial, ?_⟩
    unfold fm at q
    by_cases z : 0 < x
    · rw [e2, decide_eq_true z, if_pos rfl] at q
      exact ite_t (decide_eq_true z) q
    · rw [e2, decide_eq_false z, if_neg (by decide)] at q
      refine ite_f (decide_eq_false z) ?_
      refine lc_map (f := ng) rfl (by rw [List.length_nil, Nat.zero_add, List.length_map, ll]; exact hl) (fun d hd R r => ?_) ?_
      · obtain ⟨i, _, rfl⟩ := List.mem_map.mp hd
        exact ⟨trivial, r⟩
      · rw [ng_map]
        exact q
theorem law_form_ok {x y : R4} {n : Nat} {R : PyData → Prop} (s : SR n x) (hn : n ≤ 8100) (d : 0 < dsc x) (e : nf x = y) (q : R (rwR y)) : c_law_form [rwR x] R :=
  ⟨lsR x, rfl, Nat.le_of_ble_eq_true rfl, all4 (szUp s.1 hn) (szUp s.2.1 hn) (szUp s.2.2.1 hn) (szUp s.2.2.2 hn), gc4_ne d, by
    show R (tup (fmR x))
    rw [fmR_nf, e]; exact q⟩
def w_law_root : Ws := (wSeq (wPar 1 2 (daC (dLit (.int 0)) (daC (dOp fShl (dLit (.int 1)) (dOp fCat (dOp fDiv (dU fBits (dVar 0)) (dLit (.int 2))) (dLit (.int 1)))) daN))) (wSeq (wFor (diR1 (daC (dOp fCat (dOp fDiv (dU fBits (dVar 0)) (dLit (.int 2))) (dLit (.int 2))) daN)) (gN 3) (wSeq (wAsg (dOp fDiv (dOp fCat (dVar 1) (dVar 2)) (dLit (.int 2))) (gN 4)) (wIf (dTru (dOp fLe (dOp fMul (dVar 4) (dVar 4)) (dVar 0))) (wAsg (dVar 4) (gN 1)) (wAsg (dVar 4) (gN 2))))) (wRet (dVar 1))))
@[irreducible] noncomputable def q_law_root_5 : Ws := hid (wAsg (dVar 4) (gN 1))
@[irreducible] noncomputable def q_law_root_7 : Ws := hid (wAsg (dVar 4) (gN 2))
@[irreducible] noncomputable def q_law_root_4 : Ws := hid (wIf (dTru (dOp fLe (dOp fMul (dVar 4) (dVar 4)) (dVar 0))) q_law_root_5 q_law_root_7)
@[irreducible] noncomputable def q_law_root_3 : Ws := hid (wSeq (wAsg (dOp fDiv (dOp fCat (dVar 1) (dVar 2)) (dLit (.int 2))) (gN 4)) q_law_root_4)
@[irreducible] noncomputable def q_law_root_8 : Ws := hid (wRet (dVar 1))
@[irreducible] noncomputable def q_law_root_2 : Ws := hid (wSeq (wFor (diR1 (daC (dOp fCat (dOp fDiv (dU fBits (dVar 0)) (dLit (.int 2))) (dLit (.int 2))) daN)) (gN 3) q_law_root_3) q_law_root_8)
@[irreducible] noncomputable def q_law_root_1 : Ws := hid (wSeq (wPar 1 2 (daC (dLit (.int 0)) (daC (dOp fShl (dLit (.int 1)) (dOp fCat (dOp fDiv (dU fBits (dVar 0)) (dLit (.int 2))) (dLit (.int 1)))) daN))) q_law_root_2)
theorem e_law_root : w_law_root = q_law_root_1 := by delta q_law_root_1 q_law_root_2 q_law_root_8 q_law_root_3 q_law_root_4 q_law_root_7 q_law_root_5; simp only [hid_eq]; with_unfolding_all rfl
theorem bits_le {n : Int} {k : Nat} (s : Sz k n) : Builtin.Int.intBits n ≤ k := by
  unfold Builtin.Int.intBits
  split
  · omega
  · rename_i h
    have : n.natAbs ≠ 0 := fun z => h (by rw [Int.natAbs_eq_zero.mp z]; rfl)
    have := (Nat.log2_lt this).mpr s.lt
    omega
theorem bits_lt (n : Int) : n.natAbs < 2 ^ Builtin.Int.intBits n := by
  unfold Builtin.Int.intBits
  split
  · rename_i h
    have : n = 0 := by simpa using h
    rw [this]; decide
  · exact Nat.lt_log2_self
def rw2 (K j : Nat) : Int := ((2 ^ (K - j) : Nat) : Int)
theorem rw2_half {K j : Nat} (h : j < K) : rw2 K j = 2 * rw2 K (j + 1) := by
  unfold rw2
  rw [show K - j = (K - (j + 1)) + 1 by omega, Nat.pow_succ]
  omega
theorem rw2_one {K j : Nat} (h : K ≤ j) : rw2 K j = 1 := by
  unfold rw2
  rw [show K - j = 0 by omega]
  rfl
theorem rw2_pos (K j : Nat) : 0 < rw2 K j := by
  unfold rw2
  have : 0 < 2 ^ (K - j) := Nat.pow_pos (by decide)
  omega
/-- one halving -/
theorem half_ok {n lo : Int} {K j : Nat} (h1 : lo * lo ≤ n) (h2 : n < (lo + rw2 K j) * (lo + rw2 K j)) :
    ((lo + (lo + rw2 K j)) / 2 * ((lo + (lo + rw2 K j)) / 2) ≤ n → ∃ l', l' = (lo + (lo + rw2 K j)) / 2 ∧ lo ≤ l' ∧ l' * l' ≤ n ∧ lo + rw2 K j = l' + rw2 K (j + 1)) ∧
    (¬((lo + (lo + rw2 K j)) / 2 * ((lo + (lo + rw2 K j)) / 2) ≤ n) → (lo + (lo + rw2 K j)) / 2 = lo + rw2 K (j + 1) ∧ n < (lo + rw2 K (j + 1)) * (lo + rw2 K (j + 1)) ∧ lo + rw2 K (j + 1) ≤ lo + rw2 K j) := by
  have p := rw2_pos K (j + 1)
  by_cases c : j < K
  · have e := rw2_half c
    have m : (lo + (lo + rw2 K j)) / 2 = lo + rw2 K (j + 1) := by omega
    rw [m]
    refine ⟨fun h => ⟨_, rfl, by omega, h, by omega⟩, fun h => ⟨rfl, by omega, by omega⟩⟩
  · have e := rw2_one (K := K) (j := j) (by omega)
    have e2 := rw2_one (K := K) (j := j + 1) (by omega)
    have m : (lo + (lo + rw2 K j)) / 2 = lo := by omega
    rw [m]
    refine ⟨fun h => ⟨_, rfl, by omega, h, by omega⟩, fun h => absurd h1 h⟩
theorem sz_rw {x : Int} {K : Nat} (h0 : 0 ≤ x) (h : x ≤ rw2 K 0) (hK : K ≤ 2001) : Sz 2002 x := ⟨by
  unfold rw2 at h
  rw [Nat.sub_zero] at h
  have h1 : 2 ^ K ≤ 2 ^ 2001 := Nat.pow_le_pow_right (by decide) hK
  have h2 : 2 ^ 2001 < 2 ^ 2002 := Nat.pow_lt_pow_right (by decide) (by decide)
  generalize 2 ^ 2002 = N at *
  generalize 2 ^ 2001 = N1 at *
  generalize 2 ^ K = N2 at *
  omega⟩
theorem sem_law_root : ∀ ds R, c_law_root ds R → ds.length = 1 → w_law_root (edP R) (ev0 4 ds) := by
  intro ds R h _
  obtain ⟨n, rfl, h0, sn, q⟩ := h
  have hb := bits_le sn
  have hl := bits_lt n
  generalize eB : Builtin.Int.intBits n = B at *
  have dB : ((B : Nat) : Int) / 2 = ((B / 2 : Nat) : Int) := rfl
  have sB : Sz 12 (((B / 2 : Nat) : Int)) := sz_lt (by omega) (by omega)
  rw [e_law_root]; (show q_law_root_1 _ [_, _, _, _, _]; delta q_law_root_1; refine hid_of ?_)
  have db : ∀ x : Int, divC x 2 := fun x => divC_of (m := 2) ⟨by decide⟩ (by decide) (by decide)
  refine ⟨db _, ?_⟩
  rw [eB]
  have eK : (((B : Nat) : Int) / 2 + 1).toNat = B / 2 + 1 := by omega
  have eN : (((B : Nat) : Int) / 2 + 2).toNat = B / 2 + 2 := by omega
  have e1 : (1 : Int) * 2 ^ (((B : Nat) : Int) / 2 + 1).toNat = 0 + rw2 (B / 2 + 1) 0 := by
    rw [eK, Int.one_mul, Int.zero_add]
    unfold rw2
    rw [Nat.sub_zero]
    exact (Int.natCast_pow 2 (B / 2 + 1)).symm
  refine ⟨⟨by omega, by omega, by decide⟩, ?_⟩
  (show q_law_root_2 _ [_, _, some (.val (.int (1 * 2 ^ (((B : Nat) : Int) / 2 + 1).toNat))), _, _])
  rw [e1]
  have n1 : n < (0 + rw2 (B / 2 + 1) 0) * (0 + rw2 (B / 2 + 1) 0) := by
    rw [Int.zero_add]
    unfold rw2
    rw [Nat.sub_zero]
    have h1 : (2 ^ B : Nat) ≤ 2 ^ (B / 2 + 1) * 2 ^ (B / 2 + 1) := by
      rw [← Nat.pow_add]
      exact Nat.pow_le_pow_right (by decide) (by omega)
    have h2 : (n.natAbs : Int) < ((2 ^ (B / 2 + 1) * 2 ^ (B / 2 + 1) : Nat) : Int) := Int.ofNat_lt.mpr (Nat.lt_of_lt_of_le hl h1)
    rw [Int.natCast_mul] at h2
    omega
  (show q_law_root_2 _ [_, _, _, _, _]; delta q_law_root_2; refine hid_of ?_)
  refine ⟨db _, ?_⟩
  rw [eB]
  refine ⟨⟨by omega, by omega⟩, ?_⟩
  rw [eN]
  obtain ⟨K, eKK⟩ : ∃ K, B / 2 + 1 = K := ⟨_, rfl⟩
  have hK : K ≤ 2001 := by omega
  rw [eKK] at n1 ⊢
  refine foD_pre (fun pre ev => ∃ (lo : Int) (s3 s4 : Option Sl), ev = [some (.val (.int n)), some (.val (.int lo)), some (.val (.int (lo + rw2 K pre.length))), s3, s4] ∧ fr s3 ∧ fr s4 ∧ 0 ≤ lo ∧ lo * lo ≤ n ∧ n < (lo + rw2 K pre.length) * (lo + rw2 K pre.length) ∧ lo + rw2 K pre.length ≤ rw2 K 0) (pre := []) (fun pre dd ev E' hd i nx _ _ _ _ => ?_) ⟨0, none, none, rfl, fr_none, fr_none, Int.le_refl 0, by omega, n1, by rw [Int.zero_add]; exact Int.le_refl _⟩ (fun ev i => ?_)
  · obtain ⟨lo, s3, s4, rfl, f3, f4, l0, l1, l2, l3⟩ := i
    have p := rw2_pos K pre.length
    have sl : Sz 2002 lo := sz_rw l0 (by omega) hK
    have sh : Sz 2002 (lo + rw2 K pre.length) := sz_rw (by omega) l3 hK
    obtain ⟨a, b⟩ := half_ok (K := K) (j := pre.length) l1 l2
    have nl : ∀ d : PyData, (pre ++ [d]).length = pre.length + 1 := fun d => by rw [List.length_append, List.length_singleton]
    refine gN_fr (s := s3) rfl f3 ?_
    (show q_law_root_3 _ [_, _, _, _, _]; delta q_law_root_3; refine hid_of ?_)
    refine ⟨db _, ?_⟩
    refine gN_fr (s := s4) rfl f4 ?_
    (show q_law_root_4 _ [_, _, _, _, _]; delta q_law_root_4; refine hid_of ?_)
    refine ⟨by walk_at "sz", trivial, trivial, ?_⟩
    refine ite_b (fun z => ?_) (fun z => ?_)
    · obtain ⟨l', el, h1, h2, h3⟩ := a (of_decide_eq_true z)
      (show q_law_root_5 _ [_, _, _, _, _]; delta q_law_root_5; refine hid_of ?_)
      refine nx _ ⟨l', some (.val dd), some (.val (.int ((lo + (lo + rw2 K pre.length)) / 2))), ?_, fr_val, fr_val, by omega, h2, ?_, ?_⟩
      · rw [nl, ← h3, el]; rfl
      · rw [nl, ← h3]; exact l2
      · rw [nl, ← h3]; exact l3
    · obtain ⟨h1, h2, h3⟩ := b (of_decide_eq_false z)
      (show q_law_root_7 _ [_, _, _, _, _]; delta q_law_root_7; refine hid_of ?_)
      refine nx _ ⟨lo, some (.val dd), some (.val (.int ((lo + (lo + rw2 K pre.length)) / 2))), ?_, fr_val, fr_val, l0, l1, ?_, ?_⟩
      · rw [nl, ← h1]; rfl
      · rw [nl]; exact h2
      · rw [nl]; omega
  · obtain ⟨lo, s3, s4, rfl, f3, f4, l0, l1, l2, l3⟩ := i
    have ll : ([] ++ rngD 0 (B / 2 + 2)).length = B / 2 + 2 := by unfold rngD; rw [List.nil_append, List.length_map, List.length_range]
    rw [ll, rw2_one (by omega)] at l2
    (show q_law_root_8 _ [_, _, _, _, _]; delta q_law_root_8; refine hid_of ?_)
    show R (.int lo)
    rw [← rt_uniq l0 l1 l2]
    exact q
def w_law_times : Ws := (wRet (dTup (daC (dOp fSub (dOp fMul (dOp fIx (dVar 0) (dLit (.int 0))) (dOp fIx (dVar 1) (dLit (.int 0)))) (dOp fMul (dOp fIx (dVar 0) (dLit (.int 1))) (dOp fIx (dVar 1) (dLit (.int 1))))) (daC (dOp fCat (dOp fMul (dOp fIx (dVar 0) (dLit (.int 0))) (dOp fIx (dVar 1) (dLit (.int 1)))) (dOp fMul (dOp fIx (dVar 0) (dLit (.int 1))) (dOp fIx (dVar 1) (dLit (.int 0))))) daN))))
theorem sem_law_times : ∀ ds R, c_law_times ds R → ds.length = 2 → w_law_times (edP R) (ev0 0 ds) := by
  intro ds R h _
  obtain ⟨a, b, c, d, rfl, ⟨ha, hb, hc, hd⟩, q⟩ := h
  walk_at "go"
theorem ltimes_ok {p q : G} {n m : Nat} {R : PyData → Prop} [a : GS n p] [b : GS m q] (hn : n ≤ 20000) (hm : m ≤ 20000) (r : R (cd (gm p q))) : c_law_times [cd p, cd q] R := ⟨p.1, p.2, q.1, q.2, rfl, ⟨szUp a.a hn, szUp a.b hn, szUp b.a hm, szUp b.b hm⟩, r⟩
def w_law_plus : Ws := (wRet (dTup (daC (dOp fCat (dOp fIx (dVar 0) (dLit (.int 0))) (dOp fIx (dVar 1) (dLit (.int 0)))) (daC (dOp fCat (dOp fIx (dVar 0) (dLit (.int 1))) (dOp fIx (dVar 1) (dLit (.int 1)))) daN))))
theorem sem_law_plus : ∀ ds R, c_law_plus ds R → ds.length = 2 → w_law_plus (edP R) (ev0 0 ds) := by
  intro ds R h _
  obtain ⟨a, b, c, d, rfl, ⟨ha, hb, hc, hd⟩, q⟩ := h
  walk_at "go"
def w_law_minus : Ws := (wRet (dTup (daC (dOp fSub (dLit (.int 0)) (dOp fIx (dVar 0) (dLit (.int 0)))) (daC (dOp fSub (dLit (.int 0)) (dOp fIx (dVar 0) (dLit (.int 1)))) daN))))
theorem sem_law_minus : ∀ ds R, c_law_minus ds R → ds.length = 1 → w_law_minus (edP R) (ev0 0 ds) := by
  intro ds R h _
  obtain ⟨⟨a, b⟩, rfl, q⟩ := h
  have e : (-((a, b) : G)) = (0 - a, 0 - b) := Prod.ext (by show -a = 0 - a; omega) (by show -b = 0 - b; omega)
  rw [e] at q
  walk_at "go"
theorem lminus_ok {p : G} {R : PyData → Prop} (r : R (cd (-p))) : c_law_minus [cd p] R := ⟨p, rfl, r⟩
def w_law_conj : Ws := (wRet (dTup (daC (dOp fIx (dVar 0) (dLit (.int 0))) (daC (dOp fSub (dLit (.int 0)) (dOp fIx (dVar 0) (dLit (.int 1)))) daN))))
theorem sem_law_conj : ∀ ds R, c_law_conj ds R → ds.length = 1 → w_law_conj (edP R) (ev0 0 ds) := by
  intro ds R h _
  obtain ⟨a, b, rfl, q⟩ := h
  rw [← Int.zero_sub] at q
  walk_at "go"
theorem lconj_ok {p : G} {R : PyData → Prop} (r : R (cd (gj p))) : c_law_conj [cd p] R := ⟨p.1, p.2, rfl, r⟩
def w_law_norm : Ws := (wRet (dOp fCat (dOp fMul (dOp fIx (dVar 0) (dLit (.int 0))) (dOp fIx (dVar 0) (dLit (.int 0)))) (dOp fMul (dOp fIx (dVar 0) (dLit (.int 1))) (dOp fIx (dVar 0) (dLit (.int 1))))))
theorem sem_law_norm : ∀ ds R, c_law_norm ds R → ds.length = 1 → w_law_norm (edP R) (ev0 0 ds) := by
  intro ds R h _
  obtain ⟨a, b, rfl, ⟨ha, hb⟩, q⟩ := h
  walk_at "go"
theorem lnorm_ok {p : G} {n : Nat} {R : PyData → Prop} [a : GS n p] (hn : n ≤ 20000) (r : R (.int (nm p))) : c_law_norm [cd p] R := ⟨p.1, p.2, rfl, ⟨szUp a.a hn, szUp a.b hn⟩, r⟩
def w_law_scaled : Ws := (wRet (dTup (daC (dOp fMul (dVar 0) (dOp fIx (dVar 1) (dLit (.int 0)))) (daC (dOp fMul (dVar 0) (dOp fIx (dVar 1) (dLit (.int 1)))) daN))))
theorem sem_law_scaled : ∀ ds R, c_law_scaled ds R → ds.length = 2 → w_law_scaled (edP R) (ev0 0 ds) := by
  intro ds R h _
  obtain ⟨k, ⟨a, b⟩, rfl, ⟨hk, ha, hb⟩, q⟩ := h
  have ha : Sm a := ha
  have hb : Sm b := hb
  walk_at "go"
theorem lscaled_ok {k : Int} {p : G} {n m : Nat} {R : PyData → Prop} [s : Sz m k] [a : GS n p] (hm : m ≤ 20000) (hn : n ≤ 20000) (r : R (cd (k * p.1, k * p.2))) : c_law_scaled [.int k, cd p] R := ⟨k, p, rfl, ⟨szUp s hm, szUp a.a hn, szUp a.b hn⟩, r⟩
theorem lplus_ok {p q : G} {n m : Nat} {R : PyData → Prop} [a : GS n p] [b : GS m q] (hn : n ≤ 20000) (hm : m ≤ 20000) (r : R (cd (ga p q))) : c_law_plus [cd p, cd q] R := ⟨p.1, p.2, q.1, q.2, rfl, ⟨szUp a.a hn, szUp a.b hn, szUp b.a hm, szUp b.b hm⟩, r⟩
def w_law_over : Ws := (wSeq (wPar 2 3 (daC (dFn 1 c_law_norm (daC (dVar 1) daN)) (daC (dFn 2 c_law_times (daC (dVar 0) (daC (dFn 1 c_law_conj (daC (dVar 1) daN)) daN))) daN))) (wRet (dTup (daC (dOp fDiv (dOp fIx (dVar 3) (dLit (.int 0))) (dVar 2)) (daC (dOp fDiv (dOp fIx (dVar 3) (dLit (.int 1))) (dVar 2)) daN)))))
theorem over_id (y c : G) : (gm (gm y c) (gj y)).1 / nm y = c.1 ∨ nm y = 0 := by
  by_cases z : nm y = 0
  · exact .inr z
  · left
    have e : (gm (gm y c) (gj y)).1 = nm y * c.1 := by simp only [gm, gj, nm]; grind
    rw [e, Int.mul_ediv_cancel_left _ z]
theorem over_id2 (y c : G) : (gm (gm y c) (gj y)).2 / nm y = c.2 ∨ nm y = 0 := by
  by_cases z : nm y = 0
  · exact .inr z
  · left
    have e : (gm (gm y c) (gj y)).2 = nm y * c.2 := by simp only [gm, gj, nm]; grind
    rw [e, Int.mul_ediv_cancel_left _ z]
theorem sem_law_over : ∀ ds R, c_law_over ds R → ds.length = 2 → w_law_over (edP R) (ev0 2 ds) := by
  intro ds R h _
  obtain ⟨n, x, y, c, rfl, e, hy, hn, ⟨s1, s2, s3, s4⟩, q⟩ := h
  have gx : GS 2000 x := ⟨szUp s1 hn, szUp s2 hn⟩
  have gy : GS 2000 y := ⟨szUp s3 hn, szUp s4 hn⟩
  have z1 := nm_pos hy
  refine ⟨rfl, lnorm_ok (by decide) ⟨rfl, lconj_ok ⟨rfl, ltimes_ok (by decide) (by decide) ?_⟩⟩⟩
  have sz : Sz 8000 (gm x (gj y)).1 := szUp inferInstance (by decide)
  have sz2 : Sz 8000 (gm x (gj y)).2 := szUp inferInstance (by decide)
  have dv : ∀ x : Int, Sz 8000 x → divC x (nm y) := fun x sx => divC_of (m := 2 * 2000 + 1) (inferInstance : Sz (2 * 2000 + 1) (nm y)) z1 (by decide)
  refine ⟨dv _ sz, dv _ sz2, Nat.le_of_ble_eq_true rfl, ?_⟩
  have h1 := (over_id y c).resolve_right (Int.ne_of_gt z1)
  have h2 := (over_id2 y c).resolve_right (Int.ne_of_gt z1)
  rw [← e] at h1 h2
  show R (cp ((gm x (gj y)).1 / nm y) ((gm x (gj y)).2 / nm y))
  rw [h1, h2]
  exact q
theorem lover_ok {n : Nat} {x y c : G} {R : PyData → Prop} (e : x = gm y c) (hy : y ≠ (0, 0)) (hn : n ≤ 2000) (s1 : Sz n x.1) (s2 : Sz n x.2) (s3 : Sz n y.1) (s4 : Sz n y.2) (r : R (cd c)) : c_law_over [cd x, cd y] R := ⟨n, x, y, c, rfl, e, hy, hn, ⟨s1, s2, s3, s4⟩, r⟩
abbrev r_law_deep_4 : Ws := (wPar 0 1 (daC (dVar 1) (daC (dFn 2 c_law_plus (daC (dVar 0) (daC (dFn 1 c_law_minus (daC (dFn 2 c_law_times (daC (dVar 4) (daC (dVar 1) daN))) daN)) daN))) daN)))
abbrev r_law_deep_3 : Ws := (wSeq (wAsg (dTup (daC (dOp fDiv (dOp fCat (dOp fMul (dLit (.int 2)) (dOp fIx (dVar 3) (dLit (.int 0)))) (dVar 2)) (dOp fMul (dLit (.int 2)) (dVar 2))) (daC (dOp fDiv (dOp fCat (dOp fMul (dLit (.int 2)) (dOp fIx (dVar 3) (dLit (.int 1)))) (dVar 2)) (dOp fMul (dLit (.int 2)) (dVar 2))) daN))) (gN 4)) r_law_deep_4)
abbrev r_law_deep_2 : Ws := (wSeq (wPar 2 3 (daC (dFn 1 c_law_norm (daC (dVar 1) daN)) (daC (dFn 2 c_law_times (daC (dVar 0) (daC (dFn 1 c_law_conj (daC (dVar 1) daN)) daN))) daN))) r_law_deep_3)
def w_law_deep : Ws := (wSeq (wWhile (dTru (dOp fNe (dVar 1) (dTup (daC (dLit (.int 0)) (daC (dLit (.int 0)) daN))))) (wSeq (wPar 2 3 (daC (dFn 1 c_law_norm (daC (dVar 1) daN)) (daC (dFn 2 c_law_times (daC (dVar 0) (daC (dFn 1 c_law_conj (daC (dVar 1) daN)) daN))) daN))) (wSeq (wAsg (dTup (daC (dOp fDiv (dOp fCat (dOp fMul (dLit (.int 2)) (dOp fIx (dVar 3) (dLit (.int 0)))) (dVar 2)) (dOp fMul (dLit (.int 2)) (dVar 2))) (daC (dOp fDiv (dOp fCat (dOp fMul (dLit (.int 2)) (dOp fIx (dVar 3) (dLit (.int 1)))) (dVar 2)) (dOp fMul (dLit (.int 2)) (dVar 2))) daN))) (gN 4)) (wPar 0 1 (daC (dVar 1) (daC (dFn 2 c_law_plus (daC (dVar 0) (daC (dFn 1 c_law_minus (daC (dFn 2 c_law_times (daC (dVar 4) (daC (dVar 1) daN))) daN)) daN))) daN)))))) (wRet (dVar 0)))
abbrev T_deep : Wt := dTru (dOp fNe (dVar 1) (dTup (daC (dLit (.int 0)) (daC (dLit (.int 0)) daN))))
theorem deep_run {n : Nat} {E : Ed} (hn : n ≤ 900) : ∀ (k : Nat) (o t : G) (s2 s3 s4 : Option Sl), (nm t).toNat ≤ k → Sz n o.1 → Sz n o.2 → Sz n t.1 → Sz n t.2 → fr s2 → fr s3 → fr s4 →
    (∀ (h : G) (s1 s2 s3 s4 : Option Sl), GC [o, t] h → Sz n h.1 → Sz n h.2 → E.nx [some (.val (cd h)), s1, s2, s3, s4]) →
    ∃ m, whD T_deep r_law_deep_2 m E [some (.val (cd o)), some (.val (cd t)), s2, s3, s4] := by
  intro k
  induction k using Nat.strongRecOn with
  | _ k ih =>
    intro o t s2 s3 s4 hk ho1 ho2 ht1 ht2 f2 f3 f4 q
    by_cases z : t = (0, 0)
    · subst z
      exact ⟨1, ⟨Nat.le_of_ble_eq_true rfl, Or.inr ⟨rfl, rfl⟩, trivial, q o _ _ _ _ (GC.zero o) ho1 ho2⟩⟩
    obtain ⟨a, b⟩ := o
    obtain ⟨c, e⟩ := t
    have z1 : 0 < c * c + e * e := nm_pos z
    have rn := rest_nm (a := a) (b := b) z1
    have key : ∀ u v : Int, 2 * nm (les (a, b) (u, v) (c, e)) ≤ c * c + e * e → ∃ m, whD T_deep r_law_deep_2 m E [some (.val (cd (c, e))), some (.val (cd (les (a, b) (u, v) (c, e)))), some (.val (.int (c * c + e * e))), some (.val (cp (a * c - b * -e) (a * -e + b * c))), some (.val (cp u v))] := fun u v rn => by
      obtain ⟨sx, sy⟩ := sz_nm (x := (les (a, b) (u, v) (c, e)).1) (y := (les (a, b) (u, v) (c, e)).2) rn ht1 ht2
      have n0 := nm_nn (les (a, b) (u, v) (c, e))
      have n1 : nm (c, e) = c * c + e * e := rfl
      refine ih (nm (les (a, b) (u, v) (c, e))).toNat (by omega) (c, e) (les (a, b) (u, v) (c, e)) _ _ _ (Nat.le_refl _) ht1 ht2 sx sy fr_val fr_val fr_val fun h s1 s2 s3 s4 g => q h s1 s2 s3 s4 (GC.step g)
    obtain ⟨m, hm⟩ := key _ _ rn
    refine ⟨m + 1, ⟨Nat.le_of_ble_eq_true rfl, Or.inr ⟨rfl, rfl⟩, trivial, ?_⟩⟩
    refine ite_t (show tru (.bool !(PyData.eqv (cd (c, e)) (cd (0, 0)))) = true by rw [eqv_cd, decide_eq_false z]; rfl) ?_
    have ia : GS 900 ((a, b) : G) := ⟨szUp ho1 hn, szUp ho2 hn⟩
    have ic : GS 900 ((c, e) : G) := ⟨szUp ht1 hn, szUp ht2 hn⟩
    refine ⟨rfl, lnorm_ok (by decide) ⟨rfl, lconj_ok ⟨rfl, ltimes_ok (by decide) (by decide) ?_⟩⟩⟩
    show gN 2 (.int (nm (c, e))) [some (.val (cd (a, b))), some (.val (cd (c, e))), s2, s3, s4] fun e1 => gN 3 (cd (gm (a, b) (gj (c, e)))) e1 (r_law_deep_3 _)
    refine gN_fr (s := s2) rfl f2 ?_
    refine gN_fr (s := s3) rfl f3 ?_
    show r_law_deep_3 _ [some (.val (cd (a, b))), some (.val (cd (c, e))), some (.val (.int (c * c + e * e))), some (.val (cp (a * c - b * -e) (a * -e + b * c))), s4]
    have ha : Sz 900 a := ia.a
    have hb : Sz 900 b := ia.b
    have hc : Sz 900 c := ic.a
    have he : Sz 900 e := ic.b
    have dv : ∀ x : Int, divC x (2 * (c * c + e * e)) := fun x => divC_of (m := 2 + (max (900 + 900) (900 + 900) + 1)) inferInstance (by omega) (by decide)
    have i1 : Sz 2000 ((2 * (a * c - b * -e) + (c * c + e * e)) / (2 * (c * c + e * e))) := szUp inferInstance (by decide)
    have i2 : Sz 2000 ((2 * (a * -e + b * c) + (c * c + e * e)) / (2 * (c * c + e * e))) := szUp inferInstance (by decide)
    refine ⟨by walk_at "sz", by walk_at "sz", dv _, by walk_at "sz", by walk_at "sz", dv _, Nat.le_of_ble_eq_true rfl, ?_⟩
    refine gN_fr (s := s4) rfl f4 ?_
    have iu : GS 2000 (((2 * (a * c - b * -e) + (c * c + e * e)) / (2 * (c * c + e * e)), (2 * (a * -e + b * c) + (c * c + e * e)) / (2 * (c * c + e * e))) : G) := ⟨i1, i2⟩
    refine ⟨rfl, ltimes_ok (p := (_, _)) (q := (c, e)) (by decide) (by decide) ⟨rfl, lminus_ok ?_⟩⟩
    generalize hu : (((2 * (a * c - b * -e) + (c * c + e * e)) / (2 * (c * c + e * e)), (2 * (a * -e + b * c) + (c * c + e * e)) / (2 * (c * c + e * e))) : G) = t at hm iu ⊢
    have ie : les (a, b) t (c, e) = (a + (-gm t (c, e)).1, b + (-gm t (c, e)).2) := Prod.ext (Int.sub_eq_add_neg ..) (Int.sub_eq_add_neg ..)
    have gx : GS 4000 (gm t (c, e)) := ⟨szUp (inferInstance : Sz _ (gm t (c, e)).1) (by decide), szUp (inferInstance : Sz _ (gm t (c, e)).2) (by decide)⟩
    have hm := hm
    rw [ie] at hm
    refine ⟨rfl, a, b, _, _, rfl, ⟨szUp ha (by decide), szUp hb (by decide), szUp (ngS gx.a) (by decide), szUp (ngS gx.b) (by decide)⟩, ?_⟩
    exact hm
theorem sem_law_deep : ∀ ds R, c_law_deep ds R → ds.length = 2 → w_law_deep (edP R) (ev0 3 ds) := by
  intro ds R h _
  obtain ⟨n, x, y, rfl, hn, ⟨s1, s2, s3, s4⟩, q⟩ := h
  refine deep_run hn _ x y none none none (Nat.le_refl _) s1 s2 s3 s4 fr_none fr_none fr_none fun h s1 s2 s3 s4 g z1 z2 => ?_
  exact q h g z1 z2
abbrev r_law_quarter_3 : Ws := (wRet (dVar 0))
abbrev r_law_quarter_4 : Ws := (wAsg (dTup (daC (dOp fSub (dLit (.int 0)) (dOp fIx (dVar 0) (dLit (.int 1)))) (daC (dOp fIx (dVar 0) (dLit (.int 0))) daN))) (gN 0))
abbrev r_law_quarter_2 : Ws := (wSeq (wIf (dAndT (dTru (dOp fGt (dOp fIx (dVar 0) (dLit (.int 0))) (dLit (.int 0)))) (dTru (dOp fGe (dOp fIx (dVar 0) (dLit (.int 1))) (dLit (.int 0))))) r_law_quarter_3 wNx) r_law_quarter_4)
def w_law_quarter : Ws := (wSeq (wFor (diR1 (daC (dLit (.int 4)) daN)) (gN 1) (wSeq (wIf (dAndT (dTru (dOp fGt (dOp fIx (dVar 0) (dLit (.int 0))) (dLit (.int 0)))) (dTru (dOp fGe (dOp fIx (dVar 0) (dLit (.int 1))) (dLit (.int 0))))) (wRet (dVar 0)) wNx) (wAsg (dTup (daC (dOp fSub (dLit (.int 0)) (dOp fIx (dVar 0) (dLit (.int 1)))) (daC (dOp fIx (dVar 0) (dLit (.int 0))) daN))) (gN 0)))) (wRet (dVar 0)))
theorem lq_step {a b j : Int} {ds : List PyData} {s : Option Sl} {E : Ed} (hs : s = none ∨ ∃ v, s = some (.val v)) (h1 : 0 < a → 0 ≤ b → ∀ ev, E.rt (cp a b) ev) (h2 : ¬(0 < a ∧ 0 ≤ b) → foD (gN 1) r_law_quarter_2 ds E [some (.val (cp (0 - b) a)), some (.val (.int j))]) :
    foD (gN 1) r_law_quarter_2 (.int j :: ds) E [some (.val (cp a b)), s] := by
  have goal : ∀ (E' : Ed), E'.rt = E.rt → E'.nx = foD (gN 1) r_law_quarter_2 ds E → r_law_quarter_2 E' [some (.val (cp a b)), some (.val (.int j))] := fun E' e1 e2 => by
    refine ⟨trivial, trivial, ?_⟩
    by_cases z : 0 < a
    · refine ite_t (decide_eq_true z) ⟨trivial, trivial, ?_⟩
      by_cases y : 0 ≤ b
      · refine ite_t (decide_eq_true y) ?_
        show E'.rt (cp a b) _
        rw [e1]
        exact h1 z y _
      · refine ite_f (decide_eq_false y) ⟨trivial, Nat.le_of_ble_eq_true rfl, ?_⟩
        show E'.nx _
        rw [e2]
        exact h2 fun n => y n.2
    · refine ite_f (decide_eq_false z) ?_
      refine ite_f rfl ⟨trivial, Nat.le_of_ble_eq_true rfl, ?_⟩
      show E'.nx _
      rw [e2]
      exact h2 fun n => z n.1
  rcases hs with rfl | ⟨v, rfl⟩ <;> exact goal _ rfl rfl
theorem sem_law_quarter : ∀ ds R, c_law_quarter ds R → ds.length = 1 → w_law_quarter (edP R) (ev0 1 ds) := by
  intro ds R h _
  obtain ⟨a, b, rfl, q⟩ := h
  have qq : ∀ a b : Int, 0 < a → 0 ≤ b → qf a b = (a, b) := fun a b h1 h2 => by
    unfold qf
    rw [if_neg (by omega), if_pos ⟨h1, h2⟩]
  have tn : ∀ a b : Int, qf (0 - b) a = qf a b := fun a b => by rw [Int.zero_sub]; exact qf_turn a b
  refine ⟨⟨by decide, by decide⟩, ?_⟩
  have e : rngD 0 (4 : Int).toNat = [.int 0, .int 1, .int 2, .int 3] := rfl
  rw [e]
  refine lq_step (.inl rfl) (fun h1 h2 _ => ?_) fun n1 => lq_step (.inr ⟨_, rfl⟩) (fun h1 h2 _ => ?_) fun n2 => lq_step (.inr ⟨_, rfl⟩) (fun h1 h2 _ => ?_) fun n3 => lq_step (.inr ⟨_, rfl⟩) (fun h1 h2 _ => ?_) fun n4 => ?_
  · rw [qq _ _ h1 h2] at q
    exact q
  · have g := qq _ _ h1 h2
    rw [tn] at g
    rw [g] at q
    exact q
  · have g := qq _ _ h1 h2
    rw [tn, tn] at g
    rw [g] at q
    exact q
  · have g := qq _ _ h1 h2
    rw [tn, tn, tn] at g
    rw [g] at q
    exact q
  · have za : a = 0 := by omega
    have zb : b = 0 := by omega
    subst za zb
    exact q
def w_law_chart : Ws := (wSeq (wAsg (dTup (daC (dLit (.int 0)) (daC (dLit (.int 0)) daN))) (gN 2)) (wSeq (wFor (diL (dVar 1)) (gN 3) (wAsg (dFn 2 c_law_deep (daC (dVar 2) (daC (dVar 3) daN))) (gN 2))) (wSeq (wAsg (dLc [3] (diL (dVar 1)) (gN 3) dYes (dFn 2 c_law_over (daC (dVar 3) (daC (dVar 2) daN)))) (gN 4)) (wSeq (wAsg (dOp fIx (dLc [3] (diL (dVar 4)) (gN 3) (dTru (dOp fNe (dVar 3) (dTup (daC (dLit (.int 0)) (daC (dLit (.int 0)) daN))))) (dVar 3)) (dLit (.int 0))) (gN 5)) (wSeq (wAsg (dFn 2 c_law_over (daC (dFn 1 c_law_quarter (daC (dVar 5) daN)) (daC (dVar 5) daN))) (gN 6)) (wSeq (wAsg (dLc [3] (diL (dVar 4)) (gN 3) dYes (dFn 2 c_law_times (daC (dVar 6) (daC (dVar 3) daN)))) (gL 4 (gsC (gN 7) (gsC (gN 8) (gsC (gN 9) (gsC (gN 10) gsN)))))) (wRet (dTup (daC (dVar 0) (daC (dVar 7) (daC (dVar 8) (daC (dVar 9) (daC (dVar 10) daN)))))))))))))
@[irreducible] noncomputable def q_law_chart_3 : Ws := hid (wAsg (dFn 2 c_law_deep (daC (dVar 2) (daC (dVar 3) daN))) (gN 2))
@[irreducible] noncomputable def q_law_chart_8 : Ws := hid (wRet (dTup (daC (dVar 0) (daC (dVar 7) (daC (dVar 8) (daC (dVar 9) (daC (dVar 10) daN)))))))
@[irreducible] noncomputable def q_law_chart_7 : Ws := hid (wSeq (wAsg (dLc [3] (diL (dVar 4)) (gN 3) dYes (dFn 2 c_law_times (daC (dVar 6) (daC (dVar 3) daN)))) (gL 4 (gsC (gN 7) (gsC (gN 8) (gsC (gN 9) (gsC (gN 10) gsN)))))) q_law_chart_8)
@[irreducible] noncomputable def q_law_chart_6 : Ws := hid (wSeq (wAsg (dFn 2 c_law_over (daC (dFn 1 c_law_quarter (daC (dVar 5) daN)) (daC (dVar 5) daN))) (gN 6)) q_law_chart_7)
@[irreducible] noncomputable def q_law_chart_5 : Ws := hid (wSeq (wAsg (dOp fIx (dLc [3] (diL (dVar 4)) (gN 3) (dTru (dOp fNe (dVar 3) (dTup (daC (dLit (.int 0)) (daC (dLit (.int 0)) daN))))) (dVar 3)) (dLit (.int 0))) (gN 5)) q_law_chart_6)
@[irreducible] noncomputable def q_law_chart_4 : Ws := hid (wSeq (wAsg (dLc [3] (diL (dVar 1)) (gN 3) dYes (dFn 2 c_law_over (daC (dVar 3) (daC (dVar 2) daN)))) (gN 4)) q_law_chart_5)
@[irreducible] noncomputable def q_law_chart_2 : Ws := hid (wSeq (wFor (diL (dVar 1)) (gN 3) q_law_chart_3) q_law_chart_4)
@[irreducible] noncomputable def q_law_chart_1 : Ws := hid (wSeq (wAsg (dTup (daC (dLit (.int 0)) (daC (dLit (.int 0)) daN))) (gN 2)) q_law_chart_2)
theorem e_law_chart : w_law_chart = q_law_chart_1 := by delta q_law_chart_1 q_law_chart_2 q_law_chart_4 q_law_chart_5 q_law_chart_6 q_law_chart_7 q_law_chart_8 q_law_chart_3; simp only [hid_eq]; with_unfolding_all rfl
theorem chart_one {n : Nat} {u v g : G} {R' : PyData → Ev → Prop} {ev' : Ev} (hn : n ≤ 800) (hg : g ≠ (0, 0)) (g1 : Sz n g.1) (g2 : Sz n g.2) (e : u = gm g v) (s1 : Sz n u.1) (s2 : Sz n u.2) (r : R' (od (xq u.1 u.2 g.1 g.2)) ev') : c_law_over [cd u, cd g] fun d => R' d ev' := by
  rw [xq_gm (p := v) hg e] at r
  exact lover_ok e hg (show n ≤ 2000 by omega) s1 s2 g1 g2 r
theorem sem_law_chart : ∀ ds R, c_law_chart ds R → ds.length = 2 → w_law_chart (edP R) (ev0 9 ds) := by
  intro ds R h _
  obtain ⟨f, a, b, c, d, n, rfl, s, hn, hz, q⟩ := h
  rw [e_law_chart]; (show q_law_chart_1 _ [_, _, _, _, _, _, _, _, _, _, _]; delta q_law_chart_1; refine hid_of ?_)
  refine ⟨Nat.le_of_ble_eq_true rfl, ?_⟩
  (show q_law_chart_2 _ [_, _, _, _, _, _, _, _, _, _, _]; delta q_law_chart_2; refine hid_of ?_)
  refine foD_pre (fun pre ev => ∃ (done : List G) (g : G) (s3 : Option Sl), pre = done.map cd ∧ ev = [some (.val (.int f)), some (.val (.list [cd a, cd b, cd c, cd d])), some (.val (cd g)), s3, none, none, none, none, none, none, none] ∧ fr s3 ∧ (done ≠ [] → ∃ v, s3 = some (.val v)) ∧ GC done g ∧ Sz n g.1 ∧ Sz n g.2) (pre := []) (fun pre dd ev E' hd i nx _ _ _ _ => ?_) ⟨[], (0, 0), none, rfl, rfl, fr_none, fun n => absurd rfl n, GC.nil, szUp (n := 0) ⟨by decide⟩ (Nat.zero_le _), szUp (n := 0) ⟨by decide⟩ (Nat.zero_le _)⟩ (fun ev i => ?_)
  · obtain ⟨done, g, s3, rfl, rfl, f3, _, hg, s1, s1'⟩ := i
    have hp' : ∃ p : G, dd = cd p ∧ Sz n p.1 ∧ Sz n p.2 := by
      simp only [List.mem_cons, List.not_mem_nil, or_false] at hd
      rcases hd with rfl | rfl | rfl | rfl
      · exact ⟨_, rfl, s.a1, s.a2⟩
      · exact ⟨_, rfl, s.b1, s.b2⟩
      · exact ⟨_, rfl, s.c1, s.c2⟩
      · exact ⟨_, rfl, s.d1, s.d2⟩
    obtain ⟨p, rfl, t1, t2⟩ := hp'
    refine gN_fr (s := s3) rfl f3 ?_
    (show q_law_chart_3 _ [_, _, _, _, _, _, _, _, _, _, _]; delta q_law_chart_3; refine hid_of ?_)
    refine ⟨rfl, n, g, p, rfl, by omega, ⟨s1, s1', t1, t2⟩, fun h gc z1 z2 => ?_⟩
    exact nx _ ⟨done ++ [p], h, _, by rw [List.map_append]; rfl, rfl, fr_val, fun _ => ⟨_, rfl⟩, GC.snoc hg gc, z1, z2⟩
  obtain ⟨done, g, s3, e, rfl, _, f3, gc, g1, g2⟩ := i
  rw [List.nil_append] at e
  have e' : done = [a, b, c, d] := (cd_inj (show [a, b, c, d].map cd = done.map cd from e)).symm
  subst e'
  obtain ⟨v3, rfl⟩ := f3 (by simp)
  have hg : g ≠ (0, 0) := gc.ne (by
    by_cases y : a = (0, 0)
    · refine ⟨b, by simp, fun z => led_nz hz ?_⟩
      unfold led
      rw [if_neg (fun n => n y)]
      exact z
    · exact ⟨a, by simp, y⟩)
  obtain ⟨x, hx⟩ := gc.dv a (by simp)
  obtain ⟨y, hy⟩ := gc.dv b (by simp)
  obtain ⟨z, hz'⟩ := gc.dv c (by simp)
  obtain ⟨w, hw⟩ := gc.dv d (by simp)
  (show q_law_chart_4 _ [_, _, _, _, _, _, _, _, _, _, _]; delta q_law_chart_4; refine hid_of ?_)
  refine lc_map (f := fun d => od (xq (toG d).1 (toG d).2 g.1 g.2)) rfl (Nat.le_of_ble_eq_true rfl) (fun u hu R' r => ?_) ?_
  · rcases List.mem_cons.mp hu with e | hu
    · subst e; exact ⟨rfl, chart_one hn hg g1 g2 hx s.a1 s.a2 r⟩
    rcases List.mem_cons.mp hu with e | hu
    · subst e; exact ⟨rfl, chart_one hn hg g1 g2 hy s.b1 s.b2 r⟩
    rcases List.mem_cons.mp hu with e | hu
    · subst e; exact ⟨rfl, chart_one hn hg g1 g2 hz' s.c1 s.c2 r⟩
    · rw [List.mem_singleton.mp hu] at r ⊢
      exact ⟨rfl, chart_one hn hg g1 g2 hw s.d1 s.d2 r⟩
  rw [show [] ++ [cd a, cd b, cd c, cd d].map (fun d => od (xq (toG d).1 (toG d).2 g.1 g.2)) = [cd x, cd y, cd z, cd w] from by
    show [od (xq a.1 a.2 g.1 g.2), od (xq b.1 b.2 g.1 g.2), od (xq c.1 c.2 g.1 g.2), od (xq d.1 d.2 g.1 g.2)] = _
    rw [xq_gm (p := x) hg hx, xq_gm (p := y) hg hy, xq_gm (p := z) hg hz', xq_gm (p := w) hg hw]
    rfl]
  have dn : dtm x y z w ≠ (0, 0) := fun e => hz (by rw [hx, hy, hz', hw, dtm_gm, e, gm_zero])
  have sx := sz_fac hg hx s.a1 s.a2
  have sy := sz_fac hg hy s.b1 s.b2
  have sz := sz_fac hg hz' s.c1 s.c2
  have sw := sz_fac hg hw s.d1 s.d2
  have S : S4 (n + 1) x y z w := ⟨sx.1, sx.2, sy.1, sy.2, sz.1, sz.2, sw.1, sw.2⟩
  have gc1 : GC [x, y, z, w] (1, 0) := by
    have g0 : GC [a, b, c, d, (0, 0)] g := gc.snoc (GC.zero g)
    exact g0.quot (fun k _ _ _ _ => gdv_zero k) hg hx hy hz' hw
  have ln := led_nz dn
  obtain ⟨k, hk, ek⟩ := qf_tk (led x y)
  obtain ⟨u, hu, u1, u2⟩ := tk_unit k hk
  have F := Fm.turn S gc1 dn ln ek
  obtain ⟨D, hD, fD⟩ := tk_fac g hg k
  have sl : Sz (n + 1) (led x y).1 ∧ Sz (n + 1) (led x y).2 := by
    unfold led
    by_cases e : x = (0, 0)
    · rw [if_neg (fun n => n e)]; exact sy
    · rw [if_pos e]; exact sx
  have sq := qf_sz sl.1 sl.2
  (show q_law_chart_5 _ [_, _, _, _, _, _, _, _, _, _, _]; delta q_law_chart_5; refine hid_of ?_)
  refine lc_keep (p := fun d => !PyData.eqv d (cd (0, 0))) (f := id) rfl (Nat.le_of_ble_eq_true rfl) (fun d hd R r => ?_) (fun d hd hp R r => r) ?_
  · have hx' : ∃ p : G, d = cd p := by
      simp only [List.mem_cons, List.not_mem_nil, or_false] at hd
      rcases hd with rfl | rfl | rfl | rfl <;> exact ⟨_, rfl⟩
    obtain ⟨p, rfl⟩ := hx'
    exact ⟨Nat.le_of_ble_eq_true rfl, Or.inr ⟨rfl, rfl⟩, trivial, r⟩
  obtain ⟨rest, er⟩ := first_led (z := z) (w := w) ln
  rw [List.map_id, List.nil_append, er]
  refine fIx_hd ?_
  (show q_law_chart_6 _ [_, _, _, _, _, _, _, _, _, _, _]; delta q_law_chart_6; refine hid_of ?_)
  refine ⟨rfl, (led x y).1, (led x y).2, rfl, ?_⟩
  refine ⟨rfl, lover_ok (x := qf (led x y).1 (led x y).2) (y := led x y) (c := u) (n := n + 1) (by rw [hu]; exact ek) ln (by omega) sq.1 sq.2 sl.1 sl.2 ?_⟩
  (show q_law_chart_7 _ [_, _, _, _, _, _, _, _, _, _, _]; delta q_law_chart_7; refine hid_of ?_)
  refine lc_map (f := fun d => cd (gm u (toG d))) rfl (Nat.le_of_ble_eq_true rfl) (fun v hv R' r => ?_) ?_
  · have hx' : ∃ p : G, v = cd p ∧ Sz (n + 1) p.1 ∧ Sz (n + 1) p.2 := by
      simp only [List.mem_cons, List.not_mem_nil, or_false] at hv
      rcases hv with rfl | rfl | rfl | rfl
      · exact ⟨_, rfl, sx⟩
      · exact ⟨_, rfl, sy⟩
      · exact ⟨_, rfl, sz⟩
      · exact ⟨_, rfl, sw⟩
    obtain ⟨p, rfl, p1, p2⟩ := hx'
    exact ⟨rfl, u.1, u.2, p.1, p.2, rfl, ⟨szUp u1 (by decide), szUp u2 (by decide), szUp p1 (by show n + 1 ≤ cap; unfold cap; omega), szUp p2 (by show n + 1 ≤ cap; unfold cap; omega)⟩, r⟩
  rw [show [] ++ [cd x, cd y, cd z, cd w].map (fun d => cd (gm u (toG d))) = [cd (tk k x), cd (tk k y), cd (tk k z), cd (tk k w)] from by
    show [cd (gm u x), cd (gm u y), cd (gm u z), cd (gm u w)] = _
    rw [gm_comm u, gm_comm u, gm_comm u, gm_comm u, hu, hu, hu, hu]]
  refine ⟨rfl, ?_⟩
  (show q_law_chart_8 _ [_, _, _, _, _, _, _, _, _, _, _]; delta q_law_chart_8; refine hid_of ?_)
  exact ⟨Nat.le_of_ble_eq_true rfl, q D _ _ _ _ hD (hx.trans (fD x)) (hy.trans (fD y)) (hz'.trans (fD z)) (hw.trans (fD w)) F⟩
theorem law_chart_ok {f : Int} {A : M4} {n : Nat} {R : PyData → Prop} (S : S44 n A) (hn : n ≤ 800) (h : A.dt ≠ 0) {U : M4} (eU : nrm A = U) (q : R (mp4 f U)) : c_law_chart [.int f, .list [cd A.a, cd A.b, cd A.c, cd A.d]] R :=
  ⟨f, A.a, A.b, A.c, A.d, n, rfl, S, hn, h, fun g x y z w hg e1 e2 e3 e4 Fx => by
    have s : Sim ⟨x, y, z, w⟩ A := ⟨g, 1, hg, one_ne, by rw [sm_one]; exact m4_ext e1.symm e2.symm e3.symm e4.symm⟩
    have e : (⟨x, y, z, w⟩ : M4) = nrm A := nrm_of h Fx s
    rw [← eU, ← e] at q
    exact q⟩
def w_law_d : Ws := (wSeq (wAsg (dVar 0) (gT 4 (gsC (gN 1) (gsC (gN 2) (gsC (gN 3) (gsC (gN 4) gsN)))))) (wRet (dOp fSub (dOp fCat (dOp fMul (dVar 2) (dVar 2)) (dOp fMul (dVar 3) (dVar 3))) (dOp fMul (dOp fMul (dLit (.int 4)) (dVar 1)) (dVar 4)))))
theorem sem_law_d : ∀ ds R, c_law_d ds R → ds.length = 1 → w_law_d (edP R) (ev0 4 ds) := by
  intro ds R h _
  obtain ⟨⟨q, l, m, k⟩, rfl, ⟨s1, s2, s3, s4⟩, g⟩ := h
  have s1 : Sz 4000 q := s1
  have s2 : Sz 4000 l := s2
  have s3 : Sz 4000 m := s3
  have s4 : Sz 4000 k := s4
  have e : dsc (q, l, m, k) = l * l + m * m - 4 * q * k := by simp only [dsc]; grind
  rw [e] at g
  refine ⟨rfl, ?_⟩
  walk_at "ob"
  exact g
theorem ld_ok {r : R4} {n : Nat} {v : Int} {R : PyData → Prop} (s : SR n r) (hn : n ≤ 4000) (e : dsc r = v) (q : R (.int v)) : c_law_d [rwR r] R := ⟨r, rfl, s.up hn, by rw [e]; exact q⟩
def w_law_j : Ws := (wRet (dOp fSub (dOp fCat (dOp fMul (dOp fIx (dVar 0) (dLit (.int 1))) (dOp fIx (dVar 1) (dLit (.int 1)))) (dOp fMul (dOp fIx (dVar 0) (dLit (.int 2))) (dOp fIx (dVar 1) (dLit (.int 2))))) (dOp fMul (dLit (.int 2)) (dOp fCat (dOp fMul (dOp fIx (dVar 0) (dLit (.int 0))) (dOp fIx (dVar 1) (dLit (.int 3)))) (dOp fMul (dOp fIx (dVar 1) (dLit (.int 0))) (dOp fIx (dVar 0) (dLit (.int 3))))))))
theorem sem_law_j : ∀ ds R, c_law_j ds R → ds.length = 2 → w_law_j (edP R) (ev0 0 ds) := by
  intro ds R h _
  obtain ⟨⟨q, l, m, k⟩, ⟨q2, l2, m2, k2⟩, rfl, ⟨s1, s2, s3, s4⟩, ⟨u1, u2, u3, u4⟩, g⟩ := h
  have s1 : Sz 4000 q := s1
  have s2 : Sz 4000 l := s2
  have s3 : Sz 4000 m := s3
  have s4 : Sz 4000 k := s4
  have u1 : Sz 4000 q2 := u1
  have u2 : Sz 4000 l2 := u2
  have u3 : Sz 4000 m2 := u3
  have u4 : Sz 4000 k2 := u4
  walk_at "ob"
  exact g
theorem lj_ok {r s : R4} {n : Nat} {v : Int} {R : PyData → Prop} (h : SR n r) (h2 : SR n s) (hn : n ≤ 4000) (e : prR r s = v) (q : R (.int v)) : c_law_j [rwR r, rwR s] R := ⟨r, s, rfl, h.up hn, h2.up hn, by rw [e]; exact q⟩
def w_law_mixed : Ws := (wRet (dCal fTuple (daC (dLc [4] (diR1 (daC (dLit (.int 4)) daN)) (gN 4) dYes (dOp fCat (dOp fMul (dVar 0) (dOp fIx (dVar 1) (dVar 4))) (dOp fMul (dVar 2) (dOp fIx (dVar 3) (dVar 4))))) daN)))
theorem sem_law_mixed : ∀ ds R, c_law_mixed ds R → ds.length = 4 → w_law_mixed (edP R) (ev0 1 ds) := by
  intro ds R h _
  obtain ⟨x, y, ⟨q, l, m, k⟩, ⟨q2, l2, m2, k2⟩, rfl, ⟨sx, sy⟩, ⟨s1, s2, s3, s4⟩, ⟨u1, u2, u3, u4⟩, g⟩ := h
  have s1 : Sz 3000 q := s1
  have s2 : Sz 3000 l := s2
  have s3 : Sz 3000 m := s3
  have s4 : Sz 3000 k := s4
  have u1 : Sz 3000 q2 := u1
  have u2 : Sz 3000 l2 := u2
  have u3 : Sz 3000 m2 := u3
  have u4 : Sz 3000 k2 := u4
  refine ⟨⟨by decide, by decide⟩, ?_⟩
  refine (show lcD [4] _ dYes _ [.int 0, .int 1, .int 2, .int 3] [] _ _ from ?_)
  refine ⟨by walk_at "sz", by walk_at "sz", Nat.le_of_ble_eq_true rfl, ?_⟩
  refine (show lcD [4] _ dYes _ [.int 1, .int 2, .int 3] [_] _ _ from ?_)
  refine ⟨by walk_at "sz", by walk_at "sz", Nat.le_of_ble_eq_true rfl, ?_⟩
  refine (show lcD [4] _ dYes _ [.int 2, .int 3] [_, _] _ _ from ?_)
  refine ⟨by walk_at "sz", by walk_at "sz", Nat.le_of_ble_eq_true rfl, ?_⟩
  refine (show lcD [4] _ dYes _ [.int 3] [_, _, _] _ _ from ?_)
  refine ⟨by walk_at "sz", by walk_at "sz", Nat.le_of_ble_eq_true rfl, ?_⟩
  refine ⟨Nat.le_of_ble_eq_true rfl, ?_⟩
  exact g
theorem lmixed_ok {x y : Int} {r s : R4} {n : Nat} {R : PyData → Prop} (hx : Sz 3000 x) (hy : Sz 3000 y) (h : SR n r) (h2 : SR n s) (hn : n ≤ 3000) {t : R4} (e : mxR x r y s = t) (q : R (rwR t)) : c_law_mixed [.int x, rwR r, .int y, rwR s] R := ⟨x, y, r, s, rfl, ⟨hx, hy⟩, h.up hn, h2.up hn, by rw [e]; exact q⟩
def w_law_row_back : Ws := (wSeq (wAsg (dVar 0) (gT 5 (gsC (gN 2) (gsC (gN 3) (gsC (gN 4) (gsC (gN 5) (gsC (gN 6) gsN))))))) (wSeq (wAsg (dVar 1) (gT 4 (gsC (gN 7) (gsC (gN 8) (gsC (gN 9) (gsC (gN 10) gsN)))))) (wSeq (wPar 11 12 (daC (dTup (daC (dVar 8) (daC (dVar 9) daN))) (daC (dTup (daC (dVar 8) (daC (dOp fSub (dLit (.int 0)) (dVar 9)) daN))) daN))) (wSeq (wAsg (dOp fCat (dOp fCat (dOp fMul (dVar 7) (dFn 1 c_law_norm (daC (dVar 3) daN))) (dOp fIx (dFn 2 c_law_times (daC (dVar 12) (daC (dFn 2 c_law_times (daC (dVar 3) (daC (dFn 1 c_law_conj (daC (dVar 5) daN)) daN))) daN))) (dLit (.int 0)))) (dOp fMul (dVar 10) (dFn 1 c_law_norm (daC (dVar 5) daN)))) (gN 13)) (wSeq (wAsg (dOp fCat (dOp fCat (dOp fMul (dVar 7) (dFn 1 c_law_norm (daC (dVar 4) daN))) (dOp fIx (dFn 2 c_law_times (daC (dVar 12) (daC (dFn 2 c_law_times (daC (dVar 4) (daC (dFn 1 c_law_conj (daC (dVar 6) daN)) daN))) daN))) (dLit (.int 0)))) (dOp fMul (dVar 10) (dFn 1 c_law_norm (daC (dVar 6) daN)))) (gN 14)) (wSeq (wAsg (dFn 2 c_law_plus (daC (dFn 2 c_law_scaled (daC (dOp fMul (dLit (.int 2)) (dVar 7)) (daC (dFn 2 c_law_times (daC (dVar 3) (daC (dFn 1 c_law_conj (daC (dVar 4) daN)) daN))) daN))) (daC (dFn 2 c_law_scaled (daC (dOp fMul (dLit (.int 2)) (dVar 10)) (daC (dFn 2 c_law_times (daC (dVar 5) (daC (dFn 1 c_law_conj (daC (dVar 6) daN)) daN))) daN))) daN))) (gN 15)) (wSeq (wAsg (dFn 2 c_law_plus (daC (dFn 2 c_law_times (daC (dVar 12) (daC (dFn 2 c_law_times (daC (dVar 3) (daC (dFn 1 c_law_conj (daC (dVar 6) daN)) daN))) daN))) (daC (dFn 2 c_law_times (daC (dVar 11) (daC (dFn 2 c_law_times (daC (dFn 1 c_law_conj (daC (dVar 4) daN)) (daC (dVar 5) daN))) daN))) daN))) (gN 16)) (wRet (dTup (daC (dVar 13) (daC (dOp fCat (dOp fIx (dVar 15) (dLit (.int 0))) (dOp fIx (dVar 16) (dLit (.int 0)))) (daC (dIf (dTru (dOp fEq (dVar 2) (dLit (.int 1)))) (dOp fCat (dOp fIx (dVar 15) (dLit (.int 1))) (dOp fIx (dVar 16) (dLit (.int 1)))) (dOp fSub (dOp fSub (dLit (.int 0)) (dOp fIx (dVar 15) (dLit (.int 1)))) (dOp fIx (dVar 16) (dLit (.int 1))))) (daC (dVar 14) daN)))))))))))))
@[irreducible] noncomputable def q_law_row_back_8 : Ws := hid (wRet (dTup (daC (dVar 13) (daC (dOp fCat (dOp fIx (dVar 15) (dLit (.int 0))) (dOp fIx (dVar 16) (dLit (.int 0)))) (daC (dIf (dTru (dOp fEq (dVar 2) (dLit (.int 1)))) (dOp fCat (dOp fIx (dVar 15) (dLit (.int 1))) (dOp fIx (dVar 16) (dLit (.int 1)))) (dOp fSub (dOp fSub (dLit (.int 0)) (dOp fIx (dVar 15) (dLit (.int 1)))) (dOp fIx (dVar 16) (dLit (.int 1))))) (daC (dVar 14) daN))))))
@[irreducible] noncomputable def q_law_row_back_7 : Ws := hid (wSeq (wAsg (dFn 2 c_law_plus (daC (dFn 2 c_law_times (daC (dVar 12) (daC (dFn 2 c_law_times (daC (dVar 3) (daC (dFn 1 c_law_conj (daC (dVar 6) daN)) daN))) daN))) (daC (dFn 2 c_law_times (daC (dVar 11) (daC (dFn 2 c_law_times (daC (dFn 1 c_law_conj (daC (dVar 4) daN)) (daC (dVar 5) daN))) daN))) daN))) (gN 16)) q_law_row_back_8)
@[irreducible] noncomputable def q_law_row_back_6 : Ws := hid (wSeq (wAsg (dFn 2 c_law_plus (daC (dFn 2 c_law_scaled (daC (dOp fMul (dLit (.int 2)) (dVar 7)) (daC (dFn 2 c_law_times (daC (dVar 3) (daC (dFn 1 c_law_conj (daC (dVar 4) daN)) daN))) daN))) (daC (dFn 2 c_law_scaled (daC (dOp fMul (dLit (.int 2)) (dVar 10)) (daC (dFn 2 c_law_times (daC (dVar 5) (daC (dFn 1 c_law_conj (daC (dVar 6) daN)) daN))) daN))) daN))) (gN 15)) q_law_row_back_7)
@[irreducible] noncomputable def q_law_row_back_5 : Ws := hid (wSeq (wAsg (dOp fCat (dOp fCat (dOp fMul (dVar 7) (dFn 1 c_law_norm (daC (dVar 4) daN))) (dOp fIx (dFn 2 c_law_times (daC (dVar 12) (daC (dFn 2 c_law_times (daC (dVar 4) (daC (dFn 1 c_law_conj (daC (dVar 6) daN)) daN))) daN))) (dLit (.int 0)))) (dOp fMul (dVar 10) (dFn 1 c_law_norm (daC (dVar 6) daN)))) (gN 14)) q_law_row_back_6)
@[irreducible] noncomputable def q_law_row_back_4 : Ws := hid (wSeq (wAsg (dOp fCat (dOp fCat (dOp fMul (dVar 7) (dFn 1 c_law_norm (daC (dVar 3) daN))) (dOp fIx (dFn 2 c_law_times (daC (dVar 12) (daC (dFn 2 c_law_times (daC (dVar 3) (daC (dFn 1 c_law_conj (daC (dVar 5) daN)) daN))) daN))) (dLit (.int 0)))) (dOp fMul (dVar 10) (dFn 1 c_law_norm (daC (dVar 5) daN)))) (gN 13)) q_law_row_back_5)
@[irreducible] noncomputable def q_law_row_back_3 : Ws := hid (wSeq (wPar 11 12 (daC (dTup (daC (dVar 8) (daC (dVar 9) daN))) (daC (dTup (daC (dVar 8) (daC (dOp fSub (dLit (.int 0)) (dVar 9)) daN))) daN))) q_law_row_back_4)
@[irreducible] noncomputable def q_law_row_back_2 : Ws := hid (wSeq (wAsg (dVar 1) (gT 4 (gsC (gN 7) (gsC (gN 8) (gsC (gN 9) (gsC (gN 10) gsN)))))) q_law_row_back_3)
@[irreducible] noncomputable def q_law_row_back_1 : Ws := hid (wSeq (wAsg (dVar 0) (gT 5 (gsC (gN 2) (gsC (gN 3) (gsC (gN 4) (gsC (gN 5) (gsC (gN 6) gsN))))))) q_law_row_back_2)
theorem e_law_row_back : w_law_row_back = q_law_row_back_1 := by delta q_law_row_back_1 q_law_row_back_2 q_law_row_back_3 q_law_row_back_4 q_law_row_back_5 q_law_row_back_6 q_law_row_back_7 q_law_row_back_8; simp only [hid_eq]; with_unfolding_all rfl
theorem rw4_cast {q l m k : Int} {r : R4} {R : PyData → Prop} (h1 : q = r.1) (h2 : l = r.2.1) (h3 : m = r.2.2.1) (h4 : k = r.2.2.2) (g : R (rwR r)) : R (rw4 q l m k) := by
  rw [h1, h2, h3, h4]; exact g
theorem sem_law_row_back : ∀ ds R, c_law_row_back ds R → ds.length = 2 → w_law_row_back (edP R) (ev0 15 ds) := by
  intro ds R h _
  obtain ⟨f, ⟨a, b, c, d⟩, ⟨q, l, m, k⟩, rfl, hf, S, ⟨s1, s2, s3, s4⟩, g⟩ := h
  obtain ⟨ia, ib, ic, id⟩ := S.gs
  have ia : GS 3000 a := ia
  have ib : GS 3000 b := ib
  have ic : GS 3000 c := ic
  have id : GS 3000 d := id
  have s1 : Sz 2000 q := s1
  have s2 : Sz 2000 l := s2
  have s3 : Sz 2000 m := s3
  have s4 : Sz 2000 k := s4
  have z : Sz 0 (0 : Int) := ⟨by decide⟩
  rw [e_law_row_back]; (show q_law_row_back_1 _ [_, _, _, _, _, _, _, _, _, _, _, _, _, _, _, _, _]; delta q_law_row_back_1; refine hid_of ?_)
  refine ⟨rfl, ?_⟩
  (show q_law_row_back_2 _ [_, _, _, _, _, _, _, _, _, _, _, _, _, _, _, _, _]; delta q_law_row_back_2; refine hid_of ?_)
  refine ⟨rfl, ?_⟩
  (show q_law_row_back_3 _ [_, _, _, _, _, _, _, _, _, _, _, _, _, _, _, _, _]; delta q_law_row_back_3; refine hid_of ?_)
  refine ⟨Nat.le_of_ble_eq_true rfl, trivial, Nat.le_of_ble_eq_true rfl, ?_⟩
  (show q_law_row_back_4 _ [_, _, _, _, _, _, _, _, _, _, _, _, _, _, _, _, _]; delta q_law_row_back_4; refine hid_of ?_)
  have i0 : GS 2001 ((l, 0 - m) : G) := ⟨szUp s2 (by decide), szUp (inferInstance : Sz _ (0 - m)) (by decide)⟩
  have i1 : GS 2001 ((l, m) : G) := ⟨szUp s2 (by decide), szUp s3 (by decide)⟩
  refine ⟨rfl, lnorm_ok (by decide) ?_⟩
  walk_at "ob"
  refine lconj_ok ⟨rfl, ltimes_ok (by decide) (by decide) ⟨rfl, ltimes_ok (p := (l, 0 - m)) (by decide) (by decide) ?_⟩⟩
  walk_at "ob"
  refine lnorm_ok (by decide) ?_
  walk_at "ob"
  (show q_law_row_back_5 _ [_, _, _, _, _, _, _, _, _, _, _, _, _, _, _, _, _]; delta q_law_row_back_5; refine hid_of ?_)
  refine ⟨rfl, lnorm_ok (by decide) ?_⟩
  walk_at "ob"
  refine lconj_ok ⟨rfl, ltimes_ok (by decide) (by decide) ⟨rfl, ltimes_ok (p := (l, 0 - m)) (by decide) (by decide) ?_⟩⟩
  walk_at "ob"
  refine lnorm_ok (by decide) ?_
  walk_at "ob"
  (show q_law_row_back_6 _ [_, _, _, _, _, _, _, _, _, _, _, _, _, _, _, _, _]; delta q_law_row_back_6; refine hid_of ?_)
  refine ⟨by walk_at "sz", rfl, lconj_ok ⟨rfl, ltimes_ok (by decide) (by decide) ⟨rfl, lscaled_ok (by decide) (by decide) ?_⟩⟩⟩
  refine ⟨by walk_at "sz", rfl, lconj_ok ⟨rfl, ltimes_ok (by decide) (by decide) ⟨rfl, lscaled_ok (by decide) (by decide) ?_⟩⟩⟩
  refine ⟨rfl, lplus_ok (p := (_, _)) (q := (_, _)) (by decide) (by decide) ?_⟩
  (show q_law_row_back_7 _ [_, _, _, _, _, _, _, _, _, _, _, _, _, _, _, _, _]; delta q_law_row_back_7; refine hid_of ?_)
  refine ⟨rfl, lconj_ok ⟨rfl, ltimes_ok (by decide) (by decide) ⟨rfl, ltimes_ok (p := (l, 0 - m)) (by decide) (by decide) ?_⟩⟩⟩
  refine ⟨rfl, lconj_ok ⟨rfl, ltimes_ok (by decide) (by decide) ⟨rfl, ltimes_ok (p := (l, m)) (by decide) (by decide) ?_⟩⟩⟩
  refine ⟨rfl, lplus_ok (by decide) (by decide) ?_⟩
  (show q_law_row_back_8 _ [_, _, _, _, _, _, _, _, _, _, _, _, _, _, _, _, _]; delta q_law_row_back_8; refine hid_of ?_)
  walk_at "ob"
  rw [eqv_int]
  rcases hf with rfl | rfl
  · refine ite_f rfl ?_
    walk_at "ob"
    refine rw4_cast ?_ ?_ ?_ ?_ g
    all_goals simp only [rlb, vO, sO, gm, gj, ga, nm, if_neg (show ¬(0 : Int) = 1 by decide)]; grind
  · refine ite_t rfl ?_
    walk_at "ob"
    refine rw4_cast ?_ ?_ ?_ ?_ g
    all_goals simp only [rlb, vO, sO, gm, gj, ga, nm, if_pos]; grind
theorem lrb_ok {f : Int} {A : M4} {r : R4} {n m : Nat} {R : PyData → Prop} (hf : f = 0 ∨ f = 1) (F : S44 n A) (hn : n ≤ 3000) (s : SR m r) (hm : m ≤ 2000) (q : R (rwR (rlb f A r))) : c_law_row_back [mp4 f A, rwR r] R := ⟨f, A, r, rfl, hf, F.up hn, s.up hm, q⟩
def w_law_round : Ws := (wSeq (wAsg (dLc [6] (diR1 (daC (dLit (.int 4)) daN)) (gN 6) dYes (dFnT 0 2 c_law_whole (daC (dVar 1) daN))) (gL 4 (gsC (gN 2) (gsC (gN 3) (gsC (gN 4) (gsC (gN 5) gsN)))))) (wSeq (wIf (dTru (dOp fEq (dFnT 0 2 c_law_dip (daC (dLit (.int 3)) daN)) (dLit (.int 0)))) (wAsg (dLit (.int 0)) (gN 2)) wNx) (wSeq (wIf (dTru (dOp fEq (dTup (daC (dVar 2) (daC (dVar 3) (daC (dVar 4) daN)))) (dTup (daC (dLit (.int 0)) (daC (dLit (.int 0)) (daC (dLit (.int 0)) daN)))))) (wAsg (dLit (.int 1)) (gN 3)) wNx) (wSeq (wIf (dTru (dOp fLe (dOp fCat (dOp fMul (dVar 3) (dVar 3)) (dOp fMul (dVar 4) (dVar 4))) (dOp fMul (dOp fMul (dLit (.int 4)) (dVar 2)) (dVar 5)))) (wAsg (dIf (dTru (dOp fNe (dVar 5) (dLit (.int 0)))) (dOp fSub (dLit (.int 0)) (dVar 5)) (dOp fSub (dLit (.int 0)) (dVar 2))) (gN 5)) wNx) (wRet (dFn 1 c_law_form (daC (dTup (daC (dVar 2) (daC (dVar 3) (daC (dVar 4) (daC (dVar 5) daN))))) daN)))))))
@[irreducible] noncomputable def q_law_round_3 : Ws := hid (wAsg (dLit (.int 0)) (gN 2))
@[irreducible] noncomputable def q_law_round_5 : Ws := hid (wAsg (dLit (.int 1)) (gN 3))
@[irreducible] noncomputable def q_law_round_7 : Ws := hid (wAsg (dIf (dTru (dOp fNe (dVar 5) (dLit (.int 0)))) (dOp fSub (dLit (.int 0)) (dVar 5)) (dOp fSub (dLit (.int 0)) (dVar 2))) (gN 5))
@[irreducible] noncomputable def q_law_round_8 : Ws := hid (wRet (dFn 1 c_law_form (daC (dTup (daC (dVar 2) (daC (dVar 3) (daC (dVar 4) (daC (dVar 5) daN))))) daN)))
@[irreducible] noncomputable def q_law_round_6 : Ws := hid (wSeq (wIf (dTru (dOp fLe (dOp fCat (dOp fMul (dVar 3) (dVar 3)) (dOp fMul (dVar 4) (dVar 4))) (dOp fMul (dOp fMul (dLit (.int 4)) (dVar 2)) (dVar 5)))) q_law_round_7 wNx) q_law_round_8)
@[irreducible] noncomputable def q_law_round_4 : Ws := hid (wSeq (wIf (dTru (dOp fEq (dTup (daC (dVar 2) (daC (dVar 3) (daC (dVar 4) daN)))) (dTup (daC (dLit (.int 0)) (daC (dLit (.int 0)) (daC (dLit (.int 0)) daN)))))) q_law_round_5 wNx) q_law_round_6)
@[irreducible] noncomputable def q_law_round_2 : Ws := hid (wSeq (wIf (dTru (dOp fEq (dFnT 0 2 c_law_dip (daC (dLit (.int 3)) daN)) (dLit (.int 0)))) q_law_round_3 wNx) q_law_round_4)
@[irreducible] noncomputable def q_law_round_1 : Ws := hid (wSeq (wAsg (dLc [6] (diR1 (daC (dLit (.int 4)) daN)) (gN 6) dYes (dFnT 0 2 c_law_whole (daC (dVar 1) daN))) (gL 4 (gsC (gN 2) (gsC (gN 3) (gsC (gN 4) (gsC (gN 5) gsN)))))) q_law_round_2)
theorem e_law_round : w_law_round = q_law_round_1 := by delta q_law_round_1 q_law_round_2 q_law_round_4 q_law_round_6 q_law_round_8 q_law_round_7 q_law_round_5 q_law_round_3; simp only [hid_eq]; with_unfolding_all rfl
theorem lr_last {w q l m k : Int} {b : Int} {ts : List PyData} {R : PyData → List PyData → Prop} (d : 0 < l * l + m * m - 4 * (q * k)) (s1 : Sz 22 q) (s2 : Sz 22 l) (s3 : Sz 22 m) (s4 : Sz 22 k) (g : ∀ r : R4, Rd 22 r → R (rwR r) ts) :
    q_law_round_8 (edT R) [some (.own ts), some (.val (.int w)), some (.val (.int q)), some (.val (.int l)), some (.val (.int m)), some (.val (.int k)), none] := by
  have d' : 0 < dsc (q, l, m, k) := d
  obtain ⟨n1, _⟩ := nf_ok (n := 22) (r := (q, l, m, k)) ⟨s1, s2, s3, s4⟩ d'
  (show q_law_round_8 _ [_, _, _, _, _, _, _]; delta q_law_round_8; refine hid_of ?_)
  exact ⟨Nat.le_of_ble_eq_true rfl, rfl, law_form_ok (x := (q, l, m, k)) (n := 22) ⟨s1, s2, s3, s4⟩ (by decide) d' rfl (g _ n1)⟩
theorem lr_mid {w q l m k : Int} {ts : List PyData} {R : PyData → List PyData → Prop} (hz : ¬(q = 0 ∧ l = 0 ∧ m = 0)) (s1 : Sz 21 q) (s2 : Sz 21 l) (s3 : Sz 21 m) (s4 : Sz 21 k) (g : ∀ r : R4, Rd 22 r → R (rwR r) ts) :
    q_law_round_6 (edT R) [some (.own ts), some (.val (.int w)), some (.val (.int q)), some (.val (.int l)), some (.val (.int m)), some (.val (.int k)), none] := by
  have u : ∀ {x : Int}, Sz 21 x → Sz 22 x := fun s => szUp s (by decide)
  have as : 4 * q * k = 4 * (q * k) := Int.mul_assoc 4 q k
  have n1 := sq0 l
  have n2 := sq0 m
  (show q_law_round_6 _ [_, _, _, _, _, _, _]; delta q_law_round_6; refine hid_of ?_)
  refine ⟨by walk_at "sz", by walk_at "sz", by walk_at "sz", by walk_at "sz", trivial, trivial, ?_⟩
  refine ite_b (fun z => ?_) (fun z => ?_)
  · have z0 : l * l + m * m ≤ 4 * q * k := of_decide_eq_true z
    (show q_law_round_7 _ [_, _, _, _, _, _, _]; delta q_law_round_7; refine hid_of ?_)
    refine ⟨Or.inr ⟨rfl, rfl⟩, trivial, ?_⟩
    have e0 : tru (.bool (!PyData.eqv (.int k) (.int 0))) = !decide (k = 0) := by rw [eqv_int]; rfl
    by_cases y : k = 0
    · refine ite_f (by rw [decide_eq_true y] at e0; exact e0) ?_
      refine ⟨trivial, ?_⟩
      subst y
      have l0 : l * l = 0 := by omega
      have m0 : m * m = 0 := by omega
      have l1 : l = 0 := (Int.mul_eq_zero.mp l0).elim id id
      have m1 : m = 0 := (Int.mul_eq_zero.mp m0).elim id id
      have q1 : q ≠ 0 := fun e => hz ⟨e, l1, m1⟩
      have q2 : 0 < q * q := by
        rcases Int.lt_or_gt_of_ne q1 with h | h
        · exact Int.mul_pos_of_neg_of_neg h h
        · exact Int.mul_pos h h
      refine lr_last (b := 0) (k := 0 - q) ?_ (u s1) (u s2) (u s3) (szUp (inferInstance : Sz _ (0 - q)) (by decide)) g
      rw [l1, m1, Int.zero_sub, Int.mul_neg]
      omega
    · refine ite_t (by rw [decide_eq_false y] at e0; exact e0) ?_
      refine ⟨trivial, ?_⟩
      refine lr_last (b := 0) (k := 0 - k) ?_ (u s1) (u s2) (u s3) (szUp (inferInstance : Sz _ (0 - k)) (by decide)) g
      rw [Int.zero_sub, Int.mul_neg]
      by_cases t : q * k = 0
      · have q1 : q = 0 := (Int.mul_eq_zero.mp t).elim id (fun e => absurd e y)
        have l1 : l * l = 0 := by omega
        have m1 : m * m = 0 := by omega
        exact absurd ⟨q1, (Int.mul_eq_zero.mp l1).elim id id, (Int.mul_eq_zero.mp m1).elim id id⟩ hz
      · omega
  · have z0 : ¬(l * l + m * m ≤ 4 * q * k) := of_decide_eq_false z
    exact lr_last (b := 0) (by omega) (u s1) (u s2) (u s3) (u s4) g
theorem lr_four {w q l m k : Int} {ts : List PyData} {R : PyData → List PyData → Prop} (s1 : Sz 21 q) (s2 : Sz 21 l) (s3 : Sz 21 m) (s4 : Sz 21 k) (g : ∀ r : R4, Rd 22 r → R (rwR r) ts) :
    q_law_round_4 (edT R) [some (.own ts), some (.val (.int w)), some (.val (.int q)), some (.val (.int l)), some (.val (.int m)), some (.val (.int k)), none] := by
  (show q_law_round_4 _ [_, _, _, _, _, _, _]; delta q_law_round_4; refine hid_of ?_)
  refine ⟨Nat.le_of_ble_eq_true rfl, Nat.le_of_ble_eq_true rfl, Or.inr ⟨rfl, rfl⟩, trivial, ?_⟩
  have e : tru (.bool (PyData.eqv (.tuple [.int q, .int l, .int m]) (.tuple [.int 0, .int 0, .int 0]))) = decide (q = 0 ∧ l = 0 ∧ m = 0) := by
    have e1 := eqv_pd (q, l, m) (0, 0, 0)
    have e2 : PyData.eqv (.tuple [.int q, .int l, .int m]) (.tuple [.int 0, .int 0, .int 0]) = decide (((q, l, m) : T3) = (0, 0, 0)) := e1
    rw [e2]
    show decide _ = decide _
    exact decide_eq_decide.mpr ⟨fun h => by cases h; exact ⟨rfl, rfl, rfl⟩, fun h => by rw [h.1, h.2.1, h.2.2]⟩
  by_cases z : q = 0 ∧ l = 0 ∧ m = 0
  · refine ite_t (by rw [decide_eq_true z] at e; exact e) ?_
    (show q_law_round_5 _ [_, _, _, _, _, _, _]; delta q_law_round_5; refine hid_of ?_)
    refine lr_mid (l := 1) (fun h => absurd h.2.1 (by decide)) s1 ⟨by decide⟩ s3 s4 g
  · refine ite_f (by rw [decide_eq_false z] at e; exact e) ?_
    exact lr_mid z s1 s2 s3 s4 g
theorem sem_law_round : ∀ ts ds R, c_law_round ts ds R → ds.length = 1 → w_law_round (edT R) (some (.own ts) :: ev0 5 ds) := by
  intro ts ds R h _
  obtain ⟨b, w, tk, hb, rfl, h0, h1, g⟩ := h
  rw [e_law_round]; (show q_law_round_1 _ [_, _, _, _, _, _, _]; delta q_law_round_1; refine hid_of ?_)
  refine ⟨⟨by decide, by decide⟩, ?_⟩
  refine lc_tank (P := fun x => ∃ j : Int, x = .int j ∧ Sz 21 j) (m := 2) (B := b + 8) (by decide) (fun ts => [some (.own ts), some (.val (.int w)), none, none, none, none, none]) (fun _ _ _ => rfl) (fun _ _ => rfl) (fun d b' ts' R tk' hb' q' => ?_) (rngD 0 (4 : Int).toNat) [] b ts _ tk (by rw [show (rngD 0 (4 : Int).toNat).length = 4 from rfl]; omega) (Nat.le_of_ble_eq_true rfl) (fun xs t2 hl hp k2 => ?_)
  · exact ⟨rfl, lwhole_ok tk' (by omega) h0 h1 fun x t3 _ _ sx k3 => q' _ _ ⟨x, rfl, sx⟩ k3⟩
  obtain ⟨q, l, m, k, rfl, s1, s2, s3, s4⟩ := four_of (d := PyData.int) (P := fun j => Sz 21 j) hl hp
  have k2 : Tk (b + 8) t2 := k2.up (by rw [show (rngD 0 (4 : Int).toNat).length = 4 from rfl]; omega)
  refine ⟨rfl, ?_⟩
  (show q_law_round_2 _ [_, _, _, _, _, _, _]; delta q_law_round_2; refine hid_of ?_)
  refine ⟨rfl, ldip_ok k2 (by omega) (by decide) (by decide) fun j t3 j0 j1 k3 => ?_⟩
  refine ⟨Or.inr ⟨rfl, rfl⟩, trivial, ?_⟩
  rw [eqv_int]
  refine ite_b (fun z => ?_) (fun z => ?_)
  · (show q_law_round_3 _ [_, _, _, _, _, _, _]; delta q_law_round_3; refine hid_of ?_)
    exact lr_four ⟨by decide⟩ s2 s3 s4 fun r hr => g r t3 hr (k3.up (by omega))
  · exact lr_four s1 s2 s3 s4 fun r hr => g r t3 hr (k3.up (by omega))
theorem lround_ok {b w : Int} {ts : List PyData} {R : PyData → List PyData → Prop} (tk : Tk b ts) (hb : b < 700000000000) (h0 : 0 < w) (h1 : w ≤ 1000000) (q : ∀ (r : R4) ts', Rd 22 r → Tk (b + 12) ts' → R (rwR r) ts') : c_law_round ts [.int w] R := ⟨b, w, tk, hb, rfl, h0, h1, q⟩
def w_law_four : Ws := (wSeq (wAsg (dLc [6] (diR1 (daC (dLit (.int 4)) daN)) (gN 6) dYes (dTup (daC (dFnT 0 2 c_law_whole (daC (dVar 1) daN)) (daC (dFnT 0 2 c_law_whole (daC (dVar 1) daN)) daN)))) (gL 4 (gsC (gN 2) (gsC (gN 3) (gsC (gN 4) (gsC (gN 5) gsN)))))) (wSeq (wIf (dTru (dOp fEq (dFn 2 c_law_times (daC (dVar 2) (daC (dVar 5) daN))) (dFn 2 c_law_times (daC (dVar 3) (daC (dVar 4) daN))))) (wIf (dTru (dOp fEq (dVar 2) (dTup (daC (dLit (.int 0)) (daC (dLit (.int 0)) daN))))) (wAsg (dTup (daC (dTup (daC (dLit (.int 1)) (daC (dLit (.int 0)) daN))) (daC (dTup (daC (dLit (.int 0)) (daC (dLit (.int 0)) daN))) (daC (dTup (daC (dLit (.int 0)) (daC (dLit (.int 1)) daN))) daN)))) (gT 3 (gsC (gN 2) (gsC (gN 4) (gsC (gN 5) gsN))))) (wAsg (dTup (daC (dOp fCat (dOp fIx (dVar 5) (dLit (.int 0))) (dLit (.int 1))) (daC (dOp fIx (dVar 5) (dLit (.int 1))) daN))) (gN 5))) wNx) (wRet (dLst (daC (dVar 2) (daC (dVar 3) (daC (dVar 4) (daC (dVar 5) daN))))))))
@[irreducible] noncomputable def q_law_four_4 : Ws := hid (wAsg (dTup (daC (dTup (daC (dLit (.int 1)) (daC (dLit (.int 0)) daN))) (daC (dTup (daC (dLit (.int 0)) (daC (dLit (.int 0)) daN))) (daC (dTup (daC (dLit (.int 0)) (daC (dLit (.int 1)) daN))) daN)))) (gT 3 (gsC (gN 2) (gsC (gN 4) (gsC (gN 5) gsN)))))
@[irreducible] noncomputable def q_law_four_6 : Ws := hid (wAsg (dTup (daC (dOp fCat (dOp fIx (dVar 5) (dLit (.int 0))) (dLit (.int 1))) (daC (dOp fIx (dVar 5) (dLit (.int 1))) daN))) (gN 5))
@[irreducible] noncomputable def q_law_four_3 : Ws := hid (wIf (dTru (dOp fEq (dVar 2) (dTup (daC (dLit (.int 0)) (daC (dLit (.int 0)) daN))))) q_law_four_4 q_law_four_6)
@[irreducible] noncomputable def q_law_four_7 : Ws := hid (wRet (dLst (daC (dVar 2) (daC (dVar 3) (daC (dVar 4) (daC (dVar 5) daN))))))
@[irreducible] noncomputable def q_law_four_2 : Ws := hid (wSeq (wIf (dTru (dOp fEq (dFn 2 c_law_times (daC (dVar 2) (daC (dVar 5) daN))) (dFn 2 c_law_times (daC (dVar 3) (daC (dVar 4) daN))))) q_law_four_3 wNx) q_law_four_7)
@[irreducible] noncomputable def q_law_four_1 : Ws := hid (wSeq (wAsg (dLc [6] (diR1 (daC (dLit (.int 4)) daN)) (gN 6) dYes (dTup (daC (dFnT 0 2 c_law_whole (daC (dVar 1) daN)) (daC (dFnT 0 2 c_law_whole (daC (dVar 1) daN)) daN)))) (gL 4 (gsC (gN 2) (gsC (gN 3) (gsC (gN 4) (gsC (gN 5) gsN)))))) q_law_four_2)
theorem e_law_four : w_law_four = q_law_four_1 := by delta q_law_four_1 q_law_four_2 q_law_four_7 q_law_four_3 q_law_four_6 q_law_four_4; simp only [hid_eq]; with_unfolding_all rfl
theorem lf_end {w : Int} {ts : List PyData} {x y z u : G} {R : PyData → List PyData → Prop} (S : S44 22 ⟨x, y, z, u⟩) (d : (⟨x, y, z, u⟩ : M4).dt ≠ 0) (g : ∀ A : M4, S44 22 A → A.dt ≠ 0 → R (.list [cd A.a, cd A.b, cd A.c, cd A.d]) ts) :
    q_law_four_7 (edT R) [some (.own ts), some (.val (.int w)), some (.val (cd x)), some (.val (cd y)), some (.val (cd z)), some (.val (cd u)), none] := by
  (show q_law_four_7 _ [_, _, _, _, _, _, _]; delta q_law_four_7; refine hid_of ?_)
  exact ⟨Nat.le_of_ble_eq_true rfl, g ⟨x, y, z, u⟩ S d⟩
theorem sem_law_four : ∀ ts ds R, c_law_four ts ds R → ds.length = 1 → w_law_four (edT R) (some (.own ts) :: ev0 5 ds) := by
  intro ts ds R h _
  obtain ⟨b, w, tk, hb, rfl, h0, h1, g⟩ := h
  rw [e_law_four]; (show q_law_four_1 _ [_, _, _, _, _, _, _]; delta q_law_four_1; refine hid_of ?_)
  refine ⟨⟨by decide, by decide⟩, ?_⟩
  refine lc_tank (P := fun x => ∃ p : G, x = cd p ∧ GS 21 p) (m := 4) (B := b + 16) (by decide) (fun ts => [some (.own ts), some (.val (.int w)), none, none, none, none, none]) (fun _ _ _ => rfl) (fun _ _ => rfl) (fun d b' ts' R tk' hb' q' => ?_) (rngD 0 (4 : Int).toNat) [] b ts _ tk (by rw [show (rngD 0 (4 : Int).toNat).length = 4 from rfl]; omega) (Nat.le_of_ble_eq_true rfl) (fun xs t2 hl hp k2 => ?_)
  · exact ⟨rfl, lwhole_ok tk' (by omega) h0 h1 fun x t3 _ _ sx k3 => ⟨rfl, lwhole_ok k3 (by omega) h0 h1 fun y t4 _ _ sy k4 => ⟨Nat.le_of_ble_eq_true rfl, q' _ _ ⟨(x, y), rfl, ⟨sx, sy⟩⟩ (k4.up (by omega))⟩⟩⟩
  obtain ⟨x, y, z, u, rfl, s1, s2, s3, s4⟩ := four_of (d := cd) (P := fun p => GS 21 p) hl hp
  have k2 : Tk (b + 16) t2 := k2.up (by rw [show (rngD 0 (4 : Int).toNat).length = 4 from rfl]; omega)
  have g2 : ∀ A : M4, S44 22 A → A.dt ≠ 0 → R (.list [cd A.a, cd A.b, cd A.c, cd A.d]) t2 := fun A S d => g A t2 S d k2
  have up : ∀ {p : G}, GS 21 p → Sz 22 p.1 ∧ Sz 22 p.2 := fun s => ⟨szUp s.a (by decide), szUp s.b (by decide)⟩
  refine ⟨rfl, ?_⟩
  (show q_law_four_2 _ [_, _, _, _, _, _, _]; delta q_law_four_2; refine hid_of ?_)
  refine ⟨rfl, ltimes_ok (by decide) (by decide) ⟨rfl, ltimes_ok (by decide) (by decide) ⟨Or.inr ⟨rfl, rfl⟩, trivial, ?_⟩⟩⟩
  rw [eqv_cd]
  refine ite_b (fun e => ?_) (fun e => ?_)
  · have e0 : x * u = y * z := of_decide_eq_true e
    (show q_law_four_3 _ [_, _, _, _, _, _, _]; delta q_law_four_3; refine hid_of ?_)
    refine ⟨Nat.le_of_ble_eq_true rfl, Or.inr ⟨rfl, rfl⟩, trivial, ?_⟩
    have ex : tru (.bool (PyData.eqv (cd x) (cd (0, 0)))) = decide (x = (0, 0)) := by rw [eqv_cd]; rfl
    by_cases x0 : x = (0, 0)
    · refine ite_t (by rw [decide_eq_true x0] at ex; exact ex) ?_
      have k0 : Sz 22 (0 : Int) := ⟨by decide⟩
      have k1 : Sz 22 (1 : Int) := ⟨by decide⟩
      (show q_law_four_4 _ [_, _, _, _, _, _, _]; delta q_law_four_4; refine hid_of ?_)
      refine ⟨Nat.le_of_ble_eq_true rfl, Nat.le_of_ble_eq_true rfl, Nat.le_of_ble_eq_true rfl, Nat.le_of_ble_eq_true rfl, rfl, ?_⟩
      refine lf_end (x := (1, 0)) (z := (0, 0)) (u := (0, 1)) ⟨k1, k0, (up s2).1, (up s2).2, k0, k0, k0, k1⟩ (fun h => ?_) g2
      have h' : (((1, 0) : G) * (0, 1) - y * (0, 0)) = 0 := h
      have h2 : y * ((0, 0) : G) = 0 := by show y * (0 : G) = 0; grind
      rw [h2] at h'
      have := congrArg Prod.snd h'
      exact absurd this (by decide)
    · refine ite_f (by rw [decide_eq_false x0] at ex; exact ex) ?_
      (show q_law_four_6 _ [_, _, _, _, _, _, _]; delta q_law_four_6; refine hid_of ?_)
      refine ⟨Nat.le_of_ble_eq_true rfl, ?_⟩
      refine lf_end (u := (u.1 + 1, u.2)) ⟨(up s1).1, (up s1).2, (up s2).1, (up s2).2, (up s3).1, (up s3).2, szUp (inferInstance : Sz _ (u.1 + 1)) (by decide), (up s4).2⟩ (fun h => ?_) g2
      have h' : (x * ((u.1 + 1, u.2) : G) - y * z) = 0 := h
      have h2 : ((u.1 + 1, u.2) : G) = u + 1 := Prod.ext rfl (by show u.2 = u.2 + 0; omega)
      rw [h2] at h'
      have h3 : x = 0 := by grind
      exact x0 h3
  · have e0 : ¬(x * u = y * z) := of_decide_eq_false e
    refine lf_end ⟨(up s1).1, (up s1).2, (up s2).1, (up s2).2, (up s3).1, (up s3).2, (up s4).1, (up s4).2⟩ (fun h => e0 ?_) g2
    have h' : x * u - y * z = 0 := h
    grind
theorem lfour_ok {b w : Int} {ts : List PyData} {R : PyData → List PyData → Prop} (tk : Tk b ts) (hb : b < 700000000000) (h0 : 0 < w) (h1 : w ≤ 1000000) (q : ∀ (A : M4) ts', S44 22 A → A.dt ≠ 0 → Tk (b + 16) ts' → R (.list [cd A.a, cd A.b, cd A.c, cd A.d]) ts') : c_law_four ts [.int w] R := ⟨b, w, tk, hb, rfl, h0, h1, q⟩
def w_law_map : Ws := (wSeq (wAsg (dFnT 0 2 c_law_dip (daC (dLit (.int 2)) daN)) (gN 2)) (wRet (dFn 2 c_law_chart (daC (dVar 2) (daC (dFnT 0 2 c_law_four (daC (dVar 1) daN)) daN)))))
theorem sem_law_map : ∀ ts ds R, c_law_map ts ds R → ds.length = 1 → w_law_map (edT R) (some (.own ts) :: ev0 1 ds) := by
  intro ts ds R h _
  obtain ⟨b, w, tk, hb, rfl, h0, h1, g⟩ := h
  refine ⟨rfl, ldip_ok tk (by omega) (by decide) (by decide) fun j t1 j0 j1 k1 => ?_⟩
  refine ⟨rfl, lfour_ok k1 (by omega) h0 h1 fun A t2 S d k2 => ?_⟩
  exact ⟨rfl, law_chart_ok S (by decide) d rfl (g j (nrm A) t2 (by omega) (nrm_fm S d) (k2.up (by omega)))⟩
theorem lmap_ok {b w : Int} {ts : List PyData} {R : PyData → List PyData → Prop} (tk : Tk b ts) (hb : b < 600000000000) (h0 : 0 < w) (h1 : w ≤ 1000000) (q : ∀ (f : Int) (A : M4) ts', (f = 0 ∨ f = 1) → Fm4 23 A → Tk (b + 17) ts' → R (mp4 f A) ts') : c_law_map ts [.int w] R := ⟨b, w, tk, hb, rfl, h0, h1, q⟩
def w_law_shared : Ws := (wSeq (wPar 2 3 (daC (dFn 2 c_law_j (daC (dVar 0) (daC (dVar 1) daN))) (daC (dOp fMul (dFn 1 c_law_d (daC (dVar 0) daN)) (dFn 1 c_law_d (daC (dVar 1) daN))) daN))) (wRet (dIf (dTru (dOp fLt (dOp fMul (dVar 2) (dVar 2)) (dVar 3))) (dLit (.int 2)) (dIf (dTru (dOp fEq (dOp fMul (dVar 2) (dVar 2)) (dVar 3))) (dLit (.int 1)) (dLit (.int 0))))))
@[irreducible] noncomputable def q_law_shared_2 : Ws := hid (wRet (dIf (dTru (dOp fLt (dOp fMul (dVar 2) (dVar 2)) (dVar 3))) (dLit (.int 2)) (dIf (dTru (dOp fEq (dOp fMul (dVar 2) (dVar 2)) (dVar 3))) (dLit (.int 1)) (dLit (.int 0)))))
@[irreducible] noncomputable def q_law_shared_1 : Ws := hid (wSeq (wPar 2 3 (daC (dFn 2 c_law_j (daC (dVar 0) (daC (dVar 1) daN))) (daC (dOp fMul (dFn 1 c_law_d (daC (dVar 0) daN)) (dFn 1 c_law_d (daC (dVar 1) daN))) daN))) q_law_shared_2)
theorem e_law_shared : w_law_shared = q_law_shared_1 := by delta q_law_shared_1 q_law_shared_2; simp only [hid_eq]; with_unfolding_all rfl
theorem sem_law_shared : ∀ ds R, c_law_shared ds R → ds.length = 2 → w_law_shared (edP R) (ev0 2 ds) := by
  intro ds R h _
  obtain ⟨r, s, n, rfl, h1, h2, hn, g⟩ := h
  have p1 : Sz 2010 (prR r s) := szUp (prR_sz2 h1 h2) (by omega)
  have d1 : Sz 2010 (dsc r) := by rw [← dsc_pr]; exact szUp (prR_sz2 h1 h1) (by omega)
  have d2 : Sz 2010 (dsc s) := by rw [← dsc_pr]; exact szUp (prR_sz2 h2 h2) (by omega)
  rw [e_law_shared]; (show q_law_shared_1 _ [_, _, _, _]; delta q_law_shared_1; refine hid_of ?_)
  refine ⟨rfl, lj_ok h1 h2 (by omega) rfl ⟨rfl, ld_ok h1 (by omega) rfl ⟨rfl, ld_ok h2 (by omega) rfl ?_⟩⟩⟩
  refine ⟨by walk_at "sz", ?_⟩
  (show q_law_shared_2 _ [_, _, _, _]; delta q_law_shared_2; refine hid_of ?_)
  refine ⟨by walk_at "sz", trivial, trivial, ?_⟩
  refine ite_b (fun z => ?_) (fun z => ?_)
  · have z0 : prR r s * prR r s < dsc r * dsc s := of_decide_eq_true z
    have e : sg (prR r s * prR r s - dsc r * dsc s) = -1 := by unfold sg; rw [if_neg (by omega), if_pos (by omega)]
    rw [e] at g
    exact g
  · have z0 : ¬(prR r s * prR r s < dsc r * dsc s) := of_decide_eq_false z
    refine ⟨by walk_at "sz", Or.inr ⟨rfl, rfl⟩, trivial, ?_⟩
    rw [eqv_int]
    refine ite_b (fun y => ?_) (fun y => ?_)
    · have y0 : prR r s * prR r s = dsc r * dsc s := of_decide_eq_true y
      have e : sg (prR r s * prR r s - dsc r * dsc s) = 0 := by unfold sg; rw [if_neg (by omega), if_neg (by omega)]
      rw [e] at g
      exact g
    · have y0 : ¬(prR r s * prR r s = dsc r * dsc s) := of_decide_eq_false y
      have e : sg (prR r s * prR r s - dsc r * dsc s) = 1 := by unfold sg; rw [if_pos (by omega)]
      rw [e] at g
      exact g
theorem lshared_ok {r s : R4} {n : Nat} {v : Int} {R : PyData → Prop} (h1 : SR n r) (h2 : SR n s) (hn : n ≤ 1000) (e : 1 - sg (prR r s * prR r s - dsc r * dsc s) = v) (q : R (.int v)) : c_law_shared [rwR r, rwR s] R := ⟨r, s, n, rfl, h1, h2, hn, by rw [e]; exact q⟩
def w_law_pair : Ws := (wSeq (wAsg (dTup (daC (dFnT 0 2 c_law_dip (daC (dLit (.int 5)) daN)) (daC (dFnT 0 2 c_law_map (daC (dVar 1) daN)) daN))) (gT 2 (gsC (gN 2) (gsC (gN 3) gsN)))) (wSeq (wIf (dTru (dOp fGt (dVar 2) (dLit (.int 2)))) (wSeq (wPar 4 5 (daC (dFnT 0 2 c_law_round (daC (dVar 1) daN)) (daC (dFnT 0 2 c_law_round (daC (dVar 1) daN)) daN))) (wRet (dIf (dTru (dOp fNe (dVar 4) (dVar 5))) (dLst (daC (dVar 4) (daC (dVar 5) daN))) (dLst (daC (dVar 4) (daC (dFn 1 c_law_form (daC (dTup (daC (dOp fIx (dVar 4) (dLit (.int 0))) (daC (dOp fIx (dVar 4) (dLit (.int 1))) (daC (dOp fIx (dVar 4) (dLit (.int 2))) (daC (dOp fSub (dOp fSub (dOp fIx (dVar 4) (dLit (.int 3))) (dLit (.int 1))) (dCal fAbs (daC (dOp fIx (dVar 4) (dLit (.int 0))) daN))) daN))))) daN)) daN)))))) wNx) (wSeq (wPar3 6 7 8 (daC (dOp fCat (dLit (.int 1)) (dFnT 0 2 c_law_dip (daC (dLit (.int 4)) daN))) (daC (dFnT 0 2 c_law_dip (daC (dLit (.int 5)) daN)) (daC (dOp fCat (dLit (.int 1)) (dFnT 0 2 c_law_dip (daC (dLit (.int 9)) daN))) daN)))) (wSeq (wIf (dTru (dOp fEq (dVar 2) (dLit (.int 0)))) (wAsg (dLst (daC (dTup (daC (dLit (.int 0)) (daC (dVar 6) (daC (dVar 7) (daC (dLit (.int 0)) daN))))) (daC (dTup (daC (dLit (.int 0)) (daC (dVar 6) (daC (dOp fSub (dOp fSub (dLit (.int 0)) (dVar 7)) (dLit (.int 1))) (daC (dLit (.int 0)) daN))))) daN))) (gN 9)) (wIf (dTru (dOp fEq (dVar 2) (dLit (.int 1)))) (wAsg (dLst (daC (dTup (daC (dLit (.int 0)) (daC (dVar 6) (daC (dVar 7) (daC (dLit (.int 0)) daN))))) (daC (dTup (daC (dLit (.int 0)) (daC (dVar 6) (daC (dVar 7) (daC (dVar 8) daN))))) daN))) (gN 9)) (wAsg (dLst (daC (dTup (daC (dVar 6) (daC (dLit (.int 0)) (daC (dLit (.int 0)) (daC (dOp fSub (dLit (.int 0)) (dVar 8)) daN))))) (daC (dTup (daC (dVar 6) (daC (dLit (.int 0)) (daC (dLit (.int 0)) (daC (dOp fSub (dOp fSub (dOp fSub (dLit (.int 0)) (dVar 8)) (dLit (.int 1))) (dVar 7)) daN))))) daN))) (gN 9)))) (wSeq (wIf (dTru (dOp fEq (dFnT 0 2 c_law_dip (daC (dLit (.int 2)) daN)) (dLit (.int 0)))) (wAsg (dU fRev (dVar 9)) (gN 9)) wNx) (wRet (dLc [10] (diL (dVar 9)) (gN 10) dYes (dFn 1 c_law_form (daC (dFn 2 c_law_row_back (daC (dVar 3) (daC (dVar 10) daN))) daN)))))))))
@[irreducible] noncomputable def q_law_pair_4 : Ws := hid (wRet (dIf (dTru (dOp fNe (dVar 4) (dVar 5))) (dLst (daC (dVar 4) (daC (dVar 5) daN))) (dLst (daC (dVar 4) (daC (dFn 1 c_law_form (daC (dTup (daC (dOp fIx (dVar 4) (dLit (.int 0))) (daC (dOp fIx (dVar 4) (dLit (.int 1))) (daC (dOp fIx (dVar 4) (dLit (.int 2))) (daC (dOp fSub (dOp fSub (dOp fIx (dVar 4) (dLit (.int 3))) (dLit (.int 1))) (dCal fAbs (daC (dOp fIx (dVar 4) (dLit (.int 0))) daN))) daN))))) daN)) daN)))))
@[irreducible] noncomputable def q_law_pair_3 : Ws := hid (wSeq (wPar 4 5 (daC (dFnT 0 2 c_law_round (daC (dVar 1) daN)) (daC (dFnT 0 2 c_law_round (daC (dVar 1) daN)) daN))) q_law_pair_4)
@[irreducible] noncomputable def q_law_pair_7 : Ws := hid (wAsg (dLst (daC (dTup (daC (dLit (.int 0)) (daC (dVar 6) (daC (dVar 7) (daC (dLit (.int 0)) daN))))) (daC (dTup (daC (dLit (.int 0)) (daC (dVar 6) (daC (dOp fSub (dOp fSub (dLit (.int 0)) (dVar 7)) (dLit (.int 1))) (daC (dLit (.int 0)) daN))))) daN))) (gN 9))
@[irreducible] noncomputable def q_law_pair_9 : Ws := hid (wAsg (dLst (daC (dTup (daC (dLit (.int 0)) (daC (dVar 6) (daC (dVar 7) (daC (dLit (.int 0)) daN))))) (daC (dTup (daC (dLit (.int 0)) (daC (dVar 6) (daC (dVar 7) (daC (dVar 8) daN))))) daN))) (gN 9))
@[irreducible] noncomputable def q_law_pair_11 : Ws := hid (wAsg (dLst (daC (dTup (daC (dVar 6) (daC (dLit (.int 0)) (daC (dLit (.int 0)) (daC (dOp fSub (dLit (.int 0)) (dVar 8)) daN))))) (daC (dTup (daC (dVar 6) (daC (dLit (.int 0)) (daC (dLit (.int 0)) (daC (dOp fSub (dOp fSub (dOp fSub (dLit (.int 0)) (dVar 8)) (dLit (.int 1))) (dVar 7)) daN))))) daN))) (gN 9))
@[irreducible] noncomputable def q_law_pair_8 : Ws := hid (wIf (dTru (dOp fEq (dVar 2) (dLit (.int 1)))) q_law_pair_9 q_law_pair_11)
@[irreducible] noncomputable def q_law_pair_13 : Ws := hid (wAsg (dU fRev (dVar 9)) (gN 9))
@[irreducible] noncomputable def q_law_pair_14 : Ws := hid (wRet (dLc [10] (diL (dVar 9)) (gN 10) dYes (dFn 1 c_law_form (daC (dFn 2 c_law_row_back (daC (dVar 3) (daC (dVar 10) daN))) daN))))
@[irreducible] noncomputable def q_law_pair_12 : Ws := hid (wSeq (wIf (dTru (dOp fEq (dFnT 0 2 c_law_dip (daC (dLit (.int 2)) daN)) (dLit (.int 0)))) q_law_pair_13 wNx) q_law_pair_14)
@[irreducible] noncomputable def q_law_pair_6 : Ws := hid (wSeq (wIf (dTru (dOp fEq (dVar 2) (dLit (.int 0)))) q_law_pair_7 q_law_pair_8) q_law_pair_12)
@[irreducible] noncomputable def q_law_pair_5 : Ws := hid (wSeq (wPar3 6 7 8 (daC (dOp fCat (dLit (.int 1)) (dFnT 0 2 c_law_dip (daC (dLit (.int 4)) daN))) (daC (dFnT 0 2 c_law_dip (daC (dLit (.int 5)) daN)) (daC (dOp fCat (dLit (.int 1)) (dFnT 0 2 c_law_dip (daC (dLit (.int 9)) daN))) daN)))) q_law_pair_6)
@[irreducible] noncomputable def q_law_pair_2 : Ws := hid (wSeq (wIf (dTru (dOp fGt (dVar 2) (dLit (.int 2)))) q_law_pair_3 wNx) q_law_pair_5)
@[irreducible] noncomputable def q_law_pair_1 : Ws := hid (wSeq (wAsg (dTup (daC (dFnT 0 2 c_law_dip (daC (dLit (.int 5)) daN)) (daC (dFnT 0 2 c_law_map (daC (dVar 1) daN)) daN))) (gT 2 (gsC (gN 2) (gsC (gN 3) gsN)))) q_law_pair_2)
theorem e_law_pair : w_law_pair = q_law_pair_1 := by delta q_law_pair_1 q_law_pair_2 q_law_pair_5 q_law_pair_6 q_law_pair_12 q_law_pair_14 q_law_pair_13 q_law_pair_8 q_law_pair_11 q_law_pair_9 q_law_pair_7 q_law_pair_3 q_law_pair_4; simp only [hid_eq]; with_unfolding_all rfl
theorem nf_cross {x y : R4} (dx : 0 < dsc x) (dy : 0 < dsc y) (e : nf x = nf y) : x.2.1 * y.2.2.1 = x.2.2.1 * y.2.1 ∧ x.2.1 * y.2.2.2 = x.2.2.2 * y.2.1 ∧ x.1 * y.2.2.2 = x.2.2.2 * y.1 ∧ x.2.2.1 * y.2.2.2 = x.2.2.2 * y.2.2.1 := by
  obtain ⟨g, _, h1⟩ := nf_sc dx
  obtain ⟨k, _, h2⟩ := nf_sc dy
  rw [e] at h1
  generalize nf y = z at h1 h2
  clear e
  subst h1 h2
  simp only [smR]
  refine ⟨?_, ?_, ?_, ?_⟩ <;> grind
theorem led_ne {f : Int} {L : M4} {n : Nat} {x y : R4} (hf : f = 0 ∨ f = 1) (F : Fm4 n L) (dx : 0 < dsc x) (dy : 0 < dsc y) (ne : nf x ≠ nf y) : nf (rlb f L x) ≠ nf (rlb f L y) := fun h => by
  have hL := F.dt
  obtain ⟨a, sa⟩ := SR.any x
  obtain ⟨b, sb⟩ := SR.any y
  rw [← rlb_nf hL dx, ← rlb_nf hL dy] at h
  have k : ∀ z : R4, nf (rlb f L z) = ldr f (bck f L) z := fun z => by unfold ldr; rw [bck_bck F]
  rw [k, k] at h
  exact ne ((ldr_inj hf (bck_dt hL) (nf_ok sa dx).1 (nf_ok sb dy).1).mp h)
theorem lp_led {f : Int} {L : M4} {x y : R4} {ts : List PyData} {R : PyData → List PyData → Prop} {e1 e2 e3 e4 e5 e6 e7 : Option Sl} (hf : f = 0 ∨ f = 1) (F : Fm4 23 L) (sx : SR 6 x) (sy : SR 6 y) (dx : 0 < dsc x) (dy : 0 < dsc y) (ne : nf x ≠ nf y)
    (g : ∀ r s : R4, Rd 80 r → Rd 80 s → r ≠ s → R (.list [rwR r, rwR s]) ts) : q_law_pair_14 (edT R) [some (.own ts), e1, e2, some (.val (mp4 f L)), e3, e4, e5, e6, e7, some (.val (.list [rwR x, rwR y])), none] := by
  have hL := F.dt
  have d1 := dsc_rlbp (f := f) hL dx
  have d2 := dsc_rlbp (f := f) hL dy
  have s1 : SR 60 (rlb f L x) := (rlb_szn (f := f) F.sz sx).up (by decide)
  have s2 : SR 60 (rlb f L y) := (rlb_szn (f := f) F.sz sy).up (by decide)
  have R1 := ((nf_ok s1 d1).1).up' (show 60 ≤ 80 by decide)
  have R2 := ((nf_ok s2 d2).1).up' (show 60 ≤ 80 by decide)
  (show q_law_pair_14 _ [_, _, _, _, _, _, _, _, _, _, _]; delta q_law_pair_14; refine hid_of ?_)
  refine ⟨rfl, lrb_ok hf F.sz (by decide) sx (by decide) ⟨rfl, law_form_ok s1 (by decide) d1 rfl ?_⟩⟩
  refine ⟨Nat.le_of_ble_eq_true rfl, rfl, lrb_ok hf F.sz (by decide) sy (by decide) ⟨rfl, law_form_ok s2 (by decide) d2 rfl ?_⟩⟩
  exact ⟨Nat.le_of_ble_eq_true rfl, Nat.le_of_ble_eq_true rfl, g _ _ R1 R2 (led_ne hf F dx dy ne)⟩
theorem lp_turn {b f : Int} {L : M4} {x y : R4} {ts : List PyData} {R : PyData → List PyData → Prop} {e1 e2 e3 e4 e5 e6 e7 : Option Sl} (tk : Tk b ts) (hb : b < 500000000000) (hf : f = 0 ∨ f = 1) (F : Fm4 23 L) (sx : SR 6 x) (sy : SR 6 y) (dx : 0 < dsc x) (dy : 0 < dsc y) (ne : nf x ≠ nf y)
    (g : ∀ (r s : R4) ts', Rd 80 r → Rd 80 s → r ≠ s → Tk (b + 1) ts' → R (.list [rwR r, rwR s]) ts') : q_law_pair_12 (edT R) [some (.own ts), e1, e2, some (.val (mp4 f L)), e3, e4, e5, e6, e7, some (.val (.list [rwR x, rwR y])), none] := by
  (show q_law_pair_12 _ [_, _, _, _, _, _, _, _, _, _, _]; delta q_law_pair_12; refine hid_of ?_)
  refine ⟨rfl, ldip_ok tk (by omega) (by decide) (by decide) fun j t1 j0 j1 k1 => ?_⟩
  refine ⟨Or.inr ⟨rfl, rfl⟩, trivial, ?_⟩
  rw [eqv_int]
  refine ite_b (fun z => ?_) (fun z => ?_)
  · (show q_law_pair_13 _ [_, _, _, _, _, _, _, _, _, _, _]; delta q_law_pair_13; refine hid_of ?_)
    exact lp_led hf F sy sx dy dx (fun h => ne h.symm) fun r s h1 h2 h3 => g r s t1 h1 h2 h3 k1
  · exact lp_led hf F sx sy dx dy ne fun r s h1 h2 h3 => g r s t1 h1 h2 h3 k1
theorem lp_next {r : R4} {n : Nat} (h : Rd n r) : 0 < dsc (r.1, r.2.1, r.2.2.1, r.2.2.2 - 1 - (if r.1 < 0 then -r.1 else r.1)) ∧ r ≠ nf (r.1, r.2.1, r.2.2.1, r.2.2.2 - 1 - (if r.1 < 0 then -r.1 else r.1)) := by
  have q0 := h.q0
  have d := h.pos
  rw [if_neg (by omega)]
  have d2 : 0 < dsc (r.1, r.2.1, r.2.2.1, r.2.2.2 - 1 - r.1) := by
    have e : dsc (r.1, r.2.1, r.2.2.1, r.2.2.2 - 1 - r.1) = dsc r + 4 * (r.1 + r.1 * r.1) := by
      simp only [dsc]
      grind
    have := Int.mul_nonneg q0 q0
    omega
  refine ⟨d2, fun e => ?_⟩
  have e2 : nf r = nf (r.1, r.2.1, r.2.2.1, r.2.2.2 - 1 - r.1) := by rw [nf_self h]; exact e
  obtain ⟨_, h1, h2, h3⟩ := nf_cross d d2 e2
  dsimp only at h1 h2 h3
  have z : r.1 * (1 + r.1) = 0 := by grind
  rcases Int.mul_eq_zero.mp z with z | z
  · rw [z] at h1 h3
    have l0 : r.2.1 = 0 := by grind
    have m0 : r.2.2.1 = 0 := by grind
    have e3 : dsc r = 0 := by simp only [dsc, l0, m0, z]; omega
    omega
  · omega
theorem sem_law_pair : ∀ ts ds R, c_law_pair ts ds R → ds.length = 1 → w_law_pair (edT R) (some (.own ts) :: ev0 9 ds) := by
  intro ts ds R h _
  obtain ⟨b, w, tk, hb, rfl, h0, h1, g⟩ := h
  rw [e_law_pair]; (show q_law_pair_1 _ [_, _, _, _, _, _, _, _, _, _, _]; delta q_law_pair_1; refine hid_of ?_)
  refine ⟨rfl, ldip_ok tk (by omega) (by decide) (by decide) fun j t1 j0 j1 k1 => ⟨rfl, lmap_ok k1 (by omega) h0 h1 fun f L t2 hf F k2 => ?_⟩⟩
  refine ⟨Nat.le_of_ble_eq_true rfl, rfl, ?_⟩
  (show q_law_pair_2 _ [_, _, _, _, _, _, _, _, _, _, _]; delta q_law_pair_2; refine hid_of ?_)
  refine ⟨trivial, trivial, ?_⟩
  refine ite_b (fun z => ?_) (fun z => ?_)
  · (show q_law_pair_3 _ [_, _, _, _, _, _, _, _, _, _, _]; delta q_law_pair_3; refine hid_of ?_)
    refine ⟨rfl, lround_ok k2 (by omega) h0 h1 fun r t3 R1 k3 => ⟨rfl, lround_ok k3 (by omega) h0 h1 fun s t4 R2 k4 => ?_⟩⟩
    (show q_law_pair_4 _ [_, _, _, _, _, _, _, _, _, _, _]; delta q_law_pair_4; refine hid_of ?_)
    refine ⟨Or.inr ⟨rfl, rfl⟩, trivial, ?_⟩
    have e : tru (.bool (!PyData.eqv (rwR r) (rwR s))) = !decide (r = s) := by rw [eqv_R]; rfl
    by_cases y : r = s
    · refine ite_f (by rw [decide_eq_true y] at e; exact e) ?_
      have q0 := R1.q0
      have x1 := R1.s1
      have x2 := R1.s2
      have x3 := R1.s3
      have x4 := R1.s4
      obtain ⟨d, n⟩ := lp_next R1
      have sz : SR 25 (r.1, r.2.1, r.2.2.1, r.2.2.2 - 1 - (if r.1 < 0 then -r.1 else r.1)) := by
        rw [if_neg (by omega)]
        exact ⟨szUp x1 (by decide), szUp x2 (by decide), szUp x3 (by decide), szUp (inferInstance : Sz _ (r.2.2.2 - 1 - r.1)) (by decide)⟩
      refine ⟨trivial, trivial, Nat.le_of_ble_eq_true rfl, rfl, law_form_ok (x := (r.1, r.2.1, r.2.2.1, r.2.2.2 - 1 - (if r.1 < 0 then -r.1 else r.1))) sz (by decide) d rfl ?_⟩
      exact ⟨Nat.le_of_ble_eq_true rfl, g _ _ t4 (R1.up' (by decide)) ((nf_ok sz d).1.up' (by decide)) n (k4.up (by omega))⟩
    · refine ite_t (by rw [decide_eq_false y] at e; exact e) ?_
      exact ⟨Nat.le_of_ble_eq_true rfl, g _ _ t4 (R1.up' (by decide)) (R2.up' (by decide)) y (k4.up (by omega))⟩
  · (show q_law_pair_5 _ [_, _, _, _, _, _, _, _, _, _, _]; delta q_law_pair_5; refine hid_of ?_)
    refine ⟨rfl, ldip_ok k2 (by omega) (by decide) (by decide) fun l t3 l0 l1 k3 => ?_⟩
    refine ⟨rfl, ldip_ok k3 (by omega) (by decide) (by decide) fun m t4 m0 m1 k4 => ?_⟩
    refine ⟨rfl, ldip_ok k4 (by omega) (by decide) (by decide) fun k t5 z0 z1 k5 => ?_⟩
    have g2 : ∀ (r s : R4) ts', Rd 80 r → Rd 80 s → r ≠ s → Tk (b + 1 + 17 + 1 + 1 + 1 + 1) ts' → R (.list [rwR r, rwR s]) ts' := fun r s ts' u v n k => g r s ts' u v n (k.up (by omega))
    have sl : Sz 6 (1 + l) := ⟨by omega⟩
    have sm : Sz 6 m := ⟨by omega⟩
    have sk : Sz 6 (1 + k) := ⟨by omega⟩
    have s0 : Sz 6 (0 : Int) := ⟨by decide⟩
    have sn : Sz 6 (0 - m - 1) := ⟨by omega⟩
    have sj : Sz 6 (0 - (1 + k)) := ⟨by omega⟩
    have si : Sz 6 (0 - (1 + k) - 1 - m) := ⟨by omega⟩
    have ll : 0 < (1 + l) * (1 + l) := Int.mul_pos (by omega) (by omega)
    (show q_law_pair_6 _ [_, _, _, _, _, _, _, _, _, _, _]; delta q_law_pair_6; refine hid_of ?_)
    refine ⟨Or.inr ⟨rfl, rfl⟩, trivial, ?_⟩
    rw [eqv_int]
    refine ite_b (fun y => ?_) (fun y => ?_)
    · (show q_law_pair_7 _ [_, _, _, _, _, _, _, _, _, _, _]; delta q_law_pair_7; refine hid_of ?_)
      refine ⟨Nat.le_of_ble_eq_true rfl, trivial, trivial, Nat.le_of_ble_eq_true rfl, Nat.le_of_ble_eq_true rfl, ?_⟩
      have dx : 0 < dsc ((0, 1 + l, m, 0) : R4) := by
        have := sq_nn m
        simp only [dsc]
        omega
      have dy : 0 < dsc ((0, 1 + l, 0 - m - 1, 0) : R4) := by
        have := sq_nn (0 - m - 1)
        simp only [dsc]
        omega
      refine lp_turn (x := (0, 1 + l, m, 0)) (y := (0, 1 + l, 0 - m - 1, 0)) k5 (by omega) hf F ⟨s0, sl, sm, s0⟩ ⟨s0, sl, sn, s0⟩ dx dy (fun h => ?_) g2
      obtain ⟨h1, _⟩ := nf_cross dx dy h
      have h1 : (1 + l) * (0 - m - 1) = m * (1 + l) := h1
      rw [Int.mul_comm m] at h1
      have := Int.eq_of_mul_eq_mul_left (by omega) h1
      omega
    · (show q_law_pair_8 _ [_, _, _, _, _, _, _, _, _, _, _]; delta q_law_pair_8; refine hid_of ?_)
      refine ⟨Or.inr ⟨rfl, rfl⟩, trivial, ?_⟩
      rw [eqv_int]
      refine ite_b (fun y => ?_) (fun y => ?_)
      · (show q_law_pair_9 _ [_, _, _, _, _, _, _, _, _, _, _]; delta q_law_pair_9; refine hid_of ?_)
        refine ⟨Nat.le_of_ble_eq_true rfl, Nat.le_of_ble_eq_true rfl, Nat.le_of_ble_eq_true rfl, ?_⟩
        have dx : 0 < dsc ((0, 1 + l, m, 0) : R4) := by
          have := sq_nn m
          simp only [dsc]
          omega
        have dy : 0 < dsc ((0, 1 + l, m, 1 + k) : R4) := by
          have := sq_nn m
          simp only [dsc]
          omega
        refine lp_turn (x := (0, 1 + l, m, 0)) (y := (0, 1 + l, m, 1 + k)) k5 (by omega) hf F ⟨s0, sl, sm, s0⟩ ⟨s0, sl, sm, sk⟩ dx dy (fun h => ?_) g2
        obtain ⟨_, h1, _⟩ := nf_cross dx dy h
        have h1 : (1 + l) * (1 + k) = 0 * (1 + l) := h1
        have := Int.mul_pos (show 0 < 1 + l by omega) (show 0 < 1 + k by omega)
        omega
      · (show q_law_pair_11 _ [_, _, _, _, _, _, _, _, _, _, _]; delta q_law_pair_11; refine hid_of ?_)
        refine ⟨trivial, Nat.le_of_ble_eq_true rfl, trivial, trivial, trivial, Nat.le_of_ble_eq_true rfl, Nat.le_of_ble_eq_true rfl, ?_⟩
        have lk : 0 ≤ l * k := Int.mul_nonneg l0 z0
        have lm : 0 ≤ l * m := Int.mul_nonneg l0 m0
        have dx : 0 < dsc ((1 + l, 0, 0, 0 - (1 + k)) : R4) := by
          have : dsc ((1 + l, 0, 0, 0 - (1 + k)) : R4) = 4 * (1 + l + k + l * k) := by simp only [dsc]; grind
          omega
        have dy : 0 < dsc ((1 + l, 0, 0, 0 - (1 + k) - 1 - m) : R4) := by
          have : dsc ((1 + l, 0, 0, 0 - (1 + k) - 1 - m) : R4) = 4 * (2 + k + m + 2 * l + l * k + l * m) := by simp only [dsc]; grind
          omega
        refine lp_turn (x := (1 + l, 0, 0, 0 - (1 + k))) (y := (1 + l, 0, 0, 0 - (1 + k) - 1 - m)) k5 (by omega) hf F ⟨sl, s0, s0, sj⟩ ⟨sl, s0, s0, si⟩ dx dy (fun h => ?_) g2
        obtain ⟨_, _, h1, _⟩ := nf_cross dx dy h
        have h1 : (1 + l) * (0 - (1 + k) - 1 - m) = (0 - (1 + k)) * (1 + l) := h1
        rw [Int.mul_comm (0 - (1 + k))] at h1
        have := Int.eq_of_mul_eq_mul_left (by omega) h1
        omega
theorem lpair_ok {b w : Int} {ts : List PyData} {R : PyData → List PyData → Prop} (tk : Tk b ts) (hb : b < 450000000000) (h0 : 0 < w) (h1 : w ≤ 1000000) (q : ∀ (r s : R4) ts', Rd 80 r → Rd 80 s → r ≠ s → Tk (b + 60) ts' → R (.list [rwR r, rwR s]) ts') : c_law_pair ts [.int w] R := ⟨b, w, tk, hb, rfl, h0, h1, q⟩
def w_law_due : Ws := (wSeq (wPar 2 3 (daC (dFn 1 c_law_d (daC (dVar 0) daN)) (daC (dFn 1 c_law_d (daC (dVar 1) daN)) daN))) (wSeq (wAsg (dFn 1 c_law_root (daC (dOp fMul (dVar 2) (dVar 3)) daN)) (gN 4)) (wSeq (wIf (dTru (dOp fNe (dOp fMul (dVar 4) (dVar 4)) (dOp fMul (dVar 2) (dVar 3)))) (wRet (dTup daN)) wNx) (wSeq (wAsg (dLst (daC (dFn 4 c_law_mixed (daC (dVar 4) (daC (dVar 0) (daC (dVar 2) (daC (dVar 1) daN))))) (daC (dFn 4 c_law_mixed (daC (dVar 4) (daC (dVar 0) (daC (dOp fSub (dLit (.int 0)) (dVar 2)) (daC (dVar 1) daN))))) daN))) (gN 5)) (wRet (dCal fTuple (daC (dCal fSortR (daC (dLc [6] (diL (dVar 5)) (gN 6) (dTru (dOp fGt (dFn 1 c_law_d (daC (dVar 6) daN)) (dLit (.int 0)))) (dFn 1 c_law_form (daC (dVar 6) daN))) daN)) daN)))))))
@[irreducible] noncomputable def q_law_due_4 : Ws := hid (wRet (dTup daN))
@[irreducible] noncomputable def q_law_due_6 : Ws := hid (wRet (dCal fTuple (daC (dCal fSortR (daC (dLc [6] (diL (dVar 5)) (gN 6) (dTru (dOp fGt (dFn 1 c_law_d (daC (dVar 6) daN)) (dLit (.int 0)))) (dFn 1 c_law_form (daC (dVar 6) daN))) daN)) daN)))
@[irreducible] noncomputable def q_law_due_5 : Ws := hid (wSeq (wAsg (dLst (daC (dFn 4 c_law_mixed (daC (dVar 4) (daC (dVar 0) (daC (dVar 2) (daC (dVar 1) daN))))) (daC (dFn 4 c_law_mixed (daC (dVar 4) (daC (dVar 0) (daC (dOp fSub (dLit (.int 0)) (dVar 2)) (daC (dVar 1) daN))))) daN))) (gN 5)) q_law_due_6)
@[irreducible] noncomputable def q_law_due_3 : Ws := hid (wSeq (wIf (dTru (dOp fNe (dOp fMul (dVar 4) (dVar 4)) (dOp fMul (dVar 2) (dVar 3)))) q_law_due_4 wNx) q_law_due_5)
@[irreducible] noncomputable def q_law_due_2 : Ws := hid (wSeq (wAsg (dFn 1 c_law_root (daC (dOp fMul (dVar 2) (dVar 3)) daN)) (gN 4)) q_law_due_3)
@[irreducible] noncomputable def q_law_due_1 : Ws := hid (wSeq (wPar 2 3 (daC (dFn 1 c_law_d (daC (dVar 0) daN)) (daC (dFn 1 c_law_d (daC (dVar 1) daN)) daN))) q_law_due_2)
theorem e_law_due : w_law_due = q_law_due_1 := by delta q_law_due_1 q_law_due_2 q_law_due_3 q_law_due_5 q_law_due_6 q_law_due_4; simp only [hid_eq]; with_unfolding_all rfl
theorem sem_law_due : ∀ ds R, c_law_due ds R → ds.length = 2 → w_law_due (edP R) (ev0 5 ds) := by
  intro ds R h _
  obtain ⟨r, s, n, rfl, h1, h2, hn, q⟩ := h
  have d1 : Sz 406 (dsc r) := by rw [← dsc_pr]; exact szUp (prR_sz2 h1.sr h1.sr) (by omega)
  have d2 : Sz 406 (dsc s) := by rw [← dsc_pr]; exact szUp (prR_sz2 h2.sr h2.sr) (by omega)
  have dd : Sz 813 (dsc r * dsc s) := szUp (inferInstance : Sz _ (dsc r * dsc s)) (by decide)
  have nn : 0 ≤ dsc r * dsc s := Int.le_of_lt (Int.mul_pos h1.pos h2.pos)
  have sg0 : Sz 813 (rt (dsc r * dsc s)) := rt_sz dd nn
  rw [e_law_due]; (show q_law_due_1 _ [_, _, _, _, _, _, _]; delta q_law_due_1; refine hid_of ?_)
  refine ⟨rfl, ld_ok h1.sr (by omega) rfl ⟨rfl, ld_ok h2.sr (by omega) rfl ?_⟩⟩
  (show q_law_due_2 _ [_, _, _, _, _, _, _]; delta q_law_due_2; refine hid_of ?_)
  refine ⟨by walk_at "sz", rfl, dsc r * dsc s, rfl, nn, szUp dd (by decide), ?_⟩
  (show q_law_due_3 _ [_, _, _, _, _, _, _]; delta q_law_due_3; refine hid_of ?_)
  refine ⟨by walk_at "sz", by walk_at "sz", Or.inr ⟨rfl, rfl⟩, trivial, ?_⟩
  obtain ⟨g, eg⟩ : ∃ g, rt (dsc r * dsc s) = g := ⟨_, rfl⟩
  have ew : wr (dsc r * dsc s) = if g * g = dsc r * dsc s then some g else none := by unfold wr; rw [eg]
  rw [eg] at sg0 ⊢
  have sng : Sz 813 (-g) := ngS sg0
  have e : tru (.bool (!PyData.eqv (.int (g * g)) (.int (dsc r * dsc s)))) = !decide (g * g = dsc r * dsc s) := by rw [eqv_int]; rfl
  by_cases z : g * g = dsc r * dsc s
  · rw [if_pos z] at ew
    rw [exl_law h1.pos h2.pos ew] at q
    refine ite_f (by rw [decide_eq_true z] at e; exact e) ?_
    have d3 : Sz 408 (0 - dsc r) := szUp (inferInstance : Sz _ (0 - dsc r)) (by decide)
    have m1 : SR 1100 (mxR g r (dsc r) s) := (mxR_sz sg0 (szUp d1 (by decide)) h1.sr h2.sr).up (by omega)
    have m2 : SR 1100 (mxR g r (0 - dsc r) s) := (mxR_sz sg0 (szUp d3 (by decide)) h1.sr h2.sr).up (by omega)
    (show q_law_due_5 _ [_, _, _, _, _, _, _]; delta q_law_due_5; refine hid_of ?_)
    refine ⟨rfl, lmixed_ok (szUp sg0 (by decide)) (szUp d1 (by decide)) h1.sr h2.sr (by omega) rfl ?_⟩
    refine ⟨trivial, rfl, lmixed_ok (szUp sg0 (by decide)) (szUp d3 (by decide)) h1.sr h2.sr (by omega) rfl ?_⟩
    refine ⟨Nat.le_of_ble_eq_true rfl, ?_⟩
    (show q_law_due_6 _ [_, _, _, _, _, _, _]; delta q_law_due_6; refine hid_of ?_)
    have hm : ∀ x ∈ [mxR g r (dsc r) s, mxR g r (0 - dsc r) s], SR 1100 x := fun x hx => by
      simp only [List.mem_cons, List.not_mem_nil, or_false] at hx
      rcases hx with rfl | rfl
      · exact m1
      · exact m2
    refine lc_keepA (d := rwR) (p := fun x => decide (0 < dsc x)) (f := fun x => rwR (nf x)) (xs := [mxR g r (dsc r) s, mxR g r (0 - dsc r) s]) rfl rfl (Nat.le_of_ble_eq_true rfl) (fun x hx R q => ?_) (fun x hx px R q => ?_) ?_
    · exact ⟨rfl, ld_ok (hm x hx) (by decide) rfl ⟨trivial, trivial, q⟩⟩
    · have dx : 0 < dsc x := of_decide_eq_true px
      exact ⟨rfl, law_form_ok (hm x hx) (by decide) dx rfl q⟩
    refine ⟨([mxR g r (dsc r) s, mxR g r (0 - dsc r) s].filter fun x => decide (0 < dsc x)).map nf, by rw [List.nil_append, List.map_map]; rfl, ?_, q⟩
    rw [List.length_map]
    exact Nat.le_trans (List.length_filter_le ..) (Nat.le_of_ble_eq_true rfl)
  · rw [if_neg z] at ew
    refine ite_t (by rw [decide_eq_false z] at e; exact e) ?_
    (show q_law_due_4 _ [_, _, _, _, _, _, _]; delta q_law_due_4; refine hid_of ?_)
    refine ⟨Nat.le_of_ble_eq_true rfl, ?_⟩
    unfold exl at q
    rw [ew] at q
    exact q
theorem ldue_ok {r s : R4} {n : Nat} {l : List R4} {R : PyData → Prop} (h1 : Rd n r) (h2 : Rd n s) (hn : n ≤ 200) (e : exl r s = l) (q : R (.tuple (l.map rwR))) : c_law_due [rwR r, rwR s] R := ⟨r, s, n, rfl, h1, h2, hn, by rw [e]; exact q⟩
def w_law_image : Ws := (wRet (dFn 1 c_law_form (daC (dFn 4 c_law_mixed (daC (dFn 1 c_law_d (daC (dVar 0) daN)) (daC (dVar 1) (daC (dOp fSub (dLit (.int 0)) (dOp fMul (dLit (.int 2)) (dFn 2 c_law_j (daC (dVar 0) (daC (dVar 1) daN))))) (daC (dVar 0) daN))))) daN)))
@[irreducible] noncomputable def q_law_image_1 : Ws := hid (wRet (dFn 1 c_law_form (daC (dFn 4 c_law_mixed (daC (dFn 1 c_law_d (daC (dVar 0) daN)) (daC (dVar 1) (daC (dOp fSub (dLit (.int 0)) (dOp fMul (dLit (.int 2)) (dFn 2 c_law_j (daC (dVar 0) (daC (dVar 1) daN))))) (daC (dVar 0) daN))))) daN)))
theorem e_law_image : w_law_image = q_law_image_1 := by delta q_law_image_1; simp only [hid_eq]; with_unfolding_all rfl
theorem sem_law_image : ∀ ds R, c_law_image ds R → ds.length = 2 → w_law_image (edP R) (ev0 0 ds) := by
  intro ds R h _
  obtain ⟨r, s, n, m, rfl, h1, h2, hn, hm, q⟩ := h
  have d1 : Sz 1806 (dsc r) := by rw [← dsc_pr]; exact szUp (prR_sz2 h1.sr h1.sr) (by omega)
  have p1 : Sz 1806 (prR r s) := szUp (prR_sz2 h1.sr h2.sr) (by omega)
  have p2 : Sz 1809 (0 - 2 * prR r s) := szUp (inferInstance : Sz _ (0 - 2 * prR r s)) (by decide)
  have e : mxR (dsc r) s (0 - 2 * prR r s) r = mrR r s := by
    unfold mrR
    rw [show 0 - 2 * prR r s = -2 * prR r s by omega]
  have S : SR 2800 (mrR r s) := (mrR_sz2 h1.sr h2.sr).up (by omega)
  rw [e_law_image]; (show q_law_image_1 _ [_, _]; delta q_law_image_1; refine hid_of ?_)
  refine ⟨rfl, ld_ok h1.sr (by omega) rfl ⟨rfl, lj_ok (h1.sr.up hn) (h2.sr.up hm) (by decide) rfl ?_⟩⟩
  refine ⟨by walk_at "sz", trivial, rfl, lmixed_ok (szUp d1 (by decide)) (szUp p2 (by decide)) (h2.sr.up hm) (h1.sr.up hn) (by decide) e ⟨rfl, law_form_ok S (by decide) (mrR_pos h1.pos h2.pos) rfl q⟩⟩
theorem limage_ok {r s t : R4} {n m : Nat} {R : PyData → Prop} (h1 : Rd n r) (h2 : Rd m s) (hn : n ≤ 900) (hm : m ≤ 900) (e : nf (mrR r s) = t) (q : R (rwR t)) : c_law_image [rwR r, rwR s] R := ⟨r, s, n, m, rfl, h1, h2, hn, hm, by rw [e]; exact q⟩
def w_law_told : Ws := (wSeq (wPar 2 3 (daC (dFn 2 c_law_due (daC (dVar 0) (daC (dVar 1) daN))) (daC (dIf (dTru (dOp fEq (dFn 2 c_law_shared (daC (dVar 0) (daC (dVar 1) daN))) (dLit (.int 2)))) (dLit (.int 2)) (dLit (.int 1))) daN))) (wSeq (wAsg (dLst (daC (dFn 2 c_exchanging (daC (dVar 0) (daC (dVar 1) daN))) (daC (dFnS 2 c_exchanging (daC (dVar 0) (daC (dVar 1) daN))) daN))) (gN 4)) (wSeq (wIf (dTru (dOp fNe (dCal fRepr (daC (dOp fCat (dVar 4) (dLst (daC (dFn 2 c_count_exchanging (daC (dVar 0) (daC (dVar 1) daN))) (daC (dFnS 2 c_count_exchanging (daC (dVar 0) (daC (dVar 1) daN))) daN)))) daN)) (dCal fRepr (daC (dLst (daC (dVar 2) (daC (dVar 2) (daC (dVar 3) (daC (dVar 3) daN))))) daN)))) (wRet (dLit (.bool false))) wNx) (wSeq (wFor (diT (dVar 2)) (gN 5) (wSeq (wIf (dOrT (dTru (dOp fNe (dFn 2 c_law_image (daC (dVar 5) (daC (dVar 0) daN))) (dVar 1))) (dTru (dOp fNe (dFn 2 c_law_image (daC (dVar 5) (daC (dVar 1) daN))) (dVar 0)))) (wRet (dLit (.bool false))) wNx) (wIf (dTru (dOp fNe (dCal fRepr (daC (dLst (daC (dFn 2 c_mirrored_round (daC (dVar 5) (daC (dVar 0) daN))) (daC (dFn 2 c_mirrored_round (daC (dVar 5) (daC (dVar 1) daN))) daN))) daN)) (dCal fRepr (daC (dLst (daC (dVar 1) (daC (dVar 0) daN))) daN)))) (wRet (dLit (.bool false))) wNx))) (wRet (dLit (.bool true)))))))
@[irreducible] noncomputable def q_law_told_4 : Ws := hid (wRet (dLit (.bool false)))
@[irreducible] noncomputable def q_law_told_7 : Ws := hid (wRet (dLit (.bool false)))
@[irreducible] noncomputable def q_law_told_9 : Ws := hid (wRet (dLit (.bool false)))
@[irreducible] noncomputable def q_law_told_8 : Ws := hid (wIf (dTru (dOp fNe (dCal fRepr (daC (dLst (daC (dFn 2 c_mirrored_round (daC (dVar 5) (daC (dVar 0) daN))) (daC (dFn 2 c_mirrored_round (daC (dVar 5) (daC (dVar 1) daN))) daN))) daN)) (dCal fRepr (daC (dLst (daC (dVar 1) (daC (dVar 0) daN))) daN)))) q_law_told_9 wNx)
@[irreducible] noncomputable def q_law_told_6 : Ws := hid (wSeq (wIf (dOrT (dTru (dOp fNe (dFn 2 c_law_image (daC (dVar 5) (daC (dVar 0) daN))) (dVar 1))) (dTru (dOp fNe (dFn 2 c_law_image (daC (dVar 5) (daC (dVar 1) daN))) (dVar 0)))) q_law_told_7 wNx) q_law_told_8)
@[irreducible] noncomputable def q_law_told_10 : Ws := hid (wRet (dLit (.bool true)))
@[irreducible] noncomputable def q_law_told_5 : Ws := hid (wSeq (wFor (diT (dVar 2)) (gN 5) q_law_told_6) q_law_told_10)
@[irreducible] noncomputable def q_law_told_3 : Ws := hid (wSeq (wIf (dTru (dOp fNe (dCal fRepr (daC (dOp fCat (dVar 4) (dLst (daC (dFn 2 c_count_exchanging (daC (dVar 0) (daC (dVar 1) daN))) (daC (dFnS 2 c_count_exchanging (daC (dVar 0) (daC (dVar 1) daN))) daN)))) daN)) (dCal fRepr (daC (dLst (daC (dVar 2) (daC (dVar 2) (daC (dVar 3) (daC (dVar 3) daN))))) daN)))) q_law_told_4 wNx) q_law_told_5)
@[irreducible] noncomputable def q_law_told_2 : Ws := hid (wSeq (wAsg (dLst (daC (dFn 2 c_exchanging (daC (dVar 0) (daC (dVar 1) daN))) (daC (dFnS 2 c_exchanging (daC (dVar 0) (daC (dVar 1) daN))) daN))) (gN 4)) q_law_told_3)
@[irreducible] noncomputable def q_law_told_1 : Ws := hid (wSeq (wPar 2 3 (daC (dFn 2 c_law_due (daC (dVar 0) (daC (dVar 1) daN))) (daC (dIf (dTru (dOp fEq (dFn 2 c_law_shared (daC (dVar 0) (daC (dVar 1) daN))) (dLit (.int 2)))) (dLit (.int 2)) (dLit (.int 1))) daN))) q_law_told_2)
theorem e_law_told : w_law_told = q_law_told_1 := by delta q_law_told_1 q_law_told_2 q_law_told_3 q_law_told_5 q_law_told_10 q_law_told_6 q_law_told_8 q_law_told_9 q_law_told_7 q_law_told_4; simp only [hid_eq]; with_unfolding_all rfl
theorem ne_R (s : R4) : tru (.bool (!PyData.eqv (rwR s) (rwR s))) = false := by
  show (!PyData.eqv (rwR s) (rwR s)) = false
  rw [eqv_R, decide_eq_true rfl]
  rfl
theorem sem_law_told : ∀ ds R, c_law_told ds R → ds.length = 2 → w_law_told (edP R) (ev0 4 ds) := by
  intro ds R h _
  obtain ⟨r, s, rfl, h1, h2, ne, q⟩ := h
  obtain ⟨l, el⟩ : ∃ l, exl r s = l := ⟨_, rfl⟩
  have ln := exl_len r s
  have hx : ∀ x ∈ l, Rd 414 x ∧ nf (mrR x r) = s ∧ nf (mrR x s) = r := fun x hx => by
    rw [← el] at hx
    exact ⟨ex_rd h1 h2 hx, ex_img h1 h2 hx⟩
  have es : exl s r = l := by rw [exl_sym h1.pos h2.pos, el]
  rw [el] at ln
  obtain ⟨v, ev⟩ : ∃ v, sg (prR r s * prR r s - dsc r * dsc s) = v := ⟨_, rfl⟩
  have v3 := sg3 (prR r s * prR r s - dsc r * dsc s)
  rw [ev] at v3
  have e2 : (if sg (prR s r * prR s r - dsc s * dsc r) = -1 then (2 : Int) else 1) = if v = -1 then 2 else 1 := by rw [pr_sym s r, Int.mul_comm (dsc s), ev]
  rw [e_law_told]; (show q_law_told_1 _ [_, _, _, _, _, _]; delta q_law_told_1; refine hid_of ?_)
  refine ⟨rfl, ldue_ok h1 h2 (by decide) el ⟨rfl, lshared_ok h1.sr h2.sr (by decide) (v := 1 - v) (by rw [ev]) ?_⟩⟩
  have key : ∀ w : Int, (if v = -1 then (2 : Int) else 1) = w → q_law_told_2 (edP R) [some (.val (rwR r)), some (.val (rwR s)), some (.val (.tuple (l.map rwR))), some (.val (.int w)), none, none] := by
    intro w hw
    have sw : Sz 3 w := ⟨by
      rw [← hw]
      by_cases z : v = -1
      · rw [if_pos z]; decide
      · rw [if_neg z]; decide⟩
    (show q_law_told_2 _ [_, _, _, _, _, _]; delta q_law_told_2; refine hid_of ?_)
    refine ⟨rfl, r, s, 80, rfl, h1, h2, by decide, ne, ?_⟩
    rw [el]
    refine ⟨rfl, s, r, 80, rfl, h2, h1, by decide, fun z => ne z.symm, ?_⟩
    rw [es]
    refine ⟨Nat.le_of_ble_eq_true rfl, ?_⟩
    (show q_law_told_3 _ [_, _, _, _, _, _]; delta q_law_told_3; refine hid_of ?_)
    refine ⟨rfl, count_ok (v := w) h1 h2 (by decide) ne (by rw [ev]; exact hw) ⟨rfl, count_ok (v := w) h2 h1 (by decide) (fun z => ne z.symm) (e2.trans hw) ?_⟩⟩
    refine ⟨Nat.le_of_ble_eq_true rfl, Nat.le_of_ble_eq_true rfl, ?_⟩
    have rp : ∀ Q : Prop, Q → RP (.list [.tuple (l.map rwR), .tuple (l.map rwR), .int w, .int w]) Q := fun Q g => by
      rcases ln with ⟨x, y, rfl⟩ | ⟨x, rfl⟩ | rfl
      · have X := (hx x (List.mem_cons_self ..)).1
        have Y := (hx y (List.mem_cons_of_mem _ (List.mem_cons_self ..))).1
        have x1 := X.s1
        have x2 := X.s2
        have x3 := X.s3
        have x4 := X.s4
        have y1 := Y.s1
        have y2 := Y.s2
        have y3 := Y.s3
        have y4 := Y.s4
        refine (show RP (.list [.tuple [rwR x, rwR y], .tuple [rwR x, rwR y], .int w, .int w]) _ from ?_)
        walk_at "rp"
        exact g
      · have X := (hx x (List.mem_cons_self ..)).1
        have x1 := X.s1
        have x2 := X.s2
        have x3 := X.s3
        have x4 := X.s4
        refine (show RP (.list [.tuple [rwR x], .tuple [rwR x], .int w, .int w]) _ from ?_)
        walk_at "rp"
        exact g
      · refine (show RP (.list [.tuple [], .tuple [], .int w, .int w]) _ from ?_)
        walk_at "rp"
        exact g
    refine rp _ ?_
    refine ⟨Nat.le_of_ble_eq_true rfl, ?_⟩
    refine rp _ ?_
    refine ⟨Or.inl rfl, trivial, ?_⟩
    refine ite_f (ne_f (congrArg PyData.shown (rfl : PyData.list ([.tuple (l.map rwR), .tuple (l.map rwR)] ++ [.int w, .int w]) = PyData.list [.tuple (l.map rwR), .tuple (l.map rwR), .int w, .int w]))) ?_
    (show q_law_told_5 _ [_, _, _, _, _, _]; delta q_law_told_5; refine hid_of ?_)
    refine foD_m (d := rwR) (fun ev => ∃ o, fr o ∧ ev = [some (.val (rwR r)), some (.val (rwR s)), some (.val (.tuple (l.map rwR))), some (.val (.int w)), some (.val (.list [.tuple (l.map rwR), .tuple (l.map rwR)])), o]) rfl (fun x m ev E' i nx => ?_) ⟨none, fr_none, rfl⟩ (fun ev i => ?_)
    · obtain ⟨o, fo, rfl⟩ := i
      obtain ⟨X, i1, i2⟩ := hx x m
      refine gN_fr (s := o) rfl fo ?_
      (show q_law_told_6 _ [_, _, _, _, _, _]; delta q_law_told_6; refine hid_of ?_)
      refine ⟨rfl, limage_ok X (h1.up' (show 80 ≤ 414 by decide)) (by decide) (by decide) i1 ?_⟩
      refine ⟨Or.inr ⟨rfl, rfl⟩, trivial, ?_⟩
      refine ite_f (ne_R s) ?_
      refine ⟨rfl, limage_ok X (h2.up' (show 80 ≤ 414 by decide)) (by decide) (by decide) i2 ?_⟩
      refine ⟨Or.inr ⟨rfl, rfl⟩, trivial, ?_⟩
      refine ite_f (ne_R r) ?_
      (show q_law_told_8 _ [_, _, _, _, _, _]; delta q_law_told_8; refine hid_of ?_)
      refine ⟨rfl, mround_ok X (h1.up' (show 80 ≤ 414 by decide)) (by decide) i1 ⟨rfl, mround_ok X (h2.up' (show 80 ≤ 414 by decide)) (by decide) i2 ?_⟩⟩
      have a1 := h1.s1
      have a2 := h1.s2
      have a3 := h1.s3
      have a4 := h1.s4
      have b1 := h2.s1
      have b2 := h2.s2
      have b3 := h2.s3
      have b4 := h2.s4
      refine ⟨Nat.le_of_ble_eq_true rfl, ?_⟩
      refine (show RP (.list [rwR s, rwR r]) _ from ?_)
      walk_at "rp"
      refine ⟨Nat.le_of_ble_eq_true rfl, ?_⟩
      refine (show RP (.list [rwR s, rwR r]) _ from ?_)
      walk_at "rp"
      refine ⟨Or.inl rfl, trivial, ?_⟩
      walk_at "ne"
      exact nx _ ⟨_, fr_val, rfl⟩
    · obtain ⟨o, fo, rfl⟩ := i
      (show q_law_told_10 _ [_, _, _, _, _, _]; delta q_law_told_10; refine hid_of ?_)
      exact q
  refine ⟨Or.inr ⟨rfl, rfl⟩, trivial, ?_⟩
  rw [eqv_int]
  refine ite_b (fun z => ?_) (fun z => ?_)
  · have z0 : 1 - v = 2 := of_decide_eq_true z
    exact key 2 (if_pos (by omega))
  · have z0 : ¬(1 - v = 2) := of_decide_eq_false z
    exact key 1 (if_neg (by omega))
theorem told_ok {r s : R4} {R : PyData → Prop} (h1 : Rd 80 r) (h2 : Rd 80 s) (ne : r ≠ s) (q : R (.bool true)) : c_law_told [rwR r, rwR s] R := ⟨r, s, rfl, h1, h2, ne, q⟩
def w_law_right : Ws := (wSeq (wAsg (dFnT 0 2 c_law_of (daC (dTup (daC (dLit (.int 1)) (daC (dLit (.int 2)) (daC (dLit (.int 3)) (daC (dLit (.int 9)) (daC (dLit (.int 40)) (daC (dLit (.int 1000)) (daC (dLit (.int 1000000)) daN)))))))) daN)) (gN 1)) (wSeq (wAsg (dFnT 0 2 c_law_pair (daC (dCal fMin2 (daC (dVar 1) (daC (dLit (.int 1000)) daN))) daN)) (gL 2 (gsC (gN 2) (gsC (gN 3) gsN)))) (wSeq (wPar 4 5 (daC (dFnT 0 2 c_law_round (daC (dVar 1) daN)) (daC (dFnT 0 2 c_law_round (daC (dCal fMin2 (daC (dVar 1) (daC (dLit (.int 1000)) daN))) daN)) daN))) (wSeq (wAsg (dFn 2 c_law_image (daC (dVar 4) (daC (dVar 5) daN))) (gN 6)) (wSeq (wIf (dNotT (dTru (dFn 2 c_law_told (daC (dVar 2) (daC (dVar 3) daN))))) (wRet (dLit (.bool false))) wNx) (wRet (dOr (dOp fEq (dVar 6) (dVar 5)) (dAnd (dFn 2 c_law_told (daC (dVar 5) (daC (dVar 6) daN))) (dOp fIn (dVar 4) (dFn 2 c_exchanging (daC (dVar 5) (daC (dVar 6) daN))))))))))))
@[irreducible] noncomputable def q_law_right_6 : Ws := hid (wRet (dLit (.bool false)))
@[irreducible] noncomputable def q_law_right_7 : Ws := hid (wRet (dOr (dOp fEq (dVar 6) (dVar 5)) (dAnd (dFn 2 c_law_told (daC (dVar 5) (daC (dVar 6) daN))) (dOp fIn (dVar 4) (dFn 2 c_exchanging (daC (dVar 5) (daC (dVar 6) daN)))))))
@[irreducible] noncomputable def q_law_right_5 : Ws := hid (wSeq (wIf (dNotT (dTru (dFn 2 c_law_told (daC (dVar 2) (daC (dVar 3) daN))))) q_law_right_6 wNx) q_law_right_7)
@[irreducible] noncomputable def q_law_right_4 : Ws := hid (wSeq (wAsg (dFn 2 c_law_image (daC (dVar 4) (daC (dVar 5) daN))) (gN 6)) q_law_right_5)
@[irreducible] noncomputable def q_law_right_3 : Ws := hid (wSeq (wPar 4 5 (daC (dFnT 0 2 c_law_round (daC (dVar 1) daN)) (daC (dFnT 0 2 c_law_round (daC (dCal fMin2 (daC (dVar 1) (daC (dLit (.int 1000)) daN))) daN)) daN))) q_law_right_4)
@[irreducible] noncomputable def q_law_right_2 : Ws := hid (wSeq (wAsg (dFnT 0 2 c_law_pair (daC (dCal fMin2 (daC (dVar 1) (daC (dLit (.int 1000)) daN))) daN)) (gL 2 (gsC (gN 2) (gsC (gN 3) gsN)))) q_law_right_3)
@[irreducible] noncomputable def q_law_right_1 : Ws := hid (wSeq (wAsg (dFnT 0 2 c_law_of (daC (dTup (daC (dLit (.int 1)) (daC (dLit (.int 2)) (daC (dLit (.int 3)) (daC (dLit (.int 9)) (daC (dLit (.int 40)) (daC (dLit (.int 1000)) (daC (dLit (.int 1000000)) daN)))))))) daN)) (gN 1)) q_law_right_2)
theorem e_law_right : w_law_right = q_law_right_1 := by delta q_law_right_1 q_law_right_2 q_law_right_3 q_law_right_4 q_law_right_5 q_law_right_7 q_law_right_6; simp only [hid_eq]; with_unfolding_all rfl
theorem shp_rws (ps : List R4) : shp (.tuple (ps.map rwR)) := (shp_flat fun p m => by
  obtain ⟨x, _, rfl⟩ := List.mem_map.mp m
  exact ⟨rfl, by show (1 : Nat) ≤ 8; decide⟩).2
theorem shp_rw (x : R4) : shp (rwR x) := rfl
theorem sem_law_right : ∀ ts ds R, c_law_right ts ds R → ds.length = 0 → w_law_right (edT R) (some (.own ts) :: ev0 6 ds) := by
  intro ts ds R h _
  obtain ⟨b, tk, hb, rfl, q⟩ := h
  rw [e_law_right]; (show q_law_right_1 _ [_, _, _, _, _, _, _]; delta q_law_right_1; refine hid_of ?_)
  refine ⟨Nat.le_of_ble_eq_true rfl, rfl, b, _, tk, by omega, Or.inl rfl, by decide, by decide, fun x t1 hx k1 => ?_⟩
  have hw : ∃ w : Int, x = .int w ∧ 0 < w ∧ w ≤ 1000000 := by
    simp only [List.mem_cons, List.not_mem_nil, or_false] at hx
    rcases hx with rfl | rfl | rfl | rfl | rfl | rfl | rfl <;> exact ⟨_, rfl, by decide, by decide⟩
  obtain ⟨w, rfl, w0, w1⟩ := hw
  (show q_law_right_2 _ [_, _, _, _, _, _, _]; delta q_law_right_2; refine hid_of ?_)
  have m0 : 0 < (if (1000 : Int) < w then 1000 else w) := by by_cases z : (1000 : Int) < w; rw [if_pos z]; decide; rw [if_neg z]; exact w0
  have m1 : (if (1000 : Int) < w then 1000 else w) ≤ 1000000 := by by_cases z : (1000 : Int) < w; rw [if_pos z]; decide; rw [if_neg z]; exact w1
  refine ⟨rfl, lpair_ok k1 (by omega) m0 m1 fun r s t2 R1 R2 ne k2 => ⟨rfl, ?_⟩⟩
  (show q_law_right_3 _ [_, _, _, _, _, _, _]; delta q_law_right_3; refine hid_of ?_)
  refine ⟨rfl, lround_ok k2 (by omega) w0 w1 fun x t3 X k3 => ⟨rfl, lround_ok k3 (by omega) m0 m1 fun t t4 T k4 => ?_⟩⟩
  have di := mrR_pos X.pos T.pos
  have U := ((nf_ok (mrR_sz2 X.sr T.sr) di).1).up' (show 2 * 22 + 22 + 10 ≤ 80 by decide)
  have key := ex_has X T
  obtain ⟨u, eu⟩ : ∃ u, nf (mrR x t) = u := ⟨_, rfl⟩
  rw [eu] at U key
  (show q_law_right_4 _ [_, _, _, _, _, _, _]; delta q_law_right_4; refine hid_of ?_)
  refine ⟨rfl, limage_ok X T (by decide) (by decide) eu ?_⟩
  (show q_law_right_5 _ [_, _, _, _, _, _, _]; delta q_law_right_5; refine hid_of ?_)
  refine ⟨rfl, told_ok R1 R2 ne ⟨trivial, ?_⟩⟩
  refine ite_f rfl ?_
  (show q_law_right_7 _ [_, _, _, _, _, _, _]; delta q_law_right_7; refine hid_of ?_)
  refine ⟨Or.inr ⟨rfl, rfl⟩, ?_⟩
  rw [eqv_R]
  refine ite_b (fun z => q t4) (fun z => ?_)
  have n : u ≠ t := of_decide_eq_false z
  refine ⟨rfl, told_ok (T.up' (by decide)) U (fun h => n h.symm) ?_⟩
  refine ⟨rfl, t, u, 80, rfl, T.up' (by decide), U, by decide, fun h => n h.symm, ?_⟩
  refine ⟨⟨shp_rw x, shp_rws _⟩, ?_⟩
  have hi : inD (rwR x) ((exl t u).map rwR) = true := by
    unfold inD
    rw [List.any_eq_true]
    exact ⟨rwR x, List.mem_map.mpr ⟨x, key (fun h => n h), rfl⟩, by rw [eqv_R, decide_eq_true rfl]⟩
  rw [hi]
  exact q t4
def w_law : Ws := (wSeq (wFor (diR1 (daC (dFn 1 c_law_rounds (daC (dVar 0) daN)) daN)) (gN 1) (wIf (dNotT (dTru (dFnF 2 c_law_well c_law_right (daC (dVar 0) (daC (dVar 1) daN))))) (wRet (dLit (.bool false))) wNx)) (wRet (dLit (.bool true))))
theorem sem_law : ∀ ds R, c_law ds R → ds.length = 1 → w_law (edP R) (ev0 1 ds) := by
  intro ds R h _
  obtain ⟨ns, rfl, hl, q⟩ := h
  refine ⟨rfl, ns, rfl, hl, fun k k0 k1 => ?_⟩
  refine ⟨⟨by omega, by omega⟩, ?_⟩
  refine foD_inv (fun ev => ∃ s, ev = [some (.val (.list (ns.map .int))), s] ∧ ∀ t, s ≠ some (.own t)) (fun d hd ev E' i nx ct rt rl bk => ?_) ⟨none, rfl, fun _ => by simp⟩ (fun ev i => ?_)
  · obtain ⟨s, rfl, hs⟩ := i
    obtain ⟨j, hj⟩ := List.mem_iff_getElem?.mp hd
    obtain ⟨j1, rfl⟩ := rng_get hj
    have e : gN 1 (.int (0 + (j : Int))) [some (.val (.list (ns.map .int))), s] = fun Q => Q [some (.val (.list (ns.map .int))), some (.val (.int (0 + (j : Int))))] := by
      cases s with
      | none => rfl
      | some s => cases s with
        | val _ => rfl
        | own t => exact absurd rfl (hs t)
    rw [e]
    refine ⟨rfl, ns, _, rfl, hl, by omega, by omega, fun r s r0 s0 s1 => ⟨rfl, 0, ⟨r, s, 0, rfl, r0, ⟨s0, by omega⟩, by decide, by decide⟩, by decide, rfl, fun _ => ⟨trivial, ?_⟩⟩⟩
    exact nx _ ⟨_, rfl, fun _ => by simp⟩
  · obtain ⟨s, rfl, hs⟩ := i
    exact q
theorem law_all : ∀ ns : List Int, ns.length ≤ 63 → c_law [.list (ns.map .int)] (fun d => d = .bool true) := fun ns h => ⟨ns, rfl, h, rfl⟩
end Lk58
set_option Elab.async false
set_option linter.all false
set_option maxRecDepth 100000
set_option maxHeartbeats 4000000
namespace Lk58
open PySem L2 Z
def topS (i : Nat) : Stmt := PySem.Challenge.pw_drawarms_k58_whole_rounds_that_exchange.main.body.getD i (.Pass ⟨0, 0, 0, 0⟩)
abbrev s_is_whole : Stmt := topS 6
theorem sc_is_whole : FnScope ["value"] ["value"] (defScope s_is_whole) := ⟨rfl, rfl, rfl, by decide +kernel, rfl, by decide +kernel, by decide +kernel⟩
abbrev s_are_wholes : Stmt := topS 7
theorem sc_are_wholes : FnScope ["value", "many", "part"] ["value", "many"] (defScope s_are_wholes) := ⟨rfl, rfl, rfl, by decide +kernel, rfl, by decide +kernel, by decide +kernel⟩
abbrev s_common_of : Stmt := topS 8
theorem sc_common_of : FnScope ["numbers", "common", "number"] ["numbers"] (defScope s_common_of) := ⟨rfl, rfl, rfl, by decide +kernel, rfl, by decide +kernel, by decide +kernel⟩
abbrev s_reduced : Stmt := topS 9
theorem sc_reduced : FnScope ["numbers", "common", "number"] ["numbers"] (defScope s_reduced) := ⟨rfl, rfl, rfl, by decide +kernel, rfl, by decide +kernel, by decide +kernel⟩
abbrev s_sign_of : Stmt := topS 10
theorem sc_sign_of : FnScope ["number"] ["number"] (defScope s_sign_of) := ⟨rfl, rfl, rfl, by decide +kernel, rfl, by decide +kernel, by decide +kernel⟩
abbrev s_whole_root : Stmt := topS 11
theorem sc_whole_root : FnScope ["number", "root"] ["number"] (defScope s_whole_root) := ⟨rfl, rfl, rfl, by decide +kernel, rfl, by decide +kernel, by decide +kernel⟩
abbrev s_paired : Stmt := topS 14
theorem sc_paired : FnScope ["row", "other", "q", "l", "m", "k", "q2", "l2", "m2", "k2"] ["row", "other"] (defScope s_paired) := ⟨rfl, rfl, rfl, by decide +kernel, rfl, by decide +kernel, by decide +kernel⟩
abbrev s_is_row : Stmt := topS 15
theorem sc_is_row : FnScope ["value"] ["value"] (defScope s_is_row) := ⟨rfl, rfl, rfl, by decide +kernel, rfl, by decide +kernel, by decide +kernel⟩
abbrev s_is_round : Stmt := topS 16
theorem sc_is_round : FnScope ["value"] ["value"] (defScope s_is_round) := ⟨rfl, rfl, rfl, by decide +kernel, rfl, by decide +kernel, by decide +kernel⟩
abbrev s_require_round : Stmt := topS 17
theorem sc_require_round : FnScope ["circle"] ["circle"] (defScope s_require_round) := ⟨rfl, rfl, rfl, by decide +kernel, rfl, by decide +kernel, by decide +kernel⟩
abbrev s_require_both_rounds : Stmt := topS 18
theorem sc_require_both_rounds : FnScope ["circle", "other"] ["circle", "other"] (defScope s_require_both_rounds) := ⟨rfl, rfl, rfl, by decide +kernel, rfl, by decide +kernel, by decide +kernel⟩
abbrev s_require_unlike_rounds : Stmt := topS 19
theorem sc_require_unlike_rounds : FnScope ["circle", "other"] ["circle", "other"] (defScope s_require_unlike_rounds) := ⟨rfl, rfl, rfl, by decide +kernel, rfl, by decide +kernel, by decide +kernel⟩
abbrev s_opposite : Stmt := topS 20
theorem sc_opposite : FnScope ["row", "number"] ["row"] (defScope s_opposite) := ⟨rfl, rfl, rfl, by decide +kernel, rfl, by decide +kernel, by decide +kernel⟩
abbrev s_round_from : Stmt := topS 21
theorem sc_round_from : FnScope ["numbers", "row"] ["numbers"] (defScope s_round_from) := ⟨rfl, rfl, rfl, by decide +kernel, rfl, by decide +kernel, by decide +kernel⟩
abbrev s_mixed : Stmt := topS 22
theorem sc_mixed : FnScope ["row", "many", "other", "other_many", "number", "beside"] ["row", "many", "other", "other_many"] (defScope s_mixed) := ⟨rfl, rfl, rfl, by decide +kernel, rfl, by decide +kernel, by decide +kernel⟩
abbrev s_crossing_parts : Stmt := topS 23
theorem sc_crossing_parts : FnScope ["circle", "other", "beside"] ["circle", "other"] (defScope s_crossing_parts) := ⟨rfl, rfl, rfl, by decide +kernel, rfl, by decide +kernel, by decide +kernel⟩
abbrev s_shared : Stmt := topS 24
theorem sc_shared : FnScope ["circle", "other", "upper", "lower"] ["circle", "other"] (defScope s_shared) := ⟨rfl, rfl, rfl, by decide +kernel, rfl, by decide +kernel, by decide +kernel⟩
abbrev s_mirrored_round : Stmt := topS 25
theorem sc_mirrored_round : FnScope ["circle", "other"] ["circle", "other"] (defScope s_mirrored_round) := ⟨rfl, rfl, rfl, by decide +kernel, rfl, by decide +kernel, by decide +kernel⟩
abbrev s_is_real : Stmt := topS 28
theorem sc_is_real : FnScope ["row"] ["row"] (defScope s_is_real) := ⟨rfl, rfl, rfl, by decide +kernel, rfl, by decide +kernel, by decide +kernel⟩
abbrev s_pencil_kind : Stmt := topS 29
theorem sc_pencil_kind : FnScope ["circle", "other"] ["circle", "other"] (defScope s_pencil_kind) := ⟨rfl, rfl, rfl, by decide +kernel, rfl, by decide +kernel, by decide +kernel⟩
abbrev s_count_exchanging : Stmt := topS 30
theorem sc_count_exchanging : FnScope ["circle", "other"] ["circle", "other"] (defScope s_count_exchanging) := ⟨rfl, rfl, rfl, by decide +kernel, rfl, by decide +kernel, by decide +kernel⟩
abbrev s_exchanging : Stmt := topS 31
theorem sc_exchanging : FnScope ["circle", "other", "size", "root", "rows", "row"] ["circle", "other"] (defScope s_exchanging) := ⟨rfl, rfl, rfl, by decide +kernel, rfl, by decide +kernel, by decide +kernel⟩
abbrev s_law_well : Stmt := topS 33
theorem sc_law_well : FnScope ["_law_script", "_law_spot", "_law_mixed_here", "_law_cell", "_law_own", "_law_rest"] ["_law_script", "_law_spot"] (defScope s_law_well) := ⟨rfl, rfl, rfl, by decide +kernel, rfl, by decide +kernel, by decide +kernel⟩
abbrev s_law_dip : Stmt := topS 34
theorem sc_law_dip : FnScope ["_law_well_here", "_law_many", "_law_digit", "_law_step"] ["_law_well_here", "_law_many"] (defScope s_law_dip) := ⟨rfl, rfl, rfl, by decide +kernel, rfl, by decide +kernel, by decide +kernel⟩
abbrev s_law_of : Stmt := topS 35
theorem sc_law_of : FnScope ["_law_well_here", "_law_some"] ["_law_well_here", "_law_some"] (defScope s_law_of) := ⟨rfl, rfl, rfl, by decide +kernel, rfl, by decide +kernel, by decide +kernel⟩
abbrev s_law_whole : Stmt := topS 36
theorem sc_law_whole : FnScope ["_law_well_here", "_law_wide", "_law_high"] ["_law_well_here", "_law_wide"] (defScope s_law_whole) := ⟨rfl, rfl, rfl, by decide +kernel, rfl, by decide +kernel, by decide +kernel⟩
abbrev s_law_rounds : Stmt := topS 37
theorem sc_law_rounds : FnScope ["_law_script"] ["_law_script"] (defScope s_law_rounds) := ⟨rfl, rfl, rfl, by decide +kernel, rfl, by decide +kernel, by decide +kernel⟩
abbrev s_law_gcd : Stmt := topS 38
theorem sc_law_gcd : FnScope ["_law_one", "_law_two", "_law_left", "_law_right_here"] ["_law_one", "_law_two"] (defScope s_law_gcd) := ⟨rfl, rfl, rfl, by decide +kernel, rfl, by decide +kernel, by decide +kernel⟩
abbrev s_law_cut : Stmt := topS 39
theorem sc_law_cut : FnScope ["_law_numbers", "_law_part", "_law_number"] ["_law_numbers"] (defScope s_law_cut) := ⟨rfl, rfl, rfl, by decide +kernel, rfl, by decide +kernel, by decide +kernel⟩
abbrev s_law_form : Stmt := topS 40
theorem sc_law_form : FnScope ["_law_row", "_law_first", "_law_number"] ["_law_row"] (defScope s_law_form) := ⟨rfl, rfl, rfl, by decide +kernel, rfl, by decide +kernel, by decide +kernel⟩
abbrev s_law_root : Stmt := topS 41
theorem sc_law_root : FnScope ["_law_number", "_law_low", "_law_high", "_law_turn", "_law_middle"] ["_law_number"] (defScope s_law_root) := ⟨rfl, rfl, rfl, by decide +kernel, rfl, by decide +kernel, by decide +kernel⟩
abbrev s_law_times : Stmt := topS 42
theorem sc_law_times : FnScope ["_law_x", "_law_y"] ["_law_x", "_law_y"] (defScope s_law_times) := ⟨rfl, rfl, rfl, by decide +kernel, rfl, by decide +kernel, by decide +kernel⟩
abbrev s_law_plus : Stmt := topS 43
theorem sc_law_plus : FnScope ["_law_x", "_law_y"] ["_law_x", "_law_y"] (defScope s_law_plus) := ⟨rfl, rfl, rfl, by decide +kernel, rfl, by decide +kernel, by decide +kernel⟩
abbrev s_law_minus : Stmt := topS 44
theorem sc_law_minus : FnScope ["_law_x"] ["_law_x"] (defScope s_law_minus) := ⟨rfl, rfl, rfl, by decide +kernel, rfl, by decide +kernel, by decide +kernel⟩
abbrev s_law_conj : Stmt := topS 45
theorem sc_law_conj : FnScope ["_law_x"] ["_law_x"] (defScope s_law_conj) := ⟨rfl, rfl, rfl, by decide +kernel, rfl, by decide +kernel, by decide +kernel⟩
abbrev s_law_norm : Stmt := topS 46
theorem sc_law_norm : FnScope ["_law_x"] ["_law_x"] (defScope s_law_norm) := ⟨rfl, rfl, rfl, by decide +kernel, rfl, by decide +kernel, by decide +kernel⟩
abbrev s_law_scaled : Stmt := topS 47
theorem sc_law_scaled : FnScope ["_law_many", "_law_x"] ["_law_many", "_law_x"] (defScope s_law_scaled) := ⟨rfl, rfl, rfl, by decide +kernel, rfl, by decide +kernel, by decide +kernel⟩
abbrev s_law_over : Stmt := topS 48
theorem sc_law_over : FnScope ["_law_x", "_law_y", "_law_size", "_law_top"] ["_law_x", "_law_y"] (defScope s_law_over) := ⟨rfl, rfl, rfl, by decide +kernel, rfl, by decide +kernel, by decide +kernel⟩
abbrev s_law_deep : Stmt := topS 49
theorem sc_law_deep : FnScope ["_law_x", "_law_y", "_law_size", "_law_top", "_law_many"] ["_law_x", "_law_y"] (defScope s_law_deep) := ⟨rfl, rfl, rfl, by decide +kernel, rfl, by decide +kernel, by decide +kernel⟩
abbrev s_law_quarter : Stmt := topS 50
theorem sc_law_quarter : FnScope ["_law_x", "_law_turn"] ["_law_x"] (defScope s_law_quarter) := ⟨rfl, rfl, rfl, by decide +kernel, rfl, by decide +kernel, by decide +kernel⟩
abbrev s_law_chart : Stmt := topS 51
theorem sc_law_chart : FnScope ["_law_hand", "_law_four_here", "_law_part", "_law_each", "_law_some", "_law_first", "_law_unit", "_law_a", "_law_b", "_law_c", "_law_d_here"] ["_law_hand", "_law_four_here"] (defScope s_law_chart) := ⟨rfl, rfl, rfl, by decide +kernel, rfl, by decide +kernel, by decide +kernel⟩
abbrev s_law_d : Stmt := topS 52
theorem sc_law_d : FnScope ["_law_row", "_law_q", "_law_l", "_law_m", "_law_k"] ["_law_row"] (defScope s_law_d) := ⟨rfl, rfl, rfl, by decide +kernel, rfl, by decide +kernel, by decide +kernel⟩
abbrev s_law_j : Stmt := topS 53
theorem sc_law_j : FnScope ["_law_one", "_law_two"] ["_law_one", "_law_two"] (defScope s_law_j) := ⟨rfl, rfl, rfl, by decide +kernel, rfl, by decide +kernel, by decide +kernel⟩
abbrev s_law_mixed : Stmt := topS 54
theorem sc_law_mixed : FnScope ["_law_x", "_law_one", "_law_y", "_law_two", "_law_at"] ["_law_x", "_law_one", "_law_y", "_law_two"] (defScope s_law_mixed) := ⟨rfl, rfl, rfl, by decide +kernel, rfl, by decide +kernel, by decide +kernel⟩
abbrev s_law_row_back : Stmt := topS 55
theorem sc_law_row_back : FnScope ["_law_chart_here", "_law_row", "_law_hand", "_law_a", "_law_b", "_law_c", "_law_d_here", "_law_q", "_law_l", "_law_m", "_law_k", "_law_beam", "_law_rest", "_law_first", "_law_last", "_law_x", "_law_y"] ["_law_chart_here", "_law_row"] (defScope s_law_row_back) := ⟨rfl, rfl, rfl, by decide +kernel, rfl, by decide +kernel, by decide +kernel⟩
abbrev s_law_round : Stmt := topS 56
theorem sc_law_round : FnScope ["_law_well_here", "_law_wide", "_law_q", "_law_l", "_law_m", "_law_k", "_law_turn"] ["_law_well_here", "_law_wide"] (defScope s_law_round) := ⟨rfl, rfl, rfl, by decide +kernel, rfl, by decide +kernel, by decide +kernel⟩
abbrev s_law_four : Stmt := topS 57
theorem sc_law_four : FnScope ["_law_well_here", "_law_wide", "_law_a", "_law_b", "_law_c", "_law_d_here", "_law_turn"] ["_law_well_here", "_law_wide"] (defScope s_law_four) := ⟨rfl, rfl, rfl, by decide +kernel, rfl, by decide +kernel, by decide +kernel⟩
abbrev s_law_map : Stmt := topS 58
theorem sc_law_map : FnScope ["_law_well_here", "_law_wide", "_law_hand"] ["_law_well_here", "_law_wide"] (defScope s_law_map) := ⟨rfl, rfl, rfl, by decide +kernel, rfl, by decide +kernel, by decide +kernel⟩
abbrev s_law_shared : Stmt := topS 59
theorem sc_law_shared : FnScope ["_law_one", "_law_two", "_law_level", "_law_bound"] ["_law_one", "_law_two"] (defScope s_law_shared) := ⟨rfl, rfl, rfl, by decide +kernel, rfl, by decide +kernel, by decide +kernel⟩
abbrev s_law_pair : Stmt := topS 60
theorem sc_law_pair : FnScope ["_law_well_here", "_law_wide", "_law_way", "_law_chart_here", "_law_one", "_law_two", "_law_l", "_law_m", "_law_k", "_law_some", "_law_row"] ["_law_well_here", "_law_wide"] (defScope s_law_pair) := ⟨rfl, rfl, rfl, by decide +kernel, rfl, by decide +kernel, by decide +kernel⟩
abbrev s_law_due : Stmt := topS 61
theorem sc_law_due : FnScope ["_law_one", "_law_two", "_law_first", "_law_second", "_law_root_here", "_law_rows", "_law_row"] ["_law_one", "_law_two"] (defScope s_law_due) := ⟨rfl, rfl, rfl, by decide +kernel, rfl, by decide +kernel, by decide +kernel⟩
abbrev s_law_image : Stmt := topS 62
theorem sc_law_image : FnScope ["_law_row", "_law_one"] ["_law_row", "_law_one"] (defScope s_law_image) := ⟨rfl, rfl, rfl, by decide +kernel, rfl, by decide +kernel, by decide +kernel⟩
abbrev s_law_told : Stmt := topS 63
theorem sc_law_told : FnScope ["_law_one", "_law_two", "_law_due_here", "_law_many", "_law_told_here", "_law_row"] ["_law_one", "_law_two"] (defScope s_law_told) := ⟨rfl, rfl, rfl, by decide +kernel, rfl, by decide +kernel, by decide +kernel⟩
abbrev s_law_right : Stmt := topS 64
theorem sc_law_right : FnScope ["_law_well_here", "_law_wide", "_law_one", "_law_two", "_law_row", "_law_third", "_law_image_here"] ["_law_well_here"] (defScope s_law_right) := ⟨rfl, rfl, rfl, by decide +kernel, rfl, by decide +kernel, by decide +kernel⟩
abbrev s_law : Stmt := topS 65
theorem sc_law : FnScope ["_law_script", "_law_spot"] ["_law_script"] (defScope s_law) := ⟨rfl, rfl, rfl, by decide +kernel, rfl, by decide +kernel, by decide +kernel⟩
section
variable {P : Program} {wd : World} {K : PySem.W.Frag} {mg : Str → Option Value} {base : Heap}
theorem ok_is_whole {f : Addr} {fd : FuncData} (F : Fun K "is_whole" "is_whole" s_is_whole f fd) (z_isinstance : mg "isinstance" = none) (z_int : mg "int" = none) (z_bool : mg "bool" = none) : FnG P wd K mg base CX0 1 f fd ["value"] (spP K 1 c_is_whole) := by
  refine okP (k := 0) (m := 0) (w := w_is_whole) F sc_is_whole rfl rfl (fun c cdv A outer s H E hG hr => ?_) sem_is_whole
  exact (dss_one (ds_ret (de_and (de_isa "int" (by decide +kernel) isA_int kits_int (by rfl) z_isinstance (by rfl) z_int (de_pv (pv 0))) (de_one (de_not (de_isa "bool" (by decide +kernel) isA_bool kits_bool (by rfl) z_isinstance (by rfl) z_bool (de_pv (pv 0))))))))
theorem ok_are_wholes {f : Addr} {fd : FuncData} (F : Fun K "are_wholes" "are_wholes" s_are_wholes f fd) (h_is_whole : Cl P wd K mg base 1 "is_whole" ["value"] (spP K 1 c_is_whole)) (z_isinstance : mg "isinstance" = none) (z_tuple : mg "tuple" = none) (z_len : mg "len" = none) (z_all : mg "all" = none) : FnG P wd K mg base CX0 2 f fd ["value", "many"] (spP K 2 c_are_wholes) := by
  refine okP (k := 1) (m := 1) (w := w_are_wholes) F sc_are_wholes rfl rfl (fun c cdv A outer s H E hG hr => ?_) sem_are_wholes
  exact (dss_cons (ds_if (dt_w (dw_or (dt_not (dt_val (de_isa "tuple" (by decide +kernel) isA_tuple kits_tuple (by rfl) z_isinstance (by rfl) z_tuple (de_pv (pv 0))))) (dw_or1 (dt_ne hr (de_len (by rfl) z_len (da_cons (de_pv (pv 0)) da_nil)) (de_pv (pv 1)))))) (dss_one (ds_ret de_bl)) dss_nil) (dss_one (ds_ret (de_all rfl (by rfl) z_all (da_cons (de_lc (own := [("part", 2)]) rfl sc_are_wholes.nd (di_tup (de_pv (pv 0))) (blkOk_by (N := ["value", "many", "part"]) (sc := defScope s_are_wholes) (by decide +kernel)) (fun _ _ _ _ _ => (dg_name (pg_name (i := 2) sc_are_wholes.nd rfl (by first | exact Or.inl rfl | exact Or.inr rfl)) (by decide))) (fun _ _ _ _ _ => dts_nil) (fun _ _ _ _ _ => (de_fn h_is_whole (by decide) hr hG (by rfl) (da_cons (de_pv (pv 2)) da_nil)))) da_nil)))))
theorem ok_common_of {f : Addr} {fd : FuncData} (F : Fun K "common_of" "common_of" s_common_of f fd) (m_gcd : mg "gcd" = some (.builtin "math.gcd")) : FnG P wd K mg base CX0 1 f fd ["numbers"] (spP K 1 c_common_of) := by
  refine okP (k := 0) (m := 2) (w := w_common_of) F sc_common_of rfl rfl (fun c cdv A outer s H E hG hr => ?_) sem_common_of
  exact (dss_cons (ds_set (i := 1) sc_common_of.nd rfl (by first | exact Or.inl rfl | exact Or.inr rfl) de_int) (dss_cons (ds_for (vs := [2]) PassesOwn.never rfl (di_tup (de_pv (pv 0))) (dg_name (pg_name (i := 2) sc_common_of.nd rfl (by first | exact Or.inl rfl | exact Or.inr rfl)) (by decide)) (dss_one (ds_set (i := 1) sc_common_of.nd rfl (by first | exact Or.inl rfl | exact Or.inr rfl) (de_gcd (by rfl) m_gcd (da_cons (de_pv (pv 1)) (da_cons (de_pv (pv 2)) da_nil)))))) (dss_one (ds_ret (de_pv (pv 1))))))
theorem ok_reduced {f : Addr} {fd : FuncData} (F : Fun K "reduced" "reduced" s_reduced f fd) (h_common_of : Cl P wd K mg base 1 "common_of" ["numbers"] (spP K 1 c_common_of)) (z_tuple : mg "tuple" = none) : FnG P wd K mg base CX0 2 f fd ["numbers"] (spP K 1 c_reduced) := by
  refine okP (k := 1) (m := 2) (w := w_reduced) F sc_reduced rfl rfl (fun c cdv A outer s H E hG hr => ?_) sem_reduced
  exact (dss_cons (ds_set (i := 1) sc_reduced.nd rfl (by first | exact Or.inl rfl | exact Or.inr rfl) (de_fn h_common_of (by decide) hr hG (by rfl) (da_cons (de_pv (pv 0)) da_nil))) (dss_one (ds_ret (de_tuple (by rfl) z_tuple (da_cons (de_lc (own := [("number", 2)]) rfl sc_reduced.nd (di_tup (de_pv (pv 0))) (blkOk_by (N := ["numbers", "common", "number"]) (sc := defScope s_reduced) (by decide +kernel)) (fun _ _ _ _ _ => (dg_name (pg_name (i := 2) sc_reduced.nd rfl (by first | exact Or.inl rfl | exact Or.inr rfl)) (by decide))) (fun _ _ _ _ _ => dts_nil) (fun _ _ _ _ _ => (de_div (de_pv (pv 2)) (de_pv (pv 1))))) da_nil)))))
theorem ok_sign_of {f : Addr} {fd : FuncData} (F : Fun K "sign_of" "sign_of" s_sign_of f fd)  : FnG P wd K mg base CX0 1 f fd ["number"] (spP K 1 c_sign_of) := by
  refine okP (k := 0) (m := 0) (w := w_sign_of) F sc_sign_of rfl rfl (fun c cdv A outer s H E hG hr => ?_) sem_sign_of
  exact (dss_cons (ds_if (dt_gt (de_pv (pv 0)) de_int) (dss_one (ds_ret de_int)) dss_nil) (dss_one (ds_ret (de_if (dt_lt (de_pv (pv 0)) de_int) (de_neg de_int) de_int))))
theorem ok_whole_root {f : Addr} {fd : FuncData} (F : Fun K "whole_root" "whole_root" s_whole_root f fd) (m_isqrt : mg "isqrt" = some (.builtin "math.isqrt")) : FnG P wd K mg base CX0 1 f fd ["number"] (spP K 1 c_whole_root) := by
  refine okP (k := 0) (m := 1) (w := w_whole_root) F sc_whole_root rfl rfl (fun c cdv A outer s H E hG hr => ?_) sem_whole_root
  exact (dss_cons (ds_set (i := 1) sc_whole_root.nd rfl (by first | exact Or.inl rfl | exact Or.inr rfl) (de_isqrt (by rfl) m_isqrt (da_cons (de_pv (pv 0)) da_nil))) (dss_one (ds_ret (de_if (dt_eq hr (de_mul (de_pv (pv 1)) (de_pv (pv 1))) (de_pv (pv 0))) (de_pv (pv 1)) de_non))))
theorem ok_paired {f : Addr} {fd : FuncData} (F : Fun K "paired" "paired" s_paired f fd)  : FnG P wd K mg base CX0 1 f fd ["row", "other"] (spP K 2 c_paired) := by
  refine okP (k := 0) (m := 8) (w := w_paired) F sc_paired rfl rfl (fun c cdv A outer s H E hG hr => ?_) sem_paired
  exact (dss_cons (ds_asg (vs := [2, 3, 4, 5]) (de_pv (pv 0)) (dg_tup rfl (dgs_cons (dg_name (pg_name (i := 2) sc_paired.nd rfl (by first | exact Or.inl rfl | exact Or.inr rfl)) (by decide)) (dgs_cons (dg_name (pg_name (i := 3) sc_paired.nd rfl (by first | exact Or.inl rfl | exact Or.inr rfl)) (by decide)) (dgs_cons (dg_name (pg_name (i := 4) sc_paired.nd rfl (by first | exact Or.inl rfl | exact Or.inr rfl)) (by decide)) (dgs_cons (dg_name (pg_name (i := 5) sc_paired.nd rfl (by first | exact Or.inl rfl | exact Or.inr rfl)) (by decide)) dgs_nil)))))) (dss_cons (ds_asg (vs := [6, 7, 8, 9]) (de_pv (pv 1)) (dg_tup rfl (dgs_cons (dg_name (pg_name (i := 6) sc_paired.nd rfl (by first | exact Or.inl rfl | exact Or.inr rfl)) (by decide)) (dgs_cons (dg_name (pg_name (i := 7) sc_paired.nd rfl (by first | exact Or.inl rfl | exact Or.inr rfl)) (by decide)) (dgs_cons (dg_name (pg_name (i := 8) sc_paired.nd rfl (by first | exact Or.inl rfl | exact Or.inr rfl)) (by decide)) (dgs_cons (dg_name (pg_name (i := 9) sc_paired.nd rfl (by first | exact Or.inl rfl | exact Or.inr rfl)) (by decide)) dgs_nil)))))) (dss_one (ds_ret (de_sub (de_cat (de_mul (de_pv (pv 3)) (de_pv (pv 7))) (de_mul (de_pv (pv 4)) (de_pv (pv 8)))) (de_mul de_int (de_cat (de_mul (de_pv (pv 2)) (de_pv (pv 9))) (de_mul (de_pv (pv 6)) (de_pv (pv 5))))))))))
theorem ok_is_row {f : Addr} {fd : FuncData} (F : Fun K "is_row" "is_row" s_is_row f fd) (h_are_wholes : Cl P wd K mg base 2 "are_wholes" ["value", "many"] (spP K 2 c_are_wholes)) (h_common_of : Cl P wd K mg base 1 "common_of" ["numbers"] (spP K 1 c_common_of)) (h_paired : Cl P wd K mg base 1 "paired" ["row", "other"] (spP K 2 c_paired)) : FnG P wd K mg base CX0 3 f fd ["value"] (spP K 1 c_is_row) := by
  refine okP (k := 2) (m := 0) (w := w_is_row) F sc_is_row rfl rfl (fun c cdv A outer s H E hG hr => ?_) sem_is_row
  exact (dss_one (ds_ret (de_and (de_fn h_are_wholes (by decide) hr hG (by rfl) (da_cons (de_pv (pv 0)) (da_cons de_int da_nil))) (de_and (de_eq hr (de_fn h_common_of (by decide) hr hG (by rfl) (da_cons (de_pv (pv 0)) da_nil)) de_int) (de_one (de_gt (de_fn h_paired (by decide) hr hG (by rfl) (da_cons (de_pv (pv 0)) (da_cons (de_pv (pv 0)) da_nil))) de_int))))))
theorem ok_is_round {f : Addr} {fd : FuncData} (F : Fun K "is_round" "is_round" s_is_round f fd) (h_is_row : Cl P wd K mg base 3 "is_row" ["value"] (spP K 1 c_is_row)) (g_NULL : Gc K mg "NULL" (.tuple [(.int 0), (.int 0), (.int 0), (.int 0)])) : FnG P wd K mg base CX0 4 f fd ["value"] (spP K 1 c_is_round) := by
  refine okP (k := 3) (m := 0) (w := w_is_round) F sc_is_round rfl rfl (fun c cdv A outer s H E hG hr => ?_) sem_is_round
  exact (dss_one (ds_ret (de_and (de_fn h_is_row (by decide) hr hG (by rfl) (da_cons (de_pv (pv 0)) da_nil)) (de_one (de_gtq hr (de_pv (pv 0)) (de_gc g_NULL (by rfl)))))))
theorem ok_require_round {f : Addr} {fd : FuncData} (F : Fun K "require_round" "require_round" s_require_round f fd) (h_is_round : Cl P wd K mg base 4 "is_round" ["value"] (spP K 1 c_is_round)) : FnG P wd K mg base CX0 5 f fd ["circle"] (spP K 1 c_require_round) := by
  refine okP (k := 4) (m := 0) (w := w_require_round) F sc_require_round rfl rfl (fun c cdv A outer s H E hG hr => ?_) sem_require_round
  exact (dss_one (ds_if (dt_not (dt_val (de_fn h_is_round (by decide) hr hG (by rfl) (da_cons (de_pv (pv 0)) da_nil)))) dss_never dss_nil))
theorem ok_require_both_rounds {f : Addr} {fd : FuncData} (F : Fun K "require_both_rounds" "require_both_rounds" s_require_both_rounds f fd) (h_require_round : Cl P wd K mg base 5 "require_round" ["circle"] (spP K 1 c_require_round)) : FnG P wd K mg base CX0 6 f fd ["circle", "other"] (spP K 2 c_require_both_rounds) := by
  refine okP (k := 5) (m := 0) (w := w_require_both_rounds) F sc_require_both_rounds rfl rfl (fun c cdv A outer s H E hG hr => ?_) sem_require_both_rounds
  exact (dss_cons (ds_expr (de_fn h_require_round (by decide) hr hG (by rfl) (da_cons (de_pv (pv 0)) da_nil))) (dss_one (ds_expr (de_fn h_require_round (by decide) hr hG (by rfl) (da_cons (de_pv (pv 1)) da_nil)))))
theorem ok_require_unlike_rounds {f : Addr} {fd : FuncData} (F : Fun K "require_unlike_rounds" "require_unlike_rounds" s_require_unlike_rounds f fd)  : FnG P wd K mg base CX0 1 f fd ["circle", "other"] (spP K 2 c_require_unlike_rounds) := by
  refine okP (k := 0) (m := 0) (w := w_require_unlike_rounds) F sc_require_unlike_rounds rfl rfl (fun c cdv A outer s H E hG hr => ?_) sem_require_unlike_rounds
  exact (dss_one (ds_if (dt_eq hr (de_pv (pv 0)) (de_pv (pv 1))) dss_never dss_nil))
theorem ok_opposite {f : Addr} {fd : FuncData} (F : Fun K "opposite" "opposite" s_opposite f fd) (z_tuple : mg "tuple" = none) : FnG P wd K mg base CX0 1 f fd ["row"] (spP K 1 c_opposite) := by
  refine okP (k := 0) (m := 1) (w := w_opposite) F sc_opposite rfl rfl (fun c cdv A outer s H E hG hr => ?_) sem_opposite
  exact (dss_one (ds_ret (de_tuple (by rfl) z_tuple (da_cons (de_lc (own := [("number", 1)]) rfl sc_opposite.nd (di_tup (de_pv (pv 0))) (blkOk_by (N := ["row", "number"]) (sc := defScope s_opposite) (by decide +kernel)) (fun _ _ _ _ _ => (dg_name (pg_name (i := 1) sc_opposite.nd rfl (by first | exact Or.inl rfl | exact Or.inr rfl)) (by decide))) (fun _ _ _ _ _ => dts_nil) (fun _ _ _ _ _ => (de_neg (de_pv (pv 1))))) da_nil))))
theorem ok_round_from {f : Addr} {fd : FuncData} (F : Fun K "round_from" "round_from" s_round_from f fd) (h_reduced : Cl P wd K mg base 2 "reduced" ["numbers"] (spP K 1 c_reduced)) (h_opposite : Cl P wd K mg base 1 "opposite" ["row"] (spP K 1 c_opposite)) (g_NULL : Gc K mg "NULL" (.tuple [(.int 0), (.int 0), (.int 0), (.int 0)])) : FnG P wd K mg base CX0 3 f fd ["numbers"] (spP K 1 c_round_from) := by
  refine okP (k := 2) (m := 1) (w := w_round_from) F sc_round_from rfl rfl (fun c cdv A outer s H E hG hr => ?_) sem_round_from
  exact (dss_cons (ds_set (i := 1) sc_round_from.nd rfl (by first | exact Or.inl rfl | exact Or.inr rfl) (de_fn h_reduced (by decide) hr hG (by rfl) (da_cons (de_pv (pv 0)) da_nil))) (dss_one (ds_ret (de_if (dt_gtq hr (de_pv (pv 1)) (de_gc g_NULL (by rfl))) (de_pv (pv 1)) (de_fn h_opposite (by decide) hr hG (by rfl) (da_cons (de_pv (pv 1)) da_nil))))))
theorem ok_mixed {f : Addr} {fd : FuncData} (F : Fun K "mixed" "mixed" s_mixed f fd) (z_tuple : mg "tuple" = none) (z_zip : mg "zip" = none) : FnG P wd K mg base CX0 1 f fd ["row", "many", "other", "other_many"] (spP K 4 c_mixed) := by
  refine okP (k := 0) (m := 2) (w := w_mixed) F sc_mixed rfl rfl (fun c cdv A outer s H E hG hr => ?_) sem_mixed
  exact (dss_one (ds_ret (de_tuple (by rfl) z_tuple (da_cons (de_lc (own := [("number", 4), ("beside", 5)]) rfl sc_mixed.nd (di_zip (by rfl) z_zip (da_cons (de_pv (pv 0)) (da_cons (de_pv (pv 2)) da_nil))) (blkOk_by (N := ["row", "many", "other", "other_many", "number", "beside"]) (sc := defScope s_mixed) (by decide +kernel)) (fun _ _ _ _ _ => (dg_tup rfl (dgs_cons (dg_name (pg_name (i := 4) sc_mixed.nd rfl (by first | exact Or.inl rfl | exact Or.inr rfl)) (by decide)) (dgs_cons (dg_name (pg_name (i := 5) sc_mixed.nd rfl (by first | exact Or.inl rfl | exact Or.inr rfl)) (by decide)) dgs_nil)))) (fun _ _ _ _ _ => dts_nil) (fun _ _ _ _ _ => (de_cat (de_mul (de_pv (pv 1)) (de_pv (pv 4))) (de_mul (de_pv (pv 3)) (de_pv (pv 5)))))) da_nil))))
theorem ok_crossing_parts {f : Addr} {fd : FuncData} (F : Fun K "_crossing_parts" "_crossing_parts" s_crossing_parts f fd) (h_paired : Cl P wd K mg base 1 "paired" ["row", "other"] (spP K 2 c_paired)) : FnG P wd K mg base CX0 2 f fd ["circle", "other"] (spP K 2 c_crossing_parts) := by
  refine okP (k := 1) (m := 1) (w := w_crossing_parts) F sc_crossing_parts rfl rfl (fun c cdv A outer s H E hG hr => ?_) sem_crossing_parts
  exact (dss_cons (ds_set (i := 2) sc_crossing_parts.nd rfl (by first | exact Or.inl rfl | exact Or.inr rfl) (de_fn h_paired (by decide) hr hG (by rfl) (da_cons (de_pv (pv 0)) (da_cons (de_pv (pv 1)) da_nil)))) (dss_one (ds_ret (de_tup (da_cons (de_mul (de_pv (pv 2)) (de_pv (pv 2))) (da_cons (de_mul (de_fn h_paired (by decide) hr hG (by rfl) (da_cons (de_pv (pv 0)) (da_cons (de_pv (pv 0)) da_nil))) (de_fn h_paired (by decide) hr hG (by rfl) (da_cons (de_pv (pv 1)) (da_cons (de_pv (pv 1)) da_nil)))) da_nil))))))
theorem ok_shared {f : Addr} {fd : FuncData} (F : Fun K "shared" "shared" s_shared f fd) (h_require_both_rounds : Cl P wd K mg base 6 "require_both_rounds" ["circle", "other"] (spP K 2 c_require_both_rounds)) (h_crossing_parts : Cl P wd K mg base 2 "_crossing_parts" ["circle", "other"] (spP K 2 c_crossing_parts)) (h_sign_of : Cl P wd K mg base 1 "sign_of" ["number"] (spP K 1 c_sign_of)) : FnG P wd K mg base CX0 7 f fd ["circle", "other"] (spP K 2 c_shared) := by
  refine okP (k := 6) (m := 2) (w := w_shared) F sc_shared rfl rfl (fun c cdv A outer s H E hG hr => ?_) sem_shared
  exact (dss_cons (ds_expr (de_fn h_require_both_rounds (by decide) hr hG (by rfl) (da_cons (de_pv (pv 0)) (da_cons (de_pv (pv 1)) da_nil)))) (dss_cons (ds_if (dt_eq hr (de_pv (pv 0)) (de_pv (pv 1))) (dss_one (ds_ret de_non)) dss_nil) (dss_cons (ds_asg (vs := [2, 3]) (de_fn h_crossing_parts (by decide) hr hG (by rfl) (da_cons (de_pv (pv 0)) (da_cons (de_pv (pv 1)) da_nil))) (dg_tup rfl (dgs_cons (dg_name (pg_name (i := 2) sc_shared.nd rfl (by first | exact Or.inl rfl | exact Or.inr rfl)) (by decide)) (dgs_cons (dg_name (pg_name (i := 3) sc_shared.nd rfl (by first | exact Or.inl rfl | exact Or.inr rfl)) (by decide)) dgs_nil)))) (dss_one (ds_ret (de_sub de_int (de_fn h_sign_of (by decide) hr hG (by rfl) (da_cons (de_sub (de_pv (pv 2)) (de_pv (pv 3))) da_nil))))))))
theorem ok_mirrored_round {f : Addr} {fd : FuncData} (F : Fun K "mirrored_round" "mirrored_round" s_mirrored_round f fd) (h_require_both_rounds : Cl P wd K mg base 6 "require_both_rounds" ["circle", "other"] (spP K 2 c_require_both_rounds)) (h_round_from : Cl P wd K mg base 3 "round_from" ["numbers"] (spP K 1 c_round_from)) (h_mixed : Cl P wd K mg base 1 "mixed" ["row", "many", "other", "other_many"] (spP K 4 c_mixed)) (h_paired : Cl P wd K mg base 1 "paired" ["row", "other"] (spP K 2 c_paired)) : FnG P wd K mg base CX0 7 f fd ["circle", "other"] (spP K 2 c_mirrored_round) := by
  refine okP (k := 6) (m := 0) (w := w_mirrored_round) F sc_mirrored_round rfl rfl (fun c cdv A outer s H E hG hr => ?_) sem_mirrored_round
  exact (dss_cons (ds_expr (de_fn h_require_both_rounds (by decide) hr hG (by rfl) (da_cons (de_pv (pv 0)) (da_cons (de_pv (pv 1)) da_nil)))) (dss_one (ds_ret (de_fn h_round_from (by decide) hr hG (by rfl) (da_cons (de_fn h_mixed (by decide) hr hG (by rfl) (da_cons (de_pv (pv 1)) (da_cons (de_fn h_paired (by decide) hr hG (by rfl) (da_cons (de_pv (pv 0)) (da_cons (de_pv (pv 0)) da_nil))) (da_cons (de_pv (pv 0)) (da_cons (de_mul (de_neg de_int) (de_fn h_paired (by decide) hr hG (by rfl) (da_cons (de_pv (pv 0)) (da_cons (de_pv (pv 1)) da_nil)))) da_nil))))) da_nil)))))
theorem ok_is_real {f : Addr} {fd : FuncData} (F : Fun K "_is_real" "_is_real" s_is_real f fd) (h_paired : Cl P wd K mg base 1 "paired" ["row", "other"] (spP K 2 c_paired)) : FnG P wd K mg base CX0 2 f fd ["row"] (spP K 1 c_is_real) := by
  refine okP (k := 1) (m := 0) (w := w_is_real) F sc_is_real rfl rfl (fun c cdv A outer s H E hG hr => ?_) sem_is_real
  exact (dss_one (ds_ret (de_gt (de_fn h_paired (by decide) hr hG (by rfl) (da_cons (de_pv (pv 0)) (da_cons (de_pv (pv 0)) da_nil))) de_int)))
theorem ok_pencil_kind {f : Addr} {fd : FuncData} (F : Fun K "pencil_kind" "pencil_kind" s_pencil_kind f fd) (h_require_both_rounds : Cl P wd K mg base 6 "require_both_rounds" ["circle", "other"] (spP K 2 c_require_both_rounds)) (h_require_unlike_rounds : Cl P wd K mg base 1 "require_unlike_rounds" ["circle", "other"] (spP K 2 c_require_unlike_rounds)) (h_shared : Cl P wd K mg base 7 "shared" ["circle", "other"] (spP K 2 c_shared)) (g_KINDS : Gc K mg "KINDS" (.tuple [(.str (PySem.Str.ofString "about")), (.str (PySem.Str.ofString "touching")), (.str (PySem.Str.ofString "through"))])) : FnG P wd K mg base CX0 8 f fd ["circle", "other"] (spP K 2 c_pencil_kind) := by
  refine okP (k := 7) (m := 0) (w := w_pencil_kind) F sc_pencil_kind rfl rfl (fun c cdv A outer s H E hG hr => ?_) sem_pencil_kind
  exact (dss_cons (ds_expr (de_fn h_require_both_rounds (by decide) hr hG (by rfl) (da_cons (de_pv (pv 0)) (da_cons (de_pv (pv 1)) da_nil)))) (dss_cons (ds_expr (de_fn h_require_unlike_rounds (by decide) hr hG (by rfl) (da_cons (de_pv (pv 0)) (da_cons (de_pv (pv 1)) da_nil)))) (dss_one (ds_ret (de_item (de_gc g_KINDS (by rfl)) (de_fn h_shared (by decide) hr hG (by rfl) (da_cons (de_pv (pv 0)) (da_cons (de_pv (pv 1)) da_nil))))))))
theorem ok_count_exchanging {f : Addr} {fd : FuncData} (F : Fun K "count_exchanging" "count_exchanging" s_count_exchanging f fd) (h_pencil_kind : Cl P wd K mg base 8 "pencil_kind" ["circle", "other"] (spP K 2 c_pencil_kind)) : FnG P wd K mg base CX0 9 f fd ["circle", "other"] (spP K 2 c_count_exchanging) := by
  refine okP (k := 8) (m := 0) (w := w_count_exchanging) F sc_count_exchanging rfl rfl (fun c cdv A outer s H E hG hr => ?_) sem_count_exchanging
  exact (dss_one (ds_ret (de_if (dt_eq hr (de_fn h_pencil_kind (by decide) hr hG (by rfl) (da_cons (de_pv (pv 0)) (da_cons (de_pv (pv 1)) da_nil))) de_str) de_int de_int)))
theorem ok_exchanging {f : Addr} {fd : FuncData} (F : Fun K "exchanging" "exchanging" s_exchanging f fd) (h_require_both_rounds : Cl P wd K mg base 6 "require_both_rounds" ["circle", "other"] (spP K 2 c_require_both_rounds)) (h_require_unlike_rounds : Cl P wd K mg base 1 "require_unlike_rounds" ["circle", "other"] (spP K 2 c_require_unlike_rounds)) (h_paired : Cl P wd K mg base 1 "paired" ["row", "other"] (spP K 2 c_paired)) (h_whole_root : Cl P wd K mg base 1 "whole_root" ["number"] (spP K 1 c_whole_root)) (h_mixed : Cl P wd K mg base 1 "mixed" ["row", "many", "other", "other_many"] (spP K 4 c_mixed)) (h_is_real : Cl P wd K mg base 2 "_is_real" ["row"] (spP K 1 c_is_real)) (h_round_from : Cl P wd K mg base 3 "round_from" ["numbers"] (spP K 1 c_round_from)) (z_tuple : mg "tuple" = none) (z_sorted : mg "sorted" = none) : FnG P wd K mg base CX0 7 f fd ["circle", "other"] (spP K 2 c_exchanging) := by
  refine okP (k := 6) (m := 4) (w := w_exchanging) F sc_exchanging rfl rfl (fun c cdv A outer s H E hG hr => ?_) sem_exchanging
  exact (dss_cons (ds_expr (de_fn h_require_both_rounds (by decide) hr hG (by rfl) (da_cons (de_pv (pv 0)) (da_cons (de_pv (pv 1)) da_nil)))) (dss_cons (ds_expr (de_fn h_require_unlike_rounds (by decide) hr hG (by rfl) (da_cons (de_pv (pv 0)) (da_cons (de_pv (pv 1)) da_nil)))) (dss_cons (ds_set (i := 2) sc_exchanging.nd rfl (by first | exact Or.inl rfl | exact Or.inr rfl) (de_fn h_paired (by decide) hr hG (by rfl) (da_cons (de_pv (pv 1)) (da_cons (de_pv (pv 1)) da_nil)))) (dss_cons (ds_set (i := 3) sc_exchanging.nd rfl (by first | exact Or.inl rfl | exact Or.inr rfl) (de_fn h_whole_root (by decide) hr hG (by rfl) (da_cons (de_mul (de_fn h_paired (by decide) hr hG (by rfl) (da_cons (de_pv (pv 0)) (da_cons (de_pv (pv 0)) da_nil))) (de_pv (pv 2))) da_nil))) (dss_cons (ds_if (dt_is (de_pv (pv 3)) de_non) (dss_one (ds_ret (de_tup da_nil))) dss_nil) (dss_cons (ds_set (i := 4) sc_exchanging.nd rfl (by first | exact Or.inl rfl | exact Or.inr rfl) (de_lst (da_cons (de_fn h_mixed (by decide) hr hG (by rfl) (da_cons (de_pv (pv 0)) (da_cons (de_pv (pv 2)) (da_cons (de_pv (pv 1)) (da_cons (de_pv (pv 3)) da_nil))))) (da_cons (de_fn h_mixed (by decide) hr hG (by rfl) (da_cons (de_pv (pv 0)) (da_cons (de_pv (pv 2)) (da_cons (de_pv (pv 1)) (da_cons (de_neg (de_pv (pv 3))) da_nil))))) da_nil)))) (dss_one (ds_ret (de_tuple (by rfl) z_tuple (da_cons (de_sortR hr (by rfl) z_sorted (da_cons (de_lc (own := [("row", 5)]) rfl sc_exchanging.nd (di_list (de_pv (pv 4))) (blkOk_by (N := ["circle", "other", "size", "root", "rows", "row"]) (sc := defScope s_exchanging) (by decide +kernel)) (fun _ _ _ _ _ => (dg_name (pg_name (i := 5) sc_exchanging.nd rfl (by first | exact Or.inl rfl | exact Or.inr rfl)) (by decide))) (fun _ _ _ _ _ => (dts_one (dt_val (de_fn h_is_real (by decide) hr hG (by rfl) (da_cons (de_pv (pv 5)) da_nil))))) (fun _ _ _ _ _ => (de_fn h_round_from (by decide) hr hG (by rfl) (da_cons (de_pv (pv 5)) da_nil)))) da_nil)) da_nil))))))))))
theorem ok_law_well {f : Addr} {fd : FuncData} (F : Fun K "_law_well" "_law_well" s_law_well f fd) (z_int : mg "int" = none) (z_len : mg "len" = none) (z_abs : mg "abs" = none) : FnG P wd K mg base CX0 1 f fd ["_law_script", "_law_spot"] (spF K 2 c_law_well) := by
  refine okF (k := 0) (m := 4) (w := w_law_well) F sc_law_well rfl rfl (fun c cdv A outer s H E hG hr => ?_) sem_law_well
  exact (dss_cons (ds_set (i := 2) sc_law_well.nd rfl (by first | exact Or.inl rfl | exact Or.inr rfl) (de_cat de_int (de_mul de_int (de_pv (pv 1))))) (dss_cons (ds_for (vs := [3]) PassesOwn.never rfl (di_list (de_slice (de_pv (pv 0)) do_none (do_some de_int))) (dg_name (pg_name (i := 3) sc_law_well.nd rfl (by first | exact Or.inl rfl | exact Or.inr rfl)) (by decide)) (dss_one (ds_set (i := 2) sc_law_well.nd rfl (by first | exact Or.inl rfl | exact Or.inr rfl) (de_mod (de_intc (by rfl) z_int (da_cons (de_cat (de_cat (de_mul (de_pv (pv 2)) de_int) (de_mod (de_intc (by rfl) z_int (da_cons (de_pv (pv 3)) da_nil)) de_int)) de_int) da_nil)) de_int)))) (dss_cons (ds_set (i := 4) sc_law_well.nd rfl (by first | exact Or.inl rfl | exact Or.inr rfl) (de_if (dt_lt (de_pv (pv 1)) (de_len (by rfl) z_len (da_cons (de_pv (pv 0)) da_nil))) (de_intc (by rfl) z_int (da_cons (de_item (de_pv (pv 0)) (de_pv (pv 1))) da_nil)) de_int)) (dss_cons (ds_set (i := 5) sc_law_well.nd rfl (by first | exact Or.inl rfl | exact Or.inr rfl) (de_if (dt_w (dw_or (dt_lt (de_pv (pv 4)) de_int) (dw_or1 (dt_ge (de_pv (pv 4)) (de_pow de_int de_int))))) (de_abs (by rfl) z_abs (da_cons (de_pv (pv 4)) da_nil)) de_int)) (dss_one (ds_retL (da_cons (de_pv (pv 5)) (da_cons (de_mod (de_intc (by rfl) z_int (da_cons (de_cat (de_cat (de_mul (de_pv (pv 2)) de_int) (de_mul (de_mod (de_intc (by rfl) z_int (da_cons (de_pv (pv 4)) da_nil)) de_int) de_int)) de_int) da_nil)) de_int) (da_cons de_int da_nil)))))))))
theorem ok_law_dip {f : Addr} {fd : FuncData} (F : Fun K "_law_dip" "_law_dip" s_law_dip f fd) (z_divmod : mg "divmod" = none) (z_int : mg "int" = none) : FnG P wd K mg base CX0 1 f fd ["_law_well_here", "_law_many"] (spT K 2 c_law_dip) := by
  refine okT (k := 0) (m := 2) (w := w_law_dip) F sc_law_dip rfl rfl (fun c cdv A outer s H E hG hr => ?_) sem_law_dip
  exact (dss_cons (ds_if (dt_gt (de_ownIx (pv 0) de_int) de_int) (dss_cons (ds_asg (vs := [2]) (de_divmod (by rfl) z_divmod (da_cons (de_ownIx (pv 0) de_int) (da_cons (de_pv (pv 1)) da_nil))) (dg_tup rfl (dgs_cons (dg_sub (pv 0) de_int) (dgs_cons (dg_name (pg_name (i := 2) sc_law_dip.nd rfl (by first | exact Or.inl rfl | exact Or.inr rfl)) (by decide)) dgs_nil)))) (dss_one (ds_ret (de_pv (pv 2))))) dss_nil) (dss_cons (ds_asg (vs := []) (de_cat (de_ownIx (pv 0) de_int) de_int) (dg_sub (pv 0) de_int)) (dss_cons (ds_set (i := 3) sc_law_dip.nd rfl (by first | exact Or.inl rfl | exact Or.inr rfl) (de_cat (de_mod (de_intc (by rfl) z_int (da_cons (de_ownIx (pv 0) de_int) da_nil)) de_int) de_int)) (dss_cons (ds_asg (vs := []) (de_mod (de_intc (by rfl) z_int (da_cons (de_cat (de_cat (de_mul (de_ownIx (pv 0) de_int) (de_pv (pv 3))) (de_mul de_int (de_ownIx (pv 0) de_int))) de_int) da_nil)) de_int) (dg_sub (pv 0) de_int)) (dss_one (ds_ret (de_mod (de_intc (by rfl) z_int (da_cons (de_div (de_ownIx (pv 0) de_int) de_int) da_nil)) (de_pv (pv 1)))))))))
theorem ok_law_of {f : Addr} {fd : FuncData} (F : Fun K "_law_of" "_law_of" s_law_of f fd) (h_law_dip : Cl P wd K mg base 1 "_law_dip" ["_law_well_here", "_law_many"] (spT K 2 c_law_dip)) (z_len : mg "len" = none) : FnG P wd K mg base CX0 2 f fd ["_law_well_here", "_law_some"] (spT K 2 c_law_of) := by
  refine okT (k := 1) (m := 0) (w := w_law_of) F sc_law_of rfl rfl (fun c cdv A outer s H E hG hr => ?_) sem_law_of
  exact (dss_one (ds_ret (de_item (de_pv (pv 1)) (de_fnT (i := 0) h_law_dip (by decide) hr hG (by rfl) (pv 0) (da_cons (de_len (by rfl) z_len (da_cons (de_pv (pv 1)) da_nil)) da_nil)))))
theorem ok_law_whole {f : Addr} {fd : FuncData} (F : Fun K "_law_whole" "_law_whole" s_law_whole f fd) (h_law_dip : Cl P wd K mg base 1 "_law_dip" ["_law_well_here", "_law_many"] (spT K 2 c_law_dip)) : FnG P wd K mg base CX0 2 f fd ["_law_well_here", "_law_wide"] (spT K 2 c_law_whole) := by
  refine okT (k := 1) (m := 1) (w := w_law_whole) F sc_law_whole rfl rfl (fun c cdv A outer s H E hG hr => ?_) sem_law_whole
  exact (dss_cons (ds_if (dt_le (de_pv (pv 1)) de_int) (dss_one (ds_ret (de_sub (de_fnT (i := 0) h_law_dip (by decide) hr hG (by rfl) (pv 0) (da_cons (de_cat (de_mul de_int (de_pv (pv 1))) de_int) da_nil)) (de_pv (pv 1))))) dss_nil) (dss_cons (ds_set (i := 2) sc_law_whole.nd rfl (by first | exact Or.inl rfl | exact Or.inr rfl) (de_sub (de_fnT (i := 0) h_law_dip (by decide) hr hG (by rfl) (pv 0) (da_cons (de_cat (de_mul de_int (de_div (de_pv (pv 1)) de_int)) de_int) da_nil)) (de_div (de_pv (pv 1)) de_int))) (dss_one (ds_ret (de_cat (de_mul de_int (de_pv (pv 2))) (de_fnT (i := 0) h_law_dip (by decide) hr hG (by rfl) (pv 0) (da_cons de_int da_nil)))))))
theorem ok_law_rounds {f : Addr} {fd : FuncData} (F : Fun K "_law_rounds" "_law_rounds" s_law_rounds f fd) (z_max : mg "max" = none) (z_min : mg "min" = none) (z_len : mg "len" = none) : FnG P wd K mg base CX0 1 f fd ["_law_script"] (spP K 1 c_law_rounds) := by
  refine okP (k := 0) (m := 0) (w := w_law_rounds) F sc_law_rounds rfl rfl (fun c cdv A outer s H E hG hr => ?_) sem_law_rounds
  exact (dss_one (ds_ret (de_max2 rfl (by rfl) z_max (da_cons de_int (da_cons (de_min2 rfl (by rfl) z_min (da_cons (de_len (by rfl) z_len (da_cons (de_pv (pv 0)) da_nil)) (da_cons de_int da_nil))) da_nil)))))
theorem ok_law_gcd {f : Addr} {fd : FuncData} (F : Fun K "_law_gcd" "_law_gcd" s_law_gcd f fd) (z_abs : mg "abs" = none) (z_int : mg "int" = none) : FnG P wd K mg base CX0 1 f fd ["_law_one", "_law_two"] (spP K 2 c_law_gcd) := by
  refine okP (k := 0) (m := 2) (w := w_law_gcd) F sc_law_gcd rfl rfl (fun c cdv A outer s H E hG hr => ?_) sem_law_gcd
  exact (dss_cons (ds_par (i := 2) (j := 3) rfl sc_law_gcd.nd rfl rfl (by decide) rfl rfl (da_cons (de_abs (by rfl) z_abs (da_cons (de_pv (pv 0)) da_nil)) (da_cons (de_abs (by rfl) z_abs (da_cons (de_pv (pv 1)) da_nil)) da_nil)) rfl) (dss_cons (ds_while PassesOwn.never (dt_gt (de_pv (pv 3)) de_int) (dss_one (ds_par (i := 2) (j := 3) rfl sc_law_gcd.nd rfl rfl (by decide) rfl rfl (da_cons (de_pv (pv 3)) (da_cons (de_mod (de_intc (by rfl) z_int (da_cons (de_pv (pv 2)) da_nil)) (de_pv (pv 3))) da_nil)) rfl))) (dss_one (ds_ret (de_pv (pv 2))))))
theorem ok_law_cut {f : Addr} {fd : FuncData} (F : Fun K "_law_cut" "_law_cut" s_law_cut f fd) (h_law_gcd : Cl P wd K mg base 1 "_law_gcd" ["_law_one", "_law_two"] (spP K 2 c_law_gcd)) (z_tuple : mg "tuple" = none) : FnG P wd K mg base CX0 2 f fd ["_law_numbers"] (spP K 1 c_law_cut) := by
  refine okP (k := 1) (m := 2) (w := w_law_cut) F sc_law_cut rfl rfl (fun c cdv A outer s H E hG hr => ?_) sem_law_cut
  exact (dss_cons (ds_set (i := 1) sc_law_cut.nd rfl (by first | exact Or.inl rfl | exact Or.inr rfl) de_int) (dss_cons (ds_for (vs := [2]) PassesOwn.never rfl (di_tup (de_pv (pv 0))) (dg_name (pg_name (i := 2) sc_law_cut.nd rfl (by first | exact Or.inl rfl | exact Or.inr rfl)) (by decide)) (dss_one (ds_set (i := 1) sc_law_cut.nd rfl (by first | exact Or.inl rfl | exact Or.inr rfl) (de_fn h_law_gcd (by decide) hr hG (by rfl) (da_cons (de_pv (pv 1)) (da_cons (de_pv (pv 2)) da_nil)))))) (dss_one (ds_ret (de_tuple (by rfl) z_tuple (da_cons (de_lc (own := [("_law_number", 2)]) rfl sc_law_cut.nd (di_tup (de_pv (pv 0))) (blkOk_by (N := ["_law_numbers", "_law_part", "_law_number"]) (sc := defScope s_law_cut) (by decide +kernel)) (fun _ _ _ _ _ => (dg_name (pg_name (i := 2) sc_law_cut.nd rfl (by first | exact Or.inl rfl | exact Or.inr rfl)) (by decide))) (fun _ _ _ _ _ => dts_nil) (fun _ _ _ _ _ => (de_div (de_pv (pv 2)) (de_pv (pv 1))))) da_nil))))))
theorem ok_law_form {f : Addr} {fd : FuncData} (F : Fun K "_law_form" "_law_form" s_law_form f fd) (h_law_cut : Cl P wd K mg base 2 "_law_cut" ["_law_numbers"] (spP K 1 c_law_cut)) (z_tuple : mg "tuple" = none) : FnG P wd K mg base CX0 3 f fd ["_law_row"] (spP K 1 c_law_form) := by
  refine okP (k := 2) (m := 2) (w := w_law_form) F sc_law_form rfl rfl (fun c cdv A outer s H E hG hr => ?_) sem_law_form
  exact (dss_cons (ds_set (i := 0) sc_law_form.nd rfl (by first | exact Or.inl rfl | exact Or.inr rfl) (de_fn h_law_cut (by decide) hr hG (by rfl) (da_cons (de_pv (pv 0)) da_nil))) (dss_cons (ds_set (i := 1) sc_law_form.nd rfl (by first | exact Or.inl rfl | exact Or.inr rfl) (de_item (de_lc (own := [("_law_number", 2)]) rfl sc_law_form.nd (di_tup (de_pv (pv 0))) (blkOk_by (N := ["_law_row", "_law_first", "_law_number"]) (sc := defScope s_law_form) (by decide +kernel)) (fun _ _ _ _ _ => (dg_name (pg_name (i := 2) sc_law_form.nd rfl (by first | exact Or.inl rfl | exact Or.inr rfl)) (by decide))) (fun _ _ _ _ _ => (dts_one (dt_ne hr (de_pv (pv 2)) de_int))) (fun _ _ _ _ _ => (de_pv (pv 2)))) de_int)) (dss_one (ds_ret (de_if (dt_gt (de_pv (pv 1)) de_int) (de_pv (pv 0)) (de_tuple (by rfl) z_tuple (da_cons (de_lc (own := [("_law_number", 2)]) rfl sc_law_form.nd (di_tup (de_pv (pv 0))) (blkOk_by (N := ["_law_row", "_law_first", "_law_number"]) (sc := defScope s_law_form) (by decide +kernel)) (fun _ _ _ _ _ => (dg_name (pg_name (i := 2) sc_law_form.nd rfl (by first | exact Or.inl rfl | exact Or.inr rfl)) (by decide))) (fun _ _ _ _ _ => dts_nil) (fun _ _ _ _ _ => (de_sub de_int (de_pv (pv 2))))) da_nil)))))))
theorem ok_law_root {f : Addr} {fd : FuncData} (F : Fun K "_law_root" "_law_root" s_law_root f fd) (z_range : mg "range" = none) : FnG P wd K mg base CX0 1 f fd ["_law_number"] (spP K 1 c_law_root) := by
  refine okP (k := 0) (m := 4) (w := w_law_root) F sc_law_root rfl rfl (fun c cdv A outer s H E hG hr => ?_) sem_law_root
  exact (dss_cons (ds_par (i := 1) (j := 2) rfl sc_law_root.nd rfl rfl (by decide) rfl rfl (da_cons de_int (da_cons (de_shl de_int (de_cat (de_div (de_bits (de_pv (pv 0))) de_int) de_int)) da_nil)) rfl) (dss_cons (ds_for (vs := [3]) PassesOwn.never rfl (di_rng1 (by rfl) z_range (da_cons (de_cat (de_div (de_bits (de_pv (pv 0))) de_int) de_int) da_nil)) (dg_name (pg_name (i := 3) sc_law_root.nd rfl (by first | exact Or.inl rfl | exact Or.inr rfl)) (by decide)) (dss_cons (ds_set (i := 4) sc_law_root.nd rfl (by first | exact Or.inl rfl | exact Or.inr rfl) (de_div (de_cat (de_pv (pv 1)) (de_pv (pv 2))) de_int)) (dss_one (ds_if (dt_le (de_mul (de_pv (pv 4)) (de_pv (pv 4))) (de_pv (pv 0))) (dss_one (ds_set (i := 1) sc_law_root.nd rfl (by first | exact Or.inl rfl | exact Or.inr rfl) (de_pv (pv 4)))) (dss_one (ds_set (i := 2) sc_law_root.nd rfl (by first | exact Or.inl rfl | exact Or.inr rfl) (de_pv (pv 4)))))))) (dss_one (ds_ret (de_pv (pv 1))))))
theorem ok_law_times {f : Addr} {fd : FuncData} (F : Fun K "_law_times" "_law_times" s_law_times f fd)  : FnG P wd K mg base CX0 1 f fd ["_law_x", "_law_y"] (spP K 2 c_law_times) := by
  refine okP (k := 0) (m := 0) (w := w_law_times) F sc_law_times rfl rfl (fun c cdv A outer s H E hG hr => ?_) sem_law_times
  exact (dss_one (ds_ret (de_tup (da_cons (de_sub (de_mul (de_item (de_pv (pv 0)) de_int) (de_item (de_pv (pv 1)) de_int)) (de_mul (de_item (de_pv (pv 0)) de_int) (de_item (de_pv (pv 1)) de_int))) (da_cons (de_cat (de_mul (de_item (de_pv (pv 0)) de_int) (de_item (de_pv (pv 1)) de_int)) (de_mul (de_item (de_pv (pv 0)) de_int) (de_item (de_pv (pv 1)) de_int))) da_nil)))))
theorem ok_law_plus {f : Addr} {fd : FuncData} (F : Fun K "_law_plus" "_law_plus" s_law_plus f fd)  : FnG P wd K mg base CX0 1 f fd ["_law_x", "_law_y"] (spP K 2 c_law_plus) := by
  refine okP (k := 0) (m := 0) (w := w_law_plus) F sc_law_plus rfl rfl (fun c cdv A outer s H E hG hr => ?_) sem_law_plus
  exact (dss_one (ds_ret (de_tup (da_cons (de_cat (de_item (de_pv (pv 0)) de_int) (de_item (de_pv (pv 1)) de_int)) (da_cons (de_cat (de_item (de_pv (pv 0)) de_int) (de_item (de_pv (pv 1)) de_int)) da_nil)))))
theorem ok_law_minus {f : Addr} {fd : FuncData} (F : Fun K "_law_minus" "_law_minus" s_law_minus f fd)  : FnG P wd K mg base CX0 1 f fd ["_law_x"] (spP K 1 c_law_minus) := by
  refine okP (k := 0) (m := 0) (w := w_law_minus) F sc_law_minus rfl rfl (fun c cdv A outer s H E hG hr => ?_) sem_law_minus
  exact (dss_one (ds_ret (de_tup (da_cons (de_sub de_int (de_item (de_pv (pv 0)) de_int)) (da_cons (de_sub de_int (de_item (de_pv (pv 0)) de_int)) da_nil)))))
theorem ok_law_conj {f : Addr} {fd : FuncData} (F : Fun K "_law_conj" "_law_conj" s_law_conj f fd)  : FnG P wd K mg base CX0 1 f fd ["_law_x"] (spP K 1 c_law_conj) := by
  refine okP (k := 0) (m := 0) (w := w_law_conj) F sc_law_conj rfl rfl (fun c cdv A outer s H E hG hr => ?_) sem_law_conj
  exact (dss_one (ds_ret (de_tup (da_cons (de_item (de_pv (pv 0)) de_int) (da_cons (de_sub de_int (de_item (de_pv (pv 0)) de_int)) da_nil)))))
theorem ok_law_norm {f : Addr} {fd : FuncData} (F : Fun K "_law_norm" "_law_norm" s_law_norm f fd)  : FnG P wd K mg base CX0 1 f fd ["_law_x"] (spP K 1 c_law_norm) := by
  refine okP (k := 0) (m := 0) (w := w_law_norm) F sc_law_norm rfl rfl (fun c cdv A outer s H E hG hr => ?_) sem_law_norm
  exact (dss_one (ds_ret (de_cat (de_mul (de_item (de_pv (pv 0)) de_int) (de_item (de_pv (pv 0)) de_int)) (de_mul (de_item (de_pv (pv 0)) de_int) (de_item (de_pv (pv 0)) de_int)))))
theorem ok_law_scaled {f : Addr} {fd : FuncData} (F : Fun K "_law_scaled" "_law_scaled" s_law_scaled f fd)  : FnG P wd K mg base CX0 1 f fd ["_law_many", "_law_x"] (spP K 2 c_law_scaled) := by
  refine okP (k := 0) (m := 0) (w := w_law_scaled) F sc_law_scaled rfl rfl (fun c cdv A outer s H E hG hr => ?_) sem_law_scaled
  exact (dss_one (ds_ret (de_tup (da_cons (de_mul (de_pv (pv 0)) (de_item (de_pv (pv 1)) de_int)) (da_cons (de_mul (de_pv (pv 0)) (de_item (de_pv (pv 1)) de_int)) da_nil)))))
theorem ok_law_over {f : Addr} {fd : FuncData} (F : Fun K "_law_over" "_law_over" s_law_over f fd) (h_law_norm : Cl P wd K mg base 1 "_law_norm" ["_law_x"] (spP K 1 c_law_norm)) (h_law_times : Cl P wd K mg base 1 "_law_times" ["_law_x", "_law_y"] (spP K 2 c_law_times)) (h_law_conj : Cl P wd K mg base 1 "_law_conj" ["_law_x"] (spP K 1 c_law_conj)) : FnG P wd K mg base CX0 2 f fd ["_law_x", "_law_y"] (spP K 2 c_law_over) := by
  refine okP (k := 1) (m := 2) (w := w_law_over) F sc_law_over rfl rfl (fun c cdv A outer s H E hG hr => ?_) sem_law_over
  exact (dss_cons (ds_par (i := 2) (j := 3) rfl sc_law_over.nd rfl rfl (by decide) rfl rfl (da_cons (de_fn h_law_norm (by decide) hr hG (by rfl) (da_cons (de_pv (pv 1)) da_nil)) (da_cons (de_fn h_law_times (by decide) hr hG (by rfl) (da_cons (de_pv (pv 0)) (da_cons (de_fn h_law_conj (by decide) hr hG (by rfl) (da_cons (de_pv (pv 1)) da_nil)) da_nil))) da_nil)) rfl) (dss_one (ds_ret (de_tup (da_cons (de_div (de_item (de_pv (pv 3)) de_int) (de_pv (pv 2))) (da_cons (de_div (de_item (de_pv (pv 3)) de_int) (de_pv (pv 2))) da_nil))))))
theorem ok_law_deep {f : Addr} {fd : FuncData} (F : Fun K "_law_deep" "_law_deep" s_law_deep f fd) (h_law_norm : Cl P wd K mg base 1 "_law_norm" ["_law_x"] (spP K 1 c_law_norm)) (h_law_times : Cl P wd K mg base 1 "_law_times" ["_law_x", "_law_y"] (spP K 2 c_law_times)) (h_law_conj : Cl P wd K mg base 1 "_law_conj" ["_law_x"] (spP K 1 c_law_conj)) (h_law_plus : Cl P wd K mg base 1 "_law_plus" ["_law_x", "_law_y"] (spP K 2 c_law_plus)) (h_law_minus : Cl P wd K mg base 1 "_law_minus" ["_law_x"] (spP K 1 c_law_minus)) : FnG P wd K mg base CX0 2 f fd ["_law_x", "_law_y"] (spP K 2 c_law_deep) := by
  refine okP (k := 1) (m := 3) (w := w_law_deep) F sc_law_deep rfl rfl (fun c cdv A outer s H E hG hr => ?_) sem_law_deep
  exact (dss_cons (ds_while PassesOwn.never (dt_ne hr (de_pv (pv 1)) (de_tup (da_cons de_int (da_cons de_int da_nil)))) (dss_cons (ds_par (i := 2) (j := 3) rfl sc_law_deep.nd rfl rfl (by decide) rfl rfl (da_cons (de_fn h_law_norm (by decide) hr hG (by rfl) (da_cons (de_pv (pv 1)) da_nil)) (da_cons (de_fn h_law_times (by decide) hr hG (by rfl) (da_cons (de_pv (pv 0)) (da_cons (de_fn h_law_conj (by decide) hr hG (by rfl) (da_cons (de_pv (pv 1)) da_nil)) da_nil))) da_nil)) rfl) (dss_cons (ds_set (i := 4) sc_law_deep.nd rfl (by first | exact Or.inl rfl | exact Or.inr rfl) (de_tup (da_cons (de_div (de_cat (de_mul de_int (de_item (de_pv (pv 3)) de_int)) (de_pv (pv 2))) (de_mul de_int (de_pv (pv 2)))) (da_cons (de_div (de_cat (de_mul de_int (de_item (de_pv (pv 3)) de_int)) (de_pv (pv 2))) (de_mul de_int (de_pv (pv 2)))) da_nil)))) (dss_one (ds_par (i := 0) (j := 1) rfl sc_law_deep.nd rfl rfl (by decide) rfl rfl (da_cons (de_pv (pv 1)) (da_cons (de_fn h_law_plus (by decide) hr hG (by rfl) (da_cons (de_pv (pv 0)) (da_cons (de_fn h_law_minus (by decide) hr hG (by rfl) (da_cons (de_fn h_law_times (by decide) hr hG (by rfl) (da_cons (de_pv (pv 4)) (da_cons (de_pv (pv 1)) da_nil))) da_nil)) da_nil))) da_nil)) rfl))))) (dss_one (ds_ret (de_pv (pv 0)))))
theorem ok_law_quarter {f : Addr} {fd : FuncData} (F : Fun K "_law_quarter" "_law_quarter" s_law_quarter f fd) (z_range : mg "range" = none) : FnG P wd K mg base CX0 1 f fd ["_law_x"] (spP K 1 c_law_quarter) := by
  refine okP (k := 0) (m := 1) (w := w_law_quarter) F sc_law_quarter rfl rfl (fun c cdv A outer s H E hG hr => ?_) sem_law_quarter
  exact (dss_cons (ds_for (vs := [1]) PassesOwn.never rfl (di_rng1 (by rfl) z_range (da_cons de_int da_nil)) (dg_name (pg_name (i := 1) sc_law_quarter.nd rfl (by first | exact Or.inl rfl | exact Or.inr rfl)) (by decide)) (dss_cons (ds_if (dt_w (dw_and (dt_gt (de_item (de_pv (pv 0)) de_int) de_int) (dw_and1 (dt_ge (de_item (de_pv (pv 0)) de_int) de_int)))) (dss_one (ds_ret (de_pv (pv 0)))) dss_nil) (dss_one (ds_set (i := 0) sc_law_quarter.nd rfl (by first | exact Or.inl rfl | exact Or.inr rfl) (de_tup (da_cons (de_sub de_int (de_item (de_pv (pv 0)) de_int)) (da_cons (de_item (de_pv (pv 0)) de_int) da_nil))))))) (dss_one (ds_ret (de_pv (pv 0)))))
theorem ok_law_chart {f : Addr} {fd : FuncData} (F : Fun K "_law_chart" "_law_chart" s_law_chart f fd) (h_law_deep : Cl P wd K mg base 2 "_law_deep" ["_law_x", "_law_y"] (spP K 2 c_law_deep)) (h_law_over : Cl P wd K mg base 2 "_law_over" ["_law_x", "_law_y"] (spP K 2 c_law_over)) (h_law_quarter : Cl P wd K mg base 1 "_law_quarter" ["_law_x"] (spP K 1 c_law_quarter)) (h_law_times : Cl P wd K mg base 1 "_law_times" ["_law_x", "_law_y"] (spP K 2 c_law_times)) : FnG P wd K mg base CX0 3 f fd ["_law_hand", "_law_four_here"] (spP K 2 c_law_chart) := by
  refine okP (k := 2) (m := 9) (w := w_law_chart) F sc_law_chart rfl rfl (fun c cdv A outer s H E hG hr => ?_) sem_law_chart
  exact (dss_cons (ds_set (i := 2) sc_law_chart.nd rfl (by first | exact Or.inl rfl | exact Or.inr rfl) (de_tup (da_cons de_int (da_cons de_int da_nil)))) (dss_cons (ds_for (vs := [3]) PassesOwn.never rfl (di_list (de_pv (pv 1))) (dg_name (pg_name (i := 3) sc_law_chart.nd rfl (by first | exact Or.inl rfl | exact Or.inr rfl)) (by decide)) (dss_one (ds_set (i := 2) sc_law_chart.nd rfl (by first | exact Or.inl rfl | exact Or.inr rfl) (de_fn h_law_deep (by decide) hr hG (by rfl) (da_cons (de_pv (pv 2)) (da_cons (de_pv (pv 3)) da_nil)))))) (dss_cons (ds_setLc (i := 4) (own := [("_law_each", 3)]) rfl sc_law_chart.nd rfl rfl (sw_true rfl rfl rfl (by decide +kernel)) (di_list (de_pv (pv 1))) (blkOk_by (N := ["_law_hand", "_law_four_here", "_law_part", "_law_each", "_law_some", "_law_first", "_law_unit", "_law_a", "_law_b", "_law_c", "_law_d_here"]) (sc := defScope s_law_chart) (by decide +kernel)) (fun _ _ _ _ _ => (dg_name (pg_name (i := 3) sc_law_chart.nd rfl (by first | exact Or.inl rfl | exact Or.inr rfl)) (by decide))) (fun _ _ _ _ _ => dts_nil) (fun _ _ _ _ _ => (de_fn h_law_over (by decide) hr hG (by rfl) (da_cons (de_pv (pv 3)) (da_cons (de_pv (pv 2)) da_nil))))) (dss_cons (ds_set (i := 5) sc_law_chart.nd rfl (by first | exact Or.inl rfl | exact Or.inr rfl) (de_item (de_lc (own := [("_law_each", 3)]) rfl sc_law_chart.nd (di_list (de_pv (pv 4))) (blkOk_by (N := ["_law_hand", "_law_four_here", "_law_part", "_law_each", "_law_some", "_law_first", "_law_unit", "_law_a", "_law_b", "_law_c", "_law_d_here"]) (sc := defScope s_law_chart) (by decide +kernel)) (fun _ _ _ _ _ => (dg_name (pg_name (i := 3) sc_law_chart.nd rfl (by first | exact Or.inl rfl | exact Or.inr rfl)) (by decide))) (fun _ _ _ _ _ => (dts_one (dt_ne hr (de_pv (pv 3)) (de_tup (da_cons de_int (da_cons de_int da_nil)))))) (fun _ _ _ _ _ => (de_pv (pv 3)))) de_int)) (dss_cons (ds_set (i := 6) sc_law_chart.nd rfl (by first | exact Or.inl rfl | exact Or.inr rfl) (de_fn h_law_over (by decide) hr hG (by rfl) (da_cons (de_fn h_law_quarter (by decide) hr hG (by rfl) (da_cons (de_pv (pv 5)) da_nil)) (da_cons (de_pv (pv 5)) da_nil)))) (dss_cons (ds_asg (vs := [10, 7, 8, 9]) (de_lc (own := [("_law_each", 3)]) rfl sc_law_chart.nd (di_list (de_pv (pv 4))) (blkOk_by (N := ["_law_hand", "_law_four_here", "_law_part", "_law_each", "_law_some", "_law_first", "_law_unit", "_law_a", "_law_b", "_law_c", "_law_d_here"]) (sc := defScope s_law_chart) (by decide +kernel)) (fun _ _ _ _ _ => (dg_name (pg_name (i := 3) sc_law_chart.nd rfl (by first | exact Or.inl rfl | exact Or.inr rfl)) (by decide))) (fun _ _ _ _ _ => dts_nil) (fun _ _ _ _ _ => (de_fn h_law_times (by decide) hr hG (by rfl) (da_cons (de_pv (pv 6)) (da_cons (de_pv (pv 3)) da_nil))))) (dg_lst rfl (dgs_cons (dg_name (pg_name (i := 7) sc_law_chart.nd rfl (by first | exact Or.inl rfl | exact Or.inr rfl)) (by decide)) (dgs_cons (dg_name (pg_name (i := 8) sc_law_chart.nd rfl (by first | exact Or.inl rfl | exact Or.inr rfl)) (by decide)) (dgs_cons (dg_name (pg_name (i := 9) sc_law_chart.nd rfl (by first | exact Or.inl rfl | exact Or.inr rfl)) (by decide)) (dgs_cons (dg_name (pg_name (i := 10) sc_law_chart.nd rfl (by first | exact Or.inl rfl | exact Or.inr rfl)) (by decide)) dgs_nil)))))) (dss_one (ds_ret (de_tup (da_cons (de_pv (pv 0)) (da_cons (de_pv (pv 7)) (da_cons (de_pv (pv 8)) (da_cons (de_pv (pv 9)) (da_cons (de_pv (pv 10)) da_nil))))))))))))))
theorem ok_law_d {f : Addr} {fd : FuncData} (F : Fun K "_law_d" "_law_d" s_law_d f fd)  : FnG P wd K mg base CX0 1 f fd ["_law_row"] (spP K 1 c_law_d) := by
  refine okP (k := 0) (m := 4) (w := w_law_d) F sc_law_d rfl rfl (fun c cdv A outer s H E hG hr => ?_) sem_law_d
  exact (dss_cons (ds_asg (vs := [1, 2, 3, 4]) (de_pv (pv 0)) (dg_tup rfl (dgs_cons (dg_name (pg_name (i := 1) sc_law_d.nd rfl (by first | exact Or.inl rfl | exact Or.inr rfl)) (by decide)) (dgs_cons (dg_name (pg_name (i := 2) sc_law_d.nd rfl (by first | exact Or.inl rfl | exact Or.inr rfl)) (by decide)) (dgs_cons (dg_name (pg_name (i := 3) sc_law_d.nd rfl (by first | exact Or.inl rfl | exact Or.inr rfl)) (by decide)) (dgs_cons (dg_name (pg_name (i := 4) sc_law_d.nd rfl (by first | exact Or.inl rfl | exact Or.inr rfl)) (by decide)) dgs_nil)))))) (dss_one (ds_ret (de_sub (de_cat (de_mul (de_pv (pv 2)) (de_pv (pv 2))) (de_mul (de_pv (pv 3)) (de_pv (pv 3)))) (de_mul (de_mul de_int (de_pv (pv 1))) (de_pv (pv 4)))))))
theorem ok_law_j {f : Addr} {fd : FuncData} (F : Fun K "_law_j" "_law_j" s_law_j f fd)  : FnG P wd K mg base CX0 1 f fd ["_law_one", "_law_two"] (spP K 2 c_law_j) := by
  refine okP (k := 0) (m := 0) (w := w_law_j) F sc_law_j rfl rfl (fun c cdv A outer s H E hG hr => ?_) sem_law_j
  exact (dss_one (ds_ret (de_sub (de_cat (de_mul (de_item (de_pv (pv 0)) de_int) (de_item (de_pv (pv 1)) de_int)) (de_mul (de_item (de_pv (pv 0)) de_int) (de_item (de_pv (pv 1)) de_int))) (de_mul de_int (de_cat (de_mul (de_item (de_pv (pv 0)) de_int) (de_item (de_pv (pv 1)) de_int)) (de_mul (de_item (de_pv (pv 1)) de_int) (de_item (de_pv (pv 0)) de_int)))))))
theorem ok_law_mixed {f : Addr} {fd : FuncData} (F : Fun K "_law_mixed" "_law_mixed" s_law_mixed f fd) (z_tuple : mg "tuple" = none) (z_range : mg "range" = none) : FnG P wd K mg base CX0 1 f fd ["_law_x", "_law_one", "_law_y", "_law_two"] (spP K 4 c_law_mixed) := by
  refine okP (k := 0) (m := 1) (w := w_law_mixed) F sc_law_mixed rfl rfl (fun c cdv A outer s H E hG hr => ?_) sem_law_mixed
  exact (dss_one (ds_ret (de_tuple (by rfl) z_tuple (da_cons (de_lc (own := [("_law_at", 4)]) rfl sc_law_mixed.nd (di_rng1 (by rfl) z_range (da_cons de_int da_nil)) (blkOk_by (N := ["_law_x", "_law_one", "_law_y", "_law_two", "_law_at"]) (sc := defScope s_law_mixed) (by decide +kernel)) (fun _ _ _ _ _ => (dg_name (pg_name (i := 4) sc_law_mixed.nd rfl (by first | exact Or.inl rfl | exact Or.inr rfl)) (by decide))) (fun _ _ _ _ _ => dts_nil) (fun _ _ _ _ _ => (de_cat (de_mul (de_pv (pv 0)) (de_item (de_pv (pv 1)) (de_pv (pv 4)))) (de_mul (de_pv (pv 2)) (de_item (de_pv (pv 3)) (de_pv (pv 4))))))) da_nil))))
theorem ok_law_row_back {f : Addr} {fd : FuncData} (F : Fun K "_law_row_back" "_law_row_back" s_law_row_back f fd) (h_law_norm : Cl P wd K mg base 1 "_law_norm" ["_law_x"] (spP K 1 c_law_norm)) (h_law_times : Cl P wd K mg base 1 "_law_times" ["_law_x", "_law_y"] (spP K 2 c_law_times)) (h_law_conj : Cl P wd K mg base 1 "_law_conj" ["_law_x"] (spP K 1 c_law_conj)) (h_law_plus : Cl P wd K mg base 1 "_law_plus" ["_law_x", "_law_y"] (spP K 2 c_law_plus)) (h_law_scaled : Cl P wd K mg base 1 "_law_scaled" ["_law_many", "_law_x"] (spP K 2 c_law_scaled)) : FnG P wd K mg base CX0 2 f fd ["_law_chart_here", "_law_row"] (spP K 2 c_law_row_back) := by
  refine okP (k := 1) (m := 15) (w := w_law_row_back) F sc_law_row_back rfl rfl (fun c cdv A outer s H E hG hr => ?_) sem_law_row_back
  exact (dss_cons (ds_asg (vs := [2, 3, 4, 5, 6]) (de_pv (pv 0)) (dg_tup rfl (dgs_cons (dg_name (pg_name (i := 2) sc_law_row_back.nd rfl (by first | exact Or.inl rfl | exact Or.inr rfl)) (by decide)) (dgs_cons (dg_name (pg_name (i := 3) sc_law_row_back.nd rfl (by first | exact Or.inl rfl | exact Or.inr rfl)) (by decide)) (dgs_cons (dg_name (pg_name (i := 4) sc_law_row_back.nd rfl (by first | exact Or.inl rfl | exact Or.inr rfl)) (by decide)) (dgs_cons (dg_name (pg_name (i := 5) sc_law_row_back.nd rfl (by first | exact Or.inl rfl | exact Or.inr rfl)) (by decide)) (dgs_cons (dg_name (pg_name (i := 6) sc_law_row_back.nd rfl (by first | exact Or.inl rfl | exact Or.inr rfl)) (by decide)) dgs_nil))))))) (dss_cons (ds_asg (vs := [10, 7, 8, 9]) (de_pv (pv 1)) (dg_tup rfl (dgs_cons (dg_name (pg_name (i := 7) sc_law_row_back.nd rfl (by first | exact Or.inl rfl | exact Or.inr rfl)) (by decide)) (dgs_cons (dg_name (pg_name (i := 8) sc_law_row_back.nd rfl (by first | exact Or.inl rfl | exact Or.inr rfl)) (by decide)) (dgs_cons (dg_name (pg_name (i := 9) sc_law_row_back.nd rfl (by first | exact Or.inl rfl | exact Or.inr rfl)) (by decide)) (dgs_cons (dg_name (pg_name (i := 10) sc_law_row_back.nd rfl (by first | exact Or.inl rfl | exact Or.inr rfl)) (by decide)) dgs_nil)))))) (dss_cons (ds_par (i := 11) (j := 12) rfl sc_law_row_back.nd rfl rfl (by decide) rfl rfl (da_cons (de_tup (da_cons (de_pv (pv 8)) (da_cons (de_pv (pv 9)) da_nil))) (da_cons (de_tup (da_cons (de_pv (pv 8)) (da_cons (de_sub de_int (de_pv (pv 9))) da_nil))) da_nil)) rfl) (dss_cons (ds_set (i := 13) sc_law_row_back.nd rfl (by first | exact Or.inl rfl | exact Or.inr rfl) (de_cat (de_cat (de_mul (de_pv (pv 7)) (de_fn h_law_norm (by decide) hr hG (by rfl) (da_cons (de_pv (pv 3)) da_nil))) (de_item (de_fn h_law_times (by decide) hr hG (by rfl) (da_cons (de_pv (pv 12)) (da_cons (de_fn h_law_times (by decide) hr hG (by rfl) (da_cons (de_pv (pv 3)) (da_cons (de_fn h_law_conj (by decide) hr hG (by rfl) (da_cons (de_pv (pv 5)) da_nil)) da_nil))) da_nil))) de_int)) (de_mul (de_pv (pv 10)) (de_fn h_law_norm (by decide) hr hG (by rfl) (da_cons (de_pv (pv 5)) da_nil))))) (dss_cons (ds_set (i := 14) sc_law_row_back.nd rfl (by first | exact Or.inl rfl | exact Or.inr rfl) (de_cat (de_cat (de_mul (de_pv (pv 7)) (de_fn h_law_norm (by decide) hr hG (by rfl) (da_cons (de_pv (pv 4)) da_nil))) (de_item (de_fn h_law_times (by decide) hr hG (by rfl) (da_cons (de_pv (pv 12)) (da_cons (de_fn h_law_times (by decide) hr hG (by rfl) (da_cons (de_pv (pv 4)) (da_cons (de_fn h_law_conj (by decide) hr hG (by rfl) (da_cons (de_pv (pv 6)) da_nil)) da_nil))) da_nil))) de_int)) (de_mul (de_pv (pv 10)) (de_fn h_law_norm (by decide) hr hG (by rfl) (da_cons (de_pv (pv 6)) da_nil))))) (dss_cons (ds_set (i := 15) sc_law_row_back.nd rfl (by first | exact Or.inl rfl | exact Or.inr rfl) (de_fn h_law_plus (by decide) hr hG (by rfl) (da_cons (de_fn h_law_scaled (by decide) hr hG (by rfl) (da_cons (de_mul de_int (de_pv (pv 7))) (da_cons (de_fn h_law_times (by decide) hr hG (by rfl) (da_cons (de_pv (pv 3)) (da_cons (de_fn h_law_conj (by decide) hr hG (by rfl) (da_cons (de_pv (pv 4)) da_nil)) da_nil))) da_nil))) (da_cons (de_fn h_law_scaled (by decide) hr hG (by rfl) (da_cons (de_mul de_int (de_pv (pv 10))) (da_cons (de_fn h_law_times (by decide) hr hG (by rfl) (da_cons (de_pv (pv 5)) (da_cons (de_fn h_law_conj (by decide) hr hG (by rfl) (da_cons (de_pv (pv 6)) da_nil)) da_nil))) da_nil))) da_nil)))) (dss_cons (ds_set (i := 16) sc_law_row_back.nd rfl (by first | exact Or.inl rfl | exact Or.inr rfl) (de_fn h_law_plus (by decide) hr hG (by rfl) (da_cons (de_fn h_law_times (by decide) hr hG (by rfl) (da_cons (de_pv (pv 12)) (da_cons (de_fn h_law_times (by decide) hr hG (by rfl) (da_cons (de_pv (pv 3)) (da_cons (de_fn h_law_conj (by decide) hr hG (by rfl) (da_cons (de_pv (pv 6)) da_nil)) da_nil))) da_nil))) (da_cons (de_fn h_law_times (by decide) hr hG (by rfl) (da_cons (de_pv (pv 11)) (da_cons (de_fn h_law_times (by decide) hr hG (by rfl) (da_cons (de_fn h_law_conj (by decide) hr hG (by rfl) (da_cons (de_pv (pv 4)) da_nil)) (da_cons (de_pv (pv 5)) da_nil))) da_nil))) da_nil)))) (dss_one (ds_ret (de_tup (da_cons (de_pv (pv 13)) (da_cons (de_cat (de_item (de_pv (pv 15)) de_int) (de_item (de_pv (pv 16)) de_int)) (da_cons (de_if (dt_eq hr (de_pv (pv 2)) de_int) (de_cat (de_item (de_pv (pv 15)) de_int) (de_item (de_pv (pv 16)) de_int)) (de_sub (de_sub de_int (de_item (de_pv (pv 15)) de_int)) (de_item (de_pv (pv 16)) de_int))) (da_cons (de_pv (pv 14)) da_nil))))))))))))))
theorem ok_law_round {f : Addr} {fd : FuncData} (F : Fun K "_law_round" "_law_round" s_law_round f fd) (h_law_whole : Cl P wd K mg base 2 "_law_whole" ["_law_well_here", "_law_wide"] (spT K 2 c_law_whole)) (h_law_dip : Cl P wd K mg base 1 "_law_dip" ["_law_well_here", "_law_many"] (spT K 2 c_law_dip)) (h_law_form : Cl P wd K mg base 3 "_law_form" ["_law_row"] (spP K 1 c_law_form)) (z_range : mg "range" = none) : FnG P wd K mg base CX0 4 f fd ["_law_well_here", "_law_wide"] (spT K 2 c_law_round) := by
  refine okT (k := 3) (m := 5) (w := w_law_round) F sc_law_round rfl rfl (fun c cdv A outer s H E hG hr => ?_) sem_law_round
  exact (dss_cons (ds_asg (vs := [2, 3, 4, 5]) (de_lc (own := [("_law_turn", 6)]) rfl sc_law_round.nd (di_rng1 (by rfl) z_range (da_cons de_int da_nil)) (blkOk_by (N := ["_law_well_here", "_law_wide", "_law_q", "_law_l", "_law_m", "_law_k", "_law_turn"]) (sc := defScope s_law_round) (by decide +kernel)) (fun _ _ _ _ _ => (dg_name (pg_name (i := 6) sc_law_round.nd rfl (by first | exact Or.inl rfl | exact Or.inr rfl)) (by decide))) (fun _ _ _ _ _ => dts_nil) (fun _ _ _ _ _ => (de_fnT (i := 0) h_law_whole (by decide) hr hG (by rfl) (pv 0) (da_cons (de_pv (pv 1)) da_nil)))) (dg_lst rfl (dgs_cons (dg_name (pg_name (i := 2) sc_law_round.nd rfl (by first | exact Or.inl rfl | exact Or.inr rfl)) (by decide)) (dgs_cons (dg_name (pg_name (i := 3) sc_law_round.nd rfl (by first | exact Or.inl rfl | exact Or.inr rfl)) (by decide)) (dgs_cons (dg_name (pg_name (i := 4) sc_law_round.nd rfl (by first | exact Or.inl rfl | exact Or.inr rfl)) (by decide)) (dgs_cons (dg_name (pg_name (i := 5) sc_law_round.nd rfl (by first | exact Or.inl rfl | exact Or.inr rfl)) (by decide)) dgs_nil)))))) (dss_cons (ds_if (dt_eq hr (de_fnT (i := 0) h_law_dip (by decide) hr hG (by rfl) (pv 0) (da_cons de_int da_nil)) de_int) (dss_one (ds_set (i := 2) sc_law_round.nd rfl (by first | exact Or.inl rfl | exact Or.inr rfl) de_int)) dss_nil) (dss_cons (ds_if (dt_eq hr (de_tup (da_cons (de_pv (pv 2)) (da_cons (de_pv (pv 3)) (da_cons (de_pv (pv 4)) da_nil)))) (de_tup (da_cons de_int (da_cons de_int (da_cons de_int da_nil))))) (dss_one (ds_set (i := 3) sc_law_round.nd rfl (by first | exact Or.inl rfl | exact Or.inr rfl) de_int)) dss_nil) (dss_cons (ds_if (dt_le (de_cat (de_mul (de_pv (pv 3)) (de_pv (pv 3))) (de_mul (de_pv (pv 4)) (de_pv (pv 4)))) (de_mul (de_mul de_int (de_pv (pv 2))) (de_pv (pv 5)))) (dss_one (ds_set (i := 5) sc_law_round.nd rfl (by first | exact Or.inl rfl | exact Or.inr rfl) (de_if (dt_ne hr (de_pv (pv 5)) de_int) (de_sub de_int (de_pv (pv 5))) (de_sub de_int (de_pv (pv 2)))))) dss_nil) (dss_one (ds_ret (de_fn h_law_form (by decide) hr hG (by rfl) (da_cons (de_tup (da_cons (de_pv (pv 2)) (da_cons (de_pv (pv 3)) (da_cons (de_pv (pv 4)) (da_cons (de_pv (pv 5)) da_nil))))) da_nil))))))))
theorem ok_law_four {f : Addr} {fd : FuncData} (F : Fun K "_law_four" "_law_four" s_law_four f fd) (h_law_whole : Cl P wd K mg base 2 "_law_whole" ["_law_well_here", "_law_wide"] (spT K 2 c_law_whole)) (h_law_times : Cl P wd K mg base 1 "_law_times" ["_law_x", "_law_y"] (spP K 2 c_law_times)) (z_range : mg "range" = none) : FnG P wd K mg base CX0 3 f fd ["_law_well_here", "_law_wide"] (spT K 2 c_law_four) := by
  refine okT (k := 2) (m := 5) (w := w_law_four) F sc_law_four rfl rfl (fun c cdv A outer s H E hG hr => ?_) sem_law_four
  exact (dss_cons (ds_asg (vs := [2, 3, 4, 5]) (de_lc (own := [("_law_turn", 6)]) rfl sc_law_four.nd (di_rng1 (by rfl) z_range (da_cons de_int da_nil)) (blkOk_by (N := ["_law_well_here", "_law_wide", "_law_a", "_law_b", "_law_c", "_law_d_here", "_law_turn"]) (sc := defScope s_law_four) (by decide +kernel)) (fun _ _ _ _ _ => (dg_name (pg_name (i := 6) sc_law_four.nd rfl (by first | exact Or.inl rfl | exact Or.inr rfl)) (by decide))) (fun _ _ _ _ _ => dts_nil) (fun _ _ _ _ _ => (de_tup (da_cons (de_fnT (i := 0) h_law_whole (by decide) hr hG (by rfl) (pv 0) (da_cons (de_pv (pv 1)) da_nil)) (da_cons (de_fnT (i := 0) h_law_whole (by decide) hr hG (by rfl) (pv 0) (da_cons (de_pv (pv 1)) da_nil)) da_nil))))) (dg_lst rfl (dgs_cons (dg_name (pg_name (i := 2) sc_law_four.nd rfl (by first | exact Or.inl rfl | exact Or.inr rfl)) (by decide)) (dgs_cons (dg_name (pg_name (i := 3) sc_law_four.nd rfl (by first | exact Or.inl rfl | exact Or.inr rfl)) (by decide)) (dgs_cons (dg_name (pg_name (i := 4) sc_law_four.nd rfl (by first | exact Or.inl rfl | exact Or.inr rfl)) (by decide)) (dgs_cons (dg_name (pg_name (i := 5) sc_law_four.nd rfl (by first | exact Or.inl rfl | exact Or.inr rfl)) (by decide)) dgs_nil)))))) (dss_cons (ds_if (dt_eq hr (de_fn h_law_times (by decide) hr hG (by rfl) (da_cons (de_pv (pv 2)) (da_cons (de_pv (pv 5)) da_nil))) (de_fn h_law_times (by decide) hr hG (by rfl) (da_cons (de_pv (pv 3)) (da_cons (de_pv (pv 4)) da_nil)))) (dss_one (ds_if (dt_eq hr (de_pv (pv 2)) (de_tup (da_cons de_int (da_cons de_int da_nil)))) (dss_one (ds_asg (vs := [2, 4, 5]) (de_tup (da_cons (de_tup (da_cons de_int (da_cons de_int da_nil))) (da_cons (de_tup (da_cons de_int (da_cons de_int da_nil))) (da_cons (de_tup (da_cons de_int (da_cons de_int da_nil))) da_nil)))) (dg_tup rfl (dgs_cons (dg_name (pg_name (i := 2) sc_law_four.nd rfl (by first | exact Or.inl rfl | exact Or.inr rfl)) (by decide)) (dgs_cons (dg_name (pg_name (i := 4) sc_law_four.nd rfl (by first | exact Or.inl rfl | exact Or.inr rfl)) (by decide)) (dgs_cons (dg_name (pg_name (i := 5) sc_law_four.nd rfl (by first | exact Or.inl rfl | exact Or.inr rfl)) (by decide)) dgs_nil)))))) (dss_one (ds_set (i := 5) sc_law_four.nd rfl (by first | exact Or.inl rfl | exact Or.inr rfl) (de_tup (da_cons (de_cat (de_item (de_pv (pv 5)) de_int) de_int) (da_cons (de_item (de_pv (pv 5)) de_int) da_nil))))))) dss_nil) (dss_one (ds_ret (de_lst (da_cons (de_pv (pv 2)) (da_cons (de_pv (pv 3)) (da_cons (de_pv (pv 4)) (da_cons (de_pv (pv 5)) da_nil)))))))))
theorem ok_law_map {f : Addr} {fd : FuncData} (F : Fun K "_law_map" "_law_map" s_law_map f fd) (h_law_dip : Cl P wd K mg base 1 "_law_dip" ["_law_well_here", "_law_many"] (spT K 2 c_law_dip)) (h_law_chart : Cl P wd K mg base 3 "_law_chart" ["_law_hand", "_law_four_here"] (spP K 2 c_law_chart)) (h_law_four : Cl P wd K mg base 3 "_law_four" ["_law_well_here", "_law_wide"] (spT K 2 c_law_four)) : FnG P wd K mg base CX0 4 f fd ["_law_well_here", "_law_wide"] (spT K 2 c_law_map) := by
  refine okT (k := 3) (m := 1) (w := w_law_map) F sc_law_map rfl rfl (fun c cdv A outer s H E hG hr => ?_) sem_law_map
  exact (dss_cons (ds_set (i := 2) sc_law_map.nd rfl (by first | exact Or.inl rfl | exact Or.inr rfl) (de_fnT (i := 0) h_law_dip (by decide) hr hG (by rfl) (pv 0) (da_cons de_int da_nil))) (dss_one (ds_ret (de_fn h_law_chart (by decide) hr hG (by rfl) (da_cons (de_pv (pv 2)) (da_cons (de_fnT (i := 0) h_law_four (by decide) hr hG (by rfl) (pv 0) (da_cons (de_pv (pv 1)) da_nil)) da_nil))))))
theorem ok_law_shared {f : Addr} {fd : FuncData} (F : Fun K "_law_shared" "_law_shared" s_law_shared f fd) (h_law_j : Cl P wd K mg base 1 "_law_j" ["_law_one", "_law_two"] (spP K 2 c_law_j)) (h_law_d : Cl P wd K mg base 1 "_law_d" ["_law_row"] (spP K 1 c_law_d)) : FnG P wd K mg base CX0 2 f fd ["_law_one", "_law_two"] (spP K 2 c_law_shared) := by
  refine okP (k := 1) (m := 2) (w := w_law_shared) F sc_law_shared rfl rfl (fun c cdv A outer s H E hG hr => ?_) sem_law_shared
  exact (dss_cons (ds_par (i := 2) (j := 3) rfl sc_law_shared.nd rfl rfl (by decide) rfl rfl (da_cons (de_fn h_law_j (by decide) hr hG (by rfl) (da_cons (de_pv (pv 0)) (da_cons (de_pv (pv 1)) da_nil))) (da_cons (de_mul (de_fn h_law_d (by decide) hr hG (by rfl) (da_cons (de_pv (pv 0)) da_nil)) (de_fn h_law_d (by decide) hr hG (by rfl) (da_cons (de_pv (pv 1)) da_nil))) da_nil)) rfl) (dss_one (ds_ret (de_if (dt_lt (de_mul (de_pv (pv 2)) (de_pv (pv 2))) (de_pv (pv 3))) de_int (de_if (dt_eq hr (de_mul (de_pv (pv 2)) (de_pv (pv 2))) (de_pv (pv 3))) de_int de_int)))))
theorem ok_law_pair {f : Addr} {fd : FuncData} (F : Fun K "_law_pair" "_law_pair" s_law_pair f fd) (h_law_dip : Cl P wd K mg base 1 "_law_dip" ["_law_well_here", "_law_many"] (spT K 2 c_law_dip)) (h_law_map : Cl P wd K mg base 4 "_law_map" ["_law_well_here", "_law_wide"] (spT K 2 c_law_map)) (h_law_round : Cl P wd K mg base 4 "_law_round" ["_law_well_here", "_law_wide"] (spT K 2 c_law_round)) (h_law_form : Cl P wd K mg base 3 "_law_form" ["_law_row"] (spP K 1 c_law_form)) (h_law_row_back : Cl P wd K mg base 2 "_law_row_back" ["_law_chart_here", "_law_row"] (spP K 2 c_law_row_back)) (z_abs : mg "abs" = none) : FnG P wd K mg base CX0 5 f fd ["_law_well_here", "_law_wide"] (spT K 2 c_law_pair) := by
  refine okT (k := 4) (m := 9) (w := w_law_pair) F sc_law_pair rfl rfl (fun c cdv A outer s H E hG hr => ?_) sem_law_pair
  exact (dss_cons (ds_asg (vs := [2, 3]) (de_tup (da_cons (de_fnT (i := 0) h_law_dip (by decide) hr hG (by rfl) (pv 0) (da_cons de_int da_nil)) (da_cons (de_fnT (i := 0) h_law_map (by decide) hr hG (by rfl) (pv 0) (da_cons (de_pv (pv 1)) da_nil)) da_nil))) (dg_tup rfl (dgs_cons (dg_name (pg_name (i := 2) sc_law_pair.nd rfl (by first | exact Or.inl rfl | exact Or.inr rfl)) (by decide)) (dgs_cons (dg_name (pg_name (i := 3) sc_law_pair.nd rfl (by first | exact Or.inl rfl | exact Or.inr rfl)) (by decide)) dgs_nil)))) (dss_cons (ds_if (dt_gt (de_pv (pv 2)) de_int) (dss_cons (ds_par (i := 4) (j := 5) rfl sc_law_pair.nd rfl rfl (by decide) rfl rfl (da_cons (de_fnT (i := 0) h_law_round (by decide) hr hG (by rfl) (pv 0) (da_cons (de_pv (pv 1)) da_nil)) (da_cons (de_fnT (i := 0) h_law_round (by decide) hr hG (by rfl) (pv 0) (da_cons (de_pv (pv 1)) da_nil)) da_nil)) rfl) (dss_one (ds_ret (de_if (dt_ne hr (de_pv (pv 4)) (de_pv (pv 5))) (de_lst (da_cons (de_pv (pv 4)) (da_cons (de_pv (pv 5)) da_nil))) (de_lst (da_cons (de_pv (pv 4)) (da_cons (de_fn h_law_form (by decide) hr hG (by rfl) (da_cons (de_tup (da_cons (de_item (de_pv (pv 4)) de_int) (da_cons (de_item (de_pv (pv 4)) de_int) (da_cons (de_item (de_pv (pv 4)) de_int) (da_cons (de_sub (de_sub (de_item (de_pv (pv 4)) de_int) de_int) (de_abs (by rfl) z_abs (da_cons (de_item (de_pv (pv 4)) de_int) da_nil))) da_nil))))) da_nil)) da_nil))))))) dss_nil) (dss_cons (ds_par3 (i := 6) (j := 7) (l := 8) rfl sc_law_pair.nd rfl rfl rfl (by decide) (by decide) (by decide) rfl rfl rfl (da_cons (de_cat de_int (de_fnT (i := 0) h_law_dip (by decide) hr hG (by rfl) (pv 0) (da_cons de_int da_nil))) (da_cons (de_fnT (i := 0) h_law_dip (by decide) hr hG (by rfl) (pv 0) (da_cons de_int da_nil)) (da_cons (de_cat de_int (de_fnT (i := 0) h_law_dip (by decide) hr hG (by rfl) (pv 0) (da_cons de_int da_nil))) da_nil))) rfl) (dss_cons (ds_if (dt_eq hr (de_pv (pv 2)) de_int) (dss_one (ds_set (i := 9) sc_law_pair.nd rfl (by first | exact Or.inl rfl | exact Or.inr rfl) (de_lst (da_cons (de_tup (da_cons de_int (da_cons (de_pv (pv 6)) (da_cons (de_pv (pv 7)) (da_cons de_int da_nil))))) (da_cons (de_tup (da_cons de_int (da_cons (de_pv (pv 6)) (da_cons (de_sub (de_sub de_int (de_pv (pv 7))) de_int) (da_cons de_int da_nil))))) da_nil))))) (dss_one (ds_if (dt_eq hr (de_pv (pv 2)) de_int) (dss_one (ds_set (i := 9) sc_law_pair.nd rfl (by first | exact Or.inl rfl | exact Or.inr rfl) (de_lst (da_cons (de_tup (da_cons de_int (da_cons (de_pv (pv 6)) (da_cons (de_pv (pv 7)) (da_cons de_int da_nil))))) (da_cons (de_tup (da_cons de_int (da_cons (de_pv (pv 6)) (da_cons (de_pv (pv 7)) (da_cons (de_pv (pv 8)) da_nil))))) da_nil))))) (dss_one (ds_set (i := 9) sc_law_pair.nd rfl (by first | exact Or.inl rfl | exact Or.inr rfl) (de_lst (da_cons (de_tup (da_cons (de_pv (pv 6)) (da_cons de_int (da_cons de_int (da_cons (de_sub de_int (de_pv (pv 8))) da_nil))))) (da_cons (de_tup (da_cons (de_pv (pv 6)) (da_cons de_int (da_cons de_int (da_cons (de_sub (de_sub (de_sub de_int (de_pv (pv 8))) de_int) (de_pv (pv 7))) da_nil))))) da_nil)))))))) (dss_cons (ds_if (dt_eq hr (de_fnT (i := 0) h_law_dip (by decide) hr hG (by rfl) (pv 0) (da_cons de_int da_nil)) de_int) (dss_one (ds_set (i := 9) sc_law_pair.nd rfl (by first | exact Or.inl rfl | exact Or.inr rfl) (de_rev (de_pv (pv 9))))) dss_nil) (dss_one (ds_ret (de_lc (own := [("_law_row", 10)]) rfl sc_law_pair.nd (di_list (de_pv (pv 9))) (blkOk_by (N := ["_law_well_here", "_law_wide", "_law_way", "_law_chart_here", "_law_one", "_law_two", "_law_l", "_law_m", "_law_k", "_law_some", "_law_row"]) (sc := defScope s_law_pair) (by decide +kernel)) (fun _ _ _ _ _ => (dg_name (pg_name (i := 10) sc_law_pair.nd rfl (by first | exact Or.inl rfl | exact Or.inr rfl)) (by decide))) (fun _ _ _ _ _ => dts_nil) (fun _ _ _ _ _ => (de_fn h_law_form (by decide) hr hG (by rfl) (da_cons (de_fn h_law_row_back (by decide) hr hG (by rfl) (da_cons (de_pv (pv 3)) (da_cons (de_pv (pv 10)) da_nil))) da_nil)))))))))))
theorem ok_law_due {f : Addr} {fd : FuncData} (F : Fun K "_law_due" "_law_due" s_law_due f fd) (h_law_d : Cl P wd K mg base 1 "_law_d" ["_law_row"] (spP K 1 c_law_d)) (h_law_root : Cl P wd K mg base 1 "_law_root" ["_law_number"] (spP K 1 c_law_root)) (h_law_mixed : Cl P wd K mg base 1 "_law_mixed" ["_law_x", "_law_one", "_law_y", "_law_two"] (spP K 4 c_law_mixed)) (h_law_form : Cl P wd K mg base 3 "_law_form" ["_law_row"] (spP K 1 c_law_form)) (z_tuple : mg "tuple" = none) (z_sorted : mg "sorted" = none) : FnG P wd K mg base CX0 4 f fd ["_law_one", "_law_two"] (spP K 2 c_law_due) := by
  refine okP (k := 3) (m := 5) (w := w_law_due) F sc_law_due rfl rfl (fun c cdv A outer s H E hG hr => ?_) sem_law_due
  exact (dss_cons (ds_par (i := 2) (j := 3) rfl sc_law_due.nd rfl rfl (by decide) rfl rfl (da_cons (de_fn h_law_d (by decide) hr hG (by rfl) (da_cons (de_pv (pv 0)) da_nil)) (da_cons (de_fn h_law_d (by decide) hr hG (by rfl) (da_cons (de_pv (pv 1)) da_nil)) da_nil)) rfl) (dss_cons (ds_set (i := 4) sc_law_due.nd rfl (by first | exact Or.inl rfl | exact Or.inr rfl) (de_fn h_law_root (by decide) hr hG (by rfl) (da_cons (de_mul (de_pv (pv 2)) (de_pv (pv 3))) da_nil))) (dss_cons (ds_if (dt_ne hr (de_mul (de_pv (pv 4)) (de_pv (pv 4))) (de_mul (de_pv (pv 2)) (de_pv (pv 3)))) (dss_one (ds_ret (de_tup da_nil))) dss_nil) (dss_cons (ds_set (i := 5) sc_law_due.nd rfl (by first | exact Or.inl rfl | exact Or.inr rfl) (de_lst (da_cons (de_fn h_law_mixed (by decide) hr hG (by rfl) (da_cons (de_pv (pv 4)) (da_cons (de_pv (pv 0)) (da_cons (de_pv (pv 2)) (da_cons (de_pv (pv 1)) da_nil))))) (da_cons (de_fn h_law_mixed (by decide) hr hG (by rfl) (da_cons (de_pv (pv 4)) (da_cons (de_pv (pv 0)) (da_cons (de_sub de_int (de_pv (pv 2))) (da_cons (de_pv (pv 1)) da_nil))))) da_nil)))) (dss_one (ds_ret (de_tuple (by rfl) z_tuple (da_cons (de_sortR hr (by rfl) z_sorted (da_cons (de_lc (own := [("_law_row", 6)]) rfl sc_law_due.nd (di_list (de_pv (pv 5))) (blkOk_by (N := ["_law_one", "_law_two", "_law_first", "_law_second", "_law_root_here", "_law_rows", "_law_row"]) (sc := defScope s_law_due) (by decide +kernel)) (fun _ _ _ _ _ => (dg_name (pg_name (i := 6) sc_law_due.nd rfl (by first | exact Or.inl rfl | exact Or.inr rfl)) (by decide))) (fun _ _ _ _ _ => (dts_one (dt_gt (de_fn h_law_d (by decide) hr hG (by rfl) (da_cons (de_pv (pv 6)) da_nil)) de_int))) (fun _ _ _ _ _ => (de_fn h_law_form (by decide) hr hG (by rfl) (da_cons (de_pv (pv 6)) da_nil)))) da_nil)) da_nil))))))))
theorem ok_law_image {f : Addr} {fd : FuncData} (F : Fun K "_law_image" "_law_image" s_law_image f fd) (h_law_form : Cl P wd K mg base 3 "_law_form" ["_law_row"] (spP K 1 c_law_form)) (h_law_mixed : Cl P wd K mg base 1 "_law_mixed" ["_law_x", "_law_one", "_law_y", "_law_two"] (spP K 4 c_law_mixed)) (h_law_d : Cl P wd K mg base 1 "_law_d" ["_law_row"] (spP K 1 c_law_d)) (h_law_j : Cl P wd K mg base 1 "_law_j" ["_law_one", "_law_two"] (spP K 2 c_law_j)) : FnG P wd K mg base CX0 4 f fd ["_law_row", "_law_one"] (spP K 2 c_law_image) := by
  refine okP (k := 3) (m := 0) (w := w_law_image) F sc_law_image rfl rfl (fun c cdv A outer s H E hG hr => ?_) sem_law_image
  exact (dss_one (ds_ret (de_fn h_law_form (by decide) hr hG (by rfl) (da_cons (de_fn h_law_mixed (by decide) hr hG (by rfl) (da_cons (de_fn h_law_d (by decide) hr hG (by rfl) (da_cons (de_pv (pv 0)) da_nil)) (da_cons (de_pv (pv 1)) (da_cons (de_sub de_int (de_mul de_int (de_fn h_law_j (by decide) hr hG (by rfl) (da_cons (de_pv (pv 0)) (da_cons (de_pv (pv 1)) da_nil))))) (da_cons (de_pv (pv 0)) da_nil))))) da_nil))))
theorem ok_law_told {f : Addr} {fd : FuncData} (F : Fun K "_law_told" "_law_told" s_law_told f fd) (h_law_due : Cl P wd K mg base 4 "_law_due" ["_law_one", "_law_two"] (spP K 2 c_law_due)) (h_law_shared : Cl P wd K mg base 2 "_law_shared" ["_law_one", "_law_two"] (spP K 2 c_law_shared)) (h_exchanging : Cl P wd K mg base 7 "exchanging" ["circle", "other"] (spP K 2 c_exchanging)) (h_count_exchanging : Cl P wd K mg base 9 "count_exchanging" ["circle", "other"] (spP K 2 c_count_exchanging)) (h_law_image : Cl P wd K mg base 4 "_law_image" ["_law_row", "_law_one"] (spP K 2 c_law_image)) (h_mirrored_round : Cl P wd K mg base 7 "mirrored_round" ["circle", "other"] (spP K 2 c_mirrored_round)) (w_exchanging : ClKs P wd K mg base 7 "exchanging" ["circle", "other"] ["other", "circle"] (spP K 2 c_exchanging)) (w_count_exchanging : ClKs P wd K mg base 9 "count_exchanging" ["circle", "other"] ["other", "circle"] (spP K 2 c_count_exchanging)) (z_repr : mg "repr" = none) : FnG P wd K mg base CX0 10 f fd ["_law_one", "_law_two"] (spP K 2 c_law_told) := by
  refine okP (k := 9) (m := 4) (w := w_law_told) F sc_law_told rfl rfl (fun c cdv A outer s H E hG hr => ?_) sem_law_told
  exact (dss_cons (ds_par (i := 2) (j := 3) rfl sc_law_told.nd rfl rfl (by decide) rfl rfl (da_cons (de_fn h_law_due (by decide) hr hG (by rfl) (da_cons (de_pv (pv 0)) (da_cons (de_pv (pv 1)) da_nil))) (da_cons (de_if (dt_eq hr (de_fn h_law_shared (by decide) hr hG (by rfl) (da_cons (de_pv (pv 0)) (da_cons (de_pv (pv 1)) da_nil))) de_int) de_int de_int) da_nil)) rfl) (dss_cons (ds_set (i := 4) sc_law_told.nd rfl (by first | exact Or.inl rfl | exact Or.inr rfl) (de_lst (da_cons (de_fn h_exchanging (by decide) hr hG (by rfl) (da_cons (de_pv (pv 0)) (da_cons (de_pv (pv 1)) da_nil))) (da_cons (de_fnKs w_exchanging (by decide) hr hG (by rfl) (dk_cons (de_pv (pv 0)) (dk_cons (de_pv (pv 1)) dk_nil))) da_nil)))) (dss_cons (ds_if (dt_ne hr (de_repr hr hG (by rfl) z_repr (da_cons (de_cat (de_pv (pv 4)) (de_lst (da_cons (de_fn h_count_exchanging (by decide) hr hG (by rfl) (da_cons (de_pv (pv 0)) (da_cons (de_pv (pv 1)) da_nil))) (da_cons (de_fnKs w_count_exchanging (by decide) hr hG (by rfl) (dk_cons (de_pv (pv 0)) (dk_cons (de_pv (pv 1)) dk_nil))) da_nil)))) da_nil)) (de_repr hr hG (by rfl) z_repr (da_cons (de_lst (da_cons (de_pv (pv 2)) (da_cons (de_pv (pv 2)) (da_cons (de_pv (pv 3)) (da_cons (de_pv (pv 3)) da_nil))))) da_nil))) (dss_one (ds_ret de_bl)) dss_nil) (dss_cons (ds_for (vs := [5]) PassesOwn.never rfl (di_tup (de_pv (pv 2))) (dg_name (pg_name (i := 5) sc_law_told.nd rfl (by first | exact Or.inl rfl | exact Or.inr rfl)) (by decide)) (dss_cons (ds_if (dt_w (dw_or (dt_ne hr (de_fn h_law_image (by decide) hr hG (by rfl) (da_cons (de_pv (pv 5)) (da_cons (de_pv (pv 0)) da_nil))) (de_pv (pv 1))) (dw_or1 (dt_ne hr (de_fn h_law_image (by decide) hr hG (by rfl) (da_cons (de_pv (pv 5)) (da_cons (de_pv (pv 1)) da_nil))) (de_pv (pv 0)))))) (dss_one (ds_ret de_bl)) dss_nil) (dss_one (ds_if (dt_ne hr (de_repr hr hG (by rfl) z_repr (da_cons (de_lst (da_cons (de_fn h_mirrored_round (by decide) hr hG (by rfl) (da_cons (de_pv (pv 5)) (da_cons (de_pv (pv 0)) da_nil))) (da_cons (de_fn h_mirrored_round (by decide) hr hG (by rfl) (da_cons (de_pv (pv 5)) (da_cons (de_pv (pv 1)) da_nil))) da_nil))) da_nil)) (de_repr hr hG (by rfl) z_repr (da_cons (de_lst (da_cons (de_pv (pv 1)) (da_cons (de_pv (pv 0)) da_nil))) da_nil))) (dss_one (ds_ret de_bl)) dss_nil)))) (dss_one (ds_ret de_bl))))))
theorem ok_law_right {f : Addr} {fd : FuncData} (F : Fun K "_law_right" "_law_right" s_law_right f fd) (h_law_of : Cl P wd K mg base 2 "_law_of" ["_law_well_here", "_law_some"] (spT K 2 c_law_of)) (h_law_pair : Cl P wd K mg base 5 "_law_pair" ["_law_well_here", "_law_wide"] (spT K 2 c_law_pair)) (h_law_round : Cl P wd K mg base 4 "_law_round" ["_law_well_here", "_law_wide"] (spT K 2 c_law_round)) (h_law_image : Cl P wd K mg base 4 "_law_image" ["_law_row", "_law_one"] (spP K 2 c_law_image)) (h_law_told : Cl P wd K mg base 10 "_law_told" ["_law_one", "_law_two"] (spP K 2 c_law_told)) (h_exchanging : Cl P wd K mg base 7 "exchanging" ["circle", "other"] (spP K 2 c_exchanging)) (z_min : mg "min" = none) : FnG P wd K mg base CX0 11 f fd ["_law_well_here"] (spT K 1 c_law_right) := by
  refine okT (k := 10) (m := 6) (w := w_law_right) F sc_law_right rfl rfl (fun c cdv A outer s H E hG hr => ?_) sem_law_right
  exact (dss_cons (ds_set (i := 1) sc_law_right.nd rfl (by first | exact Or.inl rfl | exact Or.inr rfl) (de_fnT (i := 0) h_law_of (by decide) hr hG (by rfl) (pv 0) (da_cons (de_tup (da_cons de_int (da_cons de_int (da_cons de_int (da_cons de_int (da_cons de_int (da_cons de_int (da_cons de_int da_nil)))))))) da_nil))) (dss_cons (ds_asg (vs := [2, 3]) (de_fnT (i := 0) h_law_pair (by decide) hr hG (by rfl) (pv 0) (da_cons (de_min2 rfl (by rfl) z_min (da_cons (de_pv (pv 1)) (da_cons de_int da_nil))) da_nil)) (dg_lst rfl (dgs_cons (dg_name (pg_name (i := 2) sc_law_right.nd rfl (by first | exact Or.inl rfl | exact Or.inr rfl)) (by decide)) (dgs_cons (dg_name (pg_name (i := 3) sc_law_right.nd rfl (by first | exact Or.inl rfl | exact Or.inr rfl)) (by decide)) dgs_nil)))) (dss_cons (ds_par (i := 4) (j := 5) rfl sc_law_right.nd rfl rfl (by decide) rfl rfl (da_cons (de_fnT (i := 0) h_law_round (by decide) hr hG (by rfl) (pv 0) (da_cons (de_pv (pv 1)) da_nil)) (da_cons (de_fnT (i := 0) h_law_round (by decide) hr hG (by rfl) (pv 0) (da_cons (de_min2 rfl (by rfl) z_min (da_cons (de_pv (pv 1)) (da_cons de_int da_nil))) da_nil)) da_nil)) rfl) (dss_cons (ds_set (i := 6) sc_law_right.nd rfl (by first | exact Or.inl rfl | exact Or.inr rfl) (de_fn h_law_image (by decide) hr hG (by rfl) (da_cons (de_pv (pv 4)) (da_cons (de_pv (pv 5)) da_nil)))) (dss_cons (ds_if (dt_not (dt_val (de_fn h_law_told (by decide) hr hG (by rfl) (da_cons (de_pv (pv 2)) (da_cons (de_pv (pv 3)) da_nil))))) (dss_one (ds_ret de_bl)) dss_nil) (dss_one (ds_ret (de_or (de_eq hr (de_pv (pv 6)) (de_pv (pv 5))) (de_one (de_and (de_fn h_law_told (by decide) hr hG (by rfl) (da_cons (de_pv (pv 5)) (da_cons (de_pv (pv 6)) da_nil))) (de_one (de_in hr (de_pv (pv 4)) (de_fn h_exchanging (by decide) hr hG (by rfl) (da_cons (de_pv (pv 5)) (da_cons (de_pv (pv 6)) da_nil)))))))))))))))
theorem ok_law {f : Addr} {fd : FuncData} (F : Fun K "law" "law" s_law f fd) (h_law_rounds : Cl P wd K mg base 1 "_law_rounds" ["_law_script"] (spP K 1 c_law_rounds)) (h_law_right : Cl P wd K mg base 11 "_law_right" ["_law_well_here"] (spT K 1 c_law_right)) (h_law_well : Cl P wd K mg base 1 "_law_well" ["_law_script", "_law_spot"] (spF K 2 c_law_well)) (z_range : mg "range" = none) : FnG P wd K mg base CX0 12 f fd ["_law_script"] (spP K 1 c_law) := by
  refine okP (k := 11) (m := 1) (w := w_law) F sc_law rfl rfl (fun c cdv A outer s H E hG hr => ?_) sem_law
  exact (dss_cons (ds_for (vs := [1]) PassesOwn.never rfl (di_rng1 (by rfl) z_range (da_cons (de_fn h_law_rounds (by decide) hr hG (by rfl) (da_cons (de_pv (pv 0)) da_nil)) da_nil)) (dg_name (pg_name (i := 1) sc_law.nd rfl (by first | exact Or.inl rfl | exact Or.inr rfl)) (by decide)) (dss_one (ds_if (dt_not (dt_val (de_fnF h_law_right h_law_well (by decide) (by decide) hr hG (by rfl) (by rfl) (da_cons (de_pv (pv 0)) (da_cons (de_pv (pv 1)) da_nil))))) (dss_one (ds_ret de_bl)) dss_nil))) (dss_one (ds_ret de_bl)))
end
theorem all_mk {P : Program} {wd : World} {K : PySem.W.Frag} {h : Heap} {mg : Str → Option Value} {fa : Addr} (X : K.In h) (G : h.Ns mainGlobals mg) (hfa : mg "law" = some (.ref fa))
    {f0 : Addr} {od0 an0 : Option Addr} {sl0 : Array (Option Value)} {oc0 kV0 dc0 pm0 cd0 ct0 : Value}
    {f1 : Addr} {od1 an1 : Option Addr} {sl1 : Array (Option Value)} {oc1 kV1 dc1 pm1 cd1 ct1 : Value}
    {f2 : Addr} {od2 an2 : Option Addr} {sl2 : Array (Option Value)} {oc2 kV2 dc2 pm2 cd2 ct2 : Value}
    {f3 : Addr} {od3 an3 : Option Addr} {sl3 : Array (Option Value)} {oc3 kV3 dc3 pm3 cd3 ct3 : Value}
    {f4 : Addr} {od4 an4 : Option Addr} {sl4 : Array (Option Value)} {oc4 kV4 dc4 pm4 cd4 ct4 : Value}
    {f5 : Addr} {od5 an5 : Option Addr} {sl5 : Array (Option Value)} {oc5 kV5 dc5 pm5 cd5 ct5 : Value}
    {f6 : Addr} {od6 an6 : Option Addr} {sl6 : Array (Option Value)} {oc6 kV6 dc6 pm6 cd6 ct6 : Value}
    {f7 : Addr} {od7 an7 : Option Addr} {sl7 : Array (Option Value)} {oc7 kV7 dc7 pm7 cd7 ct7 : Value}
    {f8 : Addr} {od8 an8 : Option Addr} {sl8 : Array (Option Value)} {oc8 kV8 dc8 pm8 cd8 ct8 : Value}
    {f9 : Addr} {od9 an9 : Option Addr} {sl9 : Array (Option Value)} {oc9 kV9 dc9 pm9 cd9 ct9 : Value}
    {f10 : Addr} {od10 an10 : Option Addr} {sl10 : Array (Option Value)} {oc10 kV10 dc10 pm10 cd10 ct10 : Value}
    {f11 : Addr} {od11 an11 : Option Addr} {sl11 : Array (Option Value)} {oc11 kV11 dc11 pm11 cd11 ct11 : Value}
    {f12 : Addr} {od12 an12 : Option Addr} {sl12 : Array (Option Value)} {oc12 kV12 dc12 pm12 cd12 ct12 : Value}
    {f13 : Addr} {od13 an13 : Option Addr} {sl13 : Array (Option Value)} {oc13 kV13 dc13 pm13 cd13 ct13 : Value}
    {f14 : Addr} {od14 an14 : Option Addr} {sl14 : Array (Option Value)} {oc14 kV14 dc14 pm14 cd14 ct14 : Value}
    {f15 : Addr} {od15 an15 : Option Addr} {sl15 : Array (Option Value)} {oc15 kV15 dc15 pm15 cd15 ct15 : Value}
    {f16 : Addr} {od16 an16 : Option Addr} {sl16 : Array (Option Value)} {oc16 kV16 dc16 pm16 cd16 ct16 : Value}
    {f17 : Addr} {od17 an17 : Option Addr} {sl17 : Array (Option Value)} {oc17 kV17 dc17 pm17 cd17 ct17 : Value}
    {f18 : Addr} {od18 an18 : Option Addr} {sl18 : Array (Option Value)} {oc18 kV18 dc18 pm18 cd18 ct18 : Value}
    {f19 : Addr} {od19 an19 : Option Addr} {sl19 : Array (Option Value)} {oc19 kV19 dc19 pm19 cd19 ct19 : Value}
    {f20 : Addr} {od20 an20 : Option Addr} {sl20 : Array (Option Value)} {oc20 kV20 dc20 pm20 cd20 ct20 : Value}
    {f21 : Addr} {od21 an21 : Option Addr} {sl21 : Array (Option Value)} {oc21 kV21 dc21 pm21 cd21 ct21 : Value}
    {f22 : Addr} {od22 an22 : Option Addr} {sl22 : Array (Option Value)} {oc22 kV22 dc22 pm22 cd22 ct22 : Value}
    {f23 : Addr} {od23 an23 : Option Addr} {sl23 : Array (Option Value)} {oc23 kV23 dc23 pm23 cd23 ct23 : Value}
    {f24 : Addr} {od24 an24 : Option Addr} {sl24 : Array (Option Value)} {oc24 kV24 dc24 pm24 cd24 ct24 : Value}
    {f25 : Addr} {od25 an25 : Option Addr} {sl25 : Array (Option Value)} {oc25 kV25 dc25 pm25 cd25 ct25 : Value}
    {f26 : Addr} {od26 an26 : Option Addr} {sl26 : Array (Option Value)} {oc26 kV26 dc26 pm26 cd26 ct26 : Value}
    {f27 : Addr} {od27 an27 : Option Addr} {sl27 : Array (Option Value)} {oc27 kV27 dc27 pm27 cd27 ct27 : Value}
    {f28 : Addr} {od28 an28 : Option Addr} {sl28 : Array (Option Value)} {oc28 kV28 dc28 pm28 cd28 ct28 : Value}
    {f29 : Addr} {od29 an29 : Option Addr} {sl29 : Array (Option Value)} {oc29 kV29 dc29 pm29 cd29 ct29 : Value}
    {f30 : Addr} {od30 an30 : Option Addr} {sl30 : Array (Option Value)} {oc30 kV30 dc30 pm30 cd30 ct30 : Value}
    {f31 : Addr} {od31 an31 : Option Addr} {sl31 : Array (Option Value)} {oc31 kV31 dc31 pm31 cd31 ct31 : Value}
    {f32 : Addr} {od32 an32 : Option Addr} {sl32 : Array (Option Value)} {oc32 kV32 dc32 pm32 cd32 ct32 : Value}
    {f33 : Addr} {od33 an33 : Option Addr} {sl33 : Array (Option Value)} {oc33 kV33 dc33 pm33 cd33 ct33 : Value}
    {f34 : Addr} {od34 an34 : Option Addr} {sl34 : Array (Option Value)} {oc34 kV34 dc34 pm34 cd34 ct34 : Value}
    {f35 : Addr} {od35 an35 : Option Addr} {sl35 : Array (Option Value)} {oc35 kV35 dc35 pm35 cd35 ct35 : Value}
    {f36 : Addr} {od36 an36 : Option Addr} {sl36 : Array (Option Value)} {oc36 kV36 dc36 pm36 cd36 ct36 : Value}
    {f37 : Addr} {od37 an37 : Option Addr} {sl37 : Array (Option Value)} {oc37 kV37 dc37 pm37 cd37 ct37 : Value}
    {f38 : Addr} {od38 an38 : Option Addr} {sl38 : Array (Option Value)} {oc38 kV38 dc38 pm38 cd38 ct38 : Value}
    {f39 : Addr} {od39 an39 : Option Addr} {sl39 : Array (Option Value)} {oc39 kV39 dc39 pm39 cd39 ct39 : Value}
    {f40 : Addr} {od40 an40 : Option Addr} {sl40 : Array (Option Value)} {oc40 kV40 dc40 pm40 cd40 ct40 : Value}
    {f41 : Addr} {od41 an41 : Option Addr} {sl41 : Array (Option Value)} {oc41 kV41 dc41 pm41 cd41 ct41 : Value}
    {f42 : Addr} {od42 an42 : Option Addr} {sl42 : Array (Option Value)} {oc42 kV42 dc42 pm42 cd42 ct42 : Value}
    {f43 : Addr} {od43 an43 : Option Addr} {sl43 : Array (Option Value)} {oc43 kV43 dc43 pm43 cd43 ct43 : Value}
    {f44 : Addr} {od44 an44 : Option Addr} {sl44 : Array (Option Value)} {oc44 kV44 dc44 pm44 cd44 ct44 : Value}
    {f45 : Addr} {od45 an45 : Option Addr} {sl45 : Array (Option Value)} {oc45 kV45 dc45 pm45 cd45 ct45 : Value}
    {f46 : Addr} {od46 an46 : Option Addr} {sl46 : Array (Option Value)} {oc46 kV46 dc46 pm46 cd46 ct46 : Value}
    {f47 : Addr} {od47 an47 : Option Addr} {sl47 : Array (Option Value)} {oc47 kV47 dc47 pm47 cd47 ct47 : Value}
    {f48 : Addr} {od48 an48 : Option Addr} {sl48 : Array (Option Value)} {oc48 kV48 dc48 pm48 cd48 ct48 : Value}
    {f49 : Addr} {od49 an49 : Option Addr} {sl49 : Array (Option Value)} {oc49 kV49 dc49 pm49 cd49 ct49 : Value}
    {f50 : Addr} {od50 an50 : Option Addr} {sl50 : Array (Option Value)} {oc50 kV50 dc50 pm50 cd50 ct50 : Value}
    {f51 : Addr} {od51 an51 : Option Addr} {sl51 : Array (Option Value)} {oc51 kV51 dc51 pm51 cd51 ct51 : Value}
    {f52 : Addr} {od52 an52 : Option Addr} {sl52 : Array (Option Value)} {oc52 kV52 dc52 pm52 cd52 ct52 : Value}
    {f53 : Addr} {od53 an53 : Option Addr} {sl53 : Array (Option Value)} {oc53 kV53 dc53 pm53 cd53 ct53 : Value}
    {f54 : Addr} {od54 an54 : Option Addr} {sl54 : Array (Option Value)} {oc54 kV54 dc54 pm54 cd54 ct54 : Value}
    {ga_NULL : Addr} {gd_NULL : Option Addr} {gs_NULL : Array (Option Value)} {gn_NULL : Nat} {gt0_NULL : Tok} {gt1_NULL : Tok} {gt2_NULL : Tok} {gt3_NULL : Tok}
    {gt0_0_KINDS : Tok}
    {gt0_1_KINDS : Tok}
    {gt0_2_KINDS : Tok}
    {ga_KINDS_0 : Addr} {gd_KINDS_0 : Option Addr} {gs_KINDS_0 : Array (Option Value)} {gn_KINDS_0 : Nat}
    (a0 : PySem.W.nsIn K mainGlobals "is_whole" = some (some (.ref f0)))
    (l0 : K.lookup f0 = some ⟨oc0, od0, .func (PySem.W.fnOf "is_whole" "is_whole" (defArgs s_is_whole) (defBody s_is_whole) (defScope s_is_whole) .none kV0 dc0 pm0 an0 cd0 ct0), sl0⟩)
    (c0 : PySem.W.codeIn K cd0 "is_whole" = true)
    (k0 : PySem.W.keepIn K (.ref f0) = true)
    (a1 : PySem.W.nsIn K mainGlobals "are_wholes" = some (some (.ref f1)))
    (l1 : K.lookup f1 = some ⟨oc1, od1, .func (PySem.W.fnOf "are_wholes" "are_wholes" (defArgs s_are_wholes) (defBody s_are_wholes) (defScope s_are_wholes) .none kV1 dc1 pm1 an1 cd1 ct1), sl1⟩)
    (c1 : PySem.W.codeIn K cd1 "are_wholes" = true)
    (k1 : PySem.W.keepIn K (.ref f1) = true)
    (a2 : PySem.W.nsIn K mainGlobals "common_of" = some (some (.ref f2)))
    (l2 : K.lookup f2 = some ⟨oc2, od2, .func (PySem.W.fnOf "common_of" "common_of" (defArgs s_common_of) (defBody s_common_of) (defScope s_common_of) .none kV2 dc2 pm2 an2 cd2 ct2), sl2⟩)
    (c2 : PySem.W.codeIn K cd2 "common_of" = true)
    (k2 : PySem.W.keepIn K (.ref f2) = true)
    (a3 : PySem.W.nsIn K mainGlobals "reduced" = some (some (.ref f3)))
    (l3 : K.lookup f3 = some ⟨oc3, od3, .func (PySem.W.fnOf "reduced" "reduced" (defArgs s_reduced) (defBody s_reduced) (defScope s_reduced) .none kV3 dc3 pm3 an3 cd3 ct3), sl3⟩)
    (c3 : PySem.W.codeIn K cd3 "reduced" = true)
    (k3 : PySem.W.keepIn K (.ref f3) = true)
    (a4 : PySem.W.nsIn K mainGlobals "sign_of" = some (some (.ref f4)))
    (l4 : K.lookup f4 = some ⟨oc4, od4, .func (PySem.W.fnOf "sign_of" "sign_of" (defArgs s_sign_of) (defBody s_sign_of) (defScope s_sign_of) .none kV4 dc4 pm4 an4 cd4 ct4), sl4⟩)
    (c4 : PySem.W.codeIn K cd4 "sign_of" = true)
    (k4 : PySem.W.keepIn K (.ref f4) = true)
    (a5 : PySem.W.nsIn K mainGlobals "whole_root" = some (some (.ref f5)))
    (l5 : K.lookup f5 = some ⟨oc5, od5, .func (PySem.W.fnOf "whole_root" "whole_root" (defArgs s_whole_root) (defBody s_whole_root) (defScope s_whole_root) .none kV5 dc5 pm5 an5 cd5 ct5), sl5⟩)
    (c5 : PySem.W.codeIn K cd5 "whole_root" = true)
    (k5 : PySem.W.keepIn K (.ref f5) = true)
    (a6 : PySem.W.nsIn K mainGlobals "paired" = some (some (.ref f6)))
    (l6 : K.lookup f6 = some ⟨oc6, od6, .func (PySem.W.fnOf "paired" "paired" (defArgs s_paired) (defBody s_paired) (defScope s_paired) .none kV6 dc6 pm6 an6 cd6 ct6), sl6⟩)
    (c6 : PySem.W.codeIn K cd6 "paired" = true)
    (k6 : PySem.W.keepIn K (.ref f6) = true)
    (a7 : PySem.W.nsIn K mainGlobals "is_row" = some (some (.ref f7)))
    (l7 : K.lookup f7 = some ⟨oc7, od7, .func (PySem.W.fnOf "is_row" "is_row" (defArgs s_is_row) (defBody s_is_row) (defScope s_is_row) .none kV7 dc7 pm7 an7 cd7 ct7), sl7⟩)
    (c7 : PySem.W.codeIn K cd7 "is_row" = true)
    (k7 : PySem.W.keepIn K (.ref f7) = true)
    (a8 : PySem.W.nsIn K mainGlobals "is_round" = some (some (.ref f8)))
    (l8 : K.lookup f8 = some ⟨oc8, od8, .func (PySem.W.fnOf "is_round" "is_round" (defArgs s_is_round) (defBody s_is_round) (defScope s_is_round) .none kV8 dc8 pm8 an8 cd8 ct8), sl8⟩)
    (c8 : PySem.W.codeIn K cd8 "is_round" = true)
    (k8 : PySem.W.keepIn K (.ref f8) = true)
    (a9 : PySem.W.nsIn K mainGlobals "require_round" = some (some (.ref f9)))
    (l9 : K.lookup f9 = some ⟨oc9, od9, .func (PySem.W.fnOf "require_round" "require_round" (defArgs s_require_round) (defBody s_require_round) (defScope s_require_round) .none kV9 dc9 pm9 an9 cd9 ct9), sl9⟩)
    (c9 : PySem.W.codeIn K cd9 "require_round" = true)
    (k9 : PySem.W.keepIn K (.ref f9) = true)
    (a10 : PySem.W.nsIn K mainGlobals "require_both_rounds" = some (some (.ref f10)))
    (l10 : K.lookup f10 = some ⟨oc10, od10, .func (PySem.W.fnOf "require_both_rounds" "require_both_rounds" (defArgs s_require_both_rounds) (defBody s_require_both_rounds) (defScope s_require_both_rounds) .none kV10 dc10 pm10 an10 cd10 ct10), sl10⟩)
    (c10 : PySem.W.codeIn K cd10 "require_both_rounds" = true)
    (k10 : PySem.W.keepIn K (.ref f10) = true)
    (a11 : PySem.W.nsIn K mainGlobals "require_unlike_rounds" = some (some (.ref f11)))
    (l11 : K.lookup f11 = some ⟨oc11, od11, .func (PySem.W.fnOf "require_unlike_rounds" "require_unlike_rounds" (defArgs s_require_unlike_rounds) (defBody s_require_unlike_rounds) (defScope s_require_unlike_rounds) .none kV11 dc11 pm11 an11 cd11 ct11), sl11⟩)
    (c11 : PySem.W.codeIn K cd11 "require_unlike_rounds" = true)
    (k11 : PySem.W.keepIn K (.ref f11) = true)
    (a12 : PySem.W.nsIn K mainGlobals "opposite" = some (some (.ref f12)))
    (l12 : K.lookup f12 = some ⟨oc12, od12, .func (PySem.W.fnOf "opposite" "opposite" (defArgs s_opposite) (defBody s_opposite) (defScope s_opposite) .none kV12 dc12 pm12 an12 cd12 ct12), sl12⟩)
    (c12 : PySem.W.codeIn K cd12 "opposite" = true)
    (k12 : PySem.W.keepIn K (.ref f12) = true)
    (a13 : PySem.W.nsIn K mainGlobals "round_from" = some (some (.ref f13)))
    (l13 : K.lookup f13 = some ⟨oc13, od13, .func (PySem.W.fnOf "round_from" "round_from" (defArgs s_round_from) (defBody s_round_from) (defScope s_round_from) .none kV13 dc13 pm13 an13 cd13 ct13), sl13⟩)
    (c13 : PySem.W.codeIn K cd13 "round_from" = true)
    (k13 : PySem.W.keepIn K (.ref f13) = true)
    (a14 : PySem.W.nsIn K mainGlobals "mixed" = some (some (.ref f14)))
    (l14 : K.lookup f14 = some ⟨oc14, od14, .func (PySem.W.fnOf "mixed" "mixed" (defArgs s_mixed) (defBody s_mixed) (defScope s_mixed) .none kV14 dc14 pm14 an14 cd14 ct14), sl14⟩)
    (c14 : PySem.W.codeIn K cd14 "mixed" = true)
    (k14 : PySem.W.keepIn K (.ref f14) = true)
    (a15 : PySem.W.nsIn K mainGlobals "_crossing_parts" = some (some (.ref f15)))
    (l15 : K.lookup f15 = some ⟨oc15, od15, .func (PySem.W.fnOf "_crossing_parts" "_crossing_parts" (defArgs s_crossing_parts) (defBody s_crossing_parts) (defScope s_crossing_parts) .none kV15 dc15 pm15 an15 cd15 ct15), sl15⟩)
    (c15 : PySem.W.codeIn K cd15 "_crossing_parts" = true)
    (k15 : PySem.W.keepIn K (.ref f15) = true)
    (a16 : PySem.W.nsIn K mainGlobals "shared" = some (some (.ref f16)))
    (l16 : K.lookup f16 = some ⟨oc16, od16, .func (PySem.W.fnOf "shared" "shared" (defArgs s_shared) (defBody s_shared) (defScope s_shared) .none kV16 dc16 pm16 an16 cd16 ct16), sl16⟩)
    (c16 : PySem.W.codeIn K cd16 "shared" = true)
    (k16 : PySem.W.keepIn K (.ref f16) = true)
    (a17 : PySem.W.nsIn K mainGlobals "mirrored_round" = some (some (.ref f17)))
    (l17 : K.lookup f17 = some ⟨oc17, od17, .func (PySem.W.fnOf "mirrored_round" "mirrored_round" (defArgs s_mirrored_round) (defBody s_mirrored_round) (defScope s_mirrored_round) .none kV17 dc17 pm17 an17 cd17 ct17), sl17⟩)
    (c17 : PySem.W.codeIn K cd17 "mirrored_round" = true)
    (k17 : PySem.W.keepIn K (.ref f17) = true)
    (a18 : PySem.W.nsIn K mainGlobals "_is_real" = some (some (.ref f18)))
    (l18 : K.lookup f18 = some ⟨oc18, od18, .func (PySem.W.fnOf "_is_real" "_is_real" (defArgs s_is_real) (defBody s_is_real) (defScope s_is_real) .none kV18 dc18 pm18 an18 cd18 ct18), sl18⟩)
    (c18 : PySem.W.codeIn K cd18 "_is_real" = true)
    (k18 : PySem.W.keepIn K (.ref f18) = true)
    (a19 : PySem.W.nsIn K mainGlobals "pencil_kind" = some (some (.ref f19)))
    (l19 : K.lookup f19 = some ⟨oc19, od19, .func (PySem.W.fnOf "pencil_kind" "pencil_kind" (defArgs s_pencil_kind) (defBody s_pencil_kind) (defScope s_pencil_kind) .none kV19 dc19 pm19 an19 cd19 ct19), sl19⟩)
    (c19 : PySem.W.codeIn K cd19 "pencil_kind" = true)
    (k19 : PySem.W.keepIn K (.ref f19) = true)
    (a20 : PySem.W.nsIn K mainGlobals "count_exchanging" = some (some (.ref f20)))
    (l20 : K.lookup f20 = some ⟨oc20, od20, .func (PySem.W.fnOf "count_exchanging" "count_exchanging" (defArgs s_count_exchanging) (defBody s_count_exchanging) (defScope s_count_exchanging) .none kV20 dc20 pm20 an20 cd20 ct20), sl20⟩)
    (c20 : PySem.W.codeIn K cd20 "count_exchanging" = true)
    (k20 : PySem.W.keepIn K (.ref f20) = true)
    (a21 : PySem.W.nsIn K mainGlobals "exchanging" = some (some (.ref f21)))
    (l21 : K.lookup f21 = some ⟨oc21, od21, .func (PySem.W.fnOf "exchanging" "exchanging" (defArgs s_exchanging) (defBody s_exchanging) (defScope s_exchanging) .none kV21 dc21 pm21 an21 cd21 ct21), sl21⟩)
    (c21 : PySem.W.codeIn K cd21 "exchanging" = true)
    (k21 : PySem.W.keepIn K (.ref f21) = true)
    (a22 : PySem.W.nsIn K mainGlobals "_law_well" = some (some (.ref f22)))
    (l22 : K.lookup f22 = some ⟨oc22, od22, .func (PySem.W.fnOf "_law_well" "_law_well" (defArgs s_law_well) (defBody s_law_well) (defScope s_law_well) .none kV22 dc22 pm22 an22 cd22 ct22), sl22⟩)
    (c22 : PySem.W.codeIn K cd22 "_law_well" = true)
    (k22 : PySem.W.keepIn K (.ref f22) = true)
    (a23 : PySem.W.nsIn K mainGlobals "_law_dip" = some (some (.ref f23)))
    (l23 : K.lookup f23 = some ⟨oc23, od23, .func (PySem.W.fnOf "_law_dip" "_law_dip" (defArgs s_law_dip) (defBody s_law_dip) (defScope s_law_dip) .none kV23 dc23 pm23 an23 cd23 ct23), sl23⟩)
    (c23 : PySem.W.codeIn K cd23 "_law_dip" = true)
    (k23 : PySem.W.keepIn K (.ref f23) = true)
    (a24 : PySem.W.nsIn K mainGlobals "_law_of" = some (some (.ref f24)))
    (l24 : K.lookup f24 = some ⟨oc24, od24, .func (PySem.W.fnOf "_law_of" "_law_of" (defArgs s_law_of) (defBody s_law_of) (defScope s_law_of) .none kV24 dc24 pm24 an24 cd24 ct24), sl24⟩)
    (c24 : PySem.W.codeIn K cd24 "_law_of" = true)
    (k24 : PySem.W.keepIn K (.ref f24) = true)
    (a25 : PySem.W.nsIn K mainGlobals "_law_whole" = some (some (.ref f25)))
    (l25 : K.lookup f25 = some ⟨oc25, od25, .func (PySem.W.fnOf "_law_whole" "_law_whole" (defArgs s_law_whole) (defBody s_law_whole) (defScope s_law_whole) .none kV25 dc25 pm25 an25 cd25 ct25), sl25⟩)
    (c25 : PySem.W.codeIn K cd25 "_law_whole" = true)
    (k25 : PySem.W.keepIn K (.ref f25) = true)
    (a26 : PySem.W.nsIn K mainGlobals "_law_rounds" = some (some (.ref f26)))
    (l26 : K.lookup f26 = some ⟨oc26, od26, .func (PySem.W.fnOf "_law_rounds" "_law_rounds" (defArgs s_law_rounds) (defBody s_law_rounds) (defScope s_law_rounds) .none kV26 dc26 pm26 an26 cd26 ct26), sl26⟩)
    (c26 : PySem.W.codeIn K cd26 "_law_rounds" = true)
    (k26 : PySem.W.keepIn K (.ref f26) = true)
    (a27 : PySem.W.nsIn K mainGlobals "_law_gcd" = some (some (.ref f27)))
    (l27 : K.lookup f27 = some ⟨oc27, od27, .func (PySem.W.fnOf "_law_gcd" "_law_gcd" (defArgs s_law_gcd) (defBody s_law_gcd) (defScope s_law_gcd) .none kV27 dc27 pm27 an27 cd27 ct27), sl27⟩)
    (c27 : PySem.W.codeIn K cd27 "_law_gcd" = true)
    (k27 : PySem.W.keepIn K (.ref f27) = true)
    (a28 : PySem.W.nsIn K mainGlobals "_law_cut" = some (some (.ref f28)))
    (l28 : K.lookup f28 = some ⟨oc28, od28, .func (PySem.W.fnOf "_law_cut" "_law_cut" (defArgs s_law_cut) (defBody s_law_cut) (defScope s_law_cut) .none kV28 dc28 pm28 an28 cd28 ct28), sl28⟩)
    (c28 : PySem.W.codeIn K cd28 "_law_cut" = true)
    (k28 : PySem.W.keepIn K (.ref f28) = true)
    (a29 : PySem.W.nsIn K mainGlobals "_law_form" = some (some (.ref f29)))
    (l29 : K.lookup f29 = some ⟨oc29, od29, .func (PySem.W.fnOf "_law_form" "_law_form" (defArgs s_law_form) (defBody s_law_form) (defScope s_law_form) .none kV29 dc29 pm29 an29 cd29 ct29), sl29⟩)
    (c29 : PySem.W.codeIn K cd29 "_law_form" = true)
    (k29 : PySem.W.keepIn K (.ref f29) = true)
    (a30 : PySem.W.nsIn K mainGlobals "_law_root" = some (some (.ref f30)))
    (l30 : K.lookup f30 = some ⟨oc30, od30, .func (PySem.W.fnOf "_law_root" "_law_root" (defArgs s_law_root) (defBody s_law_root) (defScope s_law_root) .none kV30 dc30 pm30 an30 cd30 ct30), sl30⟩)
    (c30 : PySem.W.codeIn K cd30 "_law_root" = true)
    (k30 : PySem.W.keepIn K (.ref f30) = true)
    (a31 : PySem.W.nsIn K mainGlobals "_law_times" = some (some (.ref f31)))
    (l31 : K.lookup f31 = some ⟨oc31, od31, .func (PySem.W.fnOf "_law_times" "_law_times" (defArgs s_law_times) (defBody s_law_times) (defScope s_law_times) .none kV31 dc31 pm31 an31 cd31 ct31), sl31⟩)
    (c31 : PySem.W.codeIn K cd31 "_law_times" = true)
    (k31 : PySem.W.keepIn K (.ref f31) = true)
    (a32 : PySem.W.nsIn K mainGlobals "_law_plus" = some (some (.ref f32)))
    (l32 : K.lookup f32 = some ⟨oc32, od32, .func (PySem.W.fnOf "_law_plus" "_law_plus" (defArgs s_law_plus) (defBody s_law_plus) (defScope s_law_plus) .none kV32 dc32 pm32 an32 cd32 ct32), sl32⟩)
    (c32 : PySem.W.codeIn K cd32 "_law_plus" = true)
    (k32 : PySem.W.keepIn K (.ref f32) = true)
    (a33 : PySem.W.nsIn K mainGlobals "_law_minus" = some (some (.ref f33)))
    (l33 : K.lookup f33 = some ⟨oc33, od33, .func (PySem.W.fnOf "_law_minus" "_law_minus" (defArgs s_law_minus) (defBody s_law_minus) (defScope s_law_minus) .none kV33 dc33 pm33 an33 cd33 ct33), sl33⟩)
    (c33 : PySem.W.codeIn K cd33 "_law_minus" = true)
    (k33 : PySem.W.keepIn K (.ref f33) = true)
    (a34 : PySem.W.nsIn K mainGlobals "_law_conj" = some (some (.ref f34)))
    (l34 : K.lookup f34 = some ⟨oc34, od34, .func (PySem.W.fnOf "_law_conj" "_law_conj" (defArgs s_law_conj) (defBody s_law_conj) (defScope s_law_conj) .none kV34 dc34 pm34 an34 cd34 ct34), sl34⟩)
    (c34 : PySem.W.codeIn K cd34 "_law_conj" = true)
    (k34 : PySem.W.keepIn K (.ref f34) = true)
    (a35 : PySem.W.nsIn K mainGlobals "_law_norm" = some (some (.ref f35)))
    (l35 : K.lookup f35 = some ⟨oc35, od35, .func (PySem.W.fnOf "_law_norm" "_law_norm" (defArgs s_law_norm) (defBody s_law_norm) (defScope s_law_norm) .none kV35 dc35 pm35 an35 cd35 ct35), sl35⟩)
    (c35 : PySem.W.codeIn K cd35 "_law_norm" = true)
    (k35 : PySem.W.keepIn K (.ref f35) = true)
    (a36 : PySem.W.nsIn K mainGlobals "_law_scaled" = some (some (.ref f36)))
    (l36 : K.lookup f36 = some ⟨oc36, od36, .func (PySem.W.fnOf "_law_scaled" "_law_scaled" (defArgs s_law_scaled) (defBody s_law_scaled) (defScope s_law_scaled) .none kV36 dc36 pm36 an36 cd36 ct36), sl36⟩)
    (c36 : PySem.W.codeIn K cd36 "_law_scaled" = true)
    (k36 : PySem.W.keepIn K (.ref f36) = true)
    (a37 : PySem.W.nsIn K mainGlobals "_law_over" = some (some (.ref f37)))
    (l37 : K.lookup f37 = some ⟨oc37, od37, .func (PySem.W.fnOf "_law_over" "_law_over" (defArgs s_law_over) (defBody s_law_over) (defScope s_law_over) .none kV37 dc37 pm37 an37 cd37 ct37), sl37⟩)
    (c37 : PySem.W.codeIn K cd37 "_law_over" = true)
    (k37 : PySem.W.keepIn K (.ref f37) = true)
    (a38 : PySem.W.nsIn K mainGlobals "_law_deep" = some (some (.ref f38)))
    (l38 : K.lookup f38 = some ⟨oc38, od38, .func (PySem.W.fnOf "_law_deep" "_law_deep" (defArgs s_law_deep) (defBody s_law_deep) (defScope s_law_deep) .none kV38 dc38 pm38 an38 cd38 ct38), sl38⟩)
    (c38 : PySem.W.codeIn K cd38 "_law_deep" = true)
    (k38 : PySem.W.keepIn K (.ref f38) = true)
    (a39 : PySem.W.nsIn K mainGlobals "_law_quarter" = some (some (.ref f39)))
    (l39 : K.lookup f39 = some ⟨oc39, od39, .func (PySem.W.fnOf "_law_quarter" "_law_quarter" (defArgs s_law_quarter) (defBody s_law_quarter) (defScope s_law_quarter) .none kV39 dc39 pm39 an39 cd39 ct39), sl39⟩)
    (c39 : PySem.W.codeIn K cd39 "_law_quarter" = true)
    (k39 : PySem.W.keepIn K (.ref f39) = true)
    (a40 : PySem.W.nsIn K mainGlobals "_law_chart" = some (some (.ref f40)))
    (l40 : K.lookup f40 = some ⟨oc40, od40, .func (PySem.W.fnOf "_law_chart" "_law_chart" (defArgs s_law_chart) (defBody s_law_chart) (defScope s_law_chart) .none kV40 dc40 pm40 an40 cd40 ct40), sl40⟩)
    (c40 : PySem.W.codeIn K cd40 "_law_chart" = true)
    (k40 : PySem.W.keepIn K (.ref f40) = true)
    (a41 : PySem.W.nsIn K mainGlobals "_law_d" = some (some (.ref f41)))
    (l41 : K.lookup f41 = some ⟨oc41, od41, .func (PySem.W.fnOf "_law_d" "_law_d" (defArgs s_law_d) (defBody s_law_d) (defScope s_law_d) .none kV41 dc41 pm41 an41 cd41 ct41), sl41⟩)
    (c41 : PySem.W.codeIn K cd41 "_law_d" = true)
    (k41 : PySem.W.keepIn K (.ref f41) = true)
    (a42 : PySem.W.nsIn K mainGlobals "_law_j" = some (some (.ref f42)))
    (l42 : K.lookup f42 = some ⟨oc42, od42, .func (PySem.W.fnOf "_law_j" "_law_j" (defArgs s_law_j) (defBody s_law_j) (defScope s_law_j) .none kV42 dc42 pm42 an42 cd42 ct42), sl42⟩)
    (c42 : PySem.W.codeIn K cd42 "_law_j" = true)
    (k42 : PySem.W.keepIn K (.ref f42) = true)
    (a43 : PySem.W.nsIn K mainGlobals "_law_mixed" = some (some (.ref f43)))
    (l43 : K.lookup f43 = some ⟨oc43, od43, .func (PySem.W.fnOf "_law_mixed" "_law_mixed" (defArgs s_law_mixed) (defBody s_law_mixed) (defScope s_law_mixed) .none kV43 dc43 pm43 an43 cd43 ct43), sl43⟩)
    (c43 : PySem.W.codeIn K cd43 "_law_mixed" = true)
    (k43 : PySem.W.keepIn K (.ref f43) = true)
    (a44 : PySem.W.nsIn K mainGlobals "_law_row_back" = some (some (.ref f44)))
    (l44 : K.lookup f44 = some ⟨oc44, od44, .func (PySem.W.fnOf "_law_row_back" "_law_row_back" (defArgs s_law_row_back) (defBody s_law_row_back) (defScope s_law_row_back) .none kV44 dc44 pm44 an44 cd44 ct44), sl44⟩)
    (c44 : PySem.W.codeIn K cd44 "_law_row_back" = true)
    (k44 : PySem.W.keepIn K (.ref f44) = true)
    (a45 : PySem.W.nsIn K mainGlobals "_law_round" = some (some (.ref f45)))
    (l45 : K.lookup f45 = some ⟨oc45, od45, .func (PySem.W.fnOf "_law_round" "_law_round" (defArgs s_law_round) (defBody s_law_round) (defScope s_law_round) .none kV45 dc45 pm45 an45 cd45 ct45), sl45⟩)
    (c45 : PySem.W.codeIn K cd45 "_law_round" = true)
    (k45 : PySem.W.keepIn K (.ref f45) = true)
    (a46 : PySem.W.nsIn K mainGlobals "_law_four" = some (some (.ref f46)))
    (l46 : K.lookup f46 = some ⟨oc46, od46, .func (PySem.W.fnOf "_law_four" "_law_four" (defArgs s_law_four) (defBody s_law_four) (defScope s_law_four) .none kV46 dc46 pm46 an46 cd46 ct46), sl46⟩)
    (c46 : PySem.W.codeIn K cd46 "_law_four" = true)
    (k46 : PySem.W.keepIn K (.ref f46) = true)
    (a47 : PySem.W.nsIn K mainGlobals "_law_map" = some (some (.ref f47)))
    (l47 : K.lookup f47 = some ⟨oc47, od47, .func (PySem.W.fnOf "_law_map" "_law_map" (defArgs s_law_map) (defBody s_law_map) (defScope s_law_map) .none kV47 dc47 pm47 an47 cd47 ct47), sl47⟩)
    (c47 : PySem.W.codeIn K cd47 "_law_map" = true)
    (k47 : PySem.W.keepIn K (.ref f47) = true)
    (a48 : PySem.W.nsIn K mainGlobals "_law_shared" = some (some (.ref f48)))
    (l48 : K.lookup f48 = some ⟨oc48, od48, .func (PySem.W.fnOf "_law_shared" "_law_shared" (defArgs s_law_shared) (defBody s_law_shared) (defScope s_law_shared) .none kV48 dc48 pm48 an48 cd48 ct48), sl48⟩)
    (c48 : PySem.W.codeIn K cd48 "_law_shared" = true)
    (k48 : PySem.W.keepIn K (.ref f48) = true)
    (a49 : PySem.W.nsIn K mainGlobals "_law_pair" = some (some (.ref f49)))
    (l49 : K.lookup f49 = some ⟨oc49, od49, .func (PySem.W.fnOf "_law_pair" "_law_pair" (defArgs s_law_pair) (defBody s_law_pair) (defScope s_law_pair) .none kV49 dc49 pm49 an49 cd49 ct49), sl49⟩)
    (c49 : PySem.W.codeIn K cd49 "_law_pair" = true)
    (k49 : PySem.W.keepIn K (.ref f49) = true)
    (a50 : PySem.W.nsIn K mainGlobals "_law_due" = some (some (.ref f50)))
    (l50 : K.lookup f50 = some ⟨oc50, od50, .func (PySem.W.fnOf "_law_due" "_law_due" (defArgs s_law_due) (defBody s_law_due) (defScope s_law_due) .none kV50 dc50 pm50 an50 cd50 ct50), sl50⟩)
    (c50 : PySem.W.codeIn K cd50 "_law_due" = true)
    (k50 : PySem.W.keepIn K (.ref f50) = true)
    (a51 : PySem.W.nsIn K mainGlobals "_law_image" = some (some (.ref f51)))
    (l51 : K.lookup f51 = some ⟨oc51, od51, .func (PySem.W.fnOf "_law_image" "_law_image" (defArgs s_law_image) (defBody s_law_image) (defScope s_law_image) .none kV51 dc51 pm51 an51 cd51 ct51), sl51⟩)
    (c51 : PySem.W.codeIn K cd51 "_law_image" = true)
    (k51 : PySem.W.keepIn K (.ref f51) = true)
    (a52 : PySem.W.nsIn K mainGlobals "_law_told" = some (some (.ref f52)))
    (l52 : K.lookup f52 = some ⟨oc52, od52, .func (PySem.W.fnOf "_law_told" "_law_told" (defArgs s_law_told) (defBody s_law_told) (defScope s_law_told) .none kV52 dc52 pm52 an52 cd52 ct52), sl52⟩)
    (c52 : PySem.W.codeIn K cd52 "_law_told" = true)
    (k52 : PySem.W.keepIn K (.ref f52) = true)
    (a53 : PySem.W.nsIn K mainGlobals "_law_right" = some (some (.ref f53)))
    (l53 : K.lookup f53 = some ⟨oc53, od53, .func (PySem.W.fnOf "_law_right" "_law_right" (defArgs s_law_right) (defBody s_law_right) (defScope s_law_right) .none kV53 dc53 pm53 an53 cd53 ct53), sl53⟩)
    (c53 : PySem.W.codeIn K cd53 "_law_right" = true)
    (k53 : PySem.W.keepIn K (.ref f53) = true)
    (a54 : PySem.W.nsIn K mainGlobals "law" = some (some (.ref f54)))
    (l54 : K.lookup f54 = some ⟨oc54, od54, .func (PySem.W.fnOf "law" "law" (defArgs s_law) (defBody s_law) (defScope s_law) .none kV54 dc54 pm54 an54 cd54 ct54), sl54⟩)
    (c54 : PySem.W.codeIn K cd54 "law" = true)
    (k54 : PySem.W.keepIn K (.ref f54) = true)
    (z_isinstance : PySem.W.nsIn K mainGlobals "isinstance" = some none)
    (z_int : PySem.W.nsIn K mainGlobals "int" = some none)
    (z_bool : PySem.W.nsIn K mainGlobals "bool" = some none)
    (z_tuple : PySem.W.nsIn K mainGlobals "tuple" = some none)
    (z_len : PySem.W.nsIn K mainGlobals "len" = some none)
    (z_all : PySem.W.nsIn K mainGlobals "all" = some none)
    (z_zip : PySem.W.nsIn K mainGlobals "zip" = some none)
    (z_sorted : PySem.W.nsIn K mainGlobals "sorted" = some none)
    (z_abs : PySem.W.nsIn K mainGlobals "abs" = some none)
    (z_divmod : PySem.W.nsIn K mainGlobals "divmod" = some none)
    (z_max : PySem.W.nsIn K mainGlobals "max" = some none)
    (z_min : PySem.W.nsIn K mainGlobals "min" = some none)
    (z_range : PySem.W.nsIn K mainGlobals "range" = some none)
    (z_repr : PySem.W.nsIn K mainGlobals "repr" = some none)
    (m_gcd : PySem.W.nsIn K mainGlobals "gcd" = some (some (.builtin "math.gcd")))
    (m_isqrt : PySem.W.nsIn K mainGlobals "isqrt" = some (some (.builtin "math.isqrt")))
    (ga_NULL' : PySem.W.nsIn K mainGlobals "NULL" = some (some (.ref ga_NULL)))
    (gl_NULL' : K.lookup ga_NULL = some ⟨.type "tuple", gd_NULL, .seq #[.int 0 gt0_NULL, .int 0 gt1_NULL, .int 0 gt2_NULL, .int 0 gt3_NULL] gn_NULL, gs_NULL⟩)
    (ga_KINDS' : PySem.W.nsIn K mainGlobals "KINDS" = some (some (.ref ga_KINDS_0)))
    (gl_KINDS_0' : K.lookup ga_KINDS_0 = some ⟨.type "tuple", gd_KINDS_0, .seq #[.str (PySem.Str.ofString "about") gt0_0_KINDS, .str (PySem.Str.ofString "touching") gt0_1_KINDS, .str (PySem.Str.ofString "through") gt0_2_KINDS] gn_KINDS_0, gs_KINDS_0⟩)
    : ∃ fd : FuncData, (∀ (s : Shared) (u : Value), BindsTo s fd ⟨[u], []⟩ [("_law_script", u)]) ∧ ∀ base : Heap, K.In base → base.Ns mainGlobals mg → FnG P wd K mg base CX0 12 fa fd ["_law_script"] (spP K 1 c_law) := by
  have e := hfa.symm.trans (PySem.W.mg_of X G a54)
  cases e
  have F0 := fun_mk (st := s_is_whole) l0 c0 k0
  have F1 := fun_mk (st := s_are_wholes) l1 c1 k1
  have F2 := fun_mk (st := s_common_of) l2 c2 k2
  have F3 := fun_mk (st := s_reduced) l3 c3 k3
  have F4 := fun_mk (st := s_sign_of) l4 c4 k4
  have F5 := fun_mk (st := s_whole_root) l5 c5 k5
  have F6 := fun_mk (st := s_paired) l6 c6 k6
  have F7 := fun_mk (st := s_is_row) l7 c7 k7
  have F8 := fun_mk (st := s_is_round) l8 c8 k8
  have F9 := fun_mk (st := s_require_round) l9 c9 k9
  have F10 := fun_mk (st := s_require_both_rounds) l10 c10 k10
  have F11 := fun_mk (st := s_require_unlike_rounds) l11 c11 k11
  have F12 := fun_mk (st := s_opposite) l12 c12 k12
  have F13 := fun_mk (st := s_round_from) l13 c13 k13
  have F14 := fun_mk (st := s_mixed) l14 c14 k14
  have F15 := fun_mk (st := s_crossing_parts) l15 c15 k15
  have F16 := fun_mk (st := s_shared) l16 c16 k16
  have F17 := fun_mk (st := s_mirrored_round) l17 c17 k17
  have F18 := fun_mk (st := s_is_real) l18 c18 k18
  have F19 := fun_mk (st := s_pencil_kind) l19 c19 k19
  have F20 := fun_mk (st := s_count_exchanging) l20 c20 k20
  have F21 := fun_mk (st := s_exchanging) l21 c21 k21
  have F22 := fun_mk (st := s_law_well) l22 c22 k22
  have F23 := fun_mk (st := s_law_dip) l23 c23 k23
  have F24 := fun_mk (st := s_law_of) l24 c24 k24
  have F25 := fun_mk (st := s_law_whole) l25 c25 k25
  have F26 := fun_mk (st := s_law_rounds) l26 c26 k26
  have F27 := fun_mk (st := s_law_gcd) l27 c27 k27
  have F28 := fun_mk (st := s_law_cut) l28 c28 k28
  have F29 := fun_mk (st := s_law_form) l29 c29 k29
  have F30 := fun_mk (st := s_law_root) l30 c30 k30
  have F31 := fun_mk (st := s_law_times) l31 c31 k31
  have F32 := fun_mk (st := s_law_plus) l32 c32 k32
  have F33 := fun_mk (st := s_law_minus) l33 c33 k33
  have F34 := fun_mk (st := s_law_conj) l34 c34 k34
  have F35 := fun_mk (st := s_law_norm) l35 c35 k35
  have F36 := fun_mk (st := s_law_scaled) l36 c36 k36
  have F37 := fun_mk (st := s_law_over) l37 c37 k37
  have F38 := fun_mk (st := s_law_deep) l38 c38 k38
  have F39 := fun_mk (st := s_law_quarter) l39 c39 k39
  have F40 := fun_mk (st := s_law_chart) l40 c40 k40
  have F41 := fun_mk (st := s_law_d) l41 c41 k41
  have F42 := fun_mk (st := s_law_j) l42 c42 k42
  have F43 := fun_mk (st := s_law_mixed) l43 c43 k43
  have F44 := fun_mk (st := s_law_row_back) l44 c44 k44
  have F45 := fun_mk (st := s_law_round) l45 c45 k45
  have F46 := fun_mk (st := s_law_four) l46 c46 k46
  have F47 := fun_mk (st := s_law_map) l47 c47 k47
  have F48 := fun_mk (st := s_law_shared) l48 c48 k48
  have F49 := fun_mk (st := s_law_pair) l49 c49 k49
  have F50 := fun_mk (st := s_law_due) l50 c50 k50
  have F51 := fun_mk (st := s_law_image) l51 c51 k51
  have F52 := fun_mk (st := s_law_told) l52 c52 k52
  have F53 := fun_mk (st := s_law_right) l53 c53 k53
  have F54 := fun_mk (st := s_law) l54 c54 k54
  have z_isinstance := PySem.W.mg_none_of X G z_isinstance
  have z_int := PySem.W.mg_none_of X G z_int
  have z_bool := PySem.W.mg_none_of X G z_bool
  have z_tuple := PySem.W.mg_none_of X G z_tuple
  have z_len := PySem.W.mg_none_of X G z_len
  have z_all := PySem.W.mg_none_of X G z_all
  have z_zip := PySem.W.mg_none_of X G z_zip
  have z_sorted := PySem.W.mg_none_of X G z_sorted
  have z_abs := PySem.W.mg_none_of X G z_abs
  have z_divmod := PySem.W.mg_none_of X G z_divmod
  have z_max := PySem.W.mg_none_of X G z_max
  have z_min := PySem.W.mg_none_of X G z_min
  have z_range := PySem.W.mg_none_of X G z_range
  have z_repr := PySem.W.mg_none_of X G z_repr
  have m_gcd := PySem.W.mg_of X G m_gcd
  have m_isqrt := PySem.W.mg_of X G m_isqrt
  have g_NULL : Gc K mg "NULL" (.tuple [(.int 0), (.int 0), (.int 0), (.int 0)]) := gc_tup (PySem.W.mg_of X G ga_NULL') gl_NULL' (Nat.le_of_ble_eq_true rfl) (fun H => .cons (.int _) (.cons (.int _) (.cons (.int _) (.cons (.int _) (.nil))))) (.cons ⟨_, rfl⟩ (.cons ⟨_, rfl⟩ (.cons ⟨_, rfl⟩ (.cons ⟨_, rfl⟩ (.nil)))))
  have g_KINDS : Gc K mg "KINDS" (.tuple [(.str (PySem.Str.ofString "about")), (.str (PySem.Str.ofString "touching")), (.str (PySem.Str.ofString "through"))]) := gc_tup (PySem.W.mg_of X G ga_KINDS') gl_KINDS_0' (Nat.le_of_ble_eq_true rfl) (fun H => (.cons (.str _) (.cons (.str _) (.cons (.str _) .nil)))) (.cons ⟨_, rfl⟩ (.cons ⟨_, rfl⟩ (.cons ⟨_, rfl⟩ .nil)))
  refine ⟨PySem.W.fnOf "law" "law" (defArgs s_law) (defBody s_law) (defScope s_law) .none kV54 dc54 pm54 an54 cd54 ct54, fun s u => .of_eq rfl, fun base _ _ => ?_⟩
  have G0 := ok_is_whole (P := P) (wd := wd) (mg := mg) (base := base) F0 z_isinstance z_int z_bool
  have h_is_whole : Cl P wd K mg base 1 "is_whole" ["value"] (spP K 1 c_is_whole) := ⟨_, _, PySem.W.mg_of X G a0, k0, F0.binds (fun _ _ _ _ _ _ us hl => match us, hl with | [_], _ => rfl), G0⟩
  have G2 := ok_common_of (P := P) (wd := wd) (mg := mg) (base := base) F2 m_gcd
  have h_common_of : Cl P wd K mg base 1 "common_of" ["numbers"] (spP K 1 c_common_of) := ⟨_, _, PySem.W.mg_of X G a2, k2, F2.binds (fun _ _ _ _ _ _ us hl => match us, hl with | [_], _ => rfl), G2⟩
  have G4 := ok_sign_of (P := P) (wd := wd) (mg := mg) (base := base) F4 
  have h_sign_of : Cl P wd K mg base 1 "sign_of" ["number"] (spP K 1 c_sign_of) := ⟨_, _, PySem.W.mg_of X G a4, k4, F4.binds (fun _ _ _ _ _ _ us hl => match us, hl with | [_], _ => rfl), G4⟩
  have G5 := ok_whole_root (P := P) (wd := wd) (mg := mg) (base := base) F5 m_isqrt
  have h_whole_root : Cl P wd K mg base 1 "whole_root" ["number"] (spP K 1 c_whole_root) := ⟨_, _, PySem.W.mg_of X G a5, k5, F5.binds (fun _ _ _ _ _ _ us hl => match us, hl with | [_], _ => rfl), G5⟩
  have G6 := ok_paired (P := P) (wd := wd) (mg := mg) (base := base) F6 
  have h_paired : Cl P wd K mg base 1 "paired" ["row", "other"] (spP K 2 c_paired) := ⟨_, _, PySem.W.mg_of X G a6, k6, F6.binds (fun _ _ _ _ _ _ us hl => match us, hl with | [_, _], _ => rfl), G6⟩
  have G11 := ok_require_unlike_rounds (P := P) (wd := wd) (mg := mg) (base := base) F11 
  have h_require_unlike_rounds : Cl P wd K mg base 1 "require_unlike_rounds" ["circle", "other"] (spP K 2 c_require_unlike_rounds) := ⟨_, _, PySem.W.mg_of X G a11, k11, F11.binds (fun _ _ _ _ _ _ us hl => match us, hl with | [_, _], _ => rfl), G11⟩
  have G12 := ok_opposite (P := P) (wd := wd) (mg := mg) (base := base) F12 z_tuple
  have h_opposite : Cl P wd K mg base 1 "opposite" ["row"] (spP K 1 c_opposite) := ⟨_, _, PySem.W.mg_of X G a12, k12, F12.binds (fun _ _ _ _ _ _ us hl => match us, hl with | [_], _ => rfl), G12⟩
  have G14 := ok_mixed (P := P) (wd := wd) (mg := mg) (base := base) F14 z_tuple z_zip
  have h_mixed : Cl P wd K mg base 1 "mixed" ["row", "many", "other", "other_many"] (spP K 4 c_mixed) := ⟨_, _, PySem.W.mg_of X G a14, k14, F14.binds (fun _ _ _ _ _ _ us hl => match us, hl with | [_, _, _, _], _ => rfl), G14⟩
  have G22 := ok_law_well (P := P) (wd := wd) (mg := mg) (base := base) F22 z_int z_len z_abs
  have h_law_well : Cl P wd K mg base 1 "_law_well" ["_law_script", "_law_spot"] (spF K 2 c_law_well) := ⟨_, _, PySem.W.mg_of X G a22, k22, F22.binds (fun _ _ _ _ _ _ us hl => match us, hl with | [_, _], _ => rfl), G22⟩
  have G23 := ok_law_dip (P := P) (wd := wd) (mg := mg) (base := base) F23 z_divmod z_int
  have h_law_dip : Cl P wd K mg base 1 "_law_dip" ["_law_well_here", "_law_many"] (spT K 2 c_law_dip) := ⟨_, _, PySem.W.mg_of X G a23, k23, F23.binds (fun _ _ _ _ _ _ us hl => match us, hl with | [_, _], _ => rfl), G23⟩
  have G26 := ok_law_rounds (P := P) (wd := wd) (mg := mg) (base := base) F26 z_max z_min z_len
  have h_law_rounds : Cl P wd K mg base 1 "_law_rounds" ["_law_script"] (spP K 1 c_law_rounds) := ⟨_, _, PySem.W.mg_of X G a26, k26, F26.binds (fun _ _ _ _ _ _ us hl => match us, hl with | [_], _ => rfl), G26⟩
  have G27 := ok_law_gcd (P := P) (wd := wd) (mg := mg) (base := base) F27 z_abs z_int
  have h_law_gcd : Cl P wd K mg base 1 "_law_gcd" ["_law_one", "_law_two"] (spP K 2 c_law_gcd) := ⟨_, _, PySem.W.mg_of X G a27, k27, F27.binds (fun _ _ _ _ _ _ us hl => match us, hl with | [_, _], _ => rfl), G27⟩
  have G30 := ok_law_root (P := P) (wd := wd) (mg := mg) (base := base) F30 z_range
  have h_law_root : Cl P wd K mg base 1 "_law_root" ["_law_number"] (spP K 1 c_law_root) := ⟨_, _, PySem.W.mg_of X G a30, k30, F30.binds (fun _ _ _ _ _ _ us hl => match us, hl with | [_], _ => rfl), G30⟩
  have G31 := ok_law_times (P := P) (wd := wd) (mg := mg) (base := base) F31 
  have h_law_times : Cl P wd K mg base 1 "_law_times" ["_law_x", "_law_y"] (spP K 2 c_law_times) := ⟨_, _, PySem.W.mg_of X G a31, k31, F31.binds (fun _ _ _ _ _ _ us hl => match us, hl with | [_, _], _ => rfl), G31⟩
  have G32 := ok_law_plus (P := P) (wd := wd) (mg := mg) (base := base) F32 
  have h_law_plus : Cl P wd K mg base 1 "_law_plus" ["_law_x", "_law_y"] (spP K 2 c_law_plus) := ⟨_, _, PySem.W.mg_of X G a32, k32, F32.binds (fun _ _ _ _ _ _ us hl => match us, hl with | [_, _], _ => rfl), G32⟩
  have G33 := ok_law_minus (P := P) (wd := wd) (mg := mg) (base := base) F33 
  have h_law_minus : Cl P wd K mg base 1 "_law_minus" ["_law_x"] (spP K 1 c_law_minus) := ⟨_, _, PySem.W.mg_of X G a33, k33, F33.binds (fun _ _ _ _ _ _ us hl => match us, hl with | [_], _ => rfl), G33⟩
  have G34 := ok_law_conj (P := P) (wd := wd) (mg := mg) (base := base) F34 
  have h_law_conj : Cl P wd K mg base 1 "_law_conj" ["_law_x"] (spP K 1 c_law_conj) := ⟨_, _, PySem.W.mg_of X G a34, k34, F34.binds (fun _ _ _ _ _ _ us hl => match us, hl with | [_], _ => rfl), G34⟩
  have G35 := ok_law_norm (P := P) (wd := wd) (mg := mg) (base := base) F35 
  have h_law_norm : Cl P wd K mg base 1 "_law_norm" ["_law_x"] (spP K 1 c_law_norm) := ⟨_, _, PySem.W.mg_of X G a35, k35, F35.binds (fun _ _ _ _ _ _ us hl => match us, hl with | [_], _ => rfl), G35⟩
  have G36 := ok_law_scaled (P := P) (wd := wd) (mg := mg) (base := base) F36 
  have h_law_scaled : Cl P wd K mg base 1 "_law_scaled" ["_law_many", "_law_x"] (spP K 2 c_law_scaled) := ⟨_, _, PySem.W.mg_of X G a36, k36, F36.binds (fun _ _ _ _ _ _ us hl => match us, hl with | [_, _], _ => rfl), G36⟩
  have G39 := ok_law_quarter (P := P) (wd := wd) (mg := mg) (base := base) F39 z_range
  have h_law_quarter : Cl P wd K mg base 1 "_law_quarter" ["_law_x"] (spP K 1 c_law_quarter) := ⟨_, _, PySem.W.mg_of X G a39, k39, F39.binds (fun _ _ _ _ _ _ us hl => match us, hl with | [_], _ => rfl), G39⟩
  have G41 := ok_law_d (P := P) (wd := wd) (mg := mg) (base := base) F41 
  have h_law_d : Cl P wd K mg base 1 "_law_d" ["_law_row"] (spP K 1 c_law_d) := ⟨_, _, PySem.W.mg_of X G a41, k41, F41.binds (fun _ _ _ _ _ _ us hl => match us, hl with | [_], _ => rfl), G41⟩
  have G42 := ok_law_j (P := P) (wd := wd) (mg := mg) (base := base) F42 
  have h_law_j : Cl P wd K mg base 1 "_law_j" ["_law_one", "_law_two"] (spP K 2 c_law_j) := ⟨_, _, PySem.W.mg_of X G a42, k42, F42.binds (fun _ _ _ _ _ _ us hl => match us, hl with | [_, _], _ => rfl), G42⟩
  have G43 := ok_law_mixed (P := P) (wd := wd) (mg := mg) (base := base) F43 z_tuple z_range
  have h_law_mixed : Cl P wd K mg base 1 "_law_mixed" ["_law_x", "_law_one", "_law_y", "_law_two"] (spP K 4 c_law_mixed) := ⟨_, _, PySem.W.mg_of X G a43, k43, F43.binds (fun _ _ _ _ _ _ us hl => match us, hl with | [_, _, _, _], _ => rfl), G43⟩
  have G1 := ok_are_wholes (P := P) (wd := wd) (mg := mg) (base := base) F1 h_is_whole z_isinstance z_tuple z_len z_all
  have h_are_wholes : Cl P wd K mg base 2 "are_wholes" ["value", "many"] (spP K 2 c_are_wholes) := ⟨_, _, PySem.W.mg_of X G a1, k1, F1.binds (fun _ _ _ _ _ _ us hl => match us, hl with | [_, _], _ => rfl), G1⟩
  have G3 := ok_reduced (P := P) (wd := wd) (mg := mg) (base := base) F3 h_common_of z_tuple
  have h_reduced : Cl P wd K mg base 2 "reduced" ["numbers"] (spP K 1 c_reduced) := ⟨_, _, PySem.W.mg_of X G a3, k3, F3.binds (fun _ _ _ _ _ _ us hl => match us, hl with | [_], _ => rfl), G3⟩
  have G15 := ok_crossing_parts (P := P) (wd := wd) (mg := mg) (base := base) F15 h_paired
  have h_crossing_parts : Cl P wd K mg base 2 "_crossing_parts" ["circle", "other"] (spP K 2 c_crossing_parts) := ⟨_, _, PySem.W.mg_of X G a15, k15, F15.binds (fun _ _ _ _ _ _ us hl => match us, hl with | [_, _], _ => rfl), G15⟩
  have G18 := ok_is_real (P := P) (wd := wd) (mg := mg) (base := base) F18 h_paired
  have h_is_real : Cl P wd K mg base 2 "_is_real" ["row"] (spP K 1 c_is_real) := ⟨_, _, PySem.W.mg_of X G a18, k18, F18.binds (fun _ _ _ _ _ _ us hl => match us, hl with | [_], _ => rfl), G18⟩
  have G24 := ok_law_of (P := P) (wd := wd) (mg := mg) (base := base) F24 h_law_dip z_len
  have h_law_of : Cl P wd K mg base 2 "_law_of" ["_law_well_here", "_law_some"] (spT K 2 c_law_of) := ⟨_, _, PySem.W.mg_of X G a24, k24, F24.binds (fun _ _ _ _ _ _ us hl => match us, hl with | [_, _], _ => rfl), G24⟩
  have G25 := ok_law_whole (P := P) (wd := wd) (mg := mg) (base := base) F25 h_law_dip
  have h_law_whole : Cl P wd K mg base 2 "_law_whole" ["_law_well_here", "_law_wide"] (spT K 2 c_law_whole) := ⟨_, _, PySem.W.mg_of X G a25, k25, F25.binds (fun _ _ _ _ _ _ us hl => match us, hl with | [_, _], _ => rfl), G25⟩
  have G28 := ok_law_cut (P := P) (wd := wd) (mg := mg) (base := base) F28 h_law_gcd z_tuple
  have h_law_cut : Cl P wd K mg base 2 "_law_cut" ["_law_numbers"] (spP K 1 c_law_cut) := ⟨_, _, PySem.W.mg_of X G a28, k28, F28.binds (fun _ _ _ _ _ _ us hl => match us, hl with | [_], _ => rfl), G28⟩
  have G37 := ok_law_over (P := P) (wd := wd) (mg := mg) (base := base) F37 h_law_norm h_law_times h_law_conj
  have h_law_over : Cl P wd K mg base 2 "_law_over" ["_law_x", "_law_y"] (spP K 2 c_law_over) := ⟨_, _, PySem.W.mg_of X G a37, k37, F37.binds (fun _ _ _ _ _ _ us hl => match us, hl with | [_, _], _ => rfl), G37⟩
  have G38 := ok_law_deep (P := P) (wd := wd) (mg := mg) (base := base) F38 h_law_norm h_law_times h_law_conj h_law_plus h_law_minus
  have h_law_deep : Cl P wd K mg base 2 "_law_deep" ["_law_x", "_law_y"] (spP K 2 c_law_deep) := ⟨_, _, PySem.W.mg_of X G a38, k38, F38.binds (fun _ _ _ _ _ _ us hl => match us, hl with | [_, _], _ => rfl), G38⟩
  have G44 := ok_law_row_back (P := P) (wd := wd) (mg := mg) (base := base) F44 h_law_norm h_law_times h_law_conj h_law_plus h_law_scaled
  have h_law_row_back : Cl P wd K mg base 2 "_law_row_back" ["_law_chart_here", "_law_row"] (spP K 2 c_law_row_back) := ⟨_, _, PySem.W.mg_of X G a44, k44, F44.binds (fun _ _ _ _ _ _ us hl => match us, hl with | [_, _], _ => rfl), G44⟩
  have G48 := ok_law_shared (P := P) (wd := wd) (mg := mg) (base := base) F48 h_law_j h_law_d
  have h_law_shared : Cl P wd K mg base 2 "_law_shared" ["_law_one", "_law_two"] (spP K 2 c_law_shared) := ⟨_, _, PySem.W.mg_of X G a48, k48, F48.binds (fun _ _ _ _ _ _ us hl => match us, hl with | [_, _], _ => rfl), G48⟩
  have G7 := ok_is_row (P := P) (wd := wd) (mg := mg) (base := base) F7 h_are_wholes h_common_of h_paired
  have h_is_row : Cl P wd K mg base 3 "is_row" ["value"] (spP K 1 c_is_row) := ⟨_, _, PySem.W.mg_of X G a7, k7, F7.binds (fun _ _ _ _ _ _ us hl => match us, hl with | [_], _ => rfl), G7⟩
  have G13 := ok_round_from (P := P) (wd := wd) (mg := mg) (base := base) F13 h_reduced h_opposite g_NULL
  have h_round_from : Cl P wd K mg base 3 "round_from" ["numbers"] (spP K 1 c_round_from) := ⟨_, _, PySem.W.mg_of X G a13, k13, F13.binds (fun _ _ _ _ _ _ us hl => match us, hl with | [_], _ => rfl), G13⟩
  have G29 := ok_law_form (P := P) (wd := wd) (mg := mg) (base := base) F29 h_law_cut z_tuple
  have h_law_form : Cl P wd K mg base 3 "_law_form" ["_law_row"] (spP K 1 c_law_form) := ⟨_, _, PySem.W.mg_of X G a29, k29, F29.binds (fun _ _ _ _ _ _ us hl => match us, hl with | [_], _ => rfl), G29⟩
  have G40 := ok_law_chart (P := P) (wd := wd) (mg := mg) (base := base) F40 h_law_deep h_law_over h_law_quarter h_law_times
  have h_law_chart : Cl P wd K mg base 3 "_law_chart" ["_law_hand", "_law_four_here"] (spP K 2 c_law_chart) := ⟨_, _, PySem.W.mg_of X G a40, k40, F40.binds (fun _ _ _ _ _ _ us hl => match us, hl with | [_, _], _ => rfl), G40⟩
  have G46 := ok_law_four (P := P) (wd := wd) (mg := mg) (base := base) F46 h_law_whole h_law_times z_range
  have h_law_four : Cl P wd K mg base 3 "_law_four" ["_law_well_here", "_law_wide"] (spT K 2 c_law_four) := ⟨_, _, PySem.W.mg_of X G a46, k46, F46.binds (fun _ _ _ _ _ _ us hl => match us, hl with | [_, _], _ => rfl), G46⟩
  have G8 := ok_is_round (P := P) (wd := wd) (mg := mg) (base := base) F8 h_is_row g_NULL
  have h_is_round : Cl P wd K mg base 4 "is_round" ["value"] (spP K 1 c_is_round) := ⟨_, _, PySem.W.mg_of X G a8, k8, F8.binds (fun _ _ _ _ _ _ us hl => match us, hl with | [_], _ => rfl), G8⟩
  have G45 := ok_law_round (P := P) (wd := wd) (mg := mg) (base := base) F45 h_law_whole h_law_dip h_law_form z_range
  have h_law_round : Cl P wd K mg base 4 "_law_round" ["_law_well_here", "_law_wide"] (spT K 2 c_law_round) := ⟨_, _, PySem.W.mg_of X G a45, k45, F45.binds (fun _ _ _ _ _ _ us hl => match us, hl with | [_, _], _ => rfl), G45⟩
  have G47 := ok_law_map (P := P) (wd := wd) (mg := mg) (base := base) F47 h_law_dip h_law_chart h_law_four
  have h_law_map : Cl P wd K mg base 4 "_law_map" ["_law_well_here", "_law_wide"] (spT K 2 c_law_map) := ⟨_, _, PySem.W.mg_of X G a47, k47, F47.binds (fun _ _ _ _ _ _ us hl => match us, hl with | [_, _], _ => rfl), G47⟩
  have G50 := ok_law_due (P := P) (wd := wd) (mg := mg) (base := base) F50 h_law_d h_law_root h_law_mixed h_law_form z_tuple z_sorted
  have h_law_due : Cl P wd K mg base 4 "_law_due" ["_law_one", "_law_two"] (spP K 2 c_law_due) := ⟨_, _, PySem.W.mg_of X G a50, k50, F50.binds (fun _ _ _ _ _ _ us hl => match us, hl with | [_, _], _ => rfl), G50⟩
  have G51 := ok_law_image (P := P) (wd := wd) (mg := mg) (base := base) F51 h_law_form h_law_mixed h_law_d h_law_j
  have h_law_image : Cl P wd K mg base 4 "_law_image" ["_law_row", "_law_one"] (spP K 2 c_law_image) := ⟨_, _, PySem.W.mg_of X G a51, k51, F51.binds (fun _ _ _ _ _ _ us hl => match us, hl with | [_, _], _ => rfl), G51⟩
  have G9 := ok_require_round (P := P) (wd := wd) (mg := mg) (base := base) F9 h_is_round
  have h_require_round : Cl P wd K mg base 5 "require_round" ["circle"] (spP K 1 c_require_round) := ⟨_, _, PySem.W.mg_of X G a9, k9, F9.binds (fun _ _ _ _ _ _ us hl => match us, hl with | [_], _ => rfl), G9⟩
  have G49 := ok_law_pair (P := P) (wd := wd) (mg := mg) (base := base) F49 h_law_dip h_law_map h_law_round h_law_form h_law_row_back z_abs
  have h_law_pair : Cl P wd K mg base 5 "_law_pair" ["_law_well_here", "_law_wide"] (spT K 2 c_law_pair) := ⟨_, _, PySem.W.mg_of X G a49, k49, F49.binds (fun _ _ _ _ _ _ us hl => match us, hl with | [_, _], _ => rfl), G49⟩
  have G10 := ok_require_both_rounds (P := P) (wd := wd) (mg := mg) (base := base) F10 h_require_round
  have h_require_both_rounds : Cl P wd K mg base 6 "require_both_rounds" ["circle", "other"] (spP K 2 c_require_both_rounds) := ⟨_, _, PySem.W.mg_of X G a10, k10, F10.binds (fun _ _ _ _ _ _ us hl => match us, hl with | [_, _], _ => rfl), G10⟩
  have G16 := ok_shared (P := P) (wd := wd) (mg := mg) (base := base) F16 h_require_both_rounds h_crossing_parts h_sign_of
  have h_shared : Cl P wd K mg base 7 "shared" ["circle", "other"] (spP K 2 c_shared) := ⟨_, _, PySem.W.mg_of X G a16, k16, F16.binds (fun _ _ _ _ _ _ us hl => match us, hl with | [_, _], _ => rfl), G16⟩
  have G17 := ok_mirrored_round (P := P) (wd := wd) (mg := mg) (base := base) F17 h_require_both_rounds h_round_from h_mixed h_paired
  have h_mirrored_round : Cl P wd K mg base 7 "mirrored_round" ["circle", "other"] (spP K 2 c_mirrored_round) := ⟨_, _, PySem.W.mg_of X G a17, k17, F17.binds (fun _ _ _ _ _ _ us hl => match us, hl with | [_, _], _ => rfl), G17⟩
  have G21 := ok_exchanging (P := P) (wd := wd) (mg := mg) (base := base) F21 h_require_both_rounds h_require_unlike_rounds h_paired h_whole_root h_mixed h_is_real h_round_from z_tuple z_sorted
  have h_exchanging : Cl P wd K mg base 7 "exchanging" ["circle", "other"] (spP K 2 c_exchanging) := ⟨_, _, PySem.W.mg_of X G a21, k21, F21.binds (fun _ _ _ _ _ _ us hl => match us, hl with | [_, _], _ => rfl), G21⟩
  have w_exchanging : ClKs P wd K mg base 7 "exchanging" ["circle", "other"] ["other", "circle"] (spP K 2 c_exchanging) := ⟨_, _, PySem.W.mg_of X G a21, k21, kb_sw F21 rfl (fun _ _ _ _ _ _ us hl => match us, hl with | [_, _], _ => rfl), rfl, G21⟩
  have G19 := ok_pencil_kind (P := P) (wd := wd) (mg := mg) (base := base) F19 h_require_both_rounds h_require_unlike_rounds h_shared g_KINDS
  have h_pencil_kind : Cl P wd K mg base 8 "pencil_kind" ["circle", "other"] (spP K 2 c_pencil_kind) := ⟨_, _, PySem.W.mg_of X G a19, k19, F19.binds (fun _ _ _ _ _ _ us hl => match us, hl with | [_, _], _ => rfl), G19⟩
  have G20 := ok_count_exchanging (P := P) (wd := wd) (mg := mg) (base := base) F20 h_pencil_kind
  have h_count_exchanging : Cl P wd K mg base 9 "count_exchanging" ["circle", "other"] (spP K 2 c_count_exchanging) := ⟨_, _, PySem.W.mg_of X G a20, k20, F20.binds (fun _ _ _ _ _ _ us hl => match us, hl with | [_, _], _ => rfl), G20⟩
  have w_count_exchanging : ClKs P wd K mg base 9 "count_exchanging" ["circle", "other"] ["other", "circle"] (spP K 2 c_count_exchanging) := ⟨_, _, PySem.W.mg_of X G a20, k20, kb_sw F20 rfl (fun _ _ _ _ _ _ us hl => match us, hl with | [_, _], _ => rfl), rfl, G20⟩
  have G52 := ok_law_told (P := P) (wd := wd) (mg := mg) (base := base) F52 h_law_due h_law_shared h_exchanging h_count_exchanging h_law_image h_mirrored_round w_exchanging w_count_exchanging z_repr
  have h_law_told : Cl P wd K mg base 10 "_law_told" ["_law_one", "_law_two"] (spP K 2 c_law_told) := ⟨_, _, PySem.W.mg_of X G a52, k52, F52.binds (fun _ _ _ _ _ _ us hl => match us, hl with | [_, _], _ => rfl), G52⟩
  have G53 := ok_law_right (P := P) (wd := wd) (mg := mg) (base := base) F53 h_law_of h_law_pair h_law_round h_law_image h_law_told h_exchanging z_min
  have h_law_right : Cl P wd K mg base 11 "_law_right" ["_law_well_here"] (spT K 1 c_law_right) := ⟨_, _, PySem.W.mg_of X G a53, k53, F53.binds (fun _ _ _ _ _ _ us hl => match us, hl with | [_], _ => rfl), G53⟩
  exact ok_law (P := P) (wd := wd) (mg := mg) (base := base) F54 h_law_rounds h_law_right h_law_well z_range
end Lk58
open PySem PySem.W PyProof.Rows
set_option maxRecDepth 100000 in
set_option maxHeartbeats 0 in
theorem PySem.Challenge.cw_drawarms_k58_whole_rounds_that_exchange_holds : PySem.Challenge.rw_drawarms_k58_whole_rounds_that_exchange.Holds := by
  w_on; o_law; k_head; (case hw => w_witness2)
  k_fill
  refine Z.walkG (l := PySem.Challenge.rw_drawarms_k58_whole_rounds_that_exchange) (k := 12) (x := "_law_script") (C := Lk58.c_law) rfl rfl ⟨rfl, by decide, by decide⟩ (fun w h Y => PySem.W.kIn_of Y) ?F Lk58.law_all
  case F =>
    intro w mg fa h KX G hmg
    refine' Lk58.all_mk KX G hmg ?a0 ?l0 ?c0 ?k0 ?a1 ?l1 ?c1 ?k1 ?a2 ?l2 ?c2 ?k2 ?a3 ?l3 ?c3 ?k3 ?a4 ?l4 ?c4 ?k4 ?a5 ?l5 ?c5 ?k5 ?a6 ?l6 ?c6 ?k6 ?a7 ?l7 ?c7 ?k7 ?a8 ?l8 ?c8 ?k8 ?a9 ?l9 ?c9 ?k9 ?a10 ?l10 ?c10 ?k10 ?a11 ?l11 ?c11 ?k11 ?a12 ?l12 ?c12 ?k12 ?a13 ?l13 ?c13 ?k13 ?a14 ?l14 ?c14 ?k14 ?a15 ?l15 ?c15 ?k15 ?a16 ?l16 ?c16 ?k16 ?a17 ?l17 ?c17 ?k17 ?a18 ?l18 ?c18 ?k18 ?a19 ?l19 ?c19 ?k19 ?a20 ?l20 ?c20 ?k20 ?a21 ?l21 ?c21 ?k21 ?a22 ?l22 ?c22 ?k22 ?a23 ?l23 ?c23 ?k23 ?a24 ?l24 ?c24 ?k24 ?a25 ?l25 ?c25 ?k25 ?a26 ?l26 ?c26 ?k26 ?a27 ?l27 ?c27 ?k27 ?a28 ?l28 ?c28 ?k28 ?a29 ?l29 ?c29 ?k29 ?a30 ?l30 ?c30 ?k30 ?a31 ?l31 ?c31 ?k31 ?a32 ?l32 ?c32 ?k32 ?a33 ?l33 ?c33 ?k33 ?a34 ?l34 ?c34 ?k34 ?a35 ?l35 ?c35 ?k35 ?a36 ?l36 ?c36 ?k36 ?a37 ?l37 ?c37 ?k37 ?a38 ?l38 ?c38 ?k38 ?a39 ?l39 ?c39 ?k39 ?a40 ?l40 ?c40 ?k40 ?a41 ?l41 ?c41 ?k41 ?a42 ?l42 ?c42 ?k42 ?a43 ?l43 ?c43 ?k43 ?a44 ?l44 ?c44 ?k44 ?a45 ?l45 ?c45 ?k45 ?a46 ?l46 ?c46 ?k46 ?a47 ?l47 ?c47 ?k47 ?a48 ?l48 ?c48 ?k48 ?a49 ?l49 ?c49 ?k49 ?a50 ?l50 ?c50 ?k50 ?a51 ?l51 ?c51 ?k51 ?a52 ?l52 ?c52 ?k52 ?a53 ?l53 ?c53 ?k53 ?a54 ?l54 ?c54 ?k54 ?z_isinstance ?z_int ?z_bool ?z_tuple ?z_len ?z_all ?z_zip ?z_sorted ?z_abs ?z_divmod ?z_max ?z_min ?z_range ?z_repr ?m_gcd ?m_isqrt ?ga_NULL_q ?gl_NULL_q ?ga_KINDS_q ?gl_KINDS_0_q
    (case a0 => k_is); (case l0 => k_is); (case c0 => k_is); (case k0 => k_is); (case a1 => k_is); (case l1 => k_is); (case c1 => k_is); (case k1 => k_is)
    (case a2 => k_is); (case l2 => k_is); (case c2 => k_is); (case k2 => k_is); (case a3 => k_is); (case l3 => k_is); (case c3 => k_is); (case k3 => k_is)
    (case a4 => k_is); (case l4 => k_is); (case c4 => k_is); (case k4 => k_is); (case a5 => k_is); (case l5 => k_is); (case c5 => k_is); (case k5 => k_is)
    (case a6 => k_is); (case l6 => k_is); (case c6 => k_is); (case k6 => k_is); (case a7 => k_is); (case l7 => k_is); (case c7 => k_is); (case k7 => k_is)
    (case a8 => k_is); (case l8 => k_is); (case c8 => k_is); (case k8 => k_is); (case a9 => k_is); (case l9 => k_is); (case c9 => k_is); (case k9 => k_is)
    (case a10 => k_is); (case l10 => k_is); (case c10 => k_is); (case k10 => k_is); (case a11 => k_is); (case l11 => k_is); (case c11 => k_is); (case k11 => k_is)
    (case a12 => k_is); (case l12 => k_is); (case c12 => k_is); (case k12 => k_is); (case a13 => k_is); (case l13 => k_is); (case c13 => k_is); (case k13 => k_is)
    (case a14 => k_is); (case l14 => k_is); (case c14 => k_is); (case k14 => k_is); (case a15 => k_is); (case l15 => k_is); (case c15 => k_is); (case k15 => k_is)
    (case a16 => k_is); (case l16 => k_is); (case c16 => k_is); (case k16 => k_is); (case a17 => k_is); (case l17 => k_is); (case c17 => k_is); (case k17 => k_is)
    (case a18 => k_is); (case l18 => k_is); (case c18 => k_is); (case k18 => k_is); (case a19 => k_is); (case l19 => k_is); (case c19 => k_is); (case k19 => k_is)
    (case a20 => k_is); (case l20 => k_is); (case c20 => k_is); (case k20 => k_is); (case a21 => k_is); (case l21 => k_is); (case c21 => k_is); (case k21 => k_is)
    (case a22 => k_is); (case l22 => k_is); (case c22 => k_is); (case k22 => k_is); (case a23 => k_is); (case l23 => k_is); (case c23 => k_is); (case k23 => k_is)
    (case a24 => k_is); (case l24 => k_is); (case c24 => k_is); (case k24 => k_is); (case a25 => k_is); (case l25 => k_is); (case c25 => k_is); (case k25 => k_is)
    (case a26 => k_is); (case l26 => k_is); (case c26 => k_is); (case k26 => k_is); (case a27 => k_is); (case l27 => k_is); (case c27 => k_is); (case k27 => k_is)
    (case a28 => k_is); (case l28 => k_is); (case c28 => k_is); (case k28 => k_is); (case a29 => k_is); (case l29 => k_is); (case c29 => k_is); (case k29 => k_is)
    (case a30 => k_is); (case l30 => k_is); (case c30 => k_is); (case k30 => k_is); (case a31 => k_is); (case l31 => k_is); (case c31 => k_is); (case k31 => k_is)
    (case a32 => k_is); (case l32 => k_is); (case c32 => k_is); (case k32 => k_is); (case a33 => k_is); (case l33 => k_is); (case c33 => k_is); (case k33 => k_is)
    (case a34 => k_is); (case l34 => k_is); (case c34 => k_is); (case k34 => k_is); (case a35 => k_is); (case l35 => k_is); (case c35 => k_is); (case k35 => k_is)
    (case a36 => k_is); (case l36 => k_is); (case c36 => k_is); (case k36 => k_is); (case a37 => k_is); (case l37 => k_is); (case c37 => k_is); (case k37 => k_is)
    (case a38 => k_is); (case l38 => k_is); (case c38 => k_is); (case k38 => k_is); (case a39 => k_is); (case l39 => k_is); (case c39 => k_is); (case k39 => k_is)
    (case a40 => k_is); (case l40 => k_is); (case c40 => k_is); (case k40 => k_is); (case a41 => k_is); (case l41 => k_is); (case c41 => k_is); (case k41 => k_is)
    (case a42 => k_is); (case l42 => k_is); (case c42 => k_is); (case k42 => k_is); (case a43 => k_is); (case l43 => k_is); (case c43 => k_is); (case k43 => k_is)
    (case a44 => k_is); (case l44 => k_is); (case c44 => k_is); (case k44 => k_is); (case a45 => k_is); (case l45 => k_is); (case c45 => k_is); (case k45 => k_is)
    (case a46 => k_is); (case l46 => k_is); (case c46 => k_is); (case k46 => k_is); (case a47 => k_is); (case l47 => k_is); (case c47 => k_is); (case k47 => k_is)
    (case a48 => k_is); (case l48 => k_is); (case c48 => k_is); (case k48 => k_is); (case a49 => k_is); (case l49 => k_is); (case c49 => k_is); (case k49 => k_is)
    (case a50 => k_is); (case l50 => k_is); (case c50 => k_is); (case k50 => k_is); (case a51 => k_is); (case l51 => k_is); (case c51 => k_is); (case k51 => k_is)
    (case a52 => k_is); (case l52 => k_is); (case c52 => k_is); (case k52 => k_is); (case a53 => k_is); (case l53 => k_is); (case c53 => k_is); (case k53 => k_is)
    (case a54 => k_is); (case l54 => k_is); (case c54 => k_is); (case k54 => k_is); (case z_isinstance => k_is); (case z_int => k_is); (case z_bool => k_is); (case z_tuple => k_is)
    (case z_len => k_is); (case z_all => k_is); (case z_zip => k_is); (case z_sorted => k_is); (case z_abs => k_is); (case z_divmod => k_is); (case z_max => k_is); (case z_min => k_is)
    (case z_range => k_is); (case z_repr => k_is); (case m_gcd => k_is); (case m_isqrt => k_is); (case ga_NULL_q => k_is); (case gl_NULL_q => k_is); (case ga_KINDS_q => k_is); (case gl_KINDS_0_q => k_is)
