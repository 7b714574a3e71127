import PyProof.Rows.All
import Wide.All
import OpenK.AllK
import Wide.FinOn
import HandS.ForMost
import HandS.Wide
import HandS.WideBits
import HandS.Gcd
import HandS.Deep
import HandS.TupAny
import HandS.IsInst
import HandS.Style
import HandS.Defaults
import HandS.Exc
import HandS.ExcField
import KE.KExcIs
import KE.KMathG
import Flt.RightSqrt
import HandS.Zip
import HandS.TupLe
import KE.SortKeyHeap
import HandS.SortKw
import HandS.TupMul
import HandS.NoneIn
import KE.GoesEnum
import PyProof.TupleCall
import KE.OsGo
import HandS.ForSpec
import HandS.ExcIs
import PyProof.ReprRoads
import HandS.TryOnly
import HandS.Strs
import KE.SortUse
import HandS.More
import HandS.Dict
import HandS.DictTup
import PySem.Challenge.RW_drawarms_k22_whole_powers_and_returns
set_option Elab.async false
set_option linter.all false
set_option maxRecDepth 100000
namespace Z
open PySem L2
abbrev Sg := L2.St
mutual
inductive Dz (K : PySem.W.Frag) (H : Hp) : V → PyData → Prop
  | non : Dz K H .non .none
  | bl (b : Bool) : Dz K H (.bl b) (.bool b)
  | int (i : Int) : Dz K H (.int i) (.int i)
  | str (x : Str) : Dz K H (.str x) (.str x)
  | lst {a : Addr} {xs : List V} {ds : List PyData} : SqL K H a xs → DzAll K H xs ds → Dz K H (.ref a) (.list ds)
  | tup {a : Addr} {xs : List V} {ds : List PyData} : SqT K H a xs → DzAll K H xs ds → Dz K H (.ref a) (.tuple ds)
  /-- an empty dict -/
  | dct0 {a : Addr} : H a = some (.dK []) → Dz K H (.ref a) (.dict [])
  | dct1 {a : Addr} {x : Str} {v : V} {g : PyData} : H a = some (.dK [(.inr x, v)]) → Dz K H v g → Dz K H (.ref a) (.dict [(.str x, g)])
  /-- a caught exception, with and without a field -/
  | excN (a : Addr) : Dz K H (.ref a) (.dict [(.int (a : Nat), .none)])
  /-- a tuple made here whose object is known -/
  | frt {a : Addr} {o : Obj} {xs : List V} {ds : List PyData} : H a = some (.frz o (.tup xs)) → o.cls = .type "tuple" → o.dict = none → DzAll K H xs ds → Dz K H (.ref a) (.dict [(.int (a : Nat), .tuple ds)])
  | exc {a dd : Addr} {fl : Str} {v : V} {g : PyData} : H dd = some (.xd [(fl, v)]) → Dz K H v g → Dz K H (.ref a) (.dict [(.int (a : Nat), .int (dd : Nat)), (.str fl, g)])
inductive DzAll (K : PySem.W.Frag) (H : Hp) : List V → List PyData → Prop
  | nil : DzAll K H [] []
  | cons {v : V} {vs : List V} {d : PyData} {ds : List PyData} : Dz K H v d → DzAll K H vs ds → DzAll K H (v :: vs) (d :: ds)
end
theorem sqT_up {K : PySem.W.Frag} {H H' : Hp} {a : Addr} {xs : List V} (h : ∀ b o, H b = some o → H' b = some o) (q : SqT K H a xs) : SqT K H' a xs := by
  rcases q with (q | ⟨o, q⟩) | q
  · exact .inl (.inl (h _ _ q))
  · exact .inl (.inr ⟨o, h _ _ q⟩)
  · exact .inr q
theorem sqL_up {K : PySem.W.Frag} {H H' : Hp} {a : Addr} {xs : List V} (h : ∀ b o, H b = some o → H' b = some o) (q : SqL K H a xs) : SqL K H' a xs := by
  rcases q with (q | ⟨o, q⟩) | q
  · exact .inl (.inl (h _ _ q))
  · exact .inl (.inr ⟨o, h _ _ q⟩)
  · exact .inr q
theorem sq_lst {K : PySem.W.Frag} {H : Hp} {a : Addr} {xs : List V} (h : H a = some (.lst xs)) : SqL K H a xs := .inl (.inl h)
mutual
theorem Dz.up {K : PySem.W.Frag} {H H' : Hp} (h : ∀ b o, H b = some o → H' b = some o) : ∀ {v : V} {d : PyData}, Dz K H v d → Dz K H' v d
  | _, _, .non => .non
  | _, _, .bl b => .bl b
  | _, _, .int i => .int i
  | _, _, .str x => .str x
  | _, _, .lst q r => .lst (sqL_up h q) (DzAll.up h r)
  | _, _, .tup q r => .tup (sqT_up h q) (DzAll.up h r)
  | _, _, .dct0 q => .dct0 (h _ _ q)
  | _, _, .dct1 q r => .dct1 (h _ _ q) (Dz.up h r)
  | _, _, .excN a => .excN a
  | _, _, .frt q c d r => .frt (h _ _ q) c d (DzAll.up h r)
  | _, _, .exc q r => .exc (h _ _ q) (Dz.up h r)
theorem DzAll.up {K : PySem.W.Frag} {H H' : Hp} (h : ∀ b o, H b = some o → H' b = some o) : ∀ {vs : List V} {ds : List PyData}, DzAll K H vs ds → DzAll K H' vs ds
  | _, _, .nil => .nil
  | _, _, .cons a b => .cons (Dz.up h a) (DzAll.up h b)
end
mutual
theorem Dz.dp {K : PySem.W.Frag} {H : Hp} : ∀ {v : V} {d : PyData}, Dz K H v d → d.hasDict = false → Dp K H v d
  | _, _, .non, _ => .non
  | _, _, .bl b, _ => .bl b
  | _, _, .int i, _ => .int i
  | _, _, .str x, _ => .str x
  | _, _, .lst q r, n => .lst q (DzAll.dp r (by simpa only [PyData.hasDict] using n))
  | _, _, .tup q r, n => .tup q (DzAll.dp r (by simpa only [PyData.hasDict] using n))
  | _, _, .dct0 _, n => by simp [PyData.hasDict] at n
  | _, _, .dct1 _ _, n => by simp [PyData.hasDict] at n
  | _, _, .excN _, n => by simp [PyData.hasDict] at n
  | _, _, .frt .., n => by simp [PyData.hasDict] at n
  | _, _, .exc _ _, n => by simp [PyData.hasDict] at n
theorem DzAll.dp {K : PySem.W.Frag} {H : Hp} : ∀ {vs : List V} {ds : List PyData}, DzAll K H vs ds → PyData.hasDictAll ds = false → DpAll K H vs ds
  | _, _, .nil, _ => .nil
  | _, _, .cons a b, n => by
    simp only [PyData.hasDictAll, Bool.or_eq_false_iff] at n
    exact .cons (Dz.dp a n.1) (DzAll.dp b n.2)
end
theorem DzAll.len {K : PySem.W.Frag} {H : Hp} : ∀ {vs : List V} {ds : List PyData}, DzAll K H vs ds → vs.length = ds.length
  | _, _, .nil => rfl
  | _, _, .cons _ b => by rw [List.length_cons, List.length_cons, DzAll.len b]
theorem DzAll.app {K : PySem.W.Frag} {H : Hp} : ∀ {vs us : List V} {ds es : List PyData}, DzAll K H vs ds → DzAll K H us es → DzAll K H (vs ++ us) (ds ++ es)
  | _, _, _, _, .nil, q => q
  | _, _, _, _, .cons a b, q => .cons a (DzAll.app b q)
theorem DzAll.get {K : PySem.W.Frag} {H : Hp} : ∀ {vs : List V} {ds : List PyData} (i : Nat) {d : PyData}, DzAll K H vs ds → ds[i]? = some d → ∃ v, vs[i]? = some v ∧ Dz K H v d
  | _, _, _, _, .nil, e => by simp at e
  | _, _, 0, _, .cons a b, e => by simp at e; subst e; exact ⟨_, rfl, a⟩
  | _, _, i + 1, _, .cons a b, e => by simpa using DzAll.get i b (by simpa using e)
theorem DzAll.drop {K : PySem.W.Frag} {H : Hp} : ∀ {vs : List V} {ds : List PyData} (n : Nat), DzAll K H vs ds → DzAll K H (vs.drop n) (ds.drop n)
  | _, _, 0, h => h
  | _, _, _ + 1, .nil => .nil
  | _, _, n + 1, .cons _ b => DzAll.drop n b
theorem DzAll.take {K : PySem.W.Frag} {H : Hp} : ∀ {vs : List V} {ds : List PyData} (n : Nat), DzAll K H vs ds → DzAll K H (vs.take n) (ds.take n)
  | _, _, 0, _ => .nil
  | _, _, _ + 1, .nil => .nil
  | _, _, n + 1, .cons a b => .cons a (DzAll.take n b)
theorem DzAll.set {K : PySem.W.Frag} {H : Hp} {v : V} {d : PyData} (q : Dz K H v d) : ∀ {vs : List V} {ds : List PyData} (n : Nat), DzAll K H vs ds → DzAll K H (vs.set n v) (ds.set n d)
  | _, _, _, .nil => .nil
  | _, _, 0, .cons _ b => .cons q b
  | _, _, n + 1, .cons a b => .cons a (DzAll.set q n b)
abbrev Mz := Addr → Nat × Option HO
def msk (M : Mz) (H : Hp) : Hp := fun b => if (M b).1 = 0 then H b else none
theorem msk_ok {M : Mz} {H : Hp} {b : Addr} {o : HO} (h : msk M H b = some o) : H b = some o ∧ (M b).1 = 0 := by
  unfold msk at h
  by_cases q : (M b).1 = 0
  · rw [if_pos q] at h; exact ⟨h, q⟩
  · rw [if_neg q] at h; cases h
theorem msk_of {M : Mz} {H : Hp} {b : Addr} {o : HO} (h : H b = some o) (q : (M b).1 = 0) : msk M H b = some o := by
  unfold msk; rw [if_pos q]; exact h
theorem msk_sub {M : Mz} {H : Hp} : ∀ b o, msk M H b = some o → H b = some o := fun _ _ h => (msk_ok h).1
theorem msk_same {M : Mz} {H H' : Hp} (h : ∀ b o, H b = some o → (M b).1 = 0 → H' b = some o) : ∀ b o, msk M H b = some o → msk M H' b = some o := fun b o e =>
  let ⟨a, q⟩ := msk_ok e
  msk_of (h b o a q) q
theorem msk_less {M N : Mz} {H : Hp} (h : ∀ a, (N a).1 ≠ 0 → (M a).1 ≠ 0) : ∀ b o, msk M H b = some o → msk N H b = some o := fun b o e => by
  obtain ⟨a, q⟩ := msk_ok e
  refine msk_of a ?_
  by_cases z : (N b).1 = 0
  · exact z
  · exact (h b z q).elim
inductive Sl where
  | val (d : PyData)
  | own (ds : List PyData)
abbrev Ev := List (Option Sl)
/-- what stays the same through a def: the heap at its entry, the lists handed in to be changed, what the caller masks -/
structure Cf where
  H0 : Hp
  T : Addr → Bool
  Mk : Mz
structure Ok (K : PySem.W.Frag) (c : Cf) (M : Mz) (σ : Sg) (H : Hp) (ev : Ev) (pd : List (V × PyData)) : Prop where
  len : σ.length = ev.length
  val : ∀ (i : Nat) (d : PyData), ev[i]? = some (some (.val d)) → ∃ v, σ[i]? = some (some v) ∧ Dz K (msk M H) v d
  own : ∀ (i : Nat) (ds : List PyData), ev[i]? = some (some (.own ds)) → ∃ a vs, σ[i]? = some (some (.ref a)) ∧ (M a).1 = 1 ∧ (c.H0 a = none ∨ c.T a = true) ∧ H a = some (.lst vs) ∧ DzAll K (msk M H) vs ds
  inj : ∀ (i j : Nat) (a : Addr) (ds es : List PyData), ev[i]? = some (some (.own ds)) → ev[j]? = some (some (.own es)) → σ[i]? = some (some (.ref a)) → σ[j]? = some (some (.ref a)) → i = j
  pend : ∀ p ∈ pd, Dz K (msk M H) p.1 p.2
  frame : ∀ b o, c.H0 b = some o → c.T b = false → H b = some o
  sub : ∀ a, (c.Mk a).1 ≠ 0 → (M a).1 ≠ 0
  dom : ∀ a, (M a).1 ≠ 0 → ∃ o, H a = some o
  mkd : ∀ a, (c.Mk a).1 ≠ 0 → ∃ o, c.H0 a = some o
  lk : ∀ a o, (M a).2 = some o → H a = some o ∧ ((M a).1 = 2 ∨ (M a).1 = 0)
  tank : ∀ a, c.T a = true → (c.Mk a).1 ≠ 0 ∧ σ[0]? = some (some (.ref a)) ∧ ∃ ds, ev[0]? = some (some (.own ds))
section
variable {K : PySem.W.Frag} {c : Cf} {M : Mz} {σ : Sg} {H H' : Hp} {ev : Ev} {pd : List (V × PyData)}
theorem Ok.push (k : Ok K c M σ H ev pd) {v : V} {d : PyData} (h : Dz K (msk M H) v d) : Ok K c M σ H ev ((v, d) :: pd) := by
  refine ⟨k.len, k.val, k.own, k.inj, fun p hp => ?_, k.frame, k.sub, k.dom, k.mkd, k.lk, k.tank⟩
  rcases List.mem_cons.mp hp with e | hp
  · rw [e]; exact h
  · exact k.pend p hp
theorem Ok.pop (k : Ok K c M σ H ev pd) {qd : List (V × PyData)} (h : ∀ p ∈ qd, p ∈ pd) : Ok K c M σ H ev qd := { k with pend := fun p hp => k.pend p (h p hp) }
theorem Ok.pop1 {p : V × PyData} (k : Ok K c M σ H ev (p :: pd)) : Ok K c M σ H ev pd := k.pop fun _ h => List.mem_cons_of_mem _ h
theorem Ok.top {v : V} {d : PyData} (k : Ok K c M σ H ev ((v, d) :: pd)) : Dz K (msk M H) v d := k.pend (v, d) (List.mem_cons_self ..)
/-- the heap grows: all that was tracked stays -/
theorem Ok.grow (k : Ok K c M σ H ev pd) (h : ∀ b o, H b = some o → H' b = some o) : Ok K c M σ H' ev pd where
  len := k.len
  val := fun i d e => let ⟨v, a, b⟩ := k.val i d e; ⟨v, a, b.up (msk_same fun b o e _ => h b o e)⟩
  own := fun i ds e => let ⟨a, vs, e1, e2, e3, e4, e5⟩ := k.own i ds e; ⟨a, vs, e1, e2, e3, h _ _ e4, e5.up (msk_same fun b o e _ => h b o e)⟩
  inj := k.inj
  pend := fun p hp => (k.pend p hp).up (msk_same fun b o e _ => h b o e)
  frame := fun b o e t => h _ _ (k.frame b o e t)
  sub := k.sub
  dom := fun a e => let ⟨o, q⟩ := k.dom a e; ⟨o, h _ _ q⟩
  mkd := k.mkd
  lk := fun a o e => let ⟨q1, q2⟩ := k.lk a o e; ⟨h _ _ q1, q2⟩
  tank := k.tank
theorem Ok.free (k : Ok K c M σ H ev pd) {p : Addr} (h : H p = none) : (M p).1 = 0 := by
  by_cases e : (M p).1 = 0
  · exact e
  · obtain ⟨o, q⟩ := k.dom p e; rw [h] at q; cases q
theorem up_new {H : Hp} {p : Addr} {o : HO} (h : H p = none) : ∀ b u, H b = some u → upd H p o b = some u := fun b u e => by
  rw [upd_ne (ne_of_none e h)]; exact e
/-- a new object -/
theorem Ok.new (k : Ok K c M σ H ev pd) {p : Addr} {o : HO} (h : H p = none) : Ok K c M σ (upd H p o) ev pd := k.grow (up_new h)
theorem Ok.newTup (k : Ok K c M σ H ev pd) {p : Addr} {vs : List V} {ds : List PyData} (h : H p = none) (q : DzAll K (msk M H) vs ds) : Ok K c M σ (upd H p (.tup vs)) ev ((.ref p, .tuple ds) :: pd) :=
  (k.new h).push (.tup (.inl (.inl (msk_of upd_same (k.free h)))) (q.up (msk_same fun b o e _ => up_new h b o e)))
theorem Ok.newLst (k : Ok K c M σ H ev pd) {p : Addr} {vs : List V} {ds : List PyData} (h : H p = none) (q : DzAll K (msk M H) vs ds) : Ok K c M σ (upd H p (.lst vs)) ev ((.ref p, .list ds) :: pd) :=
  (k.new h).push (.lst (sq_lst (msk_of upd_same (k.free h))) (q.up (msk_same fun b o e _ => up_new h b o e)))
theorem get_set {α : Type} {l : List α} {i j : Nat} {x y : α} (h : (l.set i x)[j]? = some y) : (i = j ∧ x = y ∧ i < l.length) ∨ (i ≠ j ∧ l[j]? = some y) := by
  by_cases e : i = j
  · subst e
    by_cases q : i < l.length
    · rw [List.getElem?_set_self q] at h
      exact .inl ⟨rfl, Option.some.inj h, q⟩
    · rw [List.getElem?_eq_none (by rw [List.length_set]; omega)] at h
      cases h
  · rw [List.getElem?_set_ne e] at h
    exact .inr ⟨e, h⟩
/-- no own list stands in this slot -/
def notOwn (ev : Ev) (i : Nat) : Prop := match ev[i]? with
  | some (some (.own _)) => False
  | some _ => True
  | none => False
theorem notOwn.lt {ev : Ev} {i : Nat} (h : notOwn ev i) : i < ev.length := by
  unfold notOwn at h
  by_cases q : i < ev.length
  · exact q
  · rw [List.getElem?_eq_none (by omega)] at h; exact h.elim
theorem notOwn.no {ev : Ev} {i : Nat} (h : notOwn ev i) {ds : List PyData} (e : ev[i]? = some (some (.own ds))) : False := by
  unfold notOwn at h; rw [e] at h; exact h
theorem Ok.set (k : Ok K c M σ H ev pd) {i : Nat} {v : V} {d : PyData} (h : notOwn ev i) (q : Dz K (msk M H) v d) : Ok K c M (σ.set i (some v)) H (ev.set i (some (.val d))) pd where
  len := by rw [List.length_set, List.length_set]; exact k.len
  val := fun j e z => by
    rcases get_set z with ⟨rfl, z1, z2⟩ | ⟨n, z⟩
    · cases z1
      exact ⟨v, List.getElem?_set_self (by rw [k.len]; exact h.lt), q⟩
    · obtain ⟨u, a, b⟩ := k.val j e z
      exact ⟨u, by rw [List.getElem?_set_ne n]; exact a, b⟩
  own := fun j ds z => by
    rcases get_set z with ⟨rfl, z1, z2⟩ | ⟨n, z⟩
    · cases z1
    · obtain ⟨a, vs, e1, e2⟩ := k.own j ds z
      exact ⟨a, vs, by rw [List.getElem?_set_ne n]; exact e1, e2⟩
  inj := fun j l a ds es z1 z2 z3 z4 => by
    rcases get_set z1 with ⟨rfl, y, _⟩ | ⟨n1, z1⟩
    · cases y
    rcases get_set z2 with ⟨rfl, y, _⟩ | ⟨n2, z2⟩
    · cases y
    rw [List.getElem?_set_ne n1] at z3
    rw [List.getElem?_set_ne n2] at z4
    exact k.inj j l a ds es z1 z2 z3 z4
  pend := k.pend
  frame := k.frame
  sub := k.sub
  dom := k.dom
  mkd := k.mkd
  lk := k.lk
  tank := fun a t => by
    obtain ⟨m, e1, ds, e2⟩ := k.tank a t
    have n : i ≠ 0 := fun z => h.no (by rw [z]; exact e2)
    exact ⟨m, by rw [List.getElem?_set_ne n]; exact e1, ds, by rw [List.getElem?_set_ne n]; exact e2⟩
/-- an own list's content is changed in place -/
theorem Ok.write (k : Ok K c M σ H ev pd) {i : Nat} {a : Addr} {ds es : List PyData} {us : List V} (h : ev[i]? = some (some (.own ds))) (ha : σ[i]? = some (some (.ref a)))
    (ext : ∀ b o, H b = some o → b ≠ a → H' b = some o) (hu : H' a = some (.lst us)) (q : DzAll K (msk M H') us es) : Ok K c M σ H' (ev.set i (some (.own es))) pd := by
  obtain ⟨a', vs, e1, e2, e3, e4, e5⟩ := k.own i ds h
  obtain rfl : a' = a := by rw [ha] at e1; cases e1; rfl
  have hm : ∀ b o, msk M H b = some o → msk M H' b = some o := msk_same fun b o e m => ext b o e fun z => by rw [z, e2] at m; cases m
  have hi : i < ev.length := by
    by_cases z : i < ev.length
    · exact z
    · rw [List.getElem?_eq_none (by omega)] at h; cases h
  refine ⟨by rw [List.length_set]; exact k.len, fun j d z => ?_, fun j d z => ?_, fun j l b ds1 ds2 z1 z2 z3 z4 => ?_, fun p hp => (k.pend p hp).up hm, fun b o e t => ?_, k.sub, fun b m => ?_, k.mkd, fun b o e => ?_, fun b t => ?_⟩
  · rcases get_set z with ⟨rfl, z1, _⟩ | ⟨n, z⟩
    · cases z1
    · obtain ⟨v, y1, y2⟩ := k.val j d z
      exact ⟨v, y1, y2.up hm⟩
  · rcases get_set z with ⟨rfl, z1, _⟩ | ⟨n, z⟩
    · cases z1
      exact ⟨a', us, ha, e2, e3, hu, q⟩
    · obtain ⟨b, ws, y1, y2, y3, y4, y5⟩ := k.own j d z
      exact ⟨b, ws, y1, y2, y3, ext b _ y4 fun y => n (k.inj i j a' ds d h z ha (by rw [y1, y])), y5.up hm⟩
  · have o1 : ∃ w, ev[j]? = some (some (.own w)) := by
      rcases get_set z1 with ⟨rfl, _, _⟩ | ⟨_, z⟩
      · exact ⟨_, h⟩
      · exact ⟨_, z⟩
    have o2 : ∃ w, ev[l]? = some (some (.own w)) := by
      rcases get_set z2 with ⟨rfl, _, _⟩ | ⟨_, z⟩
      · exact ⟨_, h⟩
      · exact ⟨_, z⟩
    obtain ⟨w1, o1⟩ := o1
    obtain ⟨w2, o2⟩ := o2
    exact k.inj j l b w1 w2 o1 o2 z3 z4
  · refine ext b o (k.frame b o e t) fun z => ?_
    rcases e3 with y | y
    · rw [z, y] at e; cases e
    · rw [z, y] at t; cases t
  · obtain ⟨o, y⟩ := k.dom b m
    by_cases z : b = a'
    · rw [z]; exact ⟨_, hu⟩
    · exact ⟨o, ext b o y z⟩
  · obtain ⟨q1, q2⟩ := k.lk b o e
    exact ⟨ext b o q1 fun z => (by rw [z, e2] at q2; rcases q2 with q2 | q2 <;> cases q2), q2⟩
  · obtain ⟨m, y1, ws, y2⟩ := k.tank b t
    refine ⟨m, y1, ?_⟩
    by_cases z : i = 0
    · subst z; exact ⟨es, List.getElem?_set_self hi⟩
    · exact ⟨ws, by rw [List.getElem?_set_ne z]; exact y2⟩
def stM (M : Mz) (D : Addr) (n : Nat × Option HO) : Mz := fun b => if b = D then n else M b
theorem stM_at {M : Mz} {D : Addr} {n : Nat × Option HO} : stM M D n D = n := by unfold stM; rw [if_pos rfl]
theorem stM_off {M : Mz} {D b : Addr} {n : Nat × Option HO} (h : b ≠ D) : stM M D n b = M b := by unfold stM; rw [if_neg h]
theorem stM_stM {M : Mz} {D : Addr} {n m : Nat × Option HO} : stM (stM M D n) D m = stM M D m := by
  funext b
  by_cases e : b = D
  · rw [e, stM_at, stM_at]
  · rw [stM_off e, stM_off e, stM_off e]
theorem stM_id {M : Mz} {D : Addr} {n : Nat × Option HO} (h : M D = n) : stM M D n = M := by
  funext b
  by_cases e : b = D
  · rw [e, stM_at, h]
  · rw [stM_off e]
theorem Ok.h0 (k : Ok K c M σ H ev pd) {D : Addr} (h : H D = none) : c.H0 D = none ∧ c.T D = false := by
  have t : c.T D = false := by
    cases e : c.T D with
    | false => rfl
    | true =>
      obtain ⟨m, _⟩ := k.tank D e
      obtain ⟨o, q⟩ := k.dom D (k.sub D m)
      rw [h] at q; cases q
  refine ⟨?_, t⟩
  cases e : c.H0 D with
  | none => rfl
  | some o => have q := k.frame D o e t; rw [h] at q; cases q
/-- nothing is known of a free address -/
theorem Ok.plain (k : Ok K c M σ H ev pd) {D : Addr} (h : H D = none) : M D = (0, none) := by
  have a := k.free h
  have b : (M D).2 = none := by
    cases e : (M D).2 with
    | none => rfl
    | some o => have q := (k.lk D o e).1; rw [h] at q; cases q
  exact Prod.ext a b
/-- a new object is hidden: as an own list, or with a content that stays -/
theorem Ok.lock (k : Ok K c M σ H ev pd) {D : Addr} {o : HO} {n : Nat × Option HO} (h : H D = none) (hn : ∀ u, n.2 = some u → o = u ∧ n.1 = 2) : Ok K c (stM M D n) σ (upd H D o) ev pd := by
  have hm : ∀ b u, msk M H b = some u → msk (stM M D n) (upd H D o) b = some u := fun b u e => by
    obtain ⟨a, q⟩ := msk_ok e
    have ne : b ≠ D := ne_of_none a h
    exact msk_of (by rw [upd_ne ne]; exact a) (by rw [stM_off ne]; exact q)
  refine ⟨k.len, fun i d e => ?_, fun i ds e => ?_, k.inj, fun p hp => (k.pend p hp).up hm, fun b u e t => ?_, fun a e => ?_, fun a e => ?_, k.mkd, fun b u e => ?_, k.tank⟩
  · obtain ⟨v, a, b⟩ := k.val i d e
    exact ⟨v, a, b.up hm⟩
  · obtain ⟨a, vs, e1, e2, e3, e4, e5⟩ := k.own i ds e
    have ne : a ≠ D := ne_of_none e4 h
    exact ⟨a, vs, e1, by rw [stM_off ne]; exact e2, e3, by rw [upd_ne ne]; exact e4, e5.up hm⟩
  · have q := k.frame b u e t
    rw [upd_ne (ne_of_none q h)]; exact q
  · obtain ⟨u, q⟩ := k.dom a (k.sub a e)
    rw [stM_off (ne_of_none q h)]; exact k.sub a e
  · by_cases z : a = D
    · rw [z]; exact ⟨_, upd_same⟩
    · rw [stM_off z] at e
      obtain ⟨u, q⟩ := k.dom a e
      exact ⟨u, by rw [upd_ne z]; exact q⟩
  · by_cases z : b = D
    · subst z
      rw [stM_at] at e ⊢
      obtain ⟨q1, q2⟩ := hn u e
      exact ⟨by rw [upd_same, q1], .inl q2⟩
    · rw [stM_off z] at e ⊢
      obtain ⟨q1, q2⟩ := k.lk b u e
      exact ⟨by rw [upd_ne z]; exact q1, q2⟩
/-- the content of a hidden object is another one -/
theorem Ok.more (k : Ok K c M σ H ev pd) {D : Addr} {o : HO} (h : (M D).1 = 2) (h0 : c.H0 D = none) : Ok K c (stM M D (2, some o)) σ (upd H D o) ev pd := by
  have hm : ∀ b u, msk M H b = some u → msk (stM M D (2, some o)) (upd H D o) b = some u := fun b u e => by
    obtain ⟨a, q⟩ := msk_ok e
    have ne : b ≠ D := fun z => by rw [z, h] at q; cases q
    exact msk_of (by rw [upd_ne ne]; exact a) (by rw [stM_off ne]; exact q)
  refine ⟨k.len, fun i d e => ?_, fun i ds e => ?_, k.inj, fun p hp => (k.pend p hp).up hm, fun b u e t => ?_, fun a e => ?_, fun a e => ?_, k.mkd, fun b u e => ?_, k.tank⟩
  · obtain ⟨v, a, b⟩ := k.val i d e
    exact ⟨v, a, b.up hm⟩
  · obtain ⟨a, vs, e1, e2, e3, e4, e5⟩ := k.own i ds e
    have ne : a ≠ D := fun z => by rw [z, h] at e2; cases e2
    exact ⟨a, vs, e1, by rw [stM_off ne]; exact e2, e3, by rw [upd_ne ne]; exact e4, e5.up hm⟩
  · have ne : b ≠ D := fun z => by rw [z, h0] at e; cases e
    rw [upd_ne ne]; exact k.frame b u e t
  · have ne : a ≠ D := fun z => by obtain ⟨u, q⟩ := k.mkd a e; rw [z, h0] at q; cases q
    rw [stM_off ne]; exact k.sub a e
  · by_cases z : a = D
    · rw [z]; exact ⟨_, upd_same⟩
    · rw [stM_off z] at e
      obtain ⟨u, q⟩ := k.dom a e
      exact ⟨u, by rw [upd_ne z]; exact q⟩
  · by_cases z : b = D
    · subst z
      rw [stM_at] at e ⊢
      cases e
      exact ⟨upd_same, .inl rfl⟩
    · rw [stM_off z] at e ⊢
      obtain ⟨q1, q2⟩ := k.lk b u e
      exact ⟨by rw [upd_ne z]; exact q1, q2⟩
/-- it is let go: from now on it is data -/
theorem Ok.unlock (k : Ok K c M σ H ev pd) {D : Addr} {vs : List V} {ds : List PyData} (h : (M D).1 = 2) (h0 : c.H0 D = none) (hl : H D = some (.lst vs)) (r : DzAll K (msk M H) vs ds) : Ok K c (stM M D (0, none)) σ H ev ((.ref D, .list ds) :: pd) := by
  have hm : ∀ b u, msk M H b = some u → msk (stM M D (0, none)) H b = some u := msk_less fun a e z => e (by
    by_cases y : a = D
    · rw [y, stM_at]
    · rw [stM_off y]; exact z)
  have k2 : Ok K c (stM M D (0, none)) σ H ev pd := by
    refine ⟨k.len, fun i d e => ?_, fun i ds e => ?_, k.inj, fun p hp => (k.pend p hp).up hm, k.frame, fun a e => ?_, fun a e => ?_, k.mkd, fun b u e => ?_, k.tank⟩
    · obtain ⟨v, a, b⟩ := k.val i d e
      exact ⟨v, a, b.up hm⟩
    · obtain ⟨a, vs, e1, e2, e3, e4, e5⟩ := k.own i ds e
      have ne : a ≠ D := fun z => by rw [z, h] at e2; cases e2
      exact ⟨a, vs, e1, by rw [stM_off ne]; exact e2, e3, e4, e5.up hm⟩
    · have ne : a ≠ D := fun z => by obtain ⟨o, q⟩ := k.mkd a e; rw [z, h0] at q; cases q
      rw [stM_off ne]; exact k.sub a e
    · by_cases z : a = D
      · rw [z]; exact ⟨_, hl⟩
      · rw [stM_off z] at e; exact k.dom a e
    · by_cases z : b = D
      · subst z
        rw [stM_at] at e
        cases e
      · rw [stM_off z] at e ⊢
        exact k.lk b u e
  exact k2.push (.lst (sq_lst (msk_of hl (by rw [stM_at]))) (r.up hm))
/-- an own list that no one changes any more: data -/
theorem Ok.freeze (k : Ok K c M σ H ev pd) {i : Nat} {a : Addr} {ds : List PyData} (h : ev[i]? = some (some (.own ds))) (ha : σ[i]? = some (some (.ref a))) (h0 : c.H0 a = none) : Ok K c (stM M a (0, none)) σ H (ev.set i (some (.val (.list ds)))) ((.ref a, .list ds) :: pd) := by
  obtain ⟨a', vs, e1, e2, e3, e4, e5⟩ := k.own i ds h
  obtain rfl : a' = a := by rw [ha] at e1; cases e1; rfl
  have hm : ∀ b u, msk M H b = some u → msk (stM M a' (0, none)) H b = some u := msk_less fun b e z => e (by
    by_cases y : b = a'
    · rw [y, stM_at]
    · rw [stM_off y]; exact z)
  have hd : Dz K (msk (stM M a' (0, none)) H) (.ref a') (.list ds) := .lst (sq_lst (msk_of e4 (by rw [stM_at]))) (e5.up hm)
  have k2 : Ok K c (stM M a' (0, none)) σ H (ev.set i (some (.val (.list ds)))) pd := by
    refine ⟨by rw [List.length_set]; exact k.len, fun j d z => ?_, fun j es z => ?_, fun j l b ds1 ds2 z1 z2 z3 z4 => ?_, fun p hp => (k.pend p hp).up hm, k.frame, fun b e => ?_, fun b e => ?_, k.mkd, fun b u e => ?_, fun b t => ?_⟩
    · rcases get_set z with ⟨rfl, z1, _⟩ | ⟨n, z⟩
      · cases z1
        exact ⟨_, ha, hd⟩
      · obtain ⟨v, y1, y2⟩ := k.val j d z
        exact ⟨v, y1, y2.up hm⟩
    · rcases get_set z with ⟨rfl, z1, _⟩ | ⟨n, z⟩
      · cases z1
      · obtain ⟨b, ws, y1, y2, y3, y4, y5⟩ := k.own j es z
        have ne : b ≠ a' := fun y => n (k.inj i j a' ds es h z ha (by rw [y1, y]))
        exact ⟨b, ws, y1, by rw [stM_off ne]; exact y2, y3, y4, y5.up hm⟩
    · rcases get_set z1 with ⟨rfl, y, _⟩ | ⟨n1, z1⟩
      · cases y
      rcases get_set z2 with ⟨rfl, y, _⟩ | ⟨n2, z2⟩
      · cases y
      exact k.inj j l b ds1 ds2 z1 z2 z3 z4
    · have ne : b ≠ a' := fun z => by obtain ⟨o, q⟩ := k.mkd b e; rw [z, h0] at q; cases q
      rw [stM_off ne]; exact k.sub b e
    · by_cases z : b = a'
      · rw [z]; exact ⟨_, e4⟩
      · rw [stM_off z] at e; exact k.dom b e
    · by_cases z : b = a'
      · subst z
        rw [stM_at] at e
        cases e
      · rw [stM_off z] at e ⊢
        exact k.lk b u e
    · obtain ⟨m, y1, ws, y2⟩ := k.tank b t
      refine ⟨m, y1, ?_⟩
      by_cases z : i = 0
      · subst z
        rw [ha] at y1
        cases y1
        obtain ⟨o, q⟩ := k.mkd a' m
        rw [h0] at q; cases q
      · exact ⟨ws, by rw [List.getElem?_set_ne z]; exact y2⟩
  exact k2.push hd
end
end Z
set_option Elab.async false
set_option linter.all false
set_option maxRecDepth 100000
namespace Z
open PySem L2
abbrev Wx := Ev → (PyData → Ev → Prop) → Prop
abbrev Wa := Ev → (List PyData → Ev → Prop) → Prop
abbrev Wt := Ev → (Bool → Ev → Prop) → Prop
def tE (K : PySem.W.Frag) (c : Cf) (w : Wx) : TE := fun σ H Q => ∃ M ev pd R, Ok K c M σ H ev pd ∧ w ev R ∧ ∀ d ev', R d ev' → ∀ v H', Ok K c M σ H' ev' ((v, d) :: pd) → Q v H'
def tA (K : PySem.W.Frag) (c : Cf) (w : Wa) : TA := fun σ H Q => ∃ M ev pd R, Ok K c M σ H ev pd ∧ w ev R ∧ ∀ ds ev', R ds ev' → ∀ vs H', Ok K c M σ H' ev' pd → DzAll K (msk M H') vs ds → Q vs H'
def tT (K : PySem.W.Frag) (c : Cf) (w : Wt) : TT := fun σ H Q => ∃ M ev pd R, Ok K c M σ H ev pd ∧ w ev R ∧ ∀ b ev', R b ev' → ∀ H', Ok K c M σ H' ev' pd → Q b H'
abbrev DE (X : Cx) (c : Cf) (e : Expr) (w : Wx) : Prop := PE X e (tE X.K c w)
abbrev DA (X : Cx) (c : Cf) (es : List Expr) (w : Wa) : Prop := PA X es (tA X.K c w)
abbrev DT (X : Cx) (c : Cf) (e : Expr) (w : Wt) : Prop := PT X e (tT X.K c w)
abbrev DW (X : Cx) (c : Cf) (e : Expr) (w : Wt) : Prop := PW X e (tT X.K c w)
theorem peM {X : Cx} {e : Expr} {t t' : TE} (p : PE X e t) (h : ∀ σ H Q, t' σ H Q → t σ H Q) : PE X e t' := ⟨fun pins s σ H Q I q => p.run pins s σ H Q I (h σ H Q q)⟩
theorem paM {X : Cx} {e : List Expr} {t t' : TA} (p : PA X e t) (h : ∀ σ H Q, t' σ H Q → t σ H Q) : PA X e t' := ⟨fun pos pins s σ H Q I q => p.run pos pins s σ H Q I (h σ H Q q)⟩
theorem ptM {X : Cx} {e : Expr} {t t' : TT} (p : PT X e t) (h : ∀ σ H Q, t' σ H Q → t σ H Q) : PT X e t' := ⟨fun pins s σ H Q I q => p.run pins s σ H Q I (h σ H Q q)⟩
theorem pwM {X : Cx} {e : Expr} {t t' : TT} (p : PW X e t) (h : ∀ σ H Q, t' σ H Q → t σ H Q) : PW X e t' := ⟨fun wh pins s σ H Q I q => p.run wh pins s σ H Q I (h σ H Q q)⟩
theorem pkM {X : Cx} {e : List Keyword} {t t' : TA} (p : PK X e t) (h : ∀ σ H Q, t' σ H Q → t σ H Q) : PK X e t' := ⟨fun pos pins s σ H Q I q => p.run pos pins s σ H Q I (h σ H Q q)⟩
theorem psM {X : Cx} {e : Stmt} {t t' : TS} (p : PS X e t) (h : ∀ D σ H, t' D σ H → t D σ H) : PS X e t' := ⟨fun pins s σ H D I q => p.run pins s σ H D I (h D σ H q)⟩
theorem pssM {X : Cx} {e : List Stmt} {t t' : TS} (p : PSs X e t) (h : ∀ D σ H, t' D σ H → t D σ H) : PSs X e t' := ⟨fun pins s σ H D I q => p.run pins s σ H D I (h D σ H q)⟩
def dVar (i : Nat) : Wx := fun ev Q => match ev[i]? with
  | some (some (.val d)) => Q d ev
  | _ => False
def dLit (d : PyData) : Wx := fun ev Q => Q d ev
section
variable {X : Cx} {c : Cf}
theorem de_pv {i : Nat} {e : Expr} (h : PE X e (tVar i)) : DE X c e (dVar i) := peM h fun σ H Q ⟨M, ev, pd, R, k, w, q⟩ => by
  unfold dVar at w
  split at w
  · rename_i d e
    obtain ⟨v, a, b⟩ := k.val i d e
    exact ⟨v, a, q d ev w v H (k.push b)⟩
  · exact w.elim
theorem de_lit {v : V} {d : PyData} {e : Expr} (h : PE X e (tC v)) (hd : ∀ H, Dz X.K H v d) : DE X c e (dLit d) := peM h fun σ H Q ⟨M, ev, pd, R, k, w, q⟩ => q d ev w v H (k.push (hd _))
theorem de_int {i j pos} : DE X c (.Constant (.int i) j pos) (dLit (.int i)) := de_lit pe_int fun _ => .int i
theorem de_bl {b j pos} : DE X c (.Constant (.bool b) j pos) (dLit (.bool b)) := de_lit pe_bl fun _ => .bl b
theorem de_non {j pos} : DE X c (.Constant .none j pos) (dLit .none) := de_lit pe_non fun _ => .non
def daN : Wa := fun ev Q => Q [] ev
def daC (w : Wx) (u : Wa) : Wa := fun ev Q => w ev fun d e1 => u e1 fun ds e2 => Q (d :: ds) e2
theorem da_nil : DA X c [] daN := paM pa_nil fun σ H Q ⟨M, ev, pd, R, k, w, q⟩ => q [] ev w [] H k .nil
theorem cons_rd {K : PySem.W.Frag} {w : Wx} {u : Wa} {σ : Sg} {H : Hp} {Q : List V → Hp → Prop} (h : tA K c (daC w u) σ H Q) : tCons (tE K c w) (tA K c u) σ H Q := by
  obtain ⟨M, ev, pd, R, k, w, q⟩ := h
  exact ⟨M, ev, pd, _, k, w, fun d e1 h1 v H1 k1 => ⟨M, e1, _, _, k1, h1, fun ds e2 h2 vs H2 k2 r => q (d :: ds) e2 h2 (v :: vs) H2 k2.pop1 (.cons k2.top r)⟩⟩
theorem da_cons {e : Expr} {es : List Expr} {w : Wx} {u : Wa} (he : DE X c e w) (hr : DA X c es u) (hs : starEach (e :: es) X.env = (false, eval e X.env) :: starEach es X.env := by rfl) : DA X c (e :: es) (daC w u) :=
  paM (pa_cons he hr hs) fun _ _ _ h => cons_rd h
abbrev DK (X : Cx) (c : Cf) (es : List Keyword) (w : Wa) : Prop := PK X es (tA X.K c w)
theorem dk_nil : DK X c [] daN := pkM pk_nil fun σ H Q ⟨M, ev, pd, R, k, w, q⟩ => q [] ev w [] H k .nil
theorem dk_cons {nm : Option Str} {e : Expr} {kpos : Pos} {es : List Keyword} {w : Wx} {u : Wa} (he : DE X c e w) (hr : DK X c es u) : DK X c (⟨nm, e, kpos⟩ :: es) (daC w u) :=
  pkM (pk_cons he hr) fun _ _ _ h => cons_rd h
def dTup (u : Wa) : Wx := fun ev Q => u ev fun ds e => ds.length ≤ 1000 ∧ Q (.tuple ds) e
def dLst (u : Wa) : Wx := fun ev Q => u ev fun ds e => ds.length ≤ 1000 ∧ Q (.list ds) e
theorem line_of {n : Nat} (h : n ≤ 1000) : n ≤ sizeLine := Nat.le_of_lt (small1000 h)
theorem de_tup {es : List Expr} {u : Wa} {x1 pos} (h : DA X c es u) : DE X c (.Tuple es x1 pos) (dTup u) := peM (pe_tup h) fun σ H Q ⟨M, ev, pd, R, k, w, q⟩ =>
  ⟨M, ev, pd, _, k, w, fun ds e ⟨l, h1⟩ vs H1 k1 r => ⟨by rw [r.len]; exact line_of l, fun p hp => q _ e h1 _ _ (k1.newTup hp r)⟩⟩
theorem de_lst {es : List Expr} {u : Wa} {pos} (h : DA X c es u) : DE X c (.List es pos) (dLst u) := peM (pe_lst h) fun σ H Q ⟨M, ev, pd, R, k, w, q⟩ =>
  ⟨M, ev, pd, _, k, w, fun ds e ⟨l, h1⟩ vs H1 k1 r => ⟨by rw [r.len]; exact line_of l, fun p hp => q _ e h1 _ _ (k1.newLst hp r)⟩⟩
def RZ2 (K : PySem.W.Frag) (r : R2) (f : PyData → PyData → (PyData → Prop) → Prop) : Prop := ∀ (c : Cf) (M : Mz) (σ : Sg) (H : Hp) (ev : Ev) (pd : List (V × PyData)) (v u : V) (x y : PyData) (R : PyData → Prop) (Q : VK),
  Ok K c M σ H ev pd → Dz K (msk M H) v x → Dz K (msk M H) u y → f x y R → (∀ d w H', R d → Ok K c M σ H' ev ((w, d) :: pd) → Q w H') → r v u H Q
def dOp (f : PyData → PyData → (PyData → Prop) → Prop) (a b : Wx) : Wx := fun ev Q => a ev fun x e1 => b e1 fun y e2 => f x y fun z => Q z e2
theorem op_rd {r : R2} {f} (h : RZ2 X.K r f) {a b : Wx} {σ : Sg} {H : Hp} {Q : VK} (q : tE X.K c (dOp f a b) σ H Q) : tOp r (tE X.K c a) (tE X.K c b) σ H Q := by
  obtain ⟨M, ev, pd, R, k, w, q⟩ := q
  exact ⟨M, ev, pd, _, k, w, fun x e1 h1 v H1 k1 => ⟨M, e1, _, _, k1, h1, fun y e2 h2 u H2 k2 =>
    h c M σ H2 e2 pd v u x y _ Q k2.pop1.pop1 k2.pop1.top k2.top h2 fun d w' H' hd ok => q d e2 hd w' H' ok⟩⟩
theorem de_op {op : Operator} {a b : Expr} {r : R2} {f} {wa wb : Wx} {pos : Pos} (ho : OpR X (binaryOp op) r) (h : RZ2 X.K r f) (ha : DE X c a wa) (hb : DE X c b wb) : DE X c (.BinOp a op b pos) (dOp f wa wb) :=
  peM (pe_op ho ha hb) fun _ _ _ q => op_rd h q
theorem de_cmp {op : CmpOp} {a b : Expr} {r : R2} {f} {wa wb : Wx} {pos : Pos} (ho : OpR X (compareOp op) r) (h : RZ2 X.K r f) (ha : DE X c a wa) (hb : DE X c b wb) (hm : behindInMarks op b = false) : DE X c (.Compare a [op] [b] pos) (dOp f wa wb) :=
  peM (pe_cmpR ho ha hb hm) fun _ _ _ q => op_rd h q
theorem de_ix {a b : Expr} {r : R2} {f} {wa wb : Wx} {pos : Pos} (ho : IxR X r) (h : RZ2 X.K r f) (ha : DE X c a wa) (hb : DE X c b wb) (hs : PlainIx b) : DE X c (.Subscript a b pos) (dOp f wa wb) :=
  peM (pe_ix ho ha hb hs) fun _ _ _ q => op_rd h q
end
/-- int by int -/
def fII (p : Int → Int → Prop) (g : Int → Int → PyData) : PyData → PyData → (PyData → Prop) → Prop
  | .int i, .int j, Q => p i j ∧ Q (g i j)
  | _, _, _ => False
abbrev nop : Int → Int → Prop := fun _ _ => True
theorem rz_ii {K : PySem.W.Frag} {C : Int → Int → Prop} {p : Int → Int → Prop} {g : Int → Int → V} {g' : Int → Int → PyData} (hp : ∀ i j, p i j → C i j) (hg : ∀ H i j, Dz K H (g i j) (g' i j)) : RZ2 K (rI C g) (fII p g') := by
  intro c M σ H ev pd v u x y R Q k a b w q
  unfold fII at w
  split at w
  · cases a; cases b
    exact ⟨_, _, rfl, rfl, hp _ _ w.1, q _ _ _ w.2 (k.push (hg _ _ _))⟩
  · exact w.elim
theorem rz_ii0 {K : PySem.W.Frag} {g : Int → Int → V} {g' : Int → Int → PyData} (hg : ∀ H i j, Dz K H (g i j) (g' i j)) : RZ2 K (rI0 g) (fII nop g') := by
  intro c M σ H ev pd v u x y R Q k a b w q
  unfold fII at w
  split at w
  · cases a; cases b
    exact ⟨_, _, rfl, rfl, q _ _ _ w.2 (k.push (hg _ _ _))⟩
  · exact w.elim
/-- how wide factors may be -/
def mulC (i j : Int) : Prop := i.natAbs.log2 + j.natAbs.log2 < 1000000
def divC (_ j : Int) : Prop := 0 < j ∧ j.natAbs.log2 < 9000
def modC (_ j : Int) : Prop := 0 < j
abbrev fSub := fII nop fun i j => .int (i - j)
abbrev fMul := fII mulC fun i j => .int (i * j)
abbrev fDiv := fII divC fun i j => .int (i / j)
abbrev fMod := fII modC fun i j => .int (i % j)
abbrev fLt := fII nop fun i j => .bool (decide (i < j))
abbrev fLe := fII nop fun i j => .bool (decide (i ≤ j))
abbrev fGt := fII nop fun i j => .bool (decide (j < i))
abbrev fGe := fII nop fun i j => .bool (decide (j ≤ i))
section
variable {X : Cx} {c : Cf} {a b : Expr} {wa wb : Wx} {pos : Pos}
theorem de_sub (ha : DE X c a wa) (hb : DE X c b wb) : DE X c (.BinOp a .Sub b pos) (dOp fSub wa wb) := de_op op_sub (rz_ii0 fun _ _ _ => .int _) ha hb
theorem de_mul (ha : DE X c a wa) (hb : DE X c b wb) : DE X c (.BinOp a .Mult b pos) (dOp fMul wa wb) := de_op op_mulW (rz_ii (fun _ _ h => h) fun _ _ _ => .int _) ha hb
theorem de_div (ha : DE X c a wa) (hb : DE X c b wb) : DE X c (.BinOp a .FloorDiv b pos) (dOp fDiv wa wb) := de_op op_fdivW (rz_ii (fun _ _ h => h) fun _ _ _ => .int _) ha hb
theorem de_mod (ha : DE X c a wa) (hb : DE X c b wb) : DE X c (.BinOp a .Mod b pos) (dOp fMod wa wb) := de_op op_mod (rz_ii (fun _ _ h => h) fun _ _ _ => .int _) ha hb
theorem de_gt (ha : DE X c a wa) (hb : DE X c b wb) : DE X c (.Compare a [.Gt] [b] pos) (dOp fGt wa wb) := de_cmp op_gt (rz_ii0 fun _ _ _ => .bl _) ha hb (nobehind b (by decide) (by decide))
theorem de_ge (ha : DE X c a wa) (hb : DE X c b wb) : DE X c (.Compare a [.GtE] [b] pos) (dOp fGe wa wb) := de_cmp op_ge (rz_ii0 fun _ _ _ => .bl _) ha hb (nobehind b (by decide) (by decide))
end
def shp (d : PyData) : Prop := SeqAt.shaped d = true
theorem shp_nd {d : PyData} (h : shp d) : d.hasDict = false := PyData.hasDict_of_canLay d (SeqAt.canLay_of_shaped h)
def txts : PyData → PyData → Bool
  | .str _, .str _ => true
  | _, _ => false
def fEq : PyData → PyData → (PyData → Prop) → Prop := fun x y Q => (txts x y = true ∨ (shp x ∧ shp y)) ∧ Q (.bool (PyData.eqv x y))
def fNe : PyData → PyData → (PyData → Prop) → Prop := fun x y Q => (txts x y = true ∨ (shp x ∧ shp y)) ∧ Q (.bool (!PyData.eqv x y))
theorem txts_of {x y : PyData} (h : txts x y = true) : ∃ a b, x = .str a ∧ y = .str b := by
  cases x <;> cases y <;> first | exact ⟨_, _, rfl, rfl⟩ | exact absurd h (by simp [txts])
theorem eqv_str (a b : Str) : PyData.eqv (.str a) (.str b) = decide (a = b) := by
  have e1 : PyData.eqv (.str a) (.str b) = (a == b) := by simp only [PyData.eqv]
  rw [e1]
  by_cases z : a = b
  · subst z; simp
  · rw [decide_eq_false z]; exact beq_eq_false_iff_ne.mpr z
section
variable {K : PySem.W.Frag}
theorem unm {M : Mz} {H : Hp} {v : V} {d : PyData} (h : Dz K (msk M H) v d) : Dz K H v d := h.up msk_sub
theorem rz_eq : RZ2 K (fun x y H Q => rEq x y H Q ∨ rEqD K x y H Q) fEq := fun c M σ H ev pd v u x y R Q k a b w q => w.1.elim (fun h => by
  obtain ⟨i, j, rfl, rfl⟩ := txts_of h
  cases a
  cases b
  refine .inl ⟨rfl, ?_⟩
  have z := q _ _ _ w.2 (k.push (.bl _))
  rw [eqv_str] at z
  have e : decide (V.str i = V.str j) = decide (i = j) := by simp
  rw [e]
  exact z) fun h => .inr ⟨x, y, (unm a).dp (shp_nd h.1), (unm b).dp (shp_nd h.2), h.1, h.2, q _ _ _ w.2 (k.push (.bl _))⟩
theorem rz_ne : RZ2 K (fun x y H Q => rNe x y H Q ∨ rNeD K x y H Q) fNe := fun c M σ H ev pd v u x y R Q k a b w q => w.1.elim (fun h => by
  obtain ⟨i, j, rfl, rfl⟩ := txts_of h
  cases a
  cases b
  refine .inl ⟨rfl, ?_⟩
  have z := q _ _ _ w.2 (k.push (.bl _))
  rw [eqv_str] at z
  have e : decide (V.str i = V.str j) = decide (i = j) := by simp
  rw [e]
  exact z) fun h => .inr ⟨x, y, (unm a).dp (shp_nd h.1), (unm b).dp (shp_nd h.2), h.1, h.2, q _ _ _ w.2 (k.push (.bl _))⟩
end
section
variable {X : Cx} {c : Cf} {a b : Expr} {wa wb : Wx} {pos : Pos} {n : Nat}
theorem de_eq (hr : Room n X.A) (ha : DE X c a wa) (hb : DE X c b wb) : DE X c (.Compare a [.Eq] [b] pos) (dOp fEq wa wb) := de_cmp (OpR.or op_eq (op_eqD hr.units)) rz_eq ha hb (nobehind b (by decide) (by decide))
end
def isNo : PyData → Bool
  | .none => true
  | _ => false
def fIs : PyData → PyData → (PyData → Prop) → Prop
  | .bool a, .bool b, Q => Q (.bool (decide (a = b)))
  | x, .none, Q => Q (.bool (isNo x))
  | _, _, _ => False
theorem isNo_eq {K : PySem.W.Frag} {H : Hp} {v : V} {d : PyData} (h : Dz K H v d) : isNo d = decide (v = .non) := by cases h <;> rfl
section
variable {X : Cx} {c : Cf} {a b : Expr} {wa wb : Wx} {pos : Pos}
theorem rz_is : RZ2 X.K (fun x y H Q => (∃ a b, x = .bl a ∧ y = .bl b ∧ Q (.bl (decide (a = b))) H) ∨ (y = .non ∧ Q (.bl (decide (x = .non))) H)) fIs := by
  intro c M σ H ev pd v u x y R Q k a b w q
  unfold fIs at w
  split at w
  · cases a; cases b
    exact .inl ⟨_, _, rfl, rfl, q _ _ _ w (k.push (.bl _))⟩
  · cases b
    rw [isNo_eq a] at w
    exact .inr ⟨rfl, q _ _ _ w (k.push (.bl _))⟩
  · exact w.elim
end
def fIx : PyData → PyData → (PyData → Prop) → Prop
  | .list ds, .int i, Q => match atI ds i with
    | some d => Q d
    | none => False
  | .tuple ds, .int i, Q => match atI ds i with
    | some d => Q d
    | none => False
  | _, _, _ => False
theorem atI_rel {K : PySem.W.Frag} {H : Hp} {vs : List V} {ds : List PyData} {i : Int} {d : PyData} (r : DzAll K H vs ds) (h : atI ds i = some d) : ∃ v, atI vs i = some v ∧ Dz K H v d := by
  unfold atI at h ⊢
  rw [r.len]
  cases e : ixN ds.length i with
  | none => rw [e] at h; cases h
  | some j => rw [e] at h; exact r.get j h
section
variable {X : Cx} {c : Cf} {a b : Expr} {wa wb : Wx} {pos : Pos}
theorem rz_ix {K : PySem.W.Frag} : RZ2 K (fun x y H Q => rIxL K x y H Q ∨ rIxT K x y H Q) fIx := by
  intro c M σ H ev pd v u x y R Q k a b w q
  unfold fIx at w
  split at w
  · split at w
    · rename_i e
      cases a with
      | lst h r =>
        cases b
        obtain ⟨z, y1, y2⟩ := atI_rel r e
        exact .inl ⟨_, _, _, z, rfl, rfl, sqL_up msk_sub h, y1, q _ _ _ w (k.push y2)⟩
    · exact w.elim
  · split at w
    · rename_i e
      cases a with
      | tup h r =>
        cases b
        obtain ⟨z, y1, y2⟩ := atI_rel r e
        exact .inr ⟨_, _, _, z, rfl, rfl, sqT_up msk_sub h, y1, q _ _ _ w (k.push y2)⟩
    · exact w.elim
  · exact w.elim
theorem de_item (ha : DE X c a wa) (hb : DE X c b wb) (hs : PlainIx b := by exact fun _ _ => rfl) : DE X c (.Subscript a b pos) (dOp fIx wa wb) := de_ix (IxR.or ix_list ix_tup) rz_ix ha hb hs
end
def fNeg : PyData → (PyData → Prop) → Prop
  | .int i, Q => Q (.int (-i))
  | _, _ => False
def dU (f : PyData → (PyData → Prop) → Prop) (a : Wx) : Wx := fun ev Q => a ev fun x e1 => f x fun z => Q z e1
section
variable {X : Cx} {c : Cf} {a b : Expr} {wa wb : Wx} {pos : Pos}
theorem de_neg (ha : DE X c a wa) : DE X c (.UnaryOp .USub a pos) (dU fNeg wa) := peM (pe_un un_neg ha) fun σ H Q ⟨M, ev, pd, R, k, w, q⟩ =>
  ⟨M, ev, pd, _, k, w, fun d e h v H1 k1 => by
    have t := k1.top
    unfold fNeg at h
    split at h
    · cases t
      exact ⟨_, rfl, q _ _ h _ _ (k1.pop1.push (.int _))⟩
    · exact h.elim⟩
def tru : PyData → Bool
  | .none => false
  | .bool b => b
  | .int i => i != 0
  | .str x => (x.length : Int) != 0
  | .list ds => !ds.isEmpty
  | .tuple ds => !ds.isEmpty
  | .dict _ => false
def truOk : PyData → Prop
  | .str x => x.length ≤ sizeLine
  | .dict (_ :: _) => False
  | _ => True
theorem isEmpty_eq {K : PySem.W.Frag} {H : Hp} {vs : List V} {ds : List PyData} (r : DzAll K H vs ds) : vs.isEmpty = ds.isEmpty := by cases r <;> rfl
theorem tru_rel {K : PySem.W.Frag} {H : Hp} {v : V} {d : PyData} (h : Dz K H v d) (o : truOk d) : TruV K v H (tru d) := by
  cases h with
  | non => exact rfl
  | bl b => exact rfl
  | int i => exact rfl
  | str x => exact ⟨o, rfl⟩
  | lst q r => exact .inl ⟨_, q, by show (!_) = !_; rw [isEmpty_eq r]⟩
  | tup q r => exact .inr (.inl ⟨_, q, by show (!_) = !_; rw [isEmpty_eq r]⟩)
  | dct0 q => exact .inr (.inr ⟨_, q, rfl⟩)
  | dct1 q r => exact o.elim
  | excN a => exact o.elim
  | frt _ _ _ _ => exact o.elim
  | exc q r => exact o.elim
def dTru (a : Wx) : Wt := fun ev Q => a ev fun d e => truOk d ∧ Q (tru d) e
theorem dt_val (ha : DE X c a wa) (he : ∀ whole, PySem.isTrue a X.env whole = (do let v ← whole; standAt a.pos; holding [v] (truthy v)) := by intro _; rfl) : DT X c a (dTru wa) :=
  ptM (pt_truth ha he) fun σ H Q ⟨M, ev, pd, R, k, w, q⟩ => ⟨M, ev, pd, _, k, w, fun d e h v H1 k1 => ⟨_, tru_rel (unm k1.top) h.1, q _ e h.2 H1 k1.pop1⟩⟩
def dNotT (w : Wt) : Wt := fun ev Q => w ev fun b e => Q (!b) e
theorem dt_not {w : Wt} (h : DT X c a w) : DT X c (.UnaryOp .Not a pos) (dNotT w) := ptM (pt_not h) fun σ H Q ⟨M, ev, pd, R, k, w, q⟩ => ⟨M, ev, pd, _, k, w, fun b e h H1 k1 => q _ e h H1 k1⟩
def dAndT (w u : Wt) : Wt := fun ev Q => w ev fun b e => if b = true then u e Q else Q false e
def dOrT (w u : Wt) : Wt := fun ev Q => w ev fun b e => if b = true then Q true e else u e Q
theorem dw_and1 {w : Wt} (h : DT X c a w) : DW X c (.BoolOp .And [a] pos) w := pw_and1 h
theorem dw_or1 {w : Wt} (h : DT X c a w) : DW X c (.BoolOp .Or [a] pos) w := pw_or1 h
theorem dw_and {w u : Wt} {rest : List Expr} (h : DT X c a w) (h2 : DW X c (.BoolOp .And (b :: rest) pos) u) : DW X c (.BoolOp .And (a :: b :: rest) pos) (dAndT w u) := pwM (pw_and h h2) fun σ H Q ⟨M, ev, pd, R, k, w, q⟩ =>
  ⟨M, ev, pd, _, k, w, fun b e h H1 k1 => by
    by_cases z : b = true
    · rw [if_pos z] at h ⊢
      exact ⟨M, e, pd, R, k1, h, q⟩
    · rw [if_neg z] at h ⊢
      exact q _ e h H1 k1⟩
theorem dw_or {w u : Wt} {rest : List Expr} (h : DT X c a w) (h2 : DW X c (.BoolOp .Or (b :: rest) pos) u) : DW X c (.BoolOp .Or (a :: b :: rest) pos) (dOrT w u) := pwM (pw_or h h2) fun σ H Q ⟨M, ev, pd, R, k, w, q⟩ =>
  ⟨M, ev, pd, _, k, w, fun b e h H1 k1 => by
    by_cases z : b = true
    · rw [if_pos z] at h ⊢
      exact q _ e h H1 k1
    · rw [if_neg z] at h ⊢
      exact ⟨M, e, pd, R, k1, h, q⟩⟩
theorem dt_w {w : Wt} (h : DW X c a w) : DT X c a w := h.pt
def dAnd (w u : Wx) : Wx := fun ev Q => w ev fun d e => match d with
  | .bool b => if b = true then u e Q else Q (.bool false) e
  | _ => False
def dOr (w u : Wx) : Wx := fun ev Q => w ev fun d e => match d with
  | .bool b => if b = true then Q (.bool true) e else u e Q
  | _ => False
theorem de_one {op : BoolOp} {w : Wx} (h : DE X c a w) : DE X c (.BoolOp op [a] pos) w := pe_one h
theorem de_and {w u : Wx} {rest : List Expr} (h : DE X c a w) (h2 : DE X c (.BoolOp .And (b :: rest) pos) u) : DE X c (.BoolOp .And (a :: b :: rest) pos) (dAnd w u) := peM (pe_and h h2) fun σ H Q ⟨M, ev, pd, R, k, w, q⟩ =>
  ⟨M, ev, pd, _, k, w, fun d e h v H1 k1 => by
    have t := k1.top
    split at h
    · cases t
      rename_i z
      refine ⟨_, rfl, ?_⟩
      by_cases z : z = true
      · rw [if_pos z] at h ⊢
        exact ⟨M, e, pd, R, k1.pop1, h, q⟩
      · rw [if_neg z] at h ⊢
        exact q _ e h _ H1 (k1.pop1.push (.bl _))
    · exact h.elim⟩
theorem de_or {w u : Wx} {rest : List Expr} (h : DE X c a w) (h2 : DE X c (.BoolOp .Or (b :: rest) pos) u) : DE X c (.BoolOp .Or (a :: b :: rest) pos) (dOr w u) := peM (pe_or h h2) fun σ H Q ⟨M, ev, pd, R, k, w, q⟩ =>
  ⟨M, ev, pd, _, k, w, fun d e h v H1 k1 => by
    have t := k1.top
    split at h
    · cases t
      rename_i z
      refine ⟨_, rfl, ?_⟩
      by_cases z : z = true
      · rw [if_pos z] at h ⊢
        exact q _ e h _ H1 (k1.pop1.push (.bl _))
      · rw [if_neg z] at h ⊢
        exact ⟨M, e, pd, R, k1.pop1, h, q⟩
    · exact h.elim⟩
def dNot (w : Wx) : Wx := fun ev Q => w ev fun d e => match d with
  | .bool b => Q (.bool (!b)) e
  | _ => False
theorem de_not {w : Wx} (h : DE X c a w) : DE X c (.UnaryOp .Not a pos) (dNot w) := peM (pe_not h) fun σ H Q ⟨M, ev, pd, R, k, w, q⟩ =>
  ⟨M, ev, pd, _, k, w, fun d e h v H1 k1 => by
    have t := k1.top
    split at h
    · cases t
      exact ⟨_, rfl, q _ e h _ H1 (k1.pop1.push (.bl _))⟩
    · exact h.elim⟩
def dIf (t : Wt) (w u : Wx) : Wx := fun ev Q => t ev fun b e => if b = true then w e Q else u e Q
theorem de_if {t : Wt} {w u : Wx} {tst : Expr} (ht : DT X c tst t) (ha : DE X c a w) (hb : DE X c b u) : DE X c (.IfExp tst a b pos) (dIf t w u) := peM (pe_ifExp ht ha hb) fun σ H Q ⟨M, ev, pd, R, k, w, q⟩ =>
  ⟨M, ev, pd, _, k, w, fun z e h H1 k1 => by
    by_cases z : z = true
    · rw [if_pos z] at h ⊢
      exact ⟨M, e, pd, R, k1, h, q⟩
    · rw [if_neg z] at h ⊢
      exact ⟨M, e, pd, R, k1, h, q⟩⟩
end
end Z
set_option Elab.async false
set_option linter.all false
set_option maxRecDepth 100000
namespace Z
open PySem L2
def RZc (K : PySem.W.Frag) (r : List V → Hp → VK → Prop) (f : List PyData → (PyData → Prop) → Prop) : Prop := ∀ (c : Cf) (M : Mz) (σ : Sg) (H : Hp) (ev : Ev) (pd : List (V × PyData)) (vs : List V) (ds : List PyData) (R : PyData → Prop) (Q : VK),
  Ok K c M σ H ev pd → DzAll K (msk M H) vs ds → f ds R → (∀ d w H', R d → Ok K c M σ H' ev ((w, d) :: pd) → Q w H') → r vs H Q
def dCal (f : List PyData → (PyData → Prop) → Prop) (u : Wa) : Wx := fun ev Q => u ev fun ds e => f ds fun d => Q d e
section
variable {X : Cx} {c : Cf}
theorem cal_rd {r : List V → Hp → VK → Prop} {f} (h : RZc X.K r f) {u : Wa} {σ : Sg} {H : Hp} {Q : VK} (q : tE X.K c (dCal f u) σ H Q) : tCB r (tA X.K c u) σ H Q := by
  obtain ⟨M, ev, pd, R, k, w, q⟩ := q
  exact ⟨M, ev, pd, _, k, w, fun ds e h1 vs H1 k1 r1 => h c M σ H1 e pd vs ds _ Q k1 r1 h1 fun d w' H' hd ok => q d e hd w' H' ok⟩
theorem de_cB {x : Str} {p pos : Pos} {e : Expr} {es : List Expr} {u : Wa} {id : String} {r : List V → Hp → VK → Prop} {f} (hc : CallR X (.builtin id) r) (h : RZc X.K r f) (hg : Gl X x) (hm : X.mg x = none) (hv : bootBuiltins x = some (.builtin id)) (ha : DA X c (e :: es) u)
    (h1 : x ≠ "__name__" := by decide) (h2 : (x == ("__debug__" : Str)) = false := by decide) (h3 : starEach (e :: es) X.env = (false, eval e X.env) :: starEach es X.env := by rfl) (h4 : (backTo pos (starEach es X.env)).any (·.1) = false := by rfl) :
    DE X c (.Call (.Name x p) (e :: es) [] pos) (dCal f u) := peM (pe_callB hc hg hm hv ha h1 h2 h3 h4) fun _ _ _ q => cal_rd h q
theorem de_cT {x : Str} {p pos : Pos} {e : Expr} {es : List Expr} {u : Wa} {T : String} {r : List V → Hp → VK → Prop} {f} (hc : CallR X (.type T) r) (h : RZc X.K r f) (hg : Gl X x) (hm : X.mg x = none) (hv : bootBuiltins x = some (.type T)) (ha : DA X c (e :: es) u)
    (h1 : x ≠ "__name__" := by decide) (h2 : (x == ("__debug__" : Str)) = false := by decide) (h3 : starEach (e :: es) X.env = (false, eval e X.env) :: starEach es X.env := by rfl) (h4 : (backTo pos (starEach es X.env)).any (·.1) = false := by rfl) :
    DE X c (.Call (.Name x p) (e :: es) [] pos) (dCal f u) := peM (pe_callTy hc hg hm hv ha h1 h2 h3 h4) fun _ _ _ q => cal_rd h q
theorem de_cM {x : Str} {p pos : Pos} {e : Expr} {es : List Expr} {u : Wa} {id : String} {r : List V → Hp → VK → Prop} {f} (hc : CallR X (.builtin id) r) (h : RZc X.K r f) (hg : Gl X x) (hm : X.mg x = some (.builtin id)) (ha : DA X c (e :: es) u)
    (h2 : (x == ("__debug__" : Str)) = false := by decide) (h3 : starEach (e :: es) X.env = (false, eval e X.env) :: starEach es X.env := by rfl) (h4 : (backTo pos (starEach es X.env)).any (·.1) = false := by rfl) :
    DE X c (.Call (.Name x p) (e :: es) [] pos) (dCal f u) := peM (pe_callBfun hc hg hm ha h2 h3 h4) fun _ _ _ q => cal_rd h q
end
def fAbs : List PyData → (PyData → Prop) → Prop
  | [.int i], Q => Q (.int (if i < 0 then -i else i))
  | _, _ => False
def fInt : List PyData → (PyData → Prop) → Prop
  | [.int i], Q => Q (.int i)
  | [.bool b], Q => Q (.int (if b then 1 else 0))
  | _, _ => False
def fMax2 : List PyData → (PyData → Prop) → Prop
  | [.int i, .int j], Q => Q (.int (if j > i then j else i))
  | _, _ => False
def fMin2 : List PyData → (PyData → Prop) → Prop
  | [.int i, .int j], Q => Q (.int (if j < i then j else i))
  | _, _ => False
def fDivmod : List PyData → (PyData → Prop) → Prop
  | [.int i, .int j], Q => (0 < j ∧ j < 1073741824) ∧ Q (.tuple [.int (i / j), .int (i % j)])
  | _, _ => False
def fGcd : List PyData → (PyData → Prop) → Prop
  | [.int i, .int j], Q => Q (.int ((Nat.gcd i.natAbs j.natAbs : Nat) : Int))
  | _, _ => False
def fLen : List PyData → (PyData → Prop) → Prop
  | [.list ds], Q => Q (.int ds.length)
  | [.tuple ds], Q => Q (.int ds.length)
  | [.str x], Q => x.length ≤ sizeLine ∧ Q (.int x.length)
  | _, _ => False
def fTuple : List PyData → (PyData → Prop) → Prop
  | [.list ds], Q => Q (.tuple ds)
  | [.tuple ds], Q => Q (.tuple ds)
  | _, _ => False
def bools : List PyData → Option (List Bool)
  | [] => some []
  | .bool b :: r => (bools r).map (b :: ·)
  | _ :: _ => none
def fAll : List PyData → (PyData → Prop) → Prop
  | [.list ds], Q => match bools ds with
    | some bs => Q (.bool (bs.all id))
    | none => False
  | _, _ => False
section
variable {K : PySem.W.Frag}
theorem bools_rel {H : Hp} : ∀ {vs : List V} {ds : List PyData} {bs : List Bool}, DzAll K H vs ds → bools ds = some bs → vs = bs.map V.bl
  | _, _, _, .nil, h => by cases h; rfl
  | _, _, _, .cons a b, h => by
    cases a with
    | bl x =>
      unfold bools at h
      obtain ⟨r, h1, h2⟩ := Option.map_eq_some_iff.mp h
      subst h2
      rw [List.map_cons, bools_rel b h1]
    | _ => cases h
theorem rz_abs : RZc K (fun xs H Q => ∃ i, xs = [.int i] ∧ Q (.int (if i < 0 then -i else i)) H) fAbs := by
  intro c M σ H ev pd vs ds R Q k a w q
  unfold fAbs at w
  split at w
  · cases a with | cons a b => cases a; cases b; exact ⟨_, rfl, q _ _ _ w (k.push (.int _))⟩
  · exact w.elim
theorem rz_int : RZc K (fun xs H Q => (∃ i, xs = [.int i] ∧ Q (.int i) H) ∨ ∃ k, xs = [.bl k] ∧ Q (.int (if k then 1 else 0)) H) fInt := by
  intro c M σ H ev pd vs ds R Q k a w q
  unfold fInt at w
  split at w
  · cases a with | cons a b => cases a; cases b; exact .inl ⟨_, rfl, q _ _ _ w (k.push (.int _))⟩
  · cases a with | cons a b => cases a; cases b; exact .inr ⟨_, rfl, q _ _ _ w (k.push (.int _))⟩
  · exact w.elim
theorem rz_max2 : RZc K (fun xs H Q => ∃ i j, xs = [.int i, .int j] ∧ Q (.int (if j > i then j else i)) H) fMax2 := by
  intro c M σ H ev pd vs ds R Q k a w q
  unfold fMax2 at w
  split at w
  · cases a with | cons a b => cases b with | cons b d => cases a; cases b; cases d; exact ⟨_, _, rfl, q _ _ _ w (k.push (.int _))⟩
  · exact w.elim
theorem rz_min2 : RZc K (fun xs H Q => ∃ i j, xs = [.int i, .int j] ∧ Q (.int (if j < i then j else i)) H) fMin2 := by
  intro c M σ H ev pd vs ds R Q k a w q
  unfold fMin2 at w
  split at w
  · cases a with | cons a b => cases b with | cons b d => cases a; cases b; cases d; exact ⟨_, _, rfl, q _ _ _ w (k.push (.int _))⟩
  · exact w.elim
theorem rz_divmod : RZc K (fun xs H Q => ∃ i j, xs = [.int i, .int j] ∧ CDiv i j ∧ ∀ p, H p = none → Q (.ref p) (upd H p (.tup [.int (i / j), .int (i % j)]))) fDivmod := by
  intro c M σ H ev pd vs ds R Q k a w q
  unfold fDivmod at w
  split at w
  · cases a with | cons a b => cases b with | cons b d => cases a; cases b; cases d; exact ⟨_, _, rfl, w.1, fun p hp => q _ _ _ w.2 (k.newTup hp (.cons (.int _) (.cons (.int _) .nil)))⟩
  · exact w.elim
theorem rz_gcd : RZc K rGcd fGcd := by
  intro c M σ H ev pd vs ds R Q k a w q
  unfold fGcd at w
  split at w
  · cases a with | cons a b => cases b with | cons b d => cases a; cases b; cases d; exact ⟨_, _, rfl, q _ _ _ w (k.push (.int _))⟩
  · exact w.elim
theorem rz_len : RZc K (fun xs H Q => (∃ p ys, xs = [.ref p] ∧ (SqL K H p ys ∨ SqT K H p ys) ∧ Q (.int ys.length) H) ∨ ∃ z, xs = [.str z] ∧ z.length ≤ sizeLine ∧ Q (.int z.length) H) fLen := by
  intro c M σ H ev pd vs ds R Q k a w q
  unfold fLen at w
  split at w
  · cases a with | cons a b => cases a with | lst h r => cases b; rw [← r.len] at w; exact .inl ⟨_, _, rfl, .inl (sqL_up msk_sub h), q _ _ _ w (k.push (.int _))⟩
  · cases a with | cons a b => cases a with | tup h r => cases b; rw [← r.len] at w; exact .inl ⟨_, _, rfl, .inr (sqT_up msk_sub h), q _ _ _ w (k.push (.int _))⟩
  · cases a with | cons a b => cases a; cases b; exact .inr ⟨_, rfl, w.1, q _ _ _ w.2 (k.push (.int _))⟩
  · exact w.elim
theorem rz_tuple : RZc K (fun xs H Q => ∃ p ys, xs = [.ref p] ∧ ((SqL K H p ys ∧ ∀ l, H l = none → Q (.ref l) (upd H l (.tup ys))) ∨ (SqT K H p ys ∧ Q (.ref p) H))) fTuple := by
  intro c M σ H ev pd vs ds R Q k a w q
  unfold fTuple at w
  split at w
  · cases a with | cons a b => cases a with | lst h r => cases b; exact ⟨_, _, rfl, .inl ⟨sqL_up msk_sub h, fun p hp => q _ _ _ w (k.newTup hp r)⟩⟩
  · cases a with | cons a b => cases a with | tup h r => cases b; exact ⟨_, _, rfl, .inr ⟨sqT_up msk_sub h, q _ _ _ w (k.push (.tup h r))⟩⟩
  · exact w.elim
theorem rz_all : RZc K (rAll K) fAll := by
  intro c M σ H ev pd vs ds R Q k a w q
  unfold fAll at w
  split at w
  · split at w
    · rename_i e
      cases a with | cons a b => cases a with | lst h r => cases b; exact ⟨_, _, rfl, (by rw [← bools_rel r e]; exact sqL_up msk_sub h), q _ _ _ w (k.push (.bl _))⟩
    · exact w.elim
  · exact w.elim
end
section
variable {X : Cx}
theorem callR_or {f : Value} {r r' : List V → Hp → VK → Prop} (h : CallR X f r) (h' : CallR X f r') : CallR X f (fun xs H Q => r xs H Q ∨ r' xs H Q) := fun pins s σ H xs us Q I q z => z.elim (h pins s σ H xs us Q I q) (h' pins s σ H xs us Q I q)
end
section
variable {X : Cx} {c : Cf} {p pos : Pos} {e : Expr} {es : List Expr} {u : Wa}
theorem de_abs (hg : Gl X "abs") (hm : X.mg "abs" = none) (ha : DA X c (e :: es) u) (h3 : starEach (e :: es) X.env = (false, eval e X.env) :: starEach es X.env := by rfl) (h4 : (backTo pos (starEach es X.env)).any (·.1) = false := by rfl) :
    DE X c (.Call (.Name "abs" p) (e :: es) [] pos) (dCal fAbs u) := de_cB call_abs rz_abs hg hm (by decide +kernel) ha (h3 := h3) (h4 := h4)
theorem de_intc (hg : Gl X "int") (hm : X.mg "int" = none) (ha : DA X c (e :: es) u) (h3 : starEach (e :: es) X.env = (false, eval e X.env) :: starEach es X.env := by rfl) (h4 : (backTo pos (starEach es X.env)).any (·.1) = false := by rfl) :
    DE X c (.Call (.Name "int" p) (e :: es) [] pos) (dCal fInt u) := de_cT call_int1 rz_int hg hm (by decide +kernel) ha (h3 := h3) (h4 := h4)
theorem de_max2 (hc : X.calm = true) (hg : Gl X "max") (hm : X.mg "max" = none) (ha : DA X c (e :: es) u) (h3 : starEach (e :: es) X.env = (false, eval e X.env) :: starEach es X.env := by rfl) (h4 : (backTo pos (starEach es X.env)).any (·.1) = false := by rfl) :
    DE X c (.Call (.Name "max" p) (e :: es) [] pos) (dCal fMax2 u) := de_cB (call_max2 hc) rz_max2 hg hm (by decide +kernel) ha (h3 := h3) (h4 := h4)
theorem de_min2 (hc : X.calm = true) (hg : Gl X "min") (hm : X.mg "min" = none) (ha : DA X c (e :: es) u) (h3 : starEach (e :: es) X.env = (false, eval e X.env) :: starEach es X.env := by rfl) (h4 : (backTo pos (starEach es X.env)).any (·.1) = false := by rfl) :
    DE X c (.Call (.Name "min" p) (e :: es) [] pos) (dCal fMin2 u) := de_cB (call_min2 hc) rz_min2 hg hm (by decide +kernel) ha (h3 := h3) (h4 := h4)
theorem de_divmod (hg : Gl X "divmod") (hm : X.mg "divmod" = none) (ha : DA X c (e :: es) u) (h3 : starEach (e :: es) X.env = (false, eval e X.env) :: starEach es X.env := by rfl) (h4 : (backTo pos (starEach es X.env)).any (·.1) = false := by rfl) :
    DE X c (.Call (.Name "divmod" p) (e :: es) [] pos) (dCal fDivmod u) := de_cB call_divmod rz_divmod hg hm (by decide +kernel) ha (h3 := h3) (h4 := h4)
theorem de_gcd (hg : Gl X "gcd") (hm : X.mg "gcd" = some (.builtin "math.gcd")) (ha : DA X c (e :: es) u) (h3 : starEach (e :: es) X.env = (false, eval e X.env) :: starEach es X.env := by rfl) (h4 : (backTo pos (starEach es X.env)).any (·.1) = false := by rfl) :
    DE X c (.Call (.Name "gcd" p) (e :: es) [] pos) (dCal fGcd u) := de_cM cr_gcd rz_gcd hg hm ha (h3 := h3) (h4 := h4)
theorem de_len (hg : Gl X "len") (hm : X.mg "len" = none) (ha : DA X c (e :: es) u) (h3 : starEach (e :: es) X.env = (false, eval e X.env) :: starEach es X.env := by rfl) (h4 : (backTo pos (starEach es X.env)).any (·.1) = false := by rfl) :
    DE X c (.Call (.Name "len" p) (e :: es) [] pos) (dCal fLen u) := de_cB (callR_or call_len_seq call_len_str) rz_len hg hm (by decide +kernel) ha (h3 := h3) (h4 := h4)
theorem de_tuple (hg : Gl X "tuple") (hm : X.mg "tuple" = none) (ha : DA X c (e :: es) u) (h3 : starEach (e :: es) X.env = (false, eval e X.env) :: starEach es X.env := by rfl) (h4 : (backTo pos (starEach es X.env)).any (·.1) = false := by rfl) :
    DE X c (.Call (.Name "tuple" p) (e :: es) [] pos) (dCal fTuple u) := de_cT call_tuple_of rz_tuple hg hm (by decide +kernel) ha (h3 := h3) (h4 := h4)
theorem de_all (hc : X.calm = true) (hg : Gl X "all") (hm : X.mg "all" = none) (ha : DA X c (e :: es) u) (h3 : starEach (e :: es) X.env = (false, eval e X.env) :: starEach es X.env := by rfl) (h4 : (backTo pos (starEach es X.env)).any (·.1) = false := by rfl) :
    DE X c (.Call (.Name "all" p) (e :: es) [] pos) (dCal fAll u) := de_cB (cr_all hc) rz_all hg hm (by decide +kernel) ha (h3 := h3) (h4 := h4)
end
/-- a datum that may be shown, and what comes after -/
structure RP (d : PyData) (P : Prop) : Prop where
  ok : d.showable = true ∧ d.shown.length ≤ sizeLine ∧ d.depth ≤ 100 ∧ d.hasDict = false
  p : P
def fRepr : List PyData → (PyData → Prop) → Prop
  | [d], Q => RP d (Q (.str d.shown))
  | _, _ => False
def rRepr (K : PySem.W.Frag) : List V → Hp → VK → Prop := fun vs H Q => ∃ x d, vs = [x] ∧ Dp K H x d ∧ (d.showable = true ∧ d.shown.length ≤ sizeLine ∧ d.depth ≤ 100 ∧ d.hasDict = false) ∧ Q (.str d.shown) H
theorem cr_repr {X : Cx} {n : Nat} (hr : Room n X.A) (hG : X.A.guards = some []) : CallR X (.builtin "repr") (rRepr X.K) := by
  intro pins s σ H xs us Q I r h
  obtain ⟨x, d, rfl, hd, ⟨g1, g2, g3, g4⟩, q⟩ := h
  obtain ⟨u, rfl, ru⟩ : ∃ u, us = [u] ∧ RelV x u := by
    cases r with
    | cons a b => cases b; exact ⟨_, rfl, a⟩
  have un := hr.un
  have fin : ∀ (z : Str) (t : Tok) (h' : Heap) (tk : Nat), (∀ b o, s.heap.get? b = some o → h'.get? b = some o) → Q (.str z) H → EP X pins σ Q (.str z t) { s with heap := h', toks := tk } := fun z t h' tk k q => ⟨.str z, H, I.kept k, ⟨t, rfl⟩, q⟩
  cases hd with
  | non => cases ru; exact PySem.P.repr_of_none (fin _ _ _ _ (fun _ _ e => e) q)
  | bl b => cases ru; exact PySem.P.repr_of_bool (fin _ _ _ _ (fun _ _ e => e) q)
  | int i => obtain ⟨t, rfl⟩ := ru; exact PySem.P.repr_of_int (by simpa [PyData.showable] using g1) (fin _ _ _ _ (fun _ _ e => e) q)
  | str z => obtain ⟨t, rfl⟩ := ru; exact PySem.P.repr_of_str (fin _ _ _ _ (fun _ _ e => e) q) (by simpa [PyData.shown] using g2)
  | lst q1 q2 =>
    obtain ⟨as, r1⟩ := Dp.reads I _ _ u (.lst q1 q2) ru
    cases ru
    exact repr_of_reads' r1 g1 (fun e => by rw [g4] at e; cases e) hG (by omega) (fun _ _ e => e) (fun h' t tk k => fin _ _ _ _ k q) g2
  | tup q1 q2 =>
    obtain ⟨as, r1⟩ := Dp.reads I _ _ u (.tup q1 q2) ru
    cases ru
    exact repr_of_reads' r1 g1 (fun e => by rw [g4] at e; cases e) hG (by omega) (fun _ _ e => e) (fun h' t tk k => fin _ _ _ _ k q) g2
theorem rz_repr {K : PySem.W.Frag} : RZc K (rRepr K) fRepr := by
  intro c M σ H ev pd vs ds R Q k a w q
  unfold fRepr at w
  split at w
  · cases a with | cons a b => cases b; exact ⟨_, _, rfl, (unm a).dp w.ok.2.2.2, w.ok, q _ _ _ w.p (k.push (.str _))⟩
  · exact w.elim
section
variable {X : Cx} {c : Cf} {p pos : Pos} {e : Expr} {es : List Expr} {u : Wa}
theorem de_repr {n : Nat} (hr : Room n X.A) (hG : X.A.guards = some []) (hg : Gl X "repr") (hm : X.mg "repr" = none) (ha : DA X c (e :: es) u) (h3 : starEach (e :: es) X.env = (false, eval e X.env) :: starEach es X.env := by rfl) (h4 : (backTo pos (starEach es X.env)).any (·.1) = false := by rfl) :
    DE X c (.Call (.Name "repr" p) (e :: es) [] pos) (dCal fRepr u) := de_cB (cr_repr hr hG) rz_repr hg hm (by decide +kernel) ha (h3 := h3) (h4 := h4)
end
def tyN : PyData → String
  | .none => "NoneType"
  | .bool _ => "bool"
  | .int _ => "int"
  | .str _ => "str"
  | .list _ => "list"
  | .tuple _ => "tuple"
  | .dict _ => "dict"
def isA (T : String) (d : PyData) : Bool := tyN d == T || (tyN d == "bool" && T == "int")
def isInt : PyData → Bool
  | .int _ => true
  | .bool _ => true
  | _ => false
def isBool : PyData → Bool
  | .bool _ => true
  | _ => false
def isTuple : PyData → Bool
  | .tuple _ => true
  | _ => false
theorem isA_int : ∀ d, isInt d = isA "int" d := fun d => by cases d <;> rfl
theorem isA_bool : ∀ d, isBool d = isA "bool" d := fun d => by cases d <;> rfl
theorem isA_tuple : ∀ d, isTuple d = isA "tuple" d := fun d => by cases d <;> rfl
/-- no caught exception -/
def okE : PyData → Prop → Prop
  | .dict ((.int _, _) :: _), _ => False
  | _, P => P
theorem okE_of {d : PyData} {P : Prop} (h : okE d P) : P := by
  unfold okE at h
  split at h
  · exact h.elim
  · exact h
def dIsa (f : PyData → Bool) (w : Wx) : Wx := fun ev Q => w ev fun d e => okE d (Q (.bool (f d)) e)
theorem ty_rel {K : PySem.W.Frag} {H : Hp} {v : V} {d : PyData} {P : Prop} (h : Dz K H v d) (o : okE d P) : TyX K H v (.type (tyN d)) := by
  cases h with
  | non => exact .base .non
  | bl b => exact .base (.bl b)
  | int i => exact .base (.int i)
  | str x => exact .base (.str x)
  | lst q r =>
    rcases q with (q | ⟨o, q⟩) | ⟨o, its, n, q1, q2, _⟩
    · exact .base (.lst q)
    · exact .base (.frz q)
    · exact .kList q1 q2
  | tup q r =>
    rcases q with (q | ⟨o, q⟩) | ⟨o, its, n, q1, q2, _⟩
    · exact .base (.tup q)
    · exact .fTuple q
    · exact .kTuple q1 q2
  | dct0 q => exact .base (.dK q)
  | dct1 q _ => exact .base (.dK q)
  | excN _ => exact o.elim
  | frt _ _ _ _ => exact o.elim
  | exc _ _ => exact o.elim
section
variable {X : Cx} {c : Cf} {p p2 pos : Pos} {e : Expr} {w : Wx}
theorem de_isa (T : Str) {Ts : String} {f : PyData → Bool} (hT : bootBuiltins T = some (.type Ts)) (hf : ∀ d, f d = isA Ts d) (kits : ∀ a ∈ ["NoneType", "bool", "int", "str", "list", "tuple", "dict"], kitB a Ts = some (a == Ts || (a == "bool" && Ts == "int"))) (hg : Gl X "isinstance") (hm : X.mg "isinstance" = none) (hgT : Gl X T) (hmT : X.mg T = none) (ha : DE X c e w)
    (n1 : T ≠ "__name__" := by decide) (n2 : (T == ("__debug__" : Str)) = false := by decide)
    (h3 : starEach [e, .Name T p2] X.env = (false, eval e X.env) :: starEach [.Name T p2] X.env := by rfl) (h5 : starEach [.Name T p2] X.env = (false, eval (.Name T p2) X.env) :: starEach [] X.env := by rfl) (h4 : (backTo pos (starEach [.Name T p2] X.env)).any (·.1) = false := by rfl) :
    DE X c (.Call (.Name "isinstance" p) [e, .Name T p2] [] pos) (dIsa f w) :=
  peM (pe_callB call_isi hg hm (by decide +kernel) (pa_cons ha (pa_cons (pe_bltn (v := .ty Ts) hgT hmT hT rfl n1 n2) pa_nil h5) h3) (by decide) (by decide) h3 h4) fun σ H Q ⟨M, ev, pd, R, k, w, q⟩ =>
    ⟨M, ev, pd, _, k, w, fun d e h v H1 k1 => ⟨v, .ty Ts, _, _, f d, rfl, .ty Ts, ty_rel (unm k1.top) h, kit_ty (by rw [hf d]; exact kits (tyN d) (by cases d <;> simp [tyN])), q _ e (okE_of h) _ _ (k1.pop1.push (.bl _))⟩⟩
theorem kits_int : ∀ a ∈ ["NoneType", "bool", "int", "str", "list", "tuple", "dict"], kitB a "int" = some (a == "int" || (a == "bool" && "int" == "int")) := by decide +kernel
theorem kits_bool : ∀ a ∈ ["NoneType", "bool", "int", "str", "list", "tuple", "dict"], kitB a "bool" = some (a == "bool" || (a == "bool" && "bool" == "int")) := by decide +kernel
theorem kits_tuple : ∀ a ∈ ["NoneType", "bool", "int", "str", "list", "tuple", "dict"], kitB a "tuple" = some (a == "tuple" || (a == "bool" && "tuple" == "int")) := by decide +kernel
end
def fCat : PyData → PyData → (PyData → Prop) → Prop
  | .int i, .int j, Q => Q (.int (i + j))
  | .tuple xs, .tuple ys, Q => xs.length + ys.length ≤ 1000 ∧ Q (.tuple (xs ++ ys))
  | .list xs, .list ys, Q => xs.length + ys.length ≤ 1000 ∧ Q (.list (xs ++ ys))
  | _, _, _ => False
section
variable {X : Cx} {c : Cf} {a b : Expr} {wa wb : Wx} {pos : Pos}
def rCatQ (K : PySem.W.Frag) : R2 := fun x y H Q => ∃ l b xs zs, x = .ref l ∧ y = .ref b ∧ SqL K H l xs ∧ SqL K H b zs ∧ xs.length + zs.length ≤ sizeLine ∧ ∀ p, H p = none → Q (.ref p) (upd H p (.lst (xs ++ zs)))
theorem op_catQ : OpR X (binaryOp .Add) (rCatQ X.K) := by
  intro pins s σ H x y v u Q I rx ry h
  obtain ⟨l, b, xs, zs, rfl, rfl, h1, h2, hz, q⟩ := h
  cases rx
  cases ry
  obtain ⟨its, r1, ⟨o1, n1, g1, c1, _, d1⟩, _⟩ := I.list h1
  obtain ⟨jts, r2, ⟨o2, n2, g2, c2, _, d2⟩, _⟩ := I.list h2
  obtain ⟨cl1, dd1, da1, sl1⟩ := o1
  obtain ⟨cl2, dd2, da2, sl2⟩ := o2
  simp only at c1 d1 c2 d2
  subst c1 d1 c2 d2
  have sz : its.length + jts.length ≤ sizeLine := by rw [← r1.length, ← r2.length]; exact hz
  have ea : its.toArray ++ jts.toArray = (its ++ jts).toArray := by simp
  refine PySem.concat_meets ⟨_, g1, rfl⟩ ⟨_, g2, rfl⟩ PySem.noFill_list_add PySem.seq_list_add PySem.F.slot_list_add PySem.F.entry_list_add (PySem.F.args_list_add_2 _ _) (PyProof.Rows.list_addW l b its.toArray jts.toArray n1 n2 dd1 dd2 sl1 sl2 (by simpa using sz)) ⟨g1, g2, ?_⟩
  rw [ea]
  exact ⟨.ref _, _, I.lnew (t' := s.toks) (r1.append r2) (by rw [List.length_append]; exact hz), rfl, q _ I.fresh⟩
theorem nil_of {K : PySem.W.Frag} {H : Hp} {ds : List PyData} {vs : List V} (r : DzAll K H vs ds) (h : vs = []) : ds = [] := by subst h; cases r; rfl
theorem rz_cat {K : PySem.W.Frag} : RZ2 K (fun x y H Q => rI0 (fun i j => .int (i + j)) x y H Q ∨ (rCatA K x y H Q ∨ rCatQ K x y H Q)) fCat := by
  intro c M σ H ev pd v u x y R Q k a b w q
  unfold fCat at w
  split at w
  · cases a; cases b
    exact .inl ⟨_, _, rfl, rfl, q _ _ _ w (k.push (.int _))⟩
  · cases a with
    | tup h1 r1 =>
      cases b with
      | tup h2 r2 =>
        refine .inr (.inl ⟨_, _, _, _, rfl, rfl, sqT_up msk_sub h1, sqT_up msk_sub h2, by rw [r1.len, r2.len]; exact line_of w.1, fun e => ?_, fun _ e => ?_, fun _ _ p hp => q _ _ _ w.2 (k.newTup hp (r1.app r2))⟩)
        · rw [nil_of r1 e, List.nil_append] at w
          exact q _ _ _ w.2 (k.push (.tup h2 r2))
        · rw [nil_of r2 e, List.append_nil] at w
          exact q _ _ _ w.2 (k.push (.tup h1 r1))
  · cases a with
    | lst h1 r1 =>
      cases b with
      | lst h2 r2 => exact .inr (.inr ⟨_, _, _, _, rfl, rfl, sqL_up msk_sub h1, sqL_up msk_sub h2, by rw [r1.len, r2.len]; exact line_of w.1, fun p hp => q _ _ _ w.2 (k.newLst hp (r1.app r2))⟩)
  · exact w.elim
theorem de_cat (ha : DE X c a wa) (hb : DE X c b wb) : DE X c (.BinOp a .Add b pos) (dOp fCat wa wb) := de_op (OpR.or op_add (OpR.or op_catA op_catQ)) rz_cat ha hb
end
abbrev Wo := Ev → (Option Int → Ev → Prop) → Prop
def tOpt (K : PySem.W.Frag) (c : Cf) (w : Wo) : TO := fun σ H Q => ∃ M ev pd R, Ok K c M σ H ev pd ∧ w ev R ∧ ∀ b ev', R b ev' → ∀ H', Ok K c M σ H' ev' pd → Q b H'
def cutD {α : Type} (xs : List α) (lo hi : Option Int) : List α := (xs.drop (HT.sIx xs.length 0 lo)).take (HT.sIx xs.length xs.length hi - HT.sIx xs.length 0 lo)
def doN : Wo := fun ev Q => Q none ev
def doS (w : Wx) : Wo := fun ev Q => w ev fun d e => match d with
  | .int i => Q (some i) e
  | _ => False
def fSl (lo hi : Option Int) : PyData → (PyData → Prop) → Prop
  | .tuple ds, Q => Q (.tuple (cutD ds lo hi))
  | .list ds, Q => Q (.list (cutD ds lo hi))
  | _, _ => False
def dSl (w : Wx) (lo hi : Wo) : Wx := fun ev Q => w ev fun d e => lo e fun l e1 => hi e1 fun h e2 => fSl l h d fun z => Q z e2
theorem cut_rel {K : PySem.W.Frag} {H : Hp} {vs : List V} {ds : List PyData} (r : DzAll K H vs ds) (lo hi : Option Int) : DzAll K H (cutV vs lo hi) (cutD ds lo hi) := by
  unfold cutD
  rw [← r.len]
  exact (r.drop _).take _
theorem cut_all {ds : List PyData} {lo hi : Option Int} (h1 : HT.sIx ds.length 0 lo = 0) (h2 : HT.sIx ds.length ds.length hi = ds.length) : cutD ds lo hi = ds := by
  unfold cutD
  rw [h1, h2]
  simp
section
variable {X : Cx} {c : Cf} {a b : Expr} {wa wb : Wx} {pos : Pos}
abbrev DO (X : Cx) (c : Cf) (e : Option Expr) (w : Wo) : Prop := PO X e (tOpt X.K c w)
theorem poM {X : Cx} {e : Option Expr} {t t' : TO} (p : PO X e t) (h : ∀ σ H Q, t' σ H Q → t σ H Q) : PO X e t' := ⟨fun pins s σ H Q I q => p.run pins s σ H Q I (h σ H Q q)⟩
theorem do_none : DO X c none doN := poM po_none fun σ H Q ⟨M, ev, pd, R, k, w, q⟩ => q none ev w H k
theorem do_some (ha : DE X c a wa) : DO X c (some a) (doS wa) := poM (po_some ha) fun σ H Q ⟨M, ev, pd, R, k, w, q⟩ => ⟨M, ev, pd, _, k, w, fun d e h v H1 k1 => by
  have t := k1.top
  split at h
  · cases t
    exact ⟨_, rfl, q _ e h H1 k1.pop1⟩
  · exact h.elim⟩
theorem de_slice {lo hi : Option Expr} {wl wh : Wo} {p2 : Pos} (ha : DE X c a wa) (h1 : DO X c lo wl) (h2 : DO X c hi wh) : DE X c (.Subscript a (.Slice lo hi none p2) pos) (dSl wa wl wh) :=
  peM (pe_slice (SlR.or sl_tupA sl_list) ha h1 h2) fun σ H Q ⟨M, ev, pd, R, k, w, q⟩ => ⟨M, ev, pd, _, k, w, fun d e y v H1 k1 => ⟨M, e, _, _, k1, y, fun l e1 y1 H2 k2 => ⟨M, e1, _, _, k2, y1, fun r e2 y2 H3 k3 => by
    have t := k3.top
    unfold fSl at y2
    split at y2
    · cases t with
      | tup g1 g2 =>
        refine .inl ⟨_, _, rfl, sqT_up msk_sub g1, fun z => ?_, fun z p hp => q _ e2 y2 _ _ (k3.pop1.newTup hp (cut_rel g2 l r))⟩
        rw [g2.len] at z
        rw [cut_all z.1 z.2] at y2
        exact q _ e2 y2 _ _ (k3.pop1.push (.tup g1 g2))
    · cases t with
      | lst g1 g2 => exact .inr ⟨_, _, rfl, sqL_up msk_sub g1, fun p hp => q _ e2 y2 _ _ (k3.pop1.newLst hp (cut_rel g2 l r))⟩
    · exact y2.elim⟩⟩⟩
end
def inD (d : PyData) (ds : List PyData) : Bool := ds.any fun z => PyData.eqv z d
def fIn : PyData → PyData → (PyData → Prop) → Prop
  | d, .list ds, Q => (shp d ∧ shp (.list ds)) ∧ Q (.bool (inD d ds))
  | d, .tuple ds, Q => (shp d ∧ shp (.tuple ds)) ∧ Q (.bool (inD d ds))
  | _, _, _ => False
def rInQ (K : PySem.W.Frag) : R2 := fun x y H Q => ∃ d ds e, Dp K H x d ∧ Dp K H y e ∧ (e = .list ds ∨ e = .tuple ds) ∧ shp d ∧ shp e ∧ Q (.bl (inD d ds)) H
section
variable {X : Cx} {c : Cf} {a b : Expr} {wa wb : Wx} {pos : Pos} {n : Nat}
theorem op_inQ (hu : X.A.units + 65 < cLine) : OpR X (compareOp .In) (rInQ X.K) := by
  intro pins s σ H x y v u Q I rx ry h
  obtain ⟨d, ds, e, hd, he, ty, sd, se, q⟩ := h
  obtain ⟨as, r1⟩ := Dp.reads I d x v hd rx
  obtain ⟨bs, r2⟩ := Dp.reads I e y u he ry
  rcases ty with rfl | rfl
  · exact SeqAt.in_list_reads r2 r1 (SeqAt.canLay_of_shaped se) (SeqAt.canLay_of_shaped sd) (by have := SeqAt.depth_of_shaped sd; omega) ⟨.bl _, H, I, rfl, q⟩
  · exact SeqAt.in_tuple_reads r2 r1 (SeqAt.canLay_of_shaped se) (SeqAt.canLay_of_shaped sd) (by have := SeqAt.depth_of_shaped sd; omega) ⟨.bl _, H, I, rfl, q⟩
theorem rz_in {K : PySem.W.Frag} : RZ2 K (rInQ K) fIn := by
  intro c M σ H ev pd v u x y R Q k a b w q
  unfold fIn at w
  split at w
  · exact ⟨_, _, _, (unm a).dp (shp_nd w.1.1), (unm b).dp (shp_nd w.1.2), .inl rfl, w.1.1, w.1.2, q _ _ _ w.2 (k.push (.bl _))⟩
  · exact ⟨_, _, _, (unm a).dp (shp_nd w.1.1), (unm b).dp (shp_nd w.1.2), .inr rfl, w.1.1, w.1.2, q _ _ _ w.2 (k.push (.bl _))⟩
  · exact w.elim
theorem room65 (hr : Room n X.A) : X.A.units + 65 < cLine := by have := hr.un; omega
def dChain (f g : PyData → PyData → (PyData → Prop) → Prop) (a b d : Wx) : Wx := fun ev Q => a ev fun x e1 => b e1 fun y e2 => f x y fun z => match z with
  | .bool t => if t = true then d e2 fun u e3 => g y u fun z2 => Q z2 e3 else Q (.bool false) e2
  | _ => False
theorem de_chain {op op' : CmpOp} {r r' : R2} {f g} {d : Expr} {wd : Wx} (ho : OpR X (compareOp op) r) (ho' : OpR X (compareOp op') r') (h : RZ2 X.K r f) (h' : RZ2 X.K r' g) (ha : DE X c a wa) (hb : DE X c b wb) (hd : DE X c d wd) (m1 : lastMarks [op, op'] [b, d] = false := by rfl) :
    DE X c (.Compare a [op, op'] [b, d] pos) (dChain f g wa wb wd) := peM (pe_chain ho ho' ha hb hd m1) fun σ H Q ⟨M, ev, pd, R, k, w, q⟩ =>
  ⟨M, ev, pd, _, k, w, fun x e1 y1 v H1 k1 => ⟨M, e1, _, _, k1, y1, fun y e2 y2 u H2 k2 => h c M σ H2 e2 ((u, y) :: pd) v u x y _ _ (k2.pop fun p hp => by
      rcases List.mem_cons.mp hp with z | z
      · rw [z]; exact List.mem_cons_self ..
      · exact List.mem_cons_of_mem _ (List.mem_cons_of_mem _ z)) k2.pop1.top k2.top y2 fun dd w' H3 hq k3 => by
    have t := k3.top
    split at hq
    · cases t
      rename_i t
      refine ⟨_, rfl, ?_⟩
      by_cases z : t = true
      · rw [if_pos z] at hq ⊢
        exact ⟨M, e2, _, _, k3.pop1, hq, fun u3 e3 y3 v3 H4 k4 => h' c M σ H4 e3 pd u v3 y u3 _ Q (k4.pop1.pop1) k4.pop1.top k4.top y3 fun d4 w4 H5 hq4 k5 => q _ _ hq4 _ _ k5⟩
      · rw [if_neg z] at hq ⊢
        exact q _ _ hq _ _ (k3.pop1.pop1.push (.bl _))
    · exact hq.elim⟩⟩
theorem de_lele {d : Expr} {wd : Wx} (ha : DE X c a wa) (hb : DE X c b wb) (hd : DE X c d wd) (m1 : lastMarks [.LtE, .LtE] [b, d] = false := by rfl) : DE X c (.Compare a [.LtE, .LtE] [b, d] pos) (dChain fLe fLe wa wb wd) :=
  de_chain op_le op_le (rz_ii0 fun _ _ _ => .bl _) (rz_ii0 fun _ _ _ => .bl _) ha hb hd m1
end
end Z
set_option Elab.async false
set_option linter.all false
set_option maxRecDepth 100000
namespace Z
open PySem L2
structure Ed where
  nx : Ev → Prop
  rt : PyData → Ev → Prop
  bk : Ev → Prop := fun _ => False
  ct : Ev → Prop := fun _ => False
  rl : List PyData → Ev → Prop := fun _ _ => False
abbrev Ws := Ed → Ev → Prop
structure Fin (K : PySem.W.Frag) (c : Cf) (pd : List (V × PyData)) (R : Ed) (De : Ends) : Prop where
  nx : ∀ ev', R.nx ev' → ∀ M' σ' H', Ok K c M' σ' H' ev' pd → De.nx σ' H'
  rt : ∀ d ev', R.rt d ev' → ∀ M' σ' v H', Ok K c M' σ' H' ev' pd → Dz K (msk c.Mk H') v d → De.rt v H'
  bk : ∀ ev', R.bk ev' → ∀ M' σ' H', Ok K c M' σ' H' ev' pd → De.bk σ' H'
  ct : ∀ ev', R.ct ev' → ∀ M' σ' H', Ok K c M' σ' H' ev' pd → De.ct σ' H'
  rl : ∀ ds ev', R.rl ds ev' → ∀ M' σ' p vs H', Ok K c M' σ' H' ev' pd → c.H0 p = none → H' p = some (.lst vs) → DzAll K (msk c.Mk H') vs ds → De.rt (.ref p) H'
def tS (K : PySem.W.Frag) (c : Cf) (w : Ws) : TS := fun De σ H => ∃ M ev pd R, Ok K c M σ H ev pd ∧ w R ev ∧ Fin K c pd R De
abbrev DS (X : Cx) (c : Cf) (st : Stmt) (w : Ws) : Prop := PS X st (tS X.K c w)
abbrev DSs (X : Cx) (c : Cf) (st : List Stmt) (w : Ws) : Prop := PSs X st (tS X.K c w)
def wNx : Ws := fun E ev => E.nx ev
def wSeq (a b : Ws) : Ws := fun E ev => a { E with nx := b E } ev
def wRet (w : Wx) : Ws := fun E ev => w ev fun d e => E.rt d e
def wDrop (w : Wx) : Ws := fun E ev => w ev fun _ e => E.nx e
def wIf (t : Wt) (a b : Ws) : Ws := fun E ev => t ev fun x e => if x = true then a E e else b E e
def wNever : Ws := fun _ _ => False
section
variable {X : Cx} {c : Cf} {pos : Pos} {st : Stmt} {sts : List Stmt} {e : Expr} {w : Wx} {a b : Ws}
theorem dss_nil : DSs X c [] wNx := pssM pss_nil fun De σ H ⟨M, ev, pd, R, k, h, f⟩ => f.nx ev h M σ H k
theorem dss_cons (h1 : DS X c st a) (h2 : DSs X c sts b) : DSs X c (st :: sts) (wSeq a b) := pssM (pss_cons h1 h2) fun De σ H ⟨M, ev, pd, R, k, h, f⟩ =>
  ⟨M, ev, pd, _, k, h, ⟨fun ev' q M' σ' H' k' => ⟨M', ev', pd, R, k', q, f⟩, f.rt, f.bk, f.ct, f.rl⟩⟩
theorem dss_one (h1 : DS X c st a) : DSs X c [st] a := pss_one h1
theorem ds_break : DS X c (.Break pos) (fun E ev => E.bk ev) := psM ps_break fun De σ H ⟨M, ev, pd, R, k, h, f⟩ => f.bk ev h M σ H k
theorem unMk {K : PySem.W.Frag} {M : Mz} {σ : Sg} {H : Hp} {ev : Ev} {pd : List (V × PyData)} {v : V} {d : PyData} (k : Ok K c M σ H ev pd) (h : Dz K (msk M H) v d) : Dz K (msk c.Mk H) v d := h.up (msk_less k.sub)
theorem ds_ret (h : DE X c e w) : DS X c (.Return (some e) pos) (wRet w) := psM (ps_ret h) fun De σ H ⟨M, ev, pd, R, k, h, f⟩ =>
  ⟨M, ev, pd, _, k, h, fun d ev' q v H' k' => f.rt d ev' q M σ v H' k'.pop1 (unMk k' k'.top)⟩
/-- return [..]: a new list -/
def wRetL (u : Wa) : Ws := fun E ev => u ev fun ds e => ds.length ≤ 1000 ∧ E.rl ds e
theorem ds_retL {es : List Expr} {u : Wa} {p2 : Pos} (h : DA X c es u) : DS X c (.Return (some (.List es p2)) pos) (wRetL u) := psM (ps_ret (pe_lst h)) fun De σ H ⟨M, ev, pd, R, k, h, f⟩ =>
  ⟨M, ev, pd, _, k, h, fun ds ev' ⟨l, q⟩ vs H' k' r => ⟨by rw [r.len]; exact line_of l, fun p hp => f.rl ds ev' q M σ p vs _ (k'.new hp) (k'.h0 hp).1 upd_same ((r.up (msk_less k'.sub)).up (msk_same fun b o e _ => up_new hp b o e))⟩⟩
theorem ds_expr (h : DE X c e w) (hs : swapsWith e none pos.line X.env = pure false := by rfl) : DS X c (.Expr e pos) (wDrop w) := psM (ps_expr h hs) fun De σ H ⟨M, ev, pd, R, k, h, f⟩ => ⟨M, ev, pd, _, k, h, fun d ev' q v H' k' => f.nx ev' q M σ H' k'.pop1⟩
theorem ds_if {t : Wt} {tst : Expr} {xs ys : List Stmt} (ht : DT X c tst t) (hx : DSs X c xs a) (hy : DSs X c ys b) : DS X c (.If tst xs ys pos) (wIf t a b) := psM (ps_if ht hx hy) fun De σ H ⟨M, ev, pd, R, k, h, f⟩ =>
  ⟨M, ev, pd, _, k, h, fun z ev' q H' k' => by
    by_cases z : z = true
    · rw [if_pos z] at q ⊢
      exact ⟨M, ev', pd, R, k', q, f⟩
    · rw [if_neg z] at q ⊢
      exact ⟨M, ev', pd, R, k', q, f⟩⟩
theorem dss_never : DSs X c sts wNever := pssM pss_never fun De σ H ⟨M, ev, pd, R, k, h, f⟩ => h
end
/-- but for some slots the values by slot are as they were -/
def OffOnly (vs : List Nat) (σ σ' : Sg) : Prop := σ'.length = σ.length ∧ ∀ j, j ∉ vs → σ'[j]? = σ[j]?
theorem OffOnly.refl {vs : List Nat} {σ : Sg} : OffOnly vs σ σ := ⟨rfl, fun _ _ => rfl⟩
theorem OffOnly.trans {vs : List Nat} {σ σ1 σ2 : Sg} (a : OffOnly vs σ σ1) (b : OffOnly vs σ1 σ2) : OffOnly vs σ σ2 := ⟨b.1.trans a.1, fun j h => (b.2 j h).trans (a.2 j h)⟩
theorem OffOnly.set {vs : List Nat} {σ : Sg} {i : Nat} {x : Option V} (h : i ∈ vs) : OffOnly vs σ (σ.set i x) := ⟨List.length_set, fun j n => List.getElem?_set_ne (fun e => n (by rw [← e]; exact h))⟩
abbrev Wg := PyData → Ev → (Ev → Prop) → Prop
def tG (K : PySem.W.Frag) (c : Cf) (vs : List Nat) (g : Wg) : TG := fun v σ H Q => ∃ M ev pd d R, Ok K c M σ H ev ((v, d) :: pd) ∧ g d ev R ∧ ∀ ev', R ev' → ∀ σ' H', OffOnly vs σ σ' → Ok K c M σ' H' ev' pd → Q σ' H'
abbrev DG (X : Cx) (c : Cf) (vs : List Nat) (tg : Expr) (g : Wg) : Prop := PG X tg (tG X.K c vs g)
theorem pgM {X : Cx} {e : Expr} {t t' : TG} (p : PG X e t) (h : ∀ v σ H Q, t' v σ H Q → t v σ H Q) : PG X e t' := ⟨fun pins s σ H v u Q I r q => p.run pins s σ H v u Q I r (h v σ H Q q)⟩
def gN (i : Nat) : Wg := fun d ev Q => match ev[i]? with
  | some (some (.own _)) => False
  | some _ => Q (ev.set i (some (.val d)))
  | none => False
theorem gN_of {i : Nat} {d : PyData} {ev : Ev} {Q : Ev → Prop} (h : gN i d ev Q) : notOwn ev i ∧ Q (ev.set i (some (.val d))) := by
  unfold gN at h
  unfold notOwn
  split at h
  · exact h.elim
  · rename_i z n e
    try rw [e]
    refine ⟨?_, h⟩
    cases z with
    | none => trivial
    | some s => cases s with
      | val _ => trivial
      | own ds => exact (n ds rfl).elim
  · exact h.elim
theorem zip_pend {K : PySem.W.Frag} {H : Hp} : ∀ {vs : List V} {ds : List PyData}, DzAll K H vs ds → ∀ p ∈ vs.zip ds, Dz K H p.1 p.2
  | _, _, .nil, p, hp => by cases hp
  | _, _, .cons a b, p, hp => by
    rcases List.mem_cons.mp hp with e | hp
    · rw [e]; exact a
    · exact zip_pend b p hp
theorem Ok.pushA {K : PySem.W.Frag} {c : Cf} {M : Mz} {σ : Sg} {H : Hp} {ev : Ev} {pd : List (V × PyData)} (k : Ok K c M σ H ev pd) {vs : List V} {ds : List PyData} (h : DzAll K (msk M H) vs ds) : Ok K c M σ H ev (vs.zip ds ++ pd) := by
  refine ⟨k.len, k.val, k.own, k.inj, fun p hp => ?_, k.frame, k.sub, k.dom, k.mkd, k.lk, k.tank⟩
  rcases List.mem_append.mp hp with hp | hp
  · exact zip_pend h p hp
  · exact k.pend p hp
section
variable {X : Cx} {c : Cf} {pos : Pos} {vs : List Nat}
theorem dg_name {i : Nat} {e : Expr} (h : PG X e (gName i)) (hi : i ∈ vs) : DG X c vs e (gN i) := pgM h fun v σ H Q ⟨M, ev, pd, d, R, k, w, q⟩ => by
  obtain ⟨n, w⟩ := gN_of w
  exact q _ w _ H (.set hi) (k.pop1.set n k.top)
abbrev Wgs := List PyData → Ev → (Ev → Prop) → Prop
def gsN : Wgs := fun ds ev Q => match ds with
  | [] => Q ev
  | _ => False
def gsC (g : Wg) (gs : Wgs) : Wgs := fun ds ev Q => match ds with
  | d :: r => g d ev fun e => gs r e Q
  | [] => False
def tGs (K : PySem.W.Frag) (c : Cf) (ks : List Nat) (g : Wgs) : TGs := fun vs σ H Q => ∃ M ev pd ds R, Ok K c M σ H ev (vs.zip ds ++ pd) ∧ vs.length = ds.length ∧ g ds ev R ∧ ∀ ev', R ev' → ∀ σ' H', OffOnly ks σ σ' → Ok K c M σ' H' ev' pd → Q σ' H'
abbrev DGs (X : Cx) (c : Cf) (vs : List Nat) (tg : List Expr) (g : Wgs) : Prop := PGs X tg (tGs X.K c vs g)
theorem pgsM {X : Cx} {e : List Expr} {t t' : TGs} (p : PGs X e t) (h : ∀ v σ H Q, t' v σ H Q → t v σ H Q) : PGs X e t' := ⟨fun pins s σ H v u Q I r q => p.run pins s σ H v u Q I r (h v σ H Q q)⟩
theorem dgs_nil : DGs X c vs [] gsN := pgsM pgs_nil fun vs σ H Q ⟨M, ev, pd, ds, R, k, l, w, q⟩ => by
  unfold gsN at w
  split at w
  · have e : vs = [] := List.length_eq_zero_iff.mp l
    subst e
    exact ⟨rfl, q _ w _ _ .refl k⟩
  · exact w.elim
theorem dgs_cons {e : Expr} {es : List Expr} {g : Wg} {gs : Wgs} (h : DG X c vs e g) (h2 : DGs X c vs es gs) (hs : (assignEach (e :: es) X.env).map (·.2) = assign e X.env :: (assignEach es X.env).map (·.2) := by rfl) : DGs X c vs (e :: es) (gsC g gs) :=
  pgsM (pgs_cons h h2 hs) fun vs σ H Q ⟨M, ev, pd, ds, R, k, l, w, q⟩ => by
    unfold gsC at w
    split at w
    · rename_i d r
      cases vs with
      | nil => cases l
      | cons v us =>
        refine ⟨v, us, rfl, M, ev, _, d, _, k, w, fun ev1 h1 σ1 H1 o1 k1 => ⟨M, ev1, pd, r, R, k1, by simpa using l, h1, fun ev2 h2 σ2 H2 o2 k2 => q ev2 h2 σ2 H2 (o1.trans o2) k2⟩⟩
    · exact w.elim
def gT (n : Nat) (gs : Wgs) : Wg := fun d ev Q => match d with
  | .tuple ds => ds.length = n ∧ gs ds ev Q
  | _ => False
theorem dg_tup {es : List Expr} {gs : Wgs} {n k : Nat} (hc : X.calm = true) (h : DGs X c vs es gs) (h1 : (assignEach es X.env).length = n := by rfl) (h2 : (assignEach es X.env).findIdx? (·.1) = none := by rfl) :
    DG X c vs (.Tuple es k pos) (gT n gs) := pgM (pg_tup (n := n) hc h h1 h2) fun v σ H Q ⟨M, ev, pd, d, R, k, w, q⟩ => by
  have t := k.top
  unfold gT at w
  split at w
  · cases t with
    | tup g1 g2 => exact ⟨_, _, rfl, sqT_up msk_sub g1, by rw [g2.len]; exact w.1, M, ev, pd, _, R, k.pop1.pushA g2, g2.len, w.2, q⟩
  · exact w.elim
/-- x[i] = v, x an own list -/
def gSb (i : Nat) (w : Wx) : Wg := fun d ev Q => match ev[i]? with
  | some (some (.own _)) => w ev fun j e => match j with
    | .int j => match e[i]? with
      | some (some (.own ds)) => match ixN ds.length j with
        | some n => Q (e.set i (some (.own (ds.set n d))))
        | none => False
      | _ => False
    | _ => False
  | _ => False
theorem Ok.slotV {K : PySem.W.Frag} {c : Cf} {M : Mz} {σ : Sg} {H : Hp} {ev : Ev} {pd : List (V × PyData)} (k : Ok K c M σ H ev pd) {i : Nat} {ds : List PyData} (h : ev[i]? = some (some (.own ds))) : ∃ a vs, σ[i]? = some (some (.ref a)) ∧ H a = some (.lst vs) ∧ (M a).1 = 1 ∧ DzAll K (msk M H) vs ds :=
  let ⟨a, vs, e1, e2, _, e4, e5⟩ := k.own i ds h
  ⟨a, vs, e1, e4, e2, e5⟩
theorem msk_upd {M : Mz} {H : Hp} {a : Addr} {o : HO} (h : (M a).1 ≠ 0) : msk M (upd H a o) = msk M H := by
  funext b
  unfold msk
  by_cases z : (M b).1 = 0
  · rw [if_pos z, if_pos z, upd_ne (fun y => h (by rw [← y]; exact z))]
  · rw [if_neg z, if_neg z]
theorem Ok.put {K : PySem.W.Frag} {c : Cf} {M : Mz} {σ : Sg} {H : Hp} {ev : Ev} {pd : List (V × PyData)} (k : Ok K c M σ H ev pd) {i : Nat} {a : Addr} {ds es : List PyData} {us : List V} (h : ev[i]? = some (some (.own ds))) (ha : σ[i]? = some (some (.ref a))) (q : DzAll K (msk M H) us es) :
    Ok K c M σ (upd H a (.lst us)) (ev.set i (some (.own es))) pd := by
  obtain ⟨a', vs, e1, e2, e3, e4⟩ := k.slotV h
  obtain rfl : a' = a := by rw [ha] at e1; cases e1; rfl
  exact k.write h ha (fun b o e n => by rw [upd_ne n]; exact e) upd_same (by rw [msk_upd (by rw [e3]; decide)]; exact q)
theorem dg_sub {i : Nat} {eo ei : Expr} {w : Wx} (ho : PE X eo (tVar i)) (hi : DE X c ei w) (h1 : ∀ v : Value, assign (.Subscript eo ei pos) X.env v = (do
      let ov ← holding [v] (eval eo X.env)
      let iv ← holding [v, ov] (eval ei X.env)
      standAt pos
      holding [v, ov, iv] (setItem ov iv v)
      release [v, ov, iv] []) := by intro _; rfl) : DG X c vs (.Subscript eo ei pos) (gSb i w) := pgM (pg_sub (pos := pos) ho hi set_list h1) fun v σ H Q ⟨M, ev, pd, d, R, k, w, q⟩ => by
  unfold gSb at w
  split at w
  · rename_i ds0 e0
    obtain ⟨a, us, a1, a2, a3, a4⟩ := k.slotV e0
    refine ⟨.ref a, a1, M, ev, _, _, k, w, fun j e h u H1 k1 => ?_⟩
    have t := k1.top
    split at h
    · cases t
      split at h
      · rename_i ds e1
        split at h
        · rename_i n e2
          obtain ⟨a', us', b1, b2, b3, b4⟩ := k1.slotV e1
          obtain rfl : a = a' := by rw [a1] at b1; cases b1; rfl
          exact ⟨a, us', _, n, rfl, rfl, b2, by rw [b4.len]; exact e2, q _ h σ _ .refl (k1.pop1.pop1.put e1 a1 (b4.set k1.pop1.top n))⟩
        · exact h.elim
      · exact h.elim
    · exact h.elim
  · exact w.elim
end
def wAsg (w : Wx) (g : Wg) : Ws := fun E ev => w ev fun d e => g d e E.nx
section
variable {X : Cx} {c : Cf} {pos : Pos} {vs : List Nat}
theorem asg_rd {w : Wx} {g : Wg} {De : Ends} {σ : Sg} {H : Hp} (h : tS X.K c (wAsg w g) De σ H) : tAsg (tE X.K c w) (tG X.K c vs g) De σ H := by
  obtain ⟨M, ev, pd, R, k, h, f⟩ := h
  exact ⟨M, ev, pd, _, k, h, fun d e q v H' k' => ⟨M, e, pd, d, _, k', q, fun ev' z σ' H'' _ k'' => f.nx ev' z M σ' H'' k''⟩⟩
theorem ds_asg {tg e : Expr} {w : Wx} {g : Wg} (he : DE X c e w) (hg : DG X c vs tg g) (h1 : swapsWithSole [tg] e pos.line X.env = pure false := by rfl) (h2 : swappedStores [tg] e X.env = pure none := by rfl) (h3 : (assignEach [tg] X.env).map (·.2) = [assign tg X.env] := by rfl) :
    DS X c (.Assign [tg] e pos) (wAsg w g) := psM (ps_asg he hg h1 h2 h3) fun _ _ _ h => asg_rd (vs := vs) h
theorem ds_set {i : Nat} {x : Str} {e : Expr} {w : Wx} {pos' : Pos} (hN : X.N.Nodup) (hi : X.N[i]? = some x) (hx : Loc X.env.scope x) (he : DE X c e w) (h1 : swapsWith e (some (.Name x pos')) pos.line X.env = pure false := by rfl)
    (hf : X.fn x = true ∨ X.env.scope.names.lookup x = some .local := by first | exact .inl rfl | exact .inr rfl | assumption) : DS X c (.Assign [.Name x pos'] e pos) (wAsg w (gN i)) :=
  psM (ps_set hN hi hx he h1 hf) fun De σ H ⟨M, ev, pd, R, k, h, f⟩ => ⟨M, ev, pd, _, k, h, fun d e q v H' k' => by
    obtain ⟨n, w⟩ := gN_of q
    exact f.nx _ w M _ H' (k'.pop1.set n k'.top)⟩
/-- a, b = e, f, both read ahead of both stores -/
def wPar (i j : Nat) (u : Wa) : Ws := fun E ev => u ev fun ds e => match ds with
  | [x, y] => gN i x e fun e1 => gN j y e1 E.nx
  | _ => False
theorem ds_par {i j : Nat} {x y : Str} {a b : Expr} {u : Wa} {px py pt : Pos} {kt k2 pt2} (hc : X.calm = true) (hN : X.N.Nodup) (hi : X.N[i]? = some x) (hj : X.N[j]? = some y) (hij : i ≠ j)
    (hx : X.env.scope.names.lookup x = some .local) (hy : X.env.scope.names.lookup y = some .local) (ha : DA X c [a, b] u)
    (hw : swappedStores [.Tuple [.Name x px, .Name y py] kt pt] (.Tuple [a, b] k2 pt2) X.env = pure (some [x, y]))
    (hs : swapsWithSole [.Tuple [.Name x px, .Name y py] kt pt] (.Tuple [a, b] k2 pt2) pos.line X.env = pure false := by rfl) :
    DS X c (.Assign [.Tuple [.Name x px, .Name y py] kt pt] (.Tuple [a, b] k2 pt2) pos) (wPar i j u) :=
  psM (ps_par hc hN hi hj hij hx hy ha hw hs) fun De σ H ⟨M, ev, pd, R, k, h, f⟩ => ⟨M, ev, pd, _, k, h, fun ds e q vs H' k' r => by
    split at q
    · cases r with
      | cons r1 r2 =>
        cases r2 with
        | cons r2 r3 =>
          cases r3
          obtain ⟨n1, w1⟩ := gN_of q
          obtain ⟨n2, w2⟩ := gN_of w1
          exact ⟨_, _, rfl, f.nx _ w2 M _ H' ((k'.set n1 r1).set n2 r2)⟩
    · exact q.elim⟩
end
/-- J walks the data ds, as long as p is held -/
theorem Ok.popL {K : PySem.W.Frag} {c : Cf} {M : Mz} {σ : Sg} {H : Hp} {ev : Ev} {pd : List (V × PyData)} (p : List (V × PyData)) (k : Ok K c M σ H ev (p ++ pd)) : Ok K c M σ H ev pd := k.pop fun r hr => List.mem_append_right _ hr
def Walks (K : PySem.W.Frag) (J : It) (p : List (V × PyData)) (ds : List PyData) : Prop := ∀ (c : Cf) (M : Mz) (σ : Sg) (H : Hp) (ev : Ev) (pd : List (V × PyData)) (i : Nat), Ok K c M σ H ev (p ++ pd) →
  (ds.length ≤ i → J.stop i H) ∧ ∀ d, ds[i]? = some d → J.go i H ∧ ∀ x H', J.yld i H x H' → Ok K c M σ H' ev ((x, d) :: (p ++ pd)) ∧ ∀ b o, H b = some o → H' b = some o
def tI (K : PySem.W.Frag) (c : Cf) (w : Wa) : TI := fun σ H R => ∃ M ev pd Rr, Ok K c M σ H ev pd ∧ w ev Rr ∧ ∀ ds ev', Rr ds ev' → ∀ p H' J, Ok K c M σ H' ev' (p ++ pd) → Walks K J p ds → R J H'
abbrev DI (X : Cx) (c : Cf) (tg iter : Expr) (w : Wa) : Prop := PI X tg iter (tI X.K c w)
theorem piM {X : Cx} {tg e : Expr} {t t' : TI} (p : PI X tg e t) (h : ∀ σ H Q, t' σ H Q → t σ H Q) : PI X tg e t' := ⟨fun pins s σ H Q I q => p.run pins s σ H Q I (h σ H Q q)⟩
def diL (w : Wx) : Wa := fun ev Q => w ev fun d e => match d with
  | .list ds => Q ds e
  | _ => False
def diT (w : Wx) : Wa := fun ev Q => w ev fun d e => match d with
  | .tuple ds => Q ds e
  | _ => False
def rngD (lo : Int) (n : Nat) : List PyData := (List.range n).map fun i => .int (lo + (i : Nat))
def diR1 (u : Wa) : Wa := fun ev Q => u ev fun ds e => match ds with
  | [.int j] => (-(2 ^ 62) ≤ j ∧ j < 2 ^ 62) ∧ Q (rngD 0 j.toNat) e
  | _ => False
def diR2 (u : Wa) : Wa := fun ev Q => u ev fun ds e => match ds with
  | [.int i, .int j] => (-(2 ^ 62) ≤ i ∧ i < 2 ^ 62 ∧ -(2 ^ 62) ≤ j ∧ j < 2 ^ 62) ∧ Q (rngD i (j - i).toNat) e
  | _ => False
theorem rng_get {lo : Int} {n i : Nat} {d : PyData} (h : (rngD lo n)[i]? = some d) : i < n ∧ d = .int (lo + (i : Nat)) := by
  unfold rngD at h
  rw [List.getElem?_map] at h
  obtain ⟨j, h1, h2⟩ := Option.map_eq_some_iff.mp h
  by_cases q : i < n
  · rw [List.getElem?_range q] at h1
    cases h1
    exact ⟨q, h2.symm⟩
  · rw [List.getElem?_eq_none (by simpa using q)] at h1
    cases h1
section
variable {X : Cx} {c : Cf} {pos p : Pos} {tg : Expr}
theorem walks_lst {K : PySem.W.Frag} {a : Addr} {ds : List PyData} : Walks K (Itl K a) [(.ref a, .list ds)] ds := by
  intro c M σ H ev pd i k
  have t := k.top
  cases t with
  | lst h r =>
    rename_i xs
    refine ⟨fun l => ⟨xs, sqL_up msk_sub h, by rw [r.len]; exact l⟩, fun d e => ?_⟩
    obtain ⟨v, e1, e2⟩ := r.get i e
    refine ⟨⟨xs, v, sqL_up msk_sub h, e1⟩, fun x H' y => ?_⟩
    obtain ⟨y1, y2⟩ := y
    subst y1
    have z := y2 xs (sqL_up msk_sub h)
    rw [e1] at z
    cases z
    exact ⟨k.push e2, fun _ _ q => q⟩
theorem walks_tup {K : PySem.W.Frag} {a : Addr} {ds : List PyData} : Walks K (Itt K a) [(.ref a, .tuple ds)] ds := by
  intro c M σ H ev pd i k
  have t := k.top
  cases t with
  | tup h r =>
    rename_i xs
    refine ⟨fun l => ⟨xs, sqT_up msk_sub h, by rw [r.len]; exact l⟩, fun d e => ?_⟩
    obtain ⟨v, e1, e2⟩ := r.get i e
    refine ⟨⟨xs, v, sqT_up msk_sub h, e1⟩, fun x H' y => ?_⟩
    obtain ⟨y1, y2⟩ := y
    subst y1
    have z := y2 xs (sqT_up msk_sub h)
    rw [e1] at z
    cases z
    exact ⟨k.push e2, fun _ _ q => q⟩
theorem walks_rng {K : PySem.W.Frag} {lo : Int} {n : Nat} : Walks K (Itr lo n) [(.non, .none)] (rngD lo n) := by
  intro c M σ H ev pd i k
  refine ⟨fun l => (by have z : n ≤ i := by (simpa [rngD] using l)
                       exact z), fun d e => ?_⟩
  obtain ⟨q1, q2⟩ := rng_get e
  refine ⟨q1, fun x H' y => ?_⟩
  obtain ⟨y1, y2⟩ := y
  subst y1
  subst y2
  subst q2
  exact ⟨k.push (.int _), fun _ _ q => q⟩
theorem di_list {l : Expr} {w : Wx} (h : DE X c l w) : DI X c tg l (diL w) := piM (pi_list h) fun σ H Q ⟨M, ev, pd, R, k, w, q⟩ => ⟨M, ev, pd, _, k, w, fun d e y v H1 k1 => by
  have t := k1.top
  split at y
  · cases t with
    | lst g r => exact ⟨_, rfl, ⟨_, sqL_up msk_sub g⟩, q _ e y _ H1 _ k1 walks_lst⟩
  · exact y.elim⟩
theorem di_tup {l : Expr} {w : Wx} (h : DE X c l w) : DI X c tg l (diT w) := piM (pi_tup h) fun σ H Q ⟨M, ev, pd, R, k, w, q⟩ => ⟨M, ev, pd, _, k, w, fun d e y v H1 k1 => by
  have t := k1.top
  split at y
  · cases t with
    | tup g r => exact ⟨_, rfl, ⟨_, sqT_up msk_sub g⟩, q _ e y _ H1 _ k1 walks_tup⟩
  · exact y.elim⟩
theorem di_rng1 {a : Expr} {u : Wa} (hg : Gl X "range") (hm : X.mg "range" = none) (ha : DA X c [a] u) (h1 : starEach [a] X.env = [(false, eval a X.env)] := by rfl) : DI X c tg (.Call (.Name "range" p) [a] [] pos) (diR1 u) :=
  piM (pi_range1 hg hm ha h1) fun σ H Q ⟨M, ev, pd, R, k, w, q⟩ => ⟨M, ev, pd, _, k, w, fun ds e y vs H1 k1 r => by
    split at y
    · cases r with
      | cons r1 r2 =>
        cases r1; cases r2
        exact ⟨_, rfl, y.1.1, y.1.2, q _ e y.2 _ H1 _ (k1.push .non) walks_rng⟩
    · exact y.elim⟩
theorem di_rng2 {a b : Expr} {u : Wa} (hg : Gl X "range") (hm : X.mg "range" = none) (ha : DA X c [a, b] u) (h1 : starEach [a, b] X.env = [(false, eval a X.env), (false, eval b X.env)] := by rfl) (h2 : starEach [b] X.env = [(false, eval b X.env)] := by rfl) :
    DI X c tg (.Call (.Name "range" p) [a, b] [] pos) (diR2 u) :=
  piM (pi_range2 hg hm ha h1 h2) fun σ H Q ⟨M, ev, pd, R, k, w, q⟩ => ⟨M, ev, pd, _, k, w, fun ds e y vs H1 k1 r => by
    split at y
    · cases r with
      | cons r1 r2 =>
        cases r2 with
        | cons r2 r3 =>
          cases r1; cases r2; cases r3
          exact ⟨_, _, rfl, y.1, q _ e y.2 _ H1 _ (k1.push .non) walks_rng⟩
    · exact y.elim⟩
end
def foD (g : Wg) (b : Ws) : List PyData → Ed → Ev → Prop
  | [], E, ev => E.nx ev
  | d :: ds, E, ev => g d ev fun e => b { nx := foD g b ds E, rt := E.rt, bk := E.nx, ct := foD g b ds E, rl := E.rl } e
def wFor (u : Wa) (g : Wg) (b : Ws) : Ws := fun E ev => u ev fun ds e => foD g b ds E e
section
variable {X : Cx} {c : Cf} {pos : Pos} {vs : List Nat}
theorem drop_cons {α : Type} {l : List α} {i : Nat} {x : α} (h : l[i]? = some x) : l.drop i = x :: l.drop (i + 1) := by
  have hi : i < l.length := by
    by_cases q : i < l.length
    · exact q
    · rw [List.getElem?_eq_none (by omega)] at h; cases h
  rw [List.getElem?_eq_getElem hi] at h
  rw [List.drop_eq_getElem_cons hi, Option.some.inj h]
theorem ds_for {tg iter : Expr} {body : List Stmt} {u : Wa} {g : Wg} {b : Ws} (hp : PassesOwn (model X.prog X.w) X.A X.env X.xe) (hc : X.calm = true) (hi : DI X c tg iter u) (hg : DG X c vs tg g) (hb : DSs X c body b)
    (h1 : ∀ x : Value, foldedSetIterable iter X.env x = pure x := by intro _; rfl) : DS X c (.For tg iter body [] pos) (wFor u g b) :=
  psM (ps_for hp hc hi hg hb h1) fun De σ H ⟨M, ev, pd, R, k, h, f⟩ => ⟨M, ev, pd, _, k, h, fun ds e q p H1 J k1 wk => by
    refine ⟨fun i m σ' H' => ∃ M' e', Ok X.K c M' σ' H' e' (p ++ pd) ∧ foD g b (ds.drop i) R e' ∧ i + m = ds.length, ⟨ds.length, M, e, k1, q, Nat.zero_add _⟩, fun i m σ' H' hW => ?_⟩
    obtain ⟨M', e', k', q', l⟩ := hW
    obtain ⟨w1, w2⟩ := wk c M' σ' H' e' pd i k'
    by_cases z : i < ds.length
    · obtain ⟨d, hd⟩ : ∃ d, ds[i]? = some d := ⟨_, List.getElem?_eq_getElem z⟩
      rw [drop_cons hd] at q'
      obtain ⟨y1, y2⟩ := w2 d hd
      refine .inr ⟨y1, fun σ2 H2 => ∃ M' e', Ok X.K c M' σ2 H2 e' (p ++ pd) ∧ foD g b (ds.drop (i + 1)) R e', fun σ2 H2 ⟨M2, e2, k2, q2⟩ => ⟨m - 1, by omega, M2, e2, k2, q2, by omega⟩, fun x H2 hy => ?_⟩
      obtain ⟨k2, _⟩ := y2 x H2 hy
      refine ⟨M', e', p ++ pd, d, _, k2, q', fun e3 q3 σ3 H3 _ k3 => ?_⟩
      refine ⟨M', e3, p ++ pd, _, k3, q3, ⟨fun e4 q4 M4 σ4 H4 k4 => ⟨M4, e4, k4, q4⟩, fun d e4 q4 M4 σ4 v H4 k4 r4 => f.rt d e4 q4 M4 σ4 v H4 (k4.popL p) r4, fun e4 q4 M4 σ4 H4 k4 => f.nx e4 q4 M4 σ4 H4 (k4.popL p), fun e4 q4 M4 σ4 H4 k4 => ⟨M4, e4, k4, q4⟩, fun ds e4 q4 M4 σ4 p4 vs H4 k4 => f.rl ds e4 q4 M4 σ4 p4 vs H4 (k4.popL p)⟩⟩
    · rw [List.drop_of_length_le (by omega)] at q'
      exact .inl ⟨w1 (by omega), f.nx e' q' M' σ' H' (k'.popL p)⟩⟩
def whD (t : Wt) (b : Ws) : Nat → Ed → Ev → Prop
  | 0, _, _ => False
  | n + 1, E, ev => t ev fun x e => if x = true then b { nx := whD t b n E, rt := E.rt, bk := E.nx, ct := whD t b n E, rl := E.rl } e else E.nx e
def wWhile (t : Wt) (b : Ws) : Ws := fun E ev => ∃ n, whD t b n E ev
theorem ds_while {tst : Expr} {body : List Stmt} {t : Wt} {b : Ws} (hp : PassesOwn (model X.prog X.w) X.A X.env X.xe) (ht : DT X c tst t) (hb : DSs X c body b) : DS X c (.While tst body [] pos) (wWhile t b) :=
  psM (ps_while hp ht hb) fun De σ H ⟨M, ev, pd, R, k, ⟨n, h⟩, f⟩ => by
    refine ⟨fun m σ' H' => ∃ M' e', Ok X.K c M' σ' H' e' pd ∧ whD t b m R e', ⟨n, M, ev, k, h⟩, fun m σ' H' hW => ?_⟩
    obtain ⟨M', e', k', q'⟩ := hW
    cases m with
    | zero => exact q'.elim
    | succ m =>
      refine ⟨M', e', pd, _, k', q', fun z e2 q2 H2 k2 => ?_⟩
      by_cases z : z = true
      · rw [if_pos z] at q2 ⊢
        refine ⟨fun σ3 H3 => ∃ M' e', Ok X.K c M' σ3 H3 e' pd ∧ whD t b m R e', fun σ3 H3 h3 => ⟨m, Nat.lt_succ_self m, h3⟩, M', e2, pd, _, k2, q2, ⟨fun e4 q4 M4 σ4 H4 k4 => ⟨M4, e4, k4, q4⟩, f.rt, f.nx, fun e4 q4 M4 σ4 H4 k4 => ⟨M4, e4, k4, q4⟩, f.rl⟩⟩
      · rw [if_neg z] at q2 ⊢
        exact f.nx e2 q2 M' σ' H2 k2
end
end Z
set_option Elab.async false
set_option linter.all false
set_option maxRecDepth 100000
namespace Z
open PySem L2
def wipeD (ev : Ev) : List Nat → Ev
  | [] => ev
  | v :: vs => (wipeD ev vs).set v none
/-- the comprehension's own names hold nothing -/
def cleanB (ev : Ev) : List Nat → Bool
  | [] => true
  | v :: vs => (match ev[v]? with
    | some none => true
    | _ => false) && cleanB ev vs
theorem clean_at {ev : Ev} : ∀ {vs : List Nat}, cleanB ev vs = true → ∀ v ∈ vs, ev[v]? = some none
  | [], _, v, h => by cases h
  | u :: us, c, v, h => by
    unfold cleanB at c
    rw [Bool.and_eq_true] at c
    rcases List.mem_cons.mp h with e | h
    · rw [e]
      have c1 := c.1
      split at c1
      · assumption
      · cases c1
    · exact clean_at c.2 v h
theorem wipe_get {σ : Sg} {j : Nat} : ∀ {vs : List Nat}, (wipe σ vs)[j]? = if j ∈ vs ∧ j < σ.length then some none else σ[j]?
  | [] => by rw [if_neg (by simp)]; rfl
  | v :: vs => by
    have ih := wipe_get (σ := σ) (j := j) (vs := vs)
    unfold wipe
    by_cases e : v = j
    · subst e
      by_cases l : v < σ.length
      · rw [List.getElem?_set_self (by rw [wipe_length]; exact l), if_pos ⟨List.mem_cons_self .., l⟩]
      · rw [if_neg (fun z => l z.2), List.getElem?_eq_none (by rw [List.length_set, wipe_length]; omega), List.getElem?_eq_none (by omega)]
    · rw [List.getElem?_set_ne e, ih]
      by_cases m : j ∈ vs ∧ j < σ.length
      · rw [if_pos m, if_pos ⟨List.mem_cons_of_mem _ m.1, m.2⟩]
      · rw [if_neg m, if_neg (fun z => m ⟨by
          rcases List.mem_cons.mp z.1 with y | y
          · exact absurd y.symm e
          · exact y, z.2⟩)]
theorem wipe_off {σ σ' : Sg} {vs : List Nat} (h : OffOnly vs (wipe σ vs) σ') : wipe σ' vs = wipe σ vs := by
  apply List.ext_getElem?
  intro j
  rw [wipe_get, wipe_get, h.1, wipe_length]
  by_cases m : j ∈ vs ∧ j < σ.length
  · rw [if_pos m, if_pos m]
  · rw [if_neg m, if_neg m]
    by_cases n : j ∈ vs
    · have l : ¬ j < σ.length := fun z => m ⟨n, z⟩
      rw [List.getElem?_eq_none (by rw [h.1, wipe_length]; omega), List.getElem?_eq_none (by omega)]
    · rw [h.2 j n, wipe_get, if_neg (fun z => n z.1)]
section
variable {K : PySem.W.Frag} {c : Cf} {M : Mz} {σ σ' : Sg} {H : Hp} {ev : Ev} {pd : List (V × PyData)}
/-- the slots of other values by slot, where they agree on what is held -/
theorem Ok.slots (k : Ok K c M σ H ev pd) (hl : σ'.length = σ.length) (h : ∀ (i : Nat) (s : Sl), ev[i]? = some (some s) → σ'[i]? = σ[i]?) : Ok K c M σ' H ev pd := by
  refine ⟨by rw [hl]; exact k.len, fun i d e => ?_, fun i ds e => ?_, fun i j a ds es e1 e2 z1 z2 => ?_, k.pend, k.frame, k.sub, k.dom, k.mkd, k.lk, fun a t => ?_⟩
  · rw [h i _ e]; exact k.val i d e
  · rw [h i _ e]; exact k.own i ds e
  · rw [h i _ e1] at z1
    rw [h j _ e2] at z2
    exact k.inj i j a ds es e1 e2 z1 z2
  · obtain ⟨m, z1, ds, z2⟩ := k.tank a t
    exact ⟨m, by rw [h 0 _ z2]; exact z1, ds, z2⟩
/-- less is known of the slots -/
theorem Ok.less {ev' : Ev} (k : Ok K c M σ H ev pd) (hl : ev'.length = ev.length) (h : ∀ (i : Nat) (s : Sl), ev'[i]? = some (some s) → ev[i]? = some (some s)) (ht : ∀ ds : List PyData, ev[0]? = some (some (.own ds)) → ev'[0]? = some (some (.own ds))) : Ok K c M σ H ev' pd := by
  refine ⟨by rw [hl]; exact k.len, fun i d e => k.val i d (h i _ e), fun i ds e => k.own i ds (h i _ e), fun i j a ds es e1 e2 => k.inj i j a ds es (h i _ e1) (h j _ e2), k.pend, k.frame, k.sub, k.dom, k.mkd, k.lk, fun a t => ?_⟩
  obtain ⟨m, z1, ds, z2⟩ := k.tank a t
  exact ⟨m, z1, ds, ht ds z2⟩
theorem wipeD_length : ∀ {vs : List Nat}, (wipeD ev vs).length = ev.length
  | [] => rfl
  | v :: vs => by unfold wipeD; rw [List.length_set, wipeD_length]
theorem wipeD_some {i : Nat} {s : Sl} : ∀ {vs : List Nat}, (wipeD ev vs)[i]? = some (some s) → ev[i]? = some (some s) ∧ i ∉ vs
  | [], h => ⟨h, by simp⟩
  | v :: vs, h => by
    unfold wipeD at h
    rcases get_set h with ⟨_, e, _⟩ | ⟨n, e⟩
    · cases e
    · obtain ⟨a, b⟩ := wipeD_some e
      exact ⟨a, fun z => by
        rcases List.mem_cons.mp z with y | y
        · exact n y.symm
        · exact b y⟩
theorem wipeD_out {i : Nat} : ∀ {vs : List Nat}, i ∉ vs → (wipeD ev vs)[i]? = ev[i]?
  | [], _ => rfl
  | v :: vs, h => by
    unfold wipeD
    rw [List.getElem?_set_ne (fun e => h (by rw [e]; exact List.mem_cons_self ..)), wipeD_out fun z => h (List.mem_cons_of_mem _ z)]
end
/-- what a comprehension makes: g the target, t the tests, e the element, vs its own names -/
def lcD (vs : List Nat) (g : Wg) (t : Wt) (el : Wx) : List PyData → List PyData → Ev → (List PyData → Ev → Prop) → Prop
  | [], acc, ev, Q => acc.length ≤ 1000 ∧ Q acc ev
  | d :: ds, acc, ev, Q => g d ev fun e1 => t e1 fun b e2 => if b = true then el e2 fun y e3 => acc.length < 1000 ∧ lcD vs g t el ds (acc ++ [y]) (wipeD e3 vs) Q else lcD vs g t el ds acc (wipeD e2 vs) Q
def dLc (vs : List Nat) (u : Wa) (g : Wg) (t : Wt) (el : Wx) : Wx := fun ev Q => match vs.all (fun v => v != 0) with
  | true => u ev fun ds e => match cleanB e vs with
    | true => lcD vs g t el ds [] e fun acc e' => Q (.list acc) e'
    | false => lcD vs g t el ds [] (wipeD e vs) fun acc e' => Q (.list acc) e'
  | false => False
def dYes : Wt := fun ev Q => Q true ev
section
variable {X : Cx} {c : Cf}
abbrev DTs (X : Cx) (c : Cf) (ifs : List Expr) (w : Wt) : Prop := PTs X ifs (tT X.K c w)
theorem ptsM {X : Cx} {e : List Expr} {t t' : TT} (p : PTs X e t) (h : ∀ σ H Q, t' σ H Q → t σ H Q) : PTs X e t' := ⟨fun pins s σ H Q I q => p.run pins s σ H Q I (h σ H Q q)⟩
theorem dts_nil : DTs X c [] dYes := ptsM pts_nil fun σ H Q ⟨M, ev, pd, R, k, w, q⟩ => q _ _ w H k
theorem dts_one {e : Expr} {w : Wt} (h : DT X c e w) : DTs X c [e] w := pts_one h
theorem zip_all {K : PySem.W.Frag} {H : Hp} : ∀ {vs : List V} {ds : List PyData}, vs.length = ds.length → (∀ p ∈ vs.zip ds, Dz K H p.1 p.2) → DzAll K H vs ds
  | [], [], _, _ => .nil
  | v :: vs, d :: ds, l, h => .cons (h (v, d) (List.mem_cons_self ..)) (zip_all (by simpa using l) fun p hp => h p (List.mem_cons_of_mem _ hp))
/-- between two turns: the slots are wiped, the list so far stands at D -/
structure Mid (K : PySem.W.Frag) (c : Cf) (M : Mz) (vs : List Nat) (σ : Sg) (D : Addr) (pd : List (V × PyData)) (H : Hp) (ev : Ev) (acc : List PyData) (va : List V) : Prop where
  ok : Ok K c (stM M D (2, some (.lst va))) (wipe σ vs) H ev (va.zip acc ++ pd)
  ll : va.length = acc.length
  nw : ∀ v ∈ vs, ∀ s, ev[v]? ≠ some (some s)
theorem Mid.mk2 {K : PySem.W.Frag} {c : Cf} {M : Mz} {vs : List Nat} {σ σ2 : Sg} {D : Addr} {pd : List (V × PyData)} {H : Hp} {ev : Ev} {acc : List PyData} {va : List V} {M1 : Mz} (nz : ∀ v ∈ vs, v ≠ 0) (hw : wipe σ2 vs = wipe σ vs) (e : M1 = stM M D (2, some (.lst va)))
    (k : Ok K c M1 σ2 H ev (va.zip acc ++ pd)) (ll : va.length = acc.length) : Mid K c M vs σ D pd H (wipeD ev vs) acc va := by
  subst e
  refine ⟨?_, ll, fun v hv s z => (wipeD_some z).2 hv⟩
  rw [← hw]
  have k1 := k.less (ev' := wipeD ev vs) wipeD_length (fun i s z => (wipeD_some z).1) fun ds z => by rw [wipeD_out (fun m => nz 0 m rfl)]; exact z
  exact k1.slots (wipe_length _ _) fun i s z => wipe_out fun m => (wipeD_some z).2 m
theorem lc_rd {K : PySem.W.Frag} {vs : List Nat} {u : Wa} {g : Wg} {t : Wt} {el : Wx} {σ : Sg} {H : Hp} {Q : VK} (h : tE K c (dLc vs u g t el) σ H Q) : tLc (tI K c u) (tG K c vs g) (tT K c t) (tE K c el) vs σ H Q := by
  obtain ⟨M, ev, pd, R, k, h, q⟩ := h
  unfold dLc at h
  split at h
  · rename_i hz
    have nz : ∀ v ∈ vs, v ≠ 0 := fun v hv => by
      have := List.all_eq_true.mp hz v hv
      simpa using this
    refine ⟨M, ev, pd, _, k, h, fun ds e y p H1 J k1 wk D hD => ?_⟩
    have sp : ∃ e0, Ok K c M σ H1 e0 (p ++ pd) ∧ (∀ v ∈ vs, ∀ s, e0[v]? ≠ some (some s)) ∧ lcD vs g t el ds [] e0 (fun acc e' => R (.list acc) e') := by
      split at y
      · rename_i hc
        exact ⟨e, k1, fun v hv s z => (by rw [clean_at hc v hv] at z; cases z), y⟩
      · exact ⟨wipeD e vs, k1.less wipeD_length (fun i s z => (wipeD_some z).1) (fun ds z => by rw [wipeD_out (fun m => nz 0 m rfl)]; exact z), fun v hv s z => (wipeD_some z).2 hv, y⟩
    clear y k1
    obtain ⟨e, k1, cl, y⟩ := sp
    · have h0 := (k1.h0 hD).1
      have mD := k1.plain hD
      have W0 : Mid K c M vs σ D (p ++ pd) (upd H1 D (.lst [])) e [] [] := by
        refine ⟨?_, rfl, fun v hv s z => ?_⟩
        · have k0 : Ok K c (stM M D (2, some (.lst []))) σ (upd H1 D (.lst [])) e (p ++ pd) := k1.lock hD fun u z => by
            cases z
            exact ⟨rfl, rfl⟩
          exact k0.slots (wipe_length _ _) fun i s z => wipe_out fun m => cl i m s z
        · exact cl v hv s z
      refine ⟨fun i m H2 => ∃ acc va e2, Mid K c M vs σ D (p ++ pd) H2 e2 acc va ∧ lcD vs g t el (ds.drop i) acc e2 (fun acc e' => R (.list acc) e') ∧ i + m = ds.length,
        ⟨ds.length, [], [], e, W0, y, Nat.zero_add _⟩, fun i m H2 hW => ?_⟩
      obtain ⟨acc, va, e2, k2, y2, lm⟩ := hW
      have kp : Ok K c (stM M D (2, some (.lst va))) (wipe σ vs) H2 e2 (p ++ (va.zip acc ++ pd)) := k2.ok.pop fun r hr => by
        rcases List.mem_append.mp hr with z | z
        · exact List.mem_append_right _ (List.mem_append_left _ z)
        · rcases List.mem_append.mp z with z | z
          · exact List.mem_append_left _ z
          · exact List.mem_append_right _ (List.mem_append_right _ z)
      obtain ⟨w1, w2⟩ := wk c _ _ H2 e2 _ i kp
      by_cases z : i < ds.length
      · obtain ⟨d, hd⟩ : ∃ d, ds[i]? = some d := ⟨_, List.getElem?_eq_getElem z⟩
        rw [drop_cons hd] at y2
        obtain ⟨z1, z2⟩ := w2 d hd
        refine .inr ⟨z1, fun H3 => ∃ acc va e2, Mid K c M vs σ D (p ++ pd) H3 e2 acc va ∧ lcD vs g t el (ds.drop (i + 1)) acc e2 (fun acc e' => R (.list acc) e'),
          fun H3 ⟨a, b, e3, q1, q2⟩ => ⟨m - 1, by omega, a, b, e3, q1, q2, by omega⟩, fun x H3 hy => ?_⟩
        obtain ⟨k3, _⟩ := z2 x H3 hy
        have k3' : Ok K c (stM M D (2, some (.lst va))) (wipe σ vs) H3 e2 ((x, d) :: (va.zip acc ++ (p ++ pd))) := k3.pop fun r hr => by
          rcases List.mem_cons.mp hr with z | z
          · rw [z]; exact List.mem_cons_self ..
          · rcases List.mem_append.mp z with z | z
            · exact List.mem_cons_of_mem _ (List.mem_append_right _ (List.mem_append_left _ z))
            · rcases List.mem_append.mp z with z | z
              · exact List.mem_cons_of_mem _ (List.mem_append_left _ z)
              · exact List.mem_cons_of_mem _ (List.mem_append_right _ (List.mem_append_right _ z))
        refine ⟨_, e2, _, d, _, k3', y2, fun e4 q4 σ4 H4 of4 k4 => ?_⟩
        have hw4 := wipe_off of4
        refine ⟨hw4, _, e4, _, _, k4, q4, fun b e5 q5 H5 k5 => ?_⟩
        by_cases hb : b = true
        · rw [if_pos hb] at q5 ⊢
          refine ⟨_, e5, _, _, k5, q5, fun y e6 q6 v H6 k6 => ?_⟩
          obtain ⟨l6, q6⟩ := q6
          have hl : H6 D = some (.lst va) := (k6.lk D _ (by rw [stM_at])).1
          have k7 := k6.more (D := D) (o := .lst (va ++ [v])) (by rw [stM_at]) h0
          rw [stM_stM] at k7
          refine ⟨va, hl, Nat.lt_of_le_of_lt (by rw [k2.ll]; omega) (small1000 (Nat.le_of_lt l6)), acc ++ [y], va ++ [v], wipeD e6 vs, Mid.mk2 nz hw4 rfl (k7.pop fun r hr => ?_) (by rw [List.length_append, List.length_append, k2.ll]; rfl), q6⟩
          rw [List.zip_append k2.ll] at hr
          rcases List.mem_append.mp hr with z | z
          · rcases List.mem_append.mp z with z | z
            · exact List.mem_cons_of_mem _ (List.mem_append_left _ z)
            · have z' : r = (v, y) := by simpa using z
              rw [z']; exact List.mem_cons_self ..
          · exact List.mem_cons_of_mem _ (List.mem_append_right _ z)
        · rw [if_neg hb] at q5 ⊢
          exact ⟨acc, va, wipeD e5 vs, Mid.mk2 nz hw4 rfl k5 k2.ll, q5⟩
      · rw [List.drop_of_length_le (by omega)] at y2
        have hl : H2 D = some (.lst va) := (k2.ok.lk D _ (by rw [stM_at])).1
        have ra : DzAll K (msk (stM M D (2, some (.lst va))) H2) va acc := zip_all k2.ll fun r hr => k2.ok.pend r (List.mem_append_left _ hr)
        have k5 := k2.ok.unlock (by rw [stM_at]) h0 hl ra
        rw [stM_stM, stM_id mD] at k5
        have k6 : Ok K c M σ H2 e2 pd := (k5.pop fun r hr => List.mem_cons_of_mem _ (List.mem_append_right _ (List.mem_append_right _ hr))).slots (by rw [wipe_length]) fun i s z => (wipe_out fun mm => k2.nw i mm s z).symm
        exact .inl ⟨w1 (by omega), q _ _ y2.2 _ H2 (k6.push k5.top)⟩
  · exact h.elim
theorem de_lc {elt tg iter : Expr} {ifs : List Expr} {scope : Scope} {own : List (Str × Nat)} {pos : Pos} {u : Wa} {g : Wg} {t : Wt} {el : Wx} (hc : X.calm = true) (hN : X.N.Nodup) (hi : DI X c tg iter u) (ok : BlkOk X.N X.env.scope scope own)
    (hg : ∀ (s : Shared) (H : Hp) (C : Addr) (cl : List (Str × Addr)) (fp : List Addr), DG (X.blk s H scope (compEnvC scope cl C X.env) fp) c (own.map (·.2)) tg g) (ht : ∀ (s : Shared) (H : Hp) (C : Addr) (cl : List (Str × Addr)) (fp : List Addr), DTs (X.blk s H scope (compEnvC scope cl C X.env) fp) c ifs t)
    (he : ∀ (s : Shared) (H : Hp) (C : Addr) (cl : List (Str × Addr)) (fp : List Addr), DE (X.blk s H scope (compEnvC scope cl C X.env) fp) c elt el) (hs : ∀ x, foldedSetIterable iter X.env x = pure x := by intro _; rfl) :
    DE X c (.ListComp elt [⟨tg, iter, ifs, 0⟩] scope pos) (dLc (own.map (·.2)) u g t el) := peM (pe_lc hc hN hi ok hg ht he hs) fun _ _ _ h => lc_rd h
theorem ds_setLc {i : Nat} {y : Str} {py : Pos} {elt tg iter : Expr} {ifs : List Expr} {scope : Scope} {own : List (Str × Nat)} {pos spos : Pos} {u : Wa} {g : Wg} {t : Wt} {el : Wx} (hc : X.calm = true) (hN : X.N.Nodup) (hy : X.N[i]? = some y) (hyl : X.env.scope.names.lookup y = some .local)
    (hsw : swapsWith (.ListComp elt [⟨tg, iter, ifs, 0⟩] scope pos) (some (.Name y py)) spos.line X.env = pure true) (hi : DI X c tg iter u) (ok : BlkOk X.N X.env.scope scope own)
    (hg : ∀ (s : Shared) (H : Hp) (C : Addr) (cl : List (Str × Addr)) (fp : List Addr), DG (X.blk s H scope (compEnvC scope cl C X.env) fp) c (own.map (·.2)) tg g) (ht : ∀ (s : Shared) (H : Hp) (C : Addr) (cl : List (Str × Addr)) (fp : List Addr), DTs (X.blk s H scope (compEnvC scope cl C X.env) fp) c ifs t)
    (he : ∀ (s : Shared) (H : Hp) (C : Addr) (cl : List (Str × Addr)) (fp : List Addr), DE (X.blk s H scope (compEnvC scope cl C X.env) fp) c elt el) (hs : ∀ x, foldedSetIterable iter X.env x = pure x := by intro _; rfl) :
    DS X c (.Assign [.Name y py] (.ListComp elt [⟨tg, iter, ifs, 0⟩] scope pos) spos) (wAsg (dLc (own.map (·.2)) u g t el) (gN i)) :=
  psM (ps_setLc hc hN hy hyl hsw hi ok hg ht he hs) fun De σ H ⟨M, ev, pd, R, k, h, f⟩ => lc_rd (Q := fun x H1 => gName i x σ H1 De.nx) ⟨M, ev, pd, _, k, h, fun d e q v H' k' => by
    obtain ⟨n, w⟩ := gN_of q
    exact f.nx _ w M _ H' (k'.pop1.set n k'.top)⟩
end
end Z
set_option Elab.async false
set_option linter.all false
set_option maxRecDepth 100000
namespace Z
open PySem L2
section
variable {X : Cx} {c : Cf} {pos : Pos}
theorem Ok.ownNew {K : PySem.W.Frag} {M : Mz} {σ : Sg} {H : Hp} {ev : Ev} {pd : List (V × PyData)} (k : Ok K c M σ H ev pd) {i : Nat} {p : Addr} {vs : List V} {ds : List PyData} (n : notOwn ev i) (h : H p = none) (r : DzAll K (msk M H) vs ds) :
    Ok K c (stM M p (1, none)) (σ.set i (some (.ref p))) (upd H p (.lst vs)) (ev.set i (some (.own ds))) pd := by
  have k1 : Ok K c (stM M p (1, none)) σ (upd H p (.lst vs)) ev pd := k.lock h fun u z => by cases z
  have hm : ∀ b u, msk M H b = some u → msk (stM M p (1, none)) (upd H p (.lst vs)) b = some u := fun b u e => by
    obtain ⟨a, q⟩ := msk_ok e
    have ne : b ≠ p := ne_of_none a h
    exact msk_of (by rw [upd_ne ne]; exact a) (by rw [stM_off ne]; exact q)
  have il := n.lt
  refine ⟨by rw [List.length_set, List.length_set]; exact k1.len, fun j d z => ?_, fun j es z => ?_, fun j l a ds1 ds2 z1 z2 z3 z4 => ?_, k1.pend, k1.frame, k1.sub, k1.dom, k1.mkd, k1.lk, fun a t => ?_⟩
  · rcases get_set z with ⟨rfl, z1, _⟩ | ⟨ne, z⟩
    · cases z1
    · obtain ⟨v, y1, y2⟩ := k1.val j d z
      exact ⟨v, by rw [List.getElem?_set_ne ne]; exact y1, y2⟩
  · rcases get_set z with ⟨rfl, z1, _⟩ | ⟨ne, z⟩
    · cases z1
      exact ⟨p, vs, List.getElem?_set_self (by rw [k.len]; exact il), by rw [stM_at], .inl (k.h0 h).1, upd_same, r.up hm⟩
    · obtain ⟨a, ws, y1, y2⟩ := k1.own j es z
      exact ⟨a, ws, by rw [List.getElem?_set_ne ne]; exact y1, y2⟩
  · -- the new one stands apart from all own lists
    have ap : ∀ (j : Nat) (es : List PyData) (a : Addr), ev[j]? = some (some (.own es)) → σ[j]? = some (some (.ref a)) → a ≠ p := fun j es a q1 q2 => by
      obtain ⟨a', ws, y1, y2, y3, y4, _⟩ := k.own j es q1
      rw [q2] at y1
      cases y1
      exact ne_of_none y4 h
    rcases get_set z1 with ⟨rfl, y1, _⟩ | ⟨n1, z1⟩
    · rcases get_set z2 with ⟨rfl, y2, _⟩ | ⟨n2, z2⟩
      · rfl
      · rw [List.getElem?_set_self (by rw [k.len]; exact il)] at z3
        rw [List.getElem?_set_ne n2] at z4
        cases z3
        exact absurd rfl (ap l _ _ z2 z4)
    · rw [List.getElem?_set_ne n1] at z3
      rcases get_set z2 with ⟨rfl, y2, _⟩ | ⟨n2, z2⟩
      · rw [List.getElem?_set_self (by rw [k.len]; exact il)] at z4
        cases z4
        exact absurd rfl (ap j _ _ z1 z3)
      · rw [List.getElem?_set_ne n2] at z4
        exact k1.inj j l a ds1 ds2 z1 z2 z3 z4
  · obtain ⟨m, y1, ws, y2⟩ := k1.tank a t
    have ne : i ≠ 0 := fun z => n.no (by rw [z]; exact y2)
    exact ⟨m, by rw [List.getElem?_set_ne ne]; exact y1, ws, by rw [List.getElem?_set_ne ne]; exact y2⟩
theorem Ok.h0own {K : PySem.W.Frag} {M : Mz} {σ : Sg} {H : Hp} {ev : Ev} {pd : List (V × PyData)} (k : Ok K c M σ H ev pd) {i : Nat} {ds : List PyData} (h : ev[i]? = some (some (.own ds))) (n : i ≠ 0) : ∃ a, σ[i]? = some (some (.ref a)) ∧ c.H0 a = none := by
  obtain ⟨a, vs, e1, e2, e3, e4, e5⟩ := k.own i ds h
  refine ⟨a, e1, ?_⟩
  rcases e3 with z | z
  · exact z
  · obtain ⟨_, y1, ws, y2⟩ := k.tank a z
    exact absurd (k.inj i 0 a ds ws h y2 e1 y1) n
/-- return x, x an own list -/
def wRetO (i : Nat) : Ws := fun E ev => match ev[i]? with
  | some (some (.own ds)) => i ≠ 0 ∧ E.rt (.list ds) (ev.set i (some (.val (.list ds))))
  | _ => False
theorem ds_retO {i : Nat} {e : Expr} (h : PE X e (tVar i)) : DS X c (.Return (some e) pos) (wRetO i) := psM (ps_ret h) fun De σ H ⟨M, ev, pd, R, k, q, f⟩ => by
  unfold wRetO at q
  split at q
  · rename_i ds e
    obtain ⟨n, q⟩ := q
    obtain ⟨a, e1, e2⟩ := k.h0own e n
    have k1 := k.freeze e e1 e2
    exact ⟨.ref a, e1, f.rt _ _ q _ _ _ _ k1.pop1 (unMk k1 k1.top)⟩
  · exact q.elim
/-- x[j], len(x), x an own list -/
def dOwnIx (i : Nat) (w : Wx) : Wx := fun ev Q => match ev[i]? with
  | some (some (.own _)) => w ev fun j e => match j with
    | .int j => match e[i]? with
      | some (some (.own ds)) => match atI ds j with
        | some d => Q d e
        | none => False
      | _ => False
    | _ => False
  | _ => False
theorem de_ownIx {i : Nat} {eo ei : Expr} {w : Wx} (ho : PE X eo (tVar i)) (hi : DE X c ei w) (hs : PlainIx ei := by exact fun _ _ => rfl) : DE X c (.Subscript eo ei pos) (dOwnIx i w) := peM (pe_ix ix_list ho hi hs) fun σ H Q ⟨M, ev, pd, R, k, w, q⟩ => by
  unfold dOwnIx at w
  split at w
  · rename_i ds0 e0
    obtain ⟨a, us, a1, a2, a3, a4⟩ := k.slotV e0
    refine ⟨.ref a, a1, M, ev, _, _, k, w, fun j e h u H1 k1 => ?_⟩
    have t := k1.top
    split at h
    · cases t
      split at h
      · rename_i ds e1
        split at h
        · rename_i d e2
          obtain ⟨a', us', b1, b2, b3, b4⟩ := k1.slotV e1
          obtain rfl : a = a' := by rw [a1] at b1; cases b1; rfl
          obtain ⟨z, y1, y2⟩ := atI_rel b4 e2
          exact ⟨a, us', _, z, rfl, rfl, sq_lst b2, y1, q _ _ h _ _ (k1.pop1.push y2)⟩
        · exact h.elim
      · exact h.elim
    · exact h.elim
  · exact w.elim
end
/-- a def at f keeps the promise sp, where no repr is under way -/
structure FnG (P : Program) (w : World) (K : PySem.W.Frag) (mg : Str → Option Value) (base : Heap) (CX : CXT) (k : Nat) (f : Addr) (fd : FuncData) (ps : List Str) (sp : Sp) : Prop where
  ar : ∀ vs H Q E, sp vs H Q E → vs.length = ps.length
  go : ∀ (A : Around) (outer : List Env) (s : Shared) (H : Hp) (args : Args) (us : List Value) (vs : List V) (Q : VK) (E : XK), A.guards = some [] → Room k A → Env0 P w K mg base A outer s H → BindsTo s fd args (ps.zip us) → Vals vs us → sp vs H Q E →
    codeAny (model P w) A (.call (.ref f) args) (CR CX outer P w H s Q E) s
section
variable {P : Program} {w : World} {K : PySem.W.Frag} {mg : Str → Option Value} {base : Heap} {CX : CXT}
theorem fnG_of {x qual : Str} {st : Stmt} {f : Addr} {fd : FuncData} {N ps : List Str} {k : Nat} {sp : Sp} (F : Fun K x qual st f fd) (S : FnScope N ps (defScope st)) (ar : ∀ vs H Q E, sp vs H Q E → vs.length = ps.length)
    (body : ∀ (cdv : Value) (A : Around) (outer : List Env) (s : Shared) (H : Hp) (vs : List V) (Q : VK) (E : XK), A.guards = some [] → Room k (A.deeper (PyProof.Rows.envOfC qual (defScope st) s.heap.objs.size f cdv)) → sp vs H Q E →
      ∃ t, PSs (cxOf CX P w K mg base N qual (defScope st) f cdv A outer s H E) (defBody st) t ∧ t { nx := fun _ H' => Q .non H', rt := Q } (L2.start N vs) H) : FnG P w K mg base CX (k + 1) f fd ps sp := by
  obtain ⟨oc, od, kV, doc, pm, an, cdv, ct, osl, rfl, lk, hcd⟩ := F.ex
  constructor
  · exact ar
  intro A outer s H args us vs Q E hG hr e0 hb r hsp
  have inK : K.In s.heap := e0.mod.kin.keeps (fun b o q => (e0.bs b o q).1)
  have lim := e0.mod.nolimit.keeps (fun b o q => (e0.bs b o q).1)
  refine PySem.codeAny_call_function (hr.depth) (inK _ _ lk) rfl S.co S.gen rfl (PySem.W.codeRec_of inK hcd) (hb _ _ _ _ ?_)
  refine PySem.wpAny_newFunctionEnv_cells S.kind ?_ ?_
  · rintro ⟨n, v⟩ hy
    have m := (List.of_mem_zip hy).1
    cases S.par n m with
    | inl q => exact .inl q
    | inr q => exact .inr ⟨q, PySem.W.cellsFrom_some _ _ _ (.inl q)⟩
  · intro env he s1 x
    subst he
    refine ⟨lim.keeps x.toInCall.keep, PySem.codeAny_func ?_⟩
    obtain ⟨t, ht, hq⟩ := body cdv A outer s H vs Q E hG (hr.deeper _) hsp
    have I := inv_start (CX := CX) (E := E) S hr.hd e0 (ar _ _ _ _ hsp) r x
    refine wpAny_mono (ht.run [] s1 _ H _ I hq) ?_ ?_
    · intro fl s' hs
      cases fl with
      | next =>
        obtain ⟨σ', H', J, q⟩ := hs
        exact ⟨V.non, H', J.os, J.bare, J.base, J.hok, rfl, q⟩
      | ret u =>
        obtain ⟨v, σ', H', J, rv, q⟩ := hs
        exact ⟨v, H', J.os, J.bare, J.base, J.hok, rv, q⟩
      | brk => obtain ⟨_, _, _, q⟩ := hs; exact q.elim
      | cont => obtain ⟨_, _, _, q⟩ := hs; exact q.elim
    · intro e s' hs
      exact hs
end
end Z
set_option Elab.async false
set_option linter.all false
set_option maxRecDepth 100000
namespace Z
open PySem L2
/-- what the caller hides stands in the heap -/
structure MkOk (Mk : Mz) (H : Hp) : Prop where
  dom : ∀ a, (Mk a).1 ≠ 0 → ∃ o, H a = some o
  lk : ∀ a o, (Mk a).2 = some o → H a = some o ∧ ((Mk a).1 = 2 ∨ (Mk a).1 = 0)
abbrev Cp := List PyData → (PyData → Prop) → Prop
abbrev Ct := List PyData → List PyData → (PyData → List PyData → Prop) → Prop
/-- data in, data out -/
def spP (K : PySem.W.Frag) (n : Nat) (C : Cp) : Sp := fun vs H Q _ => ∃ (Mk : Mz) (ds : List PyData) (R : PyData → Prop), vs.length = n ∧ MkOk Mk H ∧ DzAll K (msk Mk H) vs ds ∧ C ds R ∧
  ∀ d, R d → ∀ v H', (∀ b o, H b = some o → H' b = some o) → Dz K (msk Mk H') v d → Q v H'
/-- the first argument is a list that is changed in place -/
def spT (K : PySem.W.Frag) (n : Nat) (C : Ct) : Sp := fun vs H Q _ => ∃ (Mk : Mz) (a : Addr) (ws us : List V) (ts ds : List PyData) (R : PyData → List PyData → Prop), vs = .ref a :: ws ∧ vs.length = n ∧ MkOk Mk H ∧ (Mk a).1 = 1 ∧ H a = some (.lst us) ∧
  DzAll K (msk Mk H) us ts ∧ DzAll K (msk Mk H) ws ds ∧ C ts ds R ∧
  ∀ d ts', R d ts' → ∀ v H' us', (∀ b o, H b = some o → b ≠ a → H' b = some o) → H' a = some (.lst us') → DzAll K (msk Mk H') us' ts' → Dz K (msk Mk H') v d → Q v H'
def ev0 (m : Nat) (ds : List PyData) : Ev := ds.map (fun d => some (.val d)) ++ List.replicate m none
def edP (R : PyData → Prop) : Ed := { nx := fun _ => R .none, rt := fun d _ => R d, rl := fun ds _ => R (.list ds) }
def tkR (R : PyData → List PyData → Prop) (d : PyData) (ev : Ev) : Prop := match ev[(0 : Nat)]? with
  | some (some (.own ts)) => R d ts
  | _ => False
def edT (R : PyData → List PyData → Prop) : Ed := { nx := tkR R .none, rt := tkR R }
theorem ev0_get {m : Nat} {ds : List PyData} {i : Nat} {s : Sl} (h : (ev0 m ds)[i]? = some (some s)) : ∃ d, s = .val d ∧ ds[i]? = some d := by
  unfold ev0 at h
  by_cases l : i < ds.length
  · rw [List.getElem?_append_left (by simpa using l), List.getElem?_map, List.getElem?_eq_getElem l] at h
    exact ⟨ds[i], by cases h; rfl, List.getElem?_eq_getElem l⟩
  · rw [List.getElem?_append_right (by simpa using l), List.getElem?_replicate] at h
    split at h <;> cases h
theorem start_get {N : List Str} {vs : List V} {i : Nat} {v : V} (h : vs[i]? = some v) : (L2.start N vs)[i]? = some (some v) := by
  have l : i < vs.length := by
    by_cases l : i < vs.length
    · exact l
    · rw [List.getElem?_eq_none (by omega)] at h; cases h
  unfold L2.start
  rw [List.getElem?_append_left (by simpa using l), List.getElem?_map, h]
  rfl
section
variable {P : Program} {wd : World} {K : PySem.W.Frag} {mg : Str → Option Value} {base : Heap}
/-- THE RULE for a def over data -/
theorem okP {x qual : Str} {st : Stmt} {f : Addr} {fd : FuncData} {N ps : List Str} {k n m : Nat} {C : Cp} {w : Ws} (F : Fun K x qual st f fd) (S : FnScope N ps (defScope st)) (hn : ps.length = n) (hN : N.length = n + m)
    (body : ∀ (c : Cf) (cdv : Value) (A : Around) (outer : List Env) (s : Shared) (H : Hp) (E : XK), A.guards = some [] → Room k (A.deeper (PyProof.Rows.envOfC qual (defScope st) s.heap.objs.size f cdv)) → DSs (cxOf CX0 P wd K mg base N qual (defScope st) f cdv A outer s H E).nox c (defBody st) w)
    (sem : ∀ ds R, C ds R → ds.length = n → w (edP R) (ev0 m ds)) : FnG P wd K mg base CX0 (k + 1) f fd ps (spP K n C) := by
  refine fnG_of F S (fun vs H Q E h => ?_) (fun cdv A outer s H vs Q E hG hr h => ?_)
  · obtain ⟨_, _, _, l, _⟩ := h
    rw [l, hn]
  · obtain ⟨Mk, ds, R, l, mk, ra, hC, q⟩ := h
    refine ⟨_, (body ⟨H, fun _ => false, Mk⟩ cdv A outer s H E hG hr).nox, Mk, ev0 m ds, [], edP R, ⟨?_, fun i d e => ?_, fun i es e => ?_, fun i j a es fs e => ?_, fun p hp => (by cases hp), fun b o e _ => e, fun a e => e, mk.dom, mk.dom, mk.lk, fun a e => (by cases e)⟩, sem ds R hC (by rw [← ra.len, l]), ?_⟩
    · unfold L2.start ev0
      rw [List.length_append, List.length_append, List.length_map, List.length_map, List.length_replicate, List.length_replicate, ra.len, hN, ← ra.len, l]
      omega
    · obtain ⟨d', z, e⟩ := ev0_get e
      cases z
      obtain ⟨v, y1, y2⟩ := ra.get i e
      exact ⟨v, start_get y1, y2⟩
    · obtain ⟨d', z, e⟩ := ev0_get e
      cases z
    · obtain ⟨d', z, e⟩ := ev0_get e
      cases z
    · exact ⟨fun ev' h M' σ' H' k' => q _ h _ _ (fun b o e => k'.frame b o e rfl) .non, fun d ev' h M' σ' v H' k' r => q _ h _ _ (fun b o e => k'.frame b o e rfl) r, fun ev' h => h.elim, fun ev' h => h.elim, fun ds ev' h M' σ' p vs H' k' z1 z2 r => q _ h _ _ (fun b o e => k'.frame b o e rfl) (.lst (sq_lst (msk_of z2 (by
          by_cases z : (Mk p).1 = 0
          · exact z
          · obtain ⟨o, y⟩ := mk.dom p z
            rw [show H p = none from z1] at y
            cases y))) r)⟩
theorem DzAll.mono {H H' : Hp} {vs : List V} {ds : List PyData} (h : ∀ b o, H b = some o → H' b = some o) (r : DzAll K H vs ds) : DzAll K H' vs ds := r.up h
/-- THE RULE for a def that changes the list it is handed first -/
theorem okT {x qual : Str} {st : Stmt} {f : Addr} {fd : FuncData} {N ps : List Str} {k n m : Nat} {C : Ct} {w : Ws} (F : Fun K x qual st f fd) (S : FnScope N ps (defScope st)) (hn : ps.length = n + 1) (hN : N.length = n + 1 + m)
    (body : ∀ (c : Cf) (cdv : Value) (A : Around) (outer : List Env) (s : Shared) (H : Hp) (E : XK), A.guards = some [] → Room k (A.deeper (PyProof.Rows.envOfC qual (defScope st) s.heap.objs.size f cdv)) → DSs (cxOf CX0 P wd K mg base N qual (defScope st) f cdv A outer s H E).nox c (defBody st) w)
    (sem : ∀ ts ds R, C ts ds R → ds.length = n → w (edT R) (some (.own ts) :: ev0 m ds)) : FnG P wd K mg base CX0 (k + 1) f fd ps (spT K (n + 1) C) := by
  refine fnG_of F S (fun vs H Q E h => ?_) (fun cdv A outer s H vs Q E hG hr h => ?_)
  · obtain ⟨_, _, _, _, _, _, _, _, l, _⟩ := h
    rw [l, hn]
  · obtain ⟨Mk, a, ws, us, ts, ds, R, rfl, l, mk, ma, ha, rt, ra, hC, q⟩ := h
    have lw : ws.length = n := by simpa using l
    refine ⟨_, (body ⟨H, fun b => decide (b = a), Mk⟩ cdv A outer s H E hG hr).nox, Mk, some (.own ts) :: ev0 m ds, [], edT R, ⟨?_, fun i d e => ?_, fun i es e => ?_, fun i j b es fs e1 e2 _ _ => ?_, fun p hp => (by cases hp), fun b o e _ => e, fun b e => e, mk.dom, mk.dom, mk.lk, fun b e => ?_⟩, sem ts ds R hC (by rw [← ra.len, lw]), ?_⟩
    · unfold L2.start ev0
      simp only [List.length_append, List.length_cons, List.length_map, List.length_replicate, hN, ← ra.len, lw]
      omega
    · cases i with
      | zero => cases e
      | succ i =>
        obtain ⟨d', z, e⟩ := ev0_get (show (ev0 m ds)[i]? = some (some (.val d)) from e)
        cases z
        obtain ⟨v, y1, y2⟩ := ra.get i e
        exact ⟨v, start_get (i := i + 1) y1, y2⟩
    · cases i with
      | zero => cases e; exact ⟨a, us, start_get (i := 0) rfl, ma, .inr (by simp), ha, rt⟩
      | succ i =>
        obtain ⟨d', z, e⟩ := ev0_get (show (ev0 m ds)[i]? = some (some (.own es)) from e)
        cases z
    · have z1 : i = 0 := by
        cases i with
        | zero => rfl
        | succ i => obtain ⟨d', z, _⟩ := ev0_get (show (ev0 m ds)[i]? = some (some (.own es)) from e1); cases z
      have z2 : j = 0 := by
        cases j with
        | zero => rfl
        | succ i => obtain ⟨d', z, _⟩ := ev0_get (show (ev0 m ds)[i]? = some (some (.own fs)) from e2); cases z
      rw [z1, z2]
    · have z : b = a := by simpa using e
      subst z
      exact ⟨by rw [ma]; decide, start_get (i := 0) rfl, ts, rfl⟩
    · have fin : ∀ d ev' M' σ' v H', Ok K ⟨H, fun b => decide (b = a), Mk⟩ M' σ' H' ev' [] → (edT R).rt d ev' → Dz K (msk Mk H') v d → Q v H' := by
        intro d ev' M' σ' v H' k' h r
        have h : tkR R d ev' := h
        unfold tkR at h
        split at h
        · rename_i ts' e
          obtain ⟨b, us', e1, e2, e3, e4, e5⟩ := k'.own 0 ts' e
          obtain ⟨m1, y1, zs, y2⟩ := k'.tank a (by simp)
          rw [y1] at e1
          cases e1
          exact q d ts' h v H' us' (fun b o z n => k'.frame b o z (by simpa using n)) e4 (e5.up (msk_less k'.sub)) r
        · exact h.elim
      exact ⟨fun ev' h M' σ' H' k' => fin .none ev' M' σ' .non H' k' h .non, fun d ev' h M' σ' v H' k' r => fin d ev' M' σ' v H' k' h r, fun ev' h => h.elim, fun ev' h => h.elim, fun ds ev' h => h.elim⟩
end
section
variable {P : Program} {wd : World} {K : PySem.W.Frag} {mg : Str → Option Value} {base : Heap}
def spF (K : PySem.W.Frag) (n : Nat) (C : List PyData → (List PyData → Prop) → Prop) : Sp := fun vs H Q _ => ∃ (Mk : Mz) (ds : List PyData) (R : List PyData → Prop), vs.length = n ∧ MkOk Mk H ∧ DzAll K (msk Mk H) vs ds ∧ C ds R ∧
  ∀ es, R es → ∀ p us H', H p = none → (∀ b o, H b = some o → H' b = some o) → H' p = some (.lst us) → DzAll K (msk Mk H') us es → Q (.ref p) H'
def edF (R : List PyData → Prop) : Ed := { nx := fun _ => False, rt := fun _ _ => False, rl := fun ds _ => R ds }
theorem okF {x qual : Str} {st : Stmt} {f : Addr} {fd : FuncData} {N ps : List Str} {k n m : Nat} {C : List PyData → (List PyData → Prop) → Prop} {w : Ws} (F : Fun K x qual st f fd) (S : FnScope N ps (defScope st)) (hn : ps.length = n) (hN : N.length = n + m)
    (body : ∀ (c : Cf) (cdv : Value) (A : Around) (outer : List Env) (s : Shared) (H : Hp) (E : XK), A.guards = some [] → Room k (A.deeper (PyProof.Rows.envOfC qual (defScope st) s.heap.objs.size f cdv)) → DSs (cxOf CX0 P wd K mg base N qual (defScope st) f cdv A outer s H E).nox c (defBody st) w)
    (sem : ∀ ds R, C ds R → ds.length = n → w (edF R) (ev0 m ds)) : FnG P wd K mg base CX0 (k + 1) f fd ps (spF K n C) := by
  refine fnG_of F S (fun vs H Q E h => ?_) (fun cdv A outer s H vs Q E hG hr h => ?_)
  · obtain ⟨_, _, _, l, _⟩ := h
    rw [l, hn]
  · obtain ⟨Mk, ds, R, l, mk, ra, hC, q⟩ := h
    refine ⟨_, (body ⟨H, fun _ => false, Mk⟩ cdv A outer s H E hG hr).nox, Mk, ev0 m ds, [], edF R, ⟨?_, fun i d e => ?_, fun i es e => ?_, fun i j a es fs e => ?_, fun p hp => (by cases hp), fun b o e _ => e, fun a e => e, mk.dom, mk.dom, mk.lk, fun a e => (by cases e)⟩, sem ds R hC (by rw [← ra.len, l]), ?_⟩
    · simp only [L2.start, ev0, List.length_append, List.length_map, List.length_replicate, hN, ← ra.len, l]
      omega
    · obtain ⟨d', z, e⟩ := ev0_get e
      cases z
      obtain ⟨v, y1, y2⟩ := ra.get i e
      exact ⟨v, start_get y1, y2⟩
    · obtain ⟨d', z, e⟩ := ev0_get e
      cases z
    · obtain ⟨d', z, e⟩ := ev0_get e
      cases z
    · exact ⟨fun ev' h => h.elim, fun d ev' h => h.elim, fun ev' h => h.elim, fun ev' h => h.elim, fun ds ev' h M' σ' p vs H' k' z1 z2 r => q _ h p vs H' z1 (fun b o e => k'.frame b o e rfl) z2 r⟩
end
structure Cl (P : Program) (wd : World) (K : PySem.W.Frag) (mg : Str → Option Value) (base : Heap) (k : Nat) (x : Str) (ps : List Str) (sp : Sp) : Prop where
  ex : ∃ f fd, mg x = some (.ref f) ∧ PySem.W.keepIn K (.ref f) = true ∧ Binds K fd ps [] ∧ FnG P wd K mg base CX0 k f fd ps sp
structure ClK (P : Program) (wd : World) (K : PySem.W.Frag) (mg : Str → Option Value) (base : Heap) (k : Nat) (x : Str) (ps : List Str) (sp : Sp) : Prop where
  ex : ∃ f fd, mg x = some (.ref f) ∧ PySem.W.keepIn K (.ref f) = true ∧ KBn K fd ps 0 ps (fun _ ws => ws) (fun _ zs => zs) ∧ FnG P wd K mg base CX0 k f fd ps sp
section
variable {X : Cx} {c : Cf} {k kg n : Nat} {x : Str} {ps : List Str} {p pos : Pos} {e : Expr} {es : List Expr} {u : Wa}
theorem runG {f : Addr} {fd : FuncData} {sp : Sp} {args : Args} {us : List Value} {vs : List V} {pins : List (Addr × Obj)} {σ : Sg} {H : Hp} {s : Shared} {Q : VK} (F : FnG X.prog X.w X.K X.mg X.base CX0 kg f fd ps sp) (hk : kg ≤ k) (hr : Room k X.A) (hG : X.A.guards = some [])
    (I : Inv X pins σ H s) (hb : BindsTo s fd args (ps.zip us)) (r : Vals vs us) (h : sp vs H Q E0) : codeAny (model X.prog X.w) X.A (.call (.ref f) args) (fun rr s' => match rr with
      | .ok (.ret v) => EP X pins σ Q v s'
      | _ => False) s :=
  codeAny_mono (F.go X.A X.stack s H args us vs Q E0 hG (hr.mono hk) I.env0 hb r h) fun rr s' hq => by
    cases rr with
    | error e => exact hq.elim
    | ok fl => cases fl with
      | ret v => exact I.after hq
      | next => exact hq.elim
      | brk => exact hq.elim
      | cont => exact hq.elim
theorem callG {f : Addr} {args : Args} {us : List Value} {kw : List (Str × Value)} {pins : List (Addr × Obj)} {σ : Sg} {s : Shared} {Q : VK} (h : codeAny (model X.prog X.w) X.A (.call (.ref f) ⟨us, kw⟩) (fun rr s' => match rr with
      | .ok (.ret v) => EP X pins σ Q v s'
      | _ => False) s) : wpAny (model X.prog X.w) X.A (call (.ref f) us kw) (EP X pins σ Q) X.xe s := wpAny_call (codeAny_mono h fun rr s' hq => by
    cases rr with
    | error e => exact hq.elim
    | ok fl => cases fl with
      | ret v => exact hq
      | next => exact hq.elim
      | brk => exact hq.elim
      | cont => exact hq.elim)
/-- f(e, ..) by any promise -/
theorem pe_cG {sp : Sp} {t : TA} (F : Cl X.prog X.w X.K X.mg X.base kg x ps sp) (hk : kg ≤ k) (hr : Room k X.A) (hG : X.A.guards = some []) (hg : Gl X x) (ha : PA X (e :: es) t) (h2 : (x == ("__debug__" : Str)) = false) (h3 : starEach (e :: es) X.env = (false, eval e X.env) :: starEach es X.env) (h4 : (backTo pos (starEach es X.env)).any (·.1) = false) :
    PE X (.Call (.Name x p) (e :: es) [] pos) (fun σ H Q => t σ H fun vs H1 => sp vs H1 Q E0) := by
  obtain ⟨f, fd, hm, hkp, hb, F⟩ := F.ex
  constructor
  intro pins s σ H Q I h
  apply wpAny_Call_Name_kw
  apply ld_glob I hg hm _ h2
  refine PySem.W.callWith_K (h₀ := X.base) I.ok.mod.kin hkp (thn (ha.run pos pins s σ H _ I h) ?_) h3 h4
  rintro us s1 ⟨vs, H1, I1, r, q⟩
  refine ⟨I1.kIn, ?_⟩
  have ar := F.ar _ _ _ _ q
  have b := hb s1 us I1.kIn (by rw [List.append_nil, ← r.length, ar])
  rw [List.append_nil] at b
  exact callG (args := ⟨us, []⟩) (us := us) (kw := []) (runG F hk hr hG I1 b r q)
/-- f(a = e, ..), all parameters named in their order -/
theorem pe_cGK {sp : Sp} {t : TA} {kws : List Keyword} (F : ClK X.prog X.w X.K X.mg X.base kg x ps sp) (hk : kg ≤ k) (hr : Room k X.A) (hG : X.A.guards = some []) (hg : Gl X x) (ha : PK X kws t) (h1 : (backToKw pos (keywordEach kws X.env)).all (·.1.isSome) = true) (h2 : (backToKw pos (keywordEach kws X.env)).filterMap (·.1) = ps)
    (h3 : (x == ("__debug__" : Str)) = false) (h4 : ((backTo pos (starEach [] X.env)).any (·.1) || (backToKw pos (keywordEach kws X.env)).any (·.1.isNone)) = false) : PE X (.Call (.Name x p) [] kws pos) (fun σ H Q => t σ H fun vs H1 => sp vs H1 Q E0) := by
  obtain ⟨f, fd, hm, hkp, hb, F⟩ := F.ex
  constructor
  intro pins s σ H Q I h
  apply wpAny_Call_Name_kw
  apply ld_glob I hg hm _ h3
  refine PySem.W.callWith_KW0 (h₀ := X.base) I.ok.mod.kin hkp h1 (thn (ha.run pos pins s σ H _ I h) ?_) h4
  rintro ws s1 ⟨vs, H1, I1, r, q⟩
  refine ⟨I1.kIn, ?_⟩
  rw [h2]
  have ar := F.ar _ _ _ _ q
  have b := hb.to s1 [] ws I1.kIn rfl (by rw [← r.length, ar])
  exact callG (args := ⟨[], ps.zip ws⟩) (us := []) (kw := ps.zip ws) (runG F hk hr hG I1 b r q)
theorem Ok.mkOk {K : PySem.W.Frag} {M : Mz} {σ : Sg} {H : Hp} {ev : Ev} {pd : List (V × PyData)} (k : Ok K c M σ H ev pd) : MkOk M H := ⟨k.dom, k.lk⟩
theorem spP_rd {K : PySem.W.Frag} {C : Cp} {σ : Sg} {H : Hp} {Q : VK} {E : XK} (h : tE K c (fun ev Q => u ev fun ds e => ds.length = n ∧ C ds fun d => Q d e) σ H Q) : tA K c u σ H fun vs H1 => spP K n C vs H1 Q E := by
  obtain ⟨M, ev, pd, R, k, w, q⟩ := h
  exact ⟨M, ev, pd, _, k, w, fun ds e ⟨l, h1⟩ vs H1 k1 r => ⟨M, ds, _, by rw [r.len, l], k1.mkOk, r, h1, fun d hd v H' g z => q d e hd v H' ((k1.grow g).push z)⟩⟩
/-- the call of a def over data -/
def dFn (n : Nat) (C : Cp) (u : Wa) : Wx := fun ev Q => u ev fun ds e => ds.length = n ∧ C ds fun d => Q d e
theorem de_fn {C : Cp} (F : Cl X.prog X.w X.K X.mg X.base kg x ps (spP X.K n C)) (hk : kg ≤ k) (hr : Room k X.A) (hG : X.A.guards = some []) (hg : Gl X x) (ha : DA X c (e :: es) u) (h2 : (x == ("__debug__" : Str)) = false := by decide) (h3 : starEach (e :: es) X.env = (false, eval e X.env) :: starEach es X.env := by rfl) (h4 : (backTo pos (starEach es X.env)).any (·.1) = false := by rfl) :
    DE X c (.Call (.Name x p) (e :: es) [] pos) (dFn n C u) := peM (pe_cG F hk hr hG hg ha h2 h3 h4) fun _ _ _ h => spP_rd h
theorem de_fnK {C : Cp} {kws : List Keyword} (F : ClK X.prog X.w X.K X.mg X.base kg x ps (spP X.K n C)) (hk : kg ≤ k) (hr : Room k X.A) (hG : X.A.guards = some []) (hg : Gl X x) (ha : DK X c kws u) (h1 : (backToKw pos (keywordEach kws X.env)).all (·.1.isSome) = true := by rfl) (h2 : (backToKw pos (keywordEach kws X.env)).filterMap (·.1) = ps := by rfl)
    (h3 : (x == ("__debug__" : Str)) = false := by decide) (h4 : ((backTo pos (starEach [] X.env)).any (·.1) || (backToKw pos (keywordEach kws X.env)).any (·.1.isNone)) = false := by rfl) : DE X c (.Call (.Name x p) [] kws pos) (dFn n C u) := peM (pe_cGK F hk hr hG hg ha h1 h2 h3 h4) fun _ _ _ h => spP_rd h
/-- f(x, e, ..), x an own list that f changes -/
def dFnT (i n : Nat) (C : Ct) (u : Wa) : Wx := fun ev Q => match ev[i]? with
  | some (some (.own _)) => u ev fun ds e => match e[i]? with
    | some (some (.own ts)) => ds.length + 1 = n ∧ C ts ds fun d ts' => Q d (e.set i (some (.own ts')))
    | _ => False
  | _ => False
theorem de_fnT {i : Nat} {C : Ct} (F : Cl X.prog X.w X.K X.mg X.base kg x ps (spT X.K n C)) (hk : kg ≤ k) (hr : Room k X.A) (hG : X.A.guards = some []) (hg : Gl X x) (ho : PE X e (tVar i)) (ha : DA X c es u) (h2 : (x == ("__debug__" : Str)) = false := by decide) (h3 : starEach (e :: es) X.env = (false, eval e X.env) :: starEach es X.env := by rfl) (h4 : (backTo pos (starEach es X.env)).any (·.1) = false := by rfl) :
    DE X c (.Call (.Name x p) (e :: es) [] pos) (dFnT i n C u) := peM (pe_cG F hk hr hG hg (pa_cons ho ha h3) h2 h3 h4) fun σ H Q ⟨M, ev, pd, R, k, w, q⟩ => by
  unfold dFnT at w
  split at w
  · rename_i ts0 e0
    obtain ⟨a, us, a1, a2, a3, a4⟩ := k.slotV e0
    refine ⟨.ref a, a1, M, ev, _, _, k, w, fun ds e h vs H1 k1 r => ?_⟩
    split at h
    · rename_i ts e1
      obtain ⟨l, h⟩ := h
      obtain ⟨a', us', b1, b2, b3, b4⟩ := k1.slotV e1
      obtain rfl : a = a' := by rw [a1] at b1; cases b1; rfl
      exact ⟨M, a, vs, us', ts, ds, _, rfl, by rw [List.length_cons, r.len, l], k1.mkOk, b3, b2, b4, r, h, fun d ts' hd v H' us2 g1 g2 g3 g4 => q d _ hd v H' ((k1.write e1 a1 g1 g2 g3).push g4)⟩
    · exact h.elim
  · exact w.elim
def allInt : List PyData → Bool
  | [] => true
  | .int _ :: r => allInt r
  | _ :: _ => false
theorem ints_any {K : PySem.W.Frag} {H H' : Hp} : ∀ {vs : List V} {ds : List PyData}, allInt ds = true → DzAll K H vs ds → DzAll K H' vs ds
  | _, _, _, .nil => .nil
  | _, _, h, .cons a b => by
    cases a with
    | int i => exact .cons (.int i) (ints_any h b)
    | _ => cases h
/-- f(g(e, ..)), g a def that hands back a new list, f one that changes it -/
def dFnF (n : Nat) (Cg : List PyData → (List PyData → Prop) → Prop) (C : Ct) (u : Wa) : Wx := fun ev Q => u ev fun ds e => ds.length = n ∧ Cg ds fun ts => allInt ts = true ∧ C ts [] fun d _ => Q d e
theorem de_fnF {kf : Nat} {y : Str} {qs : List Str} {Cg : List PyData → (List PyData → Prop) → Prop} {C : Ct} {p2 pos2 : Pos} (F : Cl X.prog X.w X.K X.mg X.base kf y qs (spT X.K 1 C)) (G : Cl X.prog X.w X.K X.mg X.base kg x ps (spF X.K n Cg)) (hf : kf ≤ k) (hk : kg ≤ k) (hr : Room k X.A) (hG : X.A.guards = some []) (hy : Gl X y) (hg : Gl X x) (ha : DA X c (e :: es) u)
    (h2 : (x == ("__debug__" : Str)) = false := by decide) (h3 : starEach (e :: es) X.env = (false, eval e X.env) :: starEach es X.env := by rfl) (h4 : (backTo pos (starEach es X.env)).any (·.1) = false := by rfl)
    (g2 : (y == ("__debug__" : Str)) = false := by decide) (g3 : starEach [.Call (.Name x p) (e :: es) [] pos] X.env = (false, eval (.Call (.Name x p) (e :: es) [] pos) X.env) :: starEach [] X.env := by rfl) (g4 : (backTo pos2 (starEach [] X.env)).any (·.1) = false := by rfl) :
    DE X c (.Call (.Name y p2) [.Call (.Name x p) (e :: es) [] pos] [] pos2) (dFnF n Cg C u) :=
  peM (pe_cG F hf hr hG hy (pa_cons (pe_cG G hk hr hG hg ha h2 h3 h4) pa_nil g3) g2 g3 g4) fun σ H Q ⟨M, ev, pd, R, k, w, q⟩ =>
    ⟨M, ev, pd, _, k, w, fun ds e ⟨l, h1⟩ vs H1 k1 r => ⟨M, ds, _, by rw [r.len, l], k1.mkOk, r, h1, fun ts ⟨ti, ht⟩ p us H2 f1 f2 f3 f4 => by
      have k2 := k1.grow f2
      have ne : ∀ {b : Addr} {o : HO}, H1 b = some o → b ≠ p := fun e => ne_of_none e f1
      have m0 : M p = (0, none) := k1.plain f1
      refine ⟨stM M p (1, none), p, [], us, ts, [], _, rfl, rfl, ⟨fun a e => ?_, fun a o e => ?_⟩, by rw [stM_at], f3, ?_, .nil, ht, fun d ts' hd v H3 us' g1 g2 g3 g4 => ?_⟩
      · by_cases z : a = p
        · rw [z]; exact ⟨_, f3⟩
        · rw [stM_off z] at e; exact k2.dom a e
      · by_cases z : a = p
        · rw [z, stM_at] at e; cases e
        · rw [stM_off z] at e ⊢; exact k2.lk a o e
      · exact ints_any ti f4
      · refine q d _ hd v H3 (?_ : Ok X.K c M σ H3 _ ((v, d) :: pd))
        have gr : ∀ b o, H1 b = some o → H3 b = some o := fun b o e => g1 b o (f2 b o e) (ne e)
        refine (k1.grow gr).push (g4.up (msk_less fun a e => ?_))
        by_cases z : a = p
        · rw [z, m0] at e; exact absurd rfl e
        · rw [stM_off z]; exact e⟩⟩
end
end Z
set_option Elab.async false
set_option linter.all false
set_option maxRecDepth 100000
namespace Z
open PySem L2
abbrev theArd : Around := PySem.callerA
/-- nothing is tracked but the script, and that as it is -/
structure Entry (P : Program) (w : World) (K : PySem.W.Frag) (s : Shared) (a : Addr) (ns : List Int) (H : Hp) : Prop where
  frz : ∀ b u, H b = some u → b = a ∧ ∃ ob v, u = .frz ob v
  off : ∀ u, H a = some u → K.lookup a = none
  hok : HOk P w H s.heap
  sq : SqL K H a (ns.map V.int)
theorem entry_of {P : Program} {w : World} {K : PySem.W.Frag} {s : Shared} {a : Addr} {vs : List Value} {ns : List Int} (X : K.In s.heap) (ha : s.heap.get? a = some { cls := .type "list", data := .seq vs.toArray }) (hi : PyProof.Rows.IntsAre vs ns) (hl : ns.length ≤ sizeLine) : ∃ H, Entry P w K s a ns H := by
  have rv := vals_ints hi
  have lv : (ns.map V.int).length = ns.length := List.length_map _
  cases q : K.lookup a with
  | none =>
    refine ⟨upd (fun _ => none) a (.frz { cls := .type "list", data := .seq vs.toArray } (.lst (ns.map V.int))), ⟨fun b u e => ?_, fun _ _ => q, fun b u e => ?_, .inl (.inr ⟨_, upd_same⟩)⟩⟩
    · by_cases z : b = a
      · rw [z, upd_same] at e
        cases e
        exact ⟨z, _, _, rfl⟩
      · rw [upd_ne z] at e
        cases e
    · by_cases z : b = a
      · subst z
        rw [upd_same] at e
        cases e
        exact ⟨ha, by rw [lv]; exact hl, vs, _, rv, ha⟩
      · rw [upd_ne z] at e
        cases e
  | some o =>
    have e := X a o q
    rw [ha] at e
    cases e
    exact ⟨fun _ => none, ⟨fun b u e => (by cases e), fun u e => (by cases e), fun b u e => (by cases e), .inr ⟨_, vs.toArray, _, q, rfl, rfl, rfl, by rw [List.size_toArray, hi.length]; exact hl, by simpa using rv⟩⟩⟩
theorem law_run {P : Program} {w : World} {K : PySem.W.Frag} {mg mb : Str → Option Value} {k : Nat} {fa a : Addr} {fd : FuncData} {x : Str} {C : Cp} {s : Shared} {vs : List Value} {ns : List Int} (X : K.In s.heap) (hm : s.heap.Ns mainGlobals mg) (hb : s.heap.Ns builtinsNs mb)
    (hbb : ∀ x : Str, x ≠ "__name__" → mb x = bootBuiltins x) (lim : s.heap.NoLimit) (hg : s.gens = #[]) (ha : s.heap.get? a = some { cls := .type "list", data := .seq vs.toArray }) (hi : PyProof.Rows.IntsAre vs ns) (hl : ns.length ≤ sizeLine) (hr : Room k theArd)
    (F : ∀ base : Heap, K.In base → base.Ns mainGlobals mg → FnG P w K mg base CX0 k fa fd [x] (spP K 1 C)) (bind : ∀ (s : Shared) (u : Value), BindsTo s fd ⟨[u], []⟩ [(x, u)]) (hC : C [.list (ns.map PyData.int)] (fun d => d = .bool true)) :
    codeAny (model P w) theArd (.call (.ref fa) ⟨[.ref a], []⟩) (fun r s' => r = .ok (.ret (.bool true)) ∧ PySem.OldK s.heap s'.heap ∧ s'.os = s.os ∧ PyProof.Rows.AllBare s'.gens) s := by
  obtain ⟨H, T⟩ := entry_of (P := P) (w := w) X ha hi hl
  -- an object of the heap that is not the script is not tracked
  have un : ∀ {b : Addr} {o : Obj}, s.heap.get? b = some o → (b = a → K.lookup a ≠ none) ∨ b ≠ a → H b = none := fun {b o} e n => by
    cases q : H b with
    | none => rfl
    | some u =>
      obtain ⟨z, _⟩ := T.frz b u q
      subst z
      rcases n with n | n
      · exact absurd (T.off u q) (n rfl)
      · exact absurd rfl n
  have K2 : K.In (hidT s.heap H) := fun b o e => by
    refine hidT_get (X b o e) (un (X b o e) ?_)
    by_cases z : b = a
    · exact .inl fun _ => by rw [← z, e]; simp
    · exact .inr z
  have dict : ∀ {b : Addr} {m : Str → Option Value}, s.heap.Ns b m → (hidT s.heap H).Ns b m := fun {b m} h => by
    obtain ⟨o, es, ep, e, d, r⟩ := h
    refine ⟨o, es, ep, hidT_get e (un e (.inr fun z => ?_)), d, r⟩
    rw [z, ha] at e
    cases e
    cases d
  have md : Mod K mg (hidT s.heap H) := ⟨K2, dict hm, ⟨mb, dict hb, hbb⟩, by obtain ⟨mc, h1, h2⟩ := lim; exact ⟨mc, dict h1, h2⟩⟩
  have e0 : Env0 P w K mg (hidT s.heap H) theArd [] s H := by
    refine ⟨rfl, md, fun b o e => of_hidT e, Nat.le_of_eq (hidT_size _ _), trivial, ?_, T.hok, .of_eq hg⟩
    intro b m
    exact absurd (show b ∈ ([] : List Addr) from m) (by simp)
  have sp : spP K 1 C [.ref a] H (fun v _ => v = .bl true) E0 := by
    refine ⟨fun _ => (0, none), [.list (ns.map PyData.int)], _, rfl, ⟨fun b e => absurd rfl e, fun b o e => by cases e⟩, .cons (.lst (sqL_up (fun b o e => msk_of e rfl) T.sq) ?_) .nil, hC, fun d hd v H' _ z => ?_⟩
    · have all : ∀ l : List Int, DzAll K (msk (fun _ => (0, none)) H) (l.map V.int) (l.map PyData.int) := fun l => by
        induction l with
        | nil => exact .nil
        | cons n l ih => exact .cons (.int n) ih
      exact all ns
    · subst hd
      cases z
      rfl
  refine codeAny_mono ((F _ K2 (dict hm)).go theArd [] s H ⟨[.ref a], []⟩ [.ref a] [.ref a] _ E0 rfl hr e0 (bind s _) (.cons rfl .nil) sp) fun r s' h => ?_
  cases r with
  | error e => exact h.elim
  | ok fl => cases fl with
    | next => exact h.elim
    | brk => exact h.elim
    | cont => exact h.elim
    | ret u =>
      obtain ⟨v, H', os, bare, cur, hok', rv, q⟩ := h
      subst q
      cases rv
      refine ⟨rfl, PySem.OldK.of_keep fun b o e => ?_, os, bare⟩
      cases q : H b with
      | none => exact cur.keep b o e q (by intro z; exact absurd (show b ∈ ([] : List Addr) from z) (by simp)) (by simp)
      | some u =>
        obtain ⟨_, ob, v, z⟩ := T.frz b u q
        subst z
        have g1 := (T.hok b _ q).1
        have g2 := (hok' b _ (cur.frzs b ob v q)).1
        rw [e] at g1
        cases g1
        exact g2
/-- the goal of the head, from the law's promise over data -/
theorem walkG {l : PySem.W.OpenLaw} {k : Nat} {q : Program} {loose : List Str} {XP : (Str → Option Value) → Heap → Prop} {YP : World → Heap → Prop} {d : PySem.DefRec} {K : PySem.Params → PySem.W.Frag} {x : Str} {C : Cp}
    (hn : l.most = some 63) (hdf : d.params.defaults = []) (hr : Room k theArd) (hY : ∀ (w : World) (h : Heap), YP w h → (K w.params).In h)
    (F : ∀ (w : World) (mg : Str → Option Value) (fa : Addr) (h : Heap), (K w.params).In h → h.Ns mainGlobals mg → mg d.name = some (.ref fa) →
      ∃ fd : FuncData, (∀ (s : Shared) (u : Value), BindsTo s fd ⟨[u], []⟩ [(x, u)]) ∧ ∀ base : Heap, (K w.params).In base → base.Ns mainGlobals mg → FnG l.prog w (K w.params) mg base CX0 k fa fd [x] (spP (K w.params) 1 C))
    (hC : ∀ ns : List Int, ns.length ≤ 63 → C [.list (ns.map PyData.int)] (fun d => d = .bool true)) : PySem.W.WalkO q loose XP YP l.row.toRowW d [] (fun f vs => PySem.call f vs) := by
  refine Att.attach_call hn hdf ?_
  intro w s0 s1 mg mb fa o pm cd doc a vs ns G Y ho hd hcd hmg hobj hints hlen hg
  have X := hY w _ Y
  obtain ⟨fd, hb, hF⟩ := F w mg fa _ X G.T.g hmg
  exact law_run X G.T.g G.T.b G.T.builtins G.T.nolimit hg hobj hints (Nat.le_trans hlen (by decide)) hr hF hb (hC ns hlen)
end Z
set_option Elab.async false
set_option linter.all false
set_option maxRecDepth 100000
namespace Z
open PySem L2
structure Gc (K : PySem.W.Frag) (mg : Str → Option Value) (x : Str) (d : PyData) : Prop where
  ex : ∃ v u, mg x = some u ∧ RelV v u ∧ ∀ H, Dz K H v d
theorem gc_tup {K : PySem.W.Frag} {mg : Str → Option Value} {x : Str} {a : Addr} {od : Option Addr} {its : Array Value} {n : Nat} {sl : Array (Option Value)} {vs : List V} {ds : List PyData} (h : mg x = some (.ref a)) (hl : K.lookup a = some ⟨.type "tuple", od, .seq its n, sl⟩)
    (hz : its.size ≤ 1000) (hd : ∀ H, DzAll K H vs ds) (hv : Vals vs its.toList) : Gc K mg x (.tuple ds) := ⟨.ref a, .ref a, h, rfl, fun H => .tup (.inr ⟨_, its, n, hl, rfl, rfl, line_of hz, hv⟩) (hd H)⟩
theorem gc_int {K : PySem.W.Frag} {mg : Str → Option Value} {x : Str} {i : Int} {t : Tok} (h : mg x = some (.int i t)) : Gc K mg x (.int i) := ⟨.int i, _, h, ⟨t, rfl⟩, fun _ => .int i⟩
theorem de_gc {X : Cx} {c : Cf} {x : Str} {d : PyData} {pos : Pos} (g : Gc X.K X.mg x d) (hg : Gl X x) (h2 : (x == ("__debug__" : Str)) = false := by decide) : DE X c (.Name x pos) (dLit d) := by
  obtain ⟨v, u, hm, r, hd⟩ := g.ex
  exact de_lit (pe_glob hg hm r h2) hd
theorem kb_of {K : PySem.W.Frag} {x qual : Str} {st : Stmt} {f : Addr} {fd : FuncData} {ps : List Str} (F : Fun K x qual st f fd)
    (h : ∀ (kV doc pm : Value) (an : Option Addr) (cdv ct : Value) (us : List Value), us.length = ps.length → bindArgs (PySem.W.fnOf x qual (defArgs st) (defBody st) (defScope st) .none kV doc pm an cdv ct) ⟨[], ps.zip us⟩ = pure (ps.zip us)) : KBn K fd ps 0 ps (fun _ ws => ws) (fun _ zs => zs) := by
  obtain ⟨oc, od, kV, doc, pm, an, cdv, ct, osl, rfl, lk, hcd⟩ := F.ex
  exact ⟨fun s us ws _ l0 l => by
    have e : us = [] := List.length_eq_zero_iff.mp l0
    subst e
    exact .of_eq (h kV doc pm an cdv ct ws l), fun _ r => r⟩
def powC (i j : Int) : Prop := 0 ≤ j ∧ j ≤ 1000000 ∧ i.natAbs < 2 ^ 64
abbrev fPow := fII powC fun i j => .int (i ^ j.toNat)
theorem de_pow {X : Cx} {c : Cf} {a b : Expr} {wa wb : Wx} {pos : Pos} (ha : DE X c a wa) (hb : DE X c b wb) : DE X c (.BinOp a .Pow b pos) (dOp fPow wa wb) := de_op op_pow (rz_ii (fun _ _ h => h) fun _ _ _ => .int _) ha hb
class Sz (n : outParam Nat) (x : Int) : Prop where
  lt : x.natAbs < 2 ^ n
theorem szAddMax {n m k : Nat} {x y : Int} (a : Sz n x) (b : Sz m y) (h1 : n ≤ k) (h2 : m ≤ k) : (x + y).natAbs < 2 ^ (k + 1) := by
  have h3 : 2 ^ n ≤ 2 ^ k := Nat.pow_le_pow_right (by decide) h1
  have h4 : 2 ^ m ≤ 2 ^ k := Nat.pow_le_pow_right (by decide) h2
  have h5 := a.lt
  have h6 := b.lt
  have h7 : (x + y).natAbs ≤ x.natAbs + y.natAbs := Int.natAbs_add_le x y
  rw [Nat.pow_succ]
  omega
instance sz_add {n m : Nat} {x y : Int} [a : Sz n x] [b : Sz m y] : Sz (max n m + 1) (x + y) := ⟨szAddMax a b (Nat.le_max_left ..) (Nat.le_max_right ..)⟩
instance sz_neg {n : Nat} {x : Int} [a : Sz n x] : Sz n (-x) := ⟨by rw [Int.natAbs_neg]; exact a.lt⟩
instance sz_sub {n m : Nat} {x y : Int} [a : Sz n x] [b : Sz m y] : Sz (max n m + 1) (x - y) := ⟨by
  rw [Int.sub_eq_add_neg]
  exact (sz_add (x := x) (y := -y)).lt⟩
instance sz_mul {n m : Nat} {x y : Int} [a : Sz n x] [b : Sz m y] : Sz (n + m) (x * y) := ⟨by
  rw [Int.natAbs_mul, Nat.pow_add]
  exact Nat.mul_lt_mul'' a.lt b.lt⟩
instance sz_div {n : Nat} {x y : Int} [a : Sz n x] : Sz n (x / y) := ⟨Nat.lt_of_le_of_lt (by
  have h := Int.natAbs_ediv_le_natAbs x y
  exact h) a.lt⟩
theorem sz_lt {k : Nat} {x : Int} (h0 : 0 ≤ x) (h : x < (2 : Int) ^ k) : Sz k x := ⟨by
  have e : (x.natAbs : Int) = x := Int.natAbs_of_nonneg h0
  have z : ((2 ^ k : Nat) : Int) = (2 : Int) ^ k := by simp
  omega⟩
theorem Sz.log {n : Nat} {x : Int} (h : Sz n x) : x.natAbs.log2 ≤ n := by
  by_cases z : x.natAbs = 0
  · rw [z, Nat.log2_zero]; exact Nat.zero_le _
  · exact Nat.le_of_lt ((Nat.log2_lt z).mpr h.lt)
/-- small enough for every sum and product of a def -/
abbrev cap : Nat := 20000
abbrev Sm (x : Int) : Prop := Sz cap x
theorem szUp {n m : Nat} {x : Int} (h : Sz n x) (l : n ≤ m) : Sz m x := ⟨Nat.lt_of_lt_of_le h.lt (Nat.pow_le_pow_right (by decide) l)⟩
theorem mulC_of {n m : Nat} {x y : Int} (a : Sz n x) (b : Sz m y) (h : n + m < 1000000) : mulC x y := by
  have h1 := a.log
  have h2 := b.log
  unfold mulC
  omega
theorem divC_of {m : Nat} {x y : Int} (b : Sz m y) (h0 : 0 < y) (h : m < 9000) : divC x y := ⟨h0, by have := b.log; omega⟩
abbrev cp (a b : Int) : PyData := .tuple [.int a, .int b]
theorem lc_map {i : Nat} {el : Wx} {f : PyData → PyData} : ∀ {ds acc : List PyData} {ev : Ev} {Q : List PyData → Ev → Prop}, ev[i]? = some none → acc.length + ds.length ≤ 1000 →
    (∀ d ∈ ds, ∀ R : PyData → Ev → Prop, R (f d) (ev.set i (some (.val d))) → el (ev.set i (some (.val d))) R) → Q (acc ++ ds.map f) ev → lcD [i] (gN i) dYes el ds acc ev Q
  | [], acc, ev, Q, _, l, _, q => by
    rw [List.map_nil, List.append_nil] at q
    exact ⟨l, q⟩
  | d :: ds, acc, ev, Q, e, l, h, q => by
    have g : ∀ P : Ev → Prop, gN i d ev P = P (ev.set i (some (.val d))) := fun P => by
      unfold gN
      rw [e]
    show gN i d ev _
    rw [g]
    have goal : el (ev.set i (some (.val d))) (fun y e3 => acc.length < 1000 ∧ lcD [i] (gN i) dYes el ds (acc ++ [y]) (wipeD e3 [i]) Q) := ?_
    · exact goal
    refine h d (List.mem_cons_self ..) _ ⟨by rw [List.length_cons] at l; omega, ?_⟩
    have back : wipeD (ev.set i (some (.val d))) [i] = ev := by
      show (ev.set i (some (.val d))).set i none = ev
      rw [List.set_set]
      apply List.ext_getElem?
      intro j
      by_cases z : i = j
      · subst z
        have hi : i < ev.length := by
          by_cases y : i < ev.length
          · exact y
          · rw [List.getElem?_eq_none (by omega)] at e; cases e
        rw [List.getElem?_set_self hi, e]
      · rw [List.getElem?_set_ne z]
    rw [back]
    refine lc_map e (by rw [List.length_append, List.length_cons, List.length_nil]; rw [List.length_cons] at l; omega) (fun d' m R r => h d' (List.mem_cons_of_mem _ m) R r) ?_
    rw [List.append_assoc]
    exact q
theorem fAll_of {ds : List PyData} {bs : List Bool} {R : PyData → Prop} (h : bools ds = some bs) (q : R (.bool (bs.all id))) : fAll [.list ds] R := by
  show (match bools ds with
    | some bs => R (.bool (bs.all id))
    | none => False)
  rw [h]
  exact q
theorem atI_lt {α : Type} {xs : List α} {k : Int} (h0 : 0 ≤ k) (h : k < xs.length) : ∃ x ∈ xs, atI xs k = some x := by
  have l : k.toNat < xs.length := by omega
  refine ⟨xs[k.toNat], List.getElem_mem l, ?_⟩
  show (ixN xs.length k).bind _ = _
  unfold ixN
  rw [if_pos h0, if_pos h]
  exact List.getElem?_eq_getElem l
theorem fIx_tup {xs : List PyData} {k : Int} {x : PyData} {R : PyData → Prop} (h : atI xs k = some x) (q : R x) : fIx (.tuple xs) (.int k) R := by
  show (match atI xs k with
    | some d => R d
    | none => False)
  rw [h]
  exact q
theorem fIx_lst {xs : List PyData} {k : Int} {x : PyData} {R : PyData → Prop} (h : atI xs k = some x) (q : R x) : fIx (.list xs) (.int k) R := by
  show (match atI xs k with
    | some d => R d
    | none => False)
  rw [h]
  exact q
/-- a for by what holds between two turns -/
theorem foD_inv {g : Wg} {b : Ws} {E : Ed} (I : Ev → Prop) : ∀ {ds : List PyData} {ev : Ev}, (∀ d ∈ ds, ∀ (ev : Ev) (E' : Ed), I ev → (∀ ev', I ev' → E'.nx ev') → E'.ct = E'.nx → E'.rt = E.rt → E'.rl = E.rl → E'.bk = E.nx → g d ev fun e => b E' e) → I ev → (∀ ev', I ev' → E.nx ev') → foD g b ds E ev
  | [], ev, _, i, n => n ev i
  | d :: ds, ev, h, i, n => h d (List.mem_cons_self ..) ev _ i (fun ev' i' => foD_inv I (fun d' m => h d' (List.mem_cons_of_mem _ m)) i' n) rfl rfl rfl rfl
end Z
set_option Elab.async false
set_option linter.all false
set_option maxRecDepth 100000
namespace Z
open PySem L2
theorem sOk_app (x y : Str) : PyData.strOk (x ++ y) = (PyData.strOk x && PyData.strOk y) := by
  show (x.cps ++ y.cps).all (· < 0x110000) = _
  rw [Array.all_append]
  rfl
theorem sOk_join {s : Str} (h : PyData.strOk s = true) : ∀ ts : List Str, ts.all PyData.strOk = true → PyData.strOk (Str.join s ts) = true
  | [], _ => show PyData.strOk Str.empty = true by decide +kernel
  | [x], h1 => by
    rw [List.all_cons, Bool.and_eq_true] at h1
    exact h1.1
  | x :: y :: ts, h1 => by
    rw [List.all_cons, Bool.and_eq_true] at h1
    show PyData.strOk (x ++ s ++ Str.join s (y :: ts)) = true
    rw [sOk_app, sOk_app, h1.1, h, sOk_join h (y :: ts) h1.2]
    rfl
class Sh (w n k : outParam Nat) (d : PyData) : Prop where
  ok : w ≤ 1900 → d.showable = true
  len : d.shown.length ≤ n
  dep : d.depth ≤ k
  nd : d.hasDict = false
  tx : PyData.strOk d.shown = true
class ShA (w n k : outParam Nat) (ds : List PyData) : Prop where
  ok : w ≤ 1900 → PyData.showableAll ds = true
  len : ((PyData.shownAll ds).map (·.length)).sum + 2 * (PyData.shownAll ds).length ≤ n
  dep : PyData.depthAll ds ≤ k
  nd : PyData.hasDictAll ds = false
  tx : (PyData.shownAll ds).all PyData.strOk = true
instance sh_int {m : Nat} {i : Int} [a : Sz m i] : Sh m (m + 2) 0 (.int i) := ⟨fun h => by
  have := a.log
  simp only [PyData.showable, decide_eq_true_eq]
  omega, by
  have := a.log
  rw [PyData.shown_int, PySem.ofString_length]
  exact PySem.int_text_length_le (k := m + 1) (Nat.succ_pos m) (by omega), Nat.le_refl 0, by simp only [PyData.hasDict], by
  unfold PyData.strOk
  rw [← Array.all_toList, List.all_eq_true]
  intro k hk
  by_cases z : k ≠ 45 ∧ (k < 48 ∨ 57 < k)
  · exact absurd hk (PyProof.Rows.shown_int_free' z i)
  · exact decide_eq_true (by omega)⟩
instance sh_none : Sh 0 4 0 .none := ⟨fun _ => by simp only [PyData.showable], by simp only [PyData.shown]; decide, Nat.le_refl 0, by simp only [PyData.hasDict], by simp only [PyData.shown]; decide +kernel⟩
instance sh_bool {b : Bool} : Sh 0 5 0 (.bool b) := ⟨fun _ => by simp only [PyData.showable], by simp only [PyData.shown]; cases b <;> decide, Nat.le_refl 0, by simp only [PyData.hasDict], by simp only [PyData.shown]; cases b <;> decide +kernel⟩
instance sha_nil : ShA 0 0 0 [] := ⟨fun _ => by simp only [PyData.showableAll], by simp only [PyData.shownAll]; decide, Nat.le_refl 0, by simp only [PyData.hasDictAll], rfl⟩
instance sha_cons {w n k w' n' k' : Nat} {d : PyData} {ds : List PyData} [a : Sh w n k d] [b : ShA w' n' k' ds] : ShA (max w w') (n + 2 + n') (max k k') (d :: ds) := ⟨fun h => by
  simp only [PyData.showableAll, a.ok (by omega), b.ok (by omega), Bool.and_self], by
  have h1 := a.len
  have h2 := b.len
  simp only [PyData.shownAll, List.map_cons, List.sum_cons, List.length_cons]
  omega, by
  have h1 := a.dep
  have h2 := b.dep
  simp only [PyData.depthAll]
  omega, by simp only [PyData.hasDictAll, a.nd, b.nd, Bool.or_self], by simp only [PyData.shownAll, List.all_cons, a.tx, b.tx, Bool.and_self]⟩
instance sha_app {w n k w' n' k' : Nat} {ds es : List PyData} [a : ShA w n k ds] [b : ShA w' n' k' es] : ShA (max w w') (n + n') (max k k') (ds ++ es) := by
  induction ds generalizing w n k with
  | nil => exact ⟨fun h => b.ok (by omega), Nat.le_trans b.len (Nat.le_add_left ..), Nat.le_trans b.dep (Nat.le_max_right ..), b.nd, b.tx⟩
  | cons d ds ih =>
    have al := a.len
    have ad := a.dep
    have an := a.nd
    have at' := a.tx
    simp only [PyData.shownAll, List.map_cons, List.sum_cons, List.length_cons] at al
    simp only [PyData.depthAll] at ad
    simp only [PyData.hasDictAll, Bool.or_eq_false_iff] at an
    simp only [PyData.shownAll, List.all_cons, Bool.and_eq_true] at at'
    have i := ih (w := w) (n := n - (d.shown.length + 2)) (k := k) (a := ⟨fun h => by
      have := a.ok h
      simp only [PyData.showableAll, Bool.and_eq_true] at this
      exact this.2, by omega, by omega, an.2, at'.2⟩)
    refine ⟨fun h => ?_, ?_, ?_, ?_, ?_⟩
    · have h1 := a.ok (by omega)
      simp only [PyData.showableAll, Bool.and_eq_true] at h1
      show PyData.showableAll (d :: (ds ++ es)) = true
      simp only [PyData.showableAll, h1.1, i.ok h, Bool.and_self]
    · have := i.len
      show (((PyData.shownAll (d :: (ds ++ es))).map (·.length)).sum + 2 * (PyData.shownAll (d :: (ds ++ es))).length) ≤ _
      simp only [PyData.shownAll, List.map_cons, List.sum_cons, List.length_cons]
      omega
    · have := i.dep
      show PyData.depthAll (d :: (ds ++ es)) ≤ _
      simp only [PyData.depthAll]
      omega
    · show PyData.hasDictAll (d :: (ds ++ es)) = false
      simp only [PyData.hasDictAll, an.1, i.nd, Bool.or_self]
    · show (PyData.shownAll (d :: (ds ++ es))).all PyData.strOk = true
      simp only [PyData.shownAll, List.all_cons, at'.1, i.tx, Bool.and_self]
instance sh_tup {w n k : Nat} {ds : List PyData} [a : ShA w n k ds] : Sh w (n + 3) (k + 1) (.tuple ds) := ⟨fun h => by simp only [PyData.showable]; exact a.ok h, by
  have h1 := a.len
  have h2 := tupleText_len_le (PyData.shownAll ds)
  simp only [PyData.shown]
  omega, by simp only [PyData.depth]; exact Nat.succ_le_succ a.dep, by simp only [PyData.hasDict]; exact a.nd, by
  rw [PyData.shown_tuple, sOk_app, sOk_app, sOk_join (by decide +kernel) _ a.tx]
  split <;> decide +kernel⟩
instance sh_lst {w n k : Nat} {ds : List PyData} [a : ShA w n k ds] : Sh w (n + 3) (k + 1) (.list ds) := ⟨fun h => by simp only [PyData.showable]; exact a.ok h, by
  have h1 := a.len
  have h2 := listText_len_le (PyData.shownAll ds)
  simp only [PyData.shown]
  omega, by simp only [PyData.depth]; exact Nat.succ_le_succ a.dep, by simp only [PyData.hasDict]; exact a.nd, by
  rw [PyData.shown_list, sOk_app, sOk_app, sOk_join (by decide +kernel) _ a.tx]
  decide +kernel⟩
theorem RP_of {w n k : Nat} {d : PyData} {P : Prop} (a : Sh w n k d) (h : w ≤ 1900) (h1 : n ≤ 10000000) (h2 : k ≤ 100) (q : P) : RP d P := ⟨⟨a.ok h, by have := a.len; rw [sizeLine_eq]; omega, Nat.le_trans a.dep h2, a.nd⟩, q⟩
theorem eqv_int (a b : Int) : PyData.eqv (.int a) (.int b) = decide (a = b) := by
  have h : PyData.eqv (.int a) (.int b) = (a == b) := by simp [PyData.eqv]
  rw [h]
  by_cases z : a = b
  · subst z; simp
  · rw [decide_eq_false z]; exact beq_eq_false_iff_ne.mpr z
theorem eqv_cp (a b c d : Int) : PyData.eqv (cp a b) (cp c d) = decide (a = c ∧ b = d) := by
  have h : PyData.eqv (cp a b) (cp c d) = (PyData.eqv (.int a) (.int c) && PyData.eqv (.int b) (.int d)) := by simp [PyData.eqv, PyData.eqvAll]
  rw [h, eqv_int, eqv_int, Bool.decide_and]
theorem ite_b {x : Bool} {A B : Prop} (h1 : x = true → A) (h2 : x = false → B) : if x = true then A else B := by
  cases x
  · exact h2 rfl
  · exact h1 rfl
theorem ite_t {x : Bool} {A B : Prop} (e : x = true) (h : A) : if x = true then A else B := by rw [if_pos e]; exact h
theorem ite_f {x : Bool} {A B : Prop} (e : x = false) (h : B) : if x = true then A else B := by rw [if_neg (by rw [e]; decide)]; exact h
theorem rB {R : PyData → Prop} {x y : Bool} (q : R (.bool x)) (e : x = y) : R (.bool y) := e ▸ q
end Z
set_option Elab.async false
set_option linter.all false
set_option maxRecDepth 100000
namespace Z
open PySem L2
def Bl (f : PyData → PyData → (PyData → Prop) → Prop) : Prop := ∀ x y (Q : PyData → Prop), f x y Q → f x y fun d => (∃ b, d = .bool b) ∧ Q d
theorem bl_ii {p : Int → Int → Prop} {g : Int → Int → Bool} : Bl (fII p fun i j => .bool (g i j)) := fun x y Q h => by
  unfold fII at h ⊢
  split at h
  · exact ⟨h.1, ⟨_, rfl⟩, h.2⟩
  · exact h.elim
theorem bl_eq : Bl fEq := fun x y Q h => ⟨h.1, ⟨_, rfl⟩, h.2⟩
theorem bl_ne : Bl fNe := fun x y Q h => ⟨h.1, ⟨_, rfl⟩, h.2⟩
theorem bl_in : Bl fIn := fun x y Q h => by
  unfold fIn at h ⊢
  split at h
  · exact ⟨h.1, ⟨_, rfl⟩, h.2⟩
  · exact ⟨h.1, ⟨_, rfl⟩, h.2⟩
  · exact h.elim
theorem bl_is : Bl fIs := fun x y Q h => by
  unfold fIs at h ⊢
  split at h
  · exact ⟨⟨_, rfl⟩, h⟩
  · exact ⟨⟨_, rfl⟩, h⟩
  · exact h.elim
section
variable {X : Cx} {c : Cf} {a b : Expr} {wa wb : Wx} {pos : Pos}
theorem tst_rd {r : R2} {f} (h : RZ2 X.K r f) (B : Bl f) {a b : Wx} {σ : Sg} {H : Hp} {Q : Bool → Hp → Prop} (q : tT X.K c (dTru (dOp f a b)) σ H Q) : tTest (tOp r (tE X.K c a) (tE X.K c b)) σ H Q := by
  obtain ⟨M, ev, pd, R, k, w, q⟩ := q
  exact ⟨M, ev, pd, _, k, w, fun x e1 h1 v H1 k1 => ⟨M, e1, _, _, k1, h1, fun y e2 h2 u H2 k2 =>
    h c M σ H2 e2 pd v u x y _ _ k2.pop1.pop1 k2.pop1.top k2.top (B x y _ h2) fun d w' H' hd ok => by
      obtain ⟨⟨b, rfl⟩, _, hd⟩ := hd
      have t := ok.top
      cases t
      exact ⟨b, rfl, q b e2 hd H' ok.pop1⟩⟩⟩
theorem dt_cmp {op : CmpOp} {r : R2} {f} (ho : OpR X (compareOp op) r) (h : RZ2 X.K r f) (B : Bl f) (ha : DE X c a wa) (hb : DE X c b wb) (hm : behindInMarks op b = false) : DT X c (.Compare a [op] [b] pos) (dTru (dOp f wa wb)) :=
  ptM (pt_cmpR ho ha hb hm) fun _ _ _ q => tst_rd h B q
theorem dt_lt (ha : DE X c a wa) (hb : DE X c b wb) : DT X c (.Compare a [.Lt] [b] pos) (dTru (dOp fLt wa wb)) := dt_cmp op_lt (rz_ii0 fun _ _ _ => .bl _) bl_ii ha hb (nobehind b (by decide) (by decide))
theorem dt_gt (ha : DE X c a wa) (hb : DE X c b wb) : DT X c (.Compare a [.Gt] [b] pos) (dTru (dOp fGt wa wb)) := dt_cmp op_gt (rz_ii0 fun _ _ _ => .bl _) bl_ii ha hb (nobehind b (by decide) (by decide))
theorem dt_ge (ha : DE X c a wa) (hb : DE X c b wb) : DT X c (.Compare a [.GtE] [b] pos) (dTru (dOp fGe wa wb)) := dt_cmp op_ge (rz_ii0 fun _ _ _ => .bl _) bl_ii ha hb (nobehind b (by decide) (by decide))
variable {n : Nat}
theorem dt_eq (hr : Room n X.A) (ha : DE X c a wa) (hb : DE X c b wb) : DT X c (.Compare a [.Eq] [b] pos) (dTru (dOp fEq wa wb)) := dt_cmp (OpR.or op_eq (op_eqD hr.units)) rz_eq bl_eq ha hb (nobehind b (by decide) (by decide))
theorem dt_ne (hr : Room n X.A) (ha : DE X c a wa) (hb : DE X c b wb) : DT X c (.Compare a [.NotEq] [b] pos) (dTru (dOp fNe wa wb)) := dt_cmp (OpR.or op_ne (op_neD hr.units)) rz_ne bl_ne ha hb (nobehind b (by decide) (by decide))
theorem dt_in (hr : Room n X.A) (ha : DE X c a wa) (hb : DE X c b wb) (hm : behindInMarks .In b = false := by rfl) : DT X c (.Compare a [.In] [b] pos) (dTru (dOp fIn wa wb)) := dt_cmp (op_inQ (room65 hr)) rz_in bl_in ha hb hm
theorem dt_is (ha : DE X c a wa) (hb : DE X c b wb) : DT X c (.Compare a [.Is] [b] pos) (dTru (dOp fIs wa wb)) := dt_cmp (OpR.or op_isBl op_isN) rz_is bl_is ha hb (nobehind b (by decide) (by decide))
end
def wPar3 (i j l : Nat) (u : Wa) : Ws := fun E ev => u ev fun ds e => match ds with
  | [x, y, z] => gN i x e fun e1 => gN j y e1 fun e2 => gN l z e2 E.nx
  | _ => False
theorem ds_par3 {X : Cx} {c : Cf} {pos : Pos} {i j l : Nat} {x y z : Str} {a b d : Expr} {u : Wa} {px py pz pt : Pos} {kt k2 pt2} (hc : X.calm = true) (hN : X.N.Nodup) (hi : X.N[i]? = some x) (hj : X.N[j]? = some y) (hl : X.N[l]? = some z) (hij : i ≠ j) (hil : i ≠ l) (hjl : j ≠ l)
    (hx : X.env.scope.names.lookup x = some .local) (hy : X.env.scope.names.lookup y = some .local) (hz : X.env.scope.names.lookup z = some .local) (ha : DA X c [a, b, d] u)
    (hw : swappedStores [.Tuple [.Name x px, .Name y py, .Name z pz] kt pt] (.Tuple [a, b, d] k2 pt2) X.env = pure (some [x, y, z]))
    (hs : swapsWithSole [.Tuple [.Name x px, .Name y py, .Name z pz] kt pt] (.Tuple [a, b, d] k2 pt2) pos.line X.env = pure false := by rfl) :
    DS X c (.Assign [.Tuple [.Name x px, .Name y py, .Name z pz] kt pt] (.Tuple [a, b, d] k2 pt2) pos) (wPar3 i j l u) :=
  psM (ps_par3 hc hN hi hj hl hij hil hjl hx hy hz ha hw hs) fun De σ H ⟨M, ev, pd, R, k, h, f⟩ => ⟨M, ev, pd, _, k, h, fun ds e q vs H' k' r => by
    split at q
    · cases r with
      | cons r1 r2 =>
        cases r2 with
        | cons r2 r3 =>
          cases r3 with
          | cons r3 r4 =>
            cases r4
            obtain ⟨n1, w1⟩ := gN_of q
            obtain ⟨n2, w2⟩ := gN_of w1
            obtain ⟨n3, w3⟩ := gN_of w2
            exact ⟨_, _, _, rfl, f.nx _ w3 M _ H' (((k'.set n1 r1).set n2 r2).set n3 r3)⟩
    · exact q.elim⟩
end Z
set_option Elab.async false
set_option linter.all false
set_option maxRecDepth 100000
namespace Z
open PySem L2
def gcF (s : Int) (us : List Int) : Int := us.foldl (fun g u => (Int.gcd g u : Int)) s
abbrev gcI (us : List Int) : Int := gcF 0 us
def rd (us : List Int) : List Int := us.map (· / gcI us)
theorem gcF_mul {k : Int} (hk : 0 ≤ k) : ∀ (us : List Int) (s : Int), gcF (k * s) (us.map (k * ·)) = k * gcF s us
  | [], s => rfl
  | u :: us, s => by
    show gcF (Int.gcd (k * s) (k * u) : Int) (us.map (k * ·)) = k * gcF (Int.gcd s u : Int) us
    have e : (Int.gcd (k * s) (k * u) : Int) = k * (Int.gcd s u : Int) := by
      rw [Int.gcd_mul_left, Int.natCast_mul, Int.natAbs_of_nonneg hk]
    rw [e]
    exact gcF_mul hk us _
theorem gcF_dvd : ∀ (us : List Int) (s : Int), gcF s us ∣ s ∧ ∀ u ∈ us, gcF s us ∣ u
  | [], s => ⟨Int.dvd_refl s, fun u h => by cases h⟩
  | u :: us, s => by
    obtain ⟨h1, h2⟩ := gcF_dvd us (Int.gcd s u : Int)
    refine ⟨Int.dvd_trans h1 (Int.gcd_dvd_left ..), fun v hv => ?_⟩
    rcases List.mem_cons.mp hv with e | hv
    · rw [e]; exact Int.dvd_trans h1 (Int.gcd_dvd_right ..)
    · exact h2 v hv
theorem gcF_nn : ∀ (us : List Int) (s : Int), 0 ≤ s → 0 ≤ gcF s us
  | [], s, h => h
  | u :: us, s, _ => gcF_nn us _ (Int.natCast_nonneg _)
theorem gcF_zero : ∀ us : List Int, (∀ u ∈ us, u = 0) → gcF 0 us = 0
  | [], _ => rfl
  | u :: us, h => by
    rw [h u (List.mem_cons_self ..)]
    exact gcF_zero us fun v hv => h v (List.mem_cons_of_mem _ hv)
theorem gc_nn (us : List Int) : 0 ≤ gcI us := gcF_nn us 0 (Int.le_refl 0)
theorem gc_ne {us : List Int} {u : Int} (h : u ∈ us) (n : u ≠ 0) : gcI us ≠ 0 := fun z => by
  have d := (gcF_dvd us 0).2 u h
  rw [show gcF 0 us = 0 from z] at d
  exact n (Int.zero_dvd.mp d)
theorem gc_pos {us : List Int} (h : gcI us ≠ 0) : 0 < gcI us := by have := gc_nn us; omega
theorem gc_mul {k : Int} (hk : 0 ≤ k) (us : List Int) : gcI (us.map (k * ·)) = k * gcI us := by
  have h := gcF_mul hk us 0
  rw [Int.mul_zero] at h
  exact h
theorem rd_scale {k : Int} (hk : 0 < k) (us : List Int) : rd (us.map (k * ·)) = rd us := by
  unfold rd
  rw [gc_mul (Int.le_of_lt hk), List.map_map]
  apply List.map_congr_left
  intro u _
  exact Int.mul_ediv_mul_of_pos u (gcI us) hk
theorem rd_prop {k l : Int} {us vs : List Int} (hk : 0 < k) (hl : 0 < l) (h : us.map (k * ·) = vs.map (l * ·)) : rd us = rd vs := by
  rw [← rd_scale hk us, h, rd_scale hl]
theorem rd_at {us : List Int} {u : Int} (h : u ∈ us) : gcI us * (u / gcI us) = u := Int.mul_ediv_cancel' ((gcF_dvd us 0).2 u h)
theorem rd_back (us : List Int) : (rd us).map (gcI us * ·) = us := by
  unfold rd
  rw [List.map_map]
  have : us.map ((gcI us * ·) ∘ (· / gcI us)) = us.map id := List.map_congr_left fun u hu => rd_at hu
  rw [this, List.map_id]
theorem gc_rd {us : List Int} (h : gcI us ≠ 0) : gcI (rd us) = 1 := by
  have e := gc_mul (gc_nn us) (rd us)
  rw [rd_back us] at e
  have p := gc_pos h
  have e2 : gcI us * 1 = gcI us * gcI (rd us) := by rw [Int.mul_one]; exact e
  exact (Int.eq_of_mul_eq_mul_left (Int.ne_of_gt p) e2).symm
theorem rd_self {us : List Int} (h : gcI us = 1) : rd us = us := by
  unfold rd
  rw [h]
  have : us.map (· / (1 : Int)) = us.map id := List.map_congr_left fun u _ => Int.ediv_one u
  rw [this, List.map_id]
theorem gc_sz {n : Nat} {us : List Int} (h : ∀ u ∈ us, Sz n u) (z : gcI us ≠ 0) : Sz n (gcI us) := by
  by_cases a : ∃ u ∈ us, u ≠ 0
  · obtain ⟨u, hu, hn⟩ := a
    have d := (gcF_dvd us 0).2 u hu
    refine ⟨Nat.lt_of_le_of_lt ?_ (h u hu).lt⟩
    exact Nat.le_of_dvd (by omega) (Int.natAbs_dvd_natAbs.mpr d)
  · exact absurd (gcF_zero us fun u hu => Classical.byContradiction fun n => a ⟨u, hu, n⟩) z
theorem gc_divC {n : Nat} {us : List Int} (h : ∀ u ∈ us, Sz n u) (l : n < 9000) (z : gcI us ≠ 0) (x : Int) : divC x (gcI us) := divC_of (gc_sz h z) (gc_pos z) l
/-- a walk over whole numbers that gathers -/
theorem foD_fold {g : Wg} {b : Ws} {E : Ed} (I : Int → Ev → Prop) (st : Int → Int → Int) : ∀ {us : List Int} {s : Int} {ev : Ev}, (∀ (u s : Int) (ev : Ev) (E' : Ed), I s ev → (∀ ev', I (st s u) ev' → E'.nx ev') → g (.int u) ev fun e => b E' e) → I s ev → (∀ ev', I (us.foldl st s) ev' → E.nx ev') → foD g b (us.map .int) E ev
  | [], s, ev, _, i, n => n ev i
  | u :: us, s, ev, h, i, n => h u s ev _ i fun ev' i' => foD_fold I st h i' n
abbrev pl (a b c : Int) : PyData := .tuple [.int a, .int b, .int c]
/-- a place that is not far -/
structure Rt (n : Nat) (a b r : Int) : Prop where
  one : gcI [a, b, r] = 1
  pos : 0 < r
  sa : Sz n a
  sb : Sz n b
  sr : Sz n r
theorem Rt.up {n m : Nat} {a b r : Int} (h : Rt n a b r) (l : n ≤ m) : Rt m a b r := ⟨h.one, h.pos, szUp h.sa l, szUp h.sb l, szUp h.sr l⟩
theorem gc3_ne {a b c : Int} (h : 0 < c) : gcI [a, b, c] ≠ 0 := gc_ne (u := c) (by simp) (Int.ne_of_gt h)
theorem pos_of_mul {g z c : Int} (hg : 0 < g) (h : g * z = c) (hc : 0 < c) : 0 < z := by
  rcases Int.lt_trichotomy z 0 with y | y | y
  · have := Int.mul_neg_of_pos_of_neg hg y
    omega
  · rw [y, Int.mul_zero] at h
    omega
  · exact y
theorem rd3 {n : Nat} {A B C : Int} (hA : Sz n A) (hB : Sz n B) (hC : Sz n C) (h : 0 < C) : ∃ x y z g, rd [A, B, C] = [x, y, z] ∧ Rt n x y z ∧ 0 < g ∧ g * x = A ∧ g * y = B ∧ g * z = C := by
  have ne := gc3_ne (a := A) (b := B) h
  have e3 : gcI [A, B, C] * (C / gcI [A, B, C]) = C := rd_at (by simp)
  exact ⟨A / gcI [A, B, C], B / gcI [A, B, C], C / gcI [A, B, C], gcI [A, B, C], rfl, ⟨gc_rd ne, pos_of_mul (gc_pos ne) e3 h, inferInstance, inferInstance, inferInstance⟩, gc_pos ne, rd_at (by simp), rd_at (by simp), e3⟩
theorem eqv_pl (a b c x y z : Int) : PyData.eqv (pl a b c) (pl x y z) = decide (a = x ∧ b = y ∧ c = z) := by
  have h : PyData.eqv (pl a b c) (pl x y z) = (PyData.eqv (.int a) (.int x) && (PyData.eqv (.int b) (.int y) && PyData.eqv (.int c) (.int z))) := by simp [PyData.eqv, PyData.eqvAll]
  rw [h, eqv_int, eqv_int, eqv_int, Bool.decide_and, Bool.decide_and]
theorem all3 {n : Nat} {a b c : Int} (ha : Sz n a) (hb : Sz n b) (hc : Sz n c) : ∀ u ∈ [a, b, c], Sz n u := fun u hu => by
  simp only [List.mem_cons, List.not_mem_nil, or_false] at hu
  rcases hu with rfl | rfl | rfl <;> assumption
theorem ne_sq {c d : Int} (h : ¬(c = 0 ∧ d = 0)) : 0 < c * c + d * d := by
  have sq : ∀ x : Int, 0 ≤ x * x ∧ (x ≠ 0 → 0 < x * x) := fun x => by
    rcases Int.lt_trichotomy x 0 with y | y | y
    · have := Int.mul_pos_of_neg_of_neg y y
      exact ⟨by omega, fun _ => this⟩
    · subst y; exact ⟨by decide, fun n => absurd rfl n⟩
    · have := Int.mul_pos y y
      exact ⟨by omega, fun _ => this⟩
  have h1 := sq c
  have h2 := sq d
  by_cases z : c = 0
  · have := h2.2 (fun y => h ⟨z, y⟩)
    omega
  · have := h1.2 z
    omega
abbrev tup (us : List Int) : PyData := .tuple (us.map .int)
end Z
set_option Elab.async false
set_option linter.all false
set_option maxRecDepth 100000
namespace Z
open PySem L2
end Z
set_option Elab.async false
set_option linter.all false
set_option maxRecDepth 100000
namespace Z
open PySem L2 RZ
end Z
set_option Elab.async false
set_option linter.all false
set_option maxRecDepth 100000
namespace Z
open PySem L2
end Z
set_option Elab.async false
set_option linter.all false
set_option maxRecDepth 100000
namespace Z
open PySem L2
theorem set_back {ev : Ev} {i : Nat} {x : Option Sl} (e : ev[i]? = some none) : wipeD (ev.set i x) [i] = ev := by
  show (ev.set i x).set i none = ev
  rw [List.set_set]
  apply List.ext_getElem?
  intro j
  by_cases z : i = j
  · subst z
    have hi : i < ev.length := by
      by_cases y : i < ev.length
      · exact y
      · rw [List.getElem?_eq_none (by omega)] at e; cases e
    rw [List.getElem?_set_self hi, e]
  · rw [List.getElem?_set_ne z]
theorem lc_keep {i : Nat} {t : Wt} {el : Wx} {p : PyData → Bool} {f : PyData → PyData} : ∀ {ds acc : List PyData} {ev : Ev} {Q : List PyData → Ev → Prop}, ev[i]? = some none → acc.length + ds.length ≤ 1000 →
    (∀ d ∈ ds, ∀ R : Bool → Ev → Prop, R (p d) (ev.set i (some (.val d))) → t (ev.set i (some (.val d))) R) →
    (∀ d ∈ ds, p d = true → ∀ R : PyData → Ev → Prop, R (f d) (ev.set i (some (.val d))) → el (ev.set i (some (.val d))) R) → Q (acc ++ (ds.filter p).map f) ev → lcD [i] (gN i) t el ds acc ev Q
  | [], acc, ev, Q, _, l, _, _, q => by
    rw [List.filter_nil, List.map_nil, List.append_nil] at q
    exact ⟨l, q⟩
  | d :: ds, acc, ev, Q, e, l, ht, he, q => by
    rw [List.length_cons] at l
    have g : ∀ P : Ev → Prop, gN i d ev P = P (ev.set i (some (.val d))) := fun P => by
      unfold gN
      rw [e]
    show gN i d ev _
    rw [g]
    have back := set_back (x := some (.val d)) e
    refine ht d (List.mem_cons_self ..) (fun b e2 => if b = true then el e2 fun y e3 => acc.length < 1000 ∧ lcD [i] (gN i) t el ds (acc ++ [y]) (wipeD e3 [i]) Q else lcD [i] (gN i) t el ds acc (wipeD e2 [i]) Q) ?_
    have ht' := fun d' (m : d' ∈ ds) => ht d' (List.mem_cons_of_mem _ m)
    have he' := fun d' (m : d' ∈ ds) => he d' (List.mem_cons_of_mem _ m)
    by_cases z : p d = true
    · rw [if_pos z]
      rw [List.filter_cons_of_pos z, List.map_cons] at q
      refine he d (List.mem_cons_self ..) z _ ⟨by omega, ?_⟩
      rw [back]
      refine lc_keep e (by rw [List.length_append, List.length_cons, List.length_nil]; omega) ht' he' ?_
      rw [List.append_assoc]
      exact q
    · rw [if_neg z, back]
      rw [List.filter_cons_of_neg z] at q
      exact lc_keep e (by omega) ht' he' q
end Z
set_option Elab.async false
set_option linter.all false
set_option maxRecDepth 100000
namespace Z
open PySem L2
section
variable {prog : Program} {w : World} {A : Around} {E : Value → Shared → Prop} {s : Shared}
theorem gather_tup {p : Addr} {us : List Value} {Q : List Value → Shared → Prop} (ht : PyProof.Rows.IsTup s.heap p us.toArray) (hz : us.length ≤ sizeLine) (h : ∀ g, (∀ b o, s.heap.get? b = some o → g.get? b = some o) → Q us { s with heap := g }) : wpAny (model prog w) A (collect (.ref p)) Q E s := by
  obtain ⟨ob, hob, hcls, m, hdat⟩ := ht
  have kept : ∀ b o, s.heap.get? b = some o → ((s.heap.push (PyProof.Rows.seqObj "list" #[] 0)).update s.heap.objs.size (Obj.mapSeq (· ++ us.toArray))).get? b = some o := fun b o e => (Heap.get?_update_ne _ _ _ _ (Nat.ne_of_lt (Heap.lt_size e))).trans (Heap.get?_push_of_some _ e)
  have now : (s.heap.push (PyProof.Rows.seqObj "list" #[] 0)).get? p = some ob := Heap.get?_push_of_some _ hob
  have own0 : (s.heap.push (PyProof.Rows.seqObj "list" #[] 0)).get? s.heap.objs.size = some (PyProof.Rows.seqObj "list" #[] 0) := Heap.get?_push_size _ rfl
  unfold collect
  refine wpAny_bind (wpAny_runValue (codeAny_builtin PyProof.Rows.entry_proto_collect' ?_)); show wpAny _ _ (do again (.builtin "list.__iadd__" ⟨[← newList [], .ref p], []⟩)) _ _ s
  refine wpAny_bind (wpAny_newList (wpAny_pure ⟨Code.quiet_builtin _ (by decide +kernel), codeAny_builtin PyProof.Rows.entry_list_iadd' ?_⟩)); show wpAny _ _ (Builtin.List.listExtendWith (.ref s.heap.objs.size) (.ref p) (.ref s.heap.objs.size)) _ _ { s with heap := s.heap.push (PyProof.Rows.seqObj "list" #[] 0) }
  unfold Builtin.List.listExtendWith
  refine wpAny_bind (wpAny_typeOf (T := "tuple") ⟨ob, now, hcls⟩ ?_); rw [if_pos (by simp)]
  refine wpAny_bind (PyProof.Rows.listItems_at now hdat (wpAny_bind (PyProof.Rows.listItems_at own0 rfl ?_))); rw [if_neg (by simp)]
  refine wpAny_bind (PyProof.Rows.listUpdate_at own0 rfl (wpAny_pure ?_) (Nat.zero_le _) (by simp only [Array.size_append, List.size_toArray]; show 0 + us.length ≤ sizeLine + 1; omega))
  show wpAny (model prog w) A (do
      match (← load s.heap.objs.size).data with
      | .seq ys _ => pure ys.toList
      | _ => unsupported "internal:collect") Q E _
  refine wpAny_bind (wpAny_load (PyProof.Rows.get?_update_seq own0 _) ?_)
  have fin := h _ kept
  have e : us = ((#[] : Array Value) ++ us.toArray).toList := by simp
  rw [e] at fin
  simp only [← e] at fin
  show wpAny _ _ (pure ((#[] : Array Value) ++ us.toArray).toList) Q E _
  rw [← e]
  exact wpAny_pure fin
end
/-- a call f(x) of the key: a whole number, all that is tracked stays -/
def KeyRun (X : Cx) (f : Addr) (g : V → Int) (vs : List V) (H : Hp) : Prop := ∀ x ∈ vs, ∀ (u : Value) (pins : List (Addr × Obj)) (σ : Sg) (s : Shared) (H1 : Hp), RelV x u → (∀ b o, H b = some o → H1 b = some o) → Inv X pins σ H1 s →
  wpAny (model X.prog X.w) X.A.in1.in1 (call (.ref f) [u]) (fun r s' => ∃ H2 t, r = .int (g x) t ∧ (∀ b o, H1 b = some o → H2 b = some o) ∧ Inv X pins σ H2 s') (fun _ _ => False) s
def rSortK (X : Cx) : List V → List V → Hp → VK → Prop := fun xs zs H Q => ∃ (p f : Addr) (vs : List V) (g : V → Int), xs = [.ref p] ∧ zs = [.ref f] ∧ SqT X.K H p vs ∧ KeyRun X f g vs H ∧
  ∀ (ys : List V) (q : Addr) (H1 : Hp), ys.Perm vs → H q = none → (∀ b o, H b = some o → H1 b = some o) → H1 q = some (.lst ys) → Q (.ref q) H1
theorem each_of_vals : ∀ {xs : List V} {us : List Value}, Vals xs us → PySem.W.EachIs (fun u x => RelV x u) us xs
  | _, _, .nil => .nil
  | _, _, .cons a b => .cons a (each_of_vals b)
theorem vals_of_each : ∀ {xs : List V} {us : List Value}, PySem.W.EachIs (fun u x => RelV x u) us xs → Vals xs us
  | _, _, .nil => .nil
  | _, _, .cons a b => .cons a (vals_of_each b)
theorem keys_each {g : V → Int} : ∀ {us : List Value} {xs : List V}, PySem.W.EachIs (fun u x => ∃ t, u = Value.int (g x) t) us xs → ∀ h : Heap, PySem.W.EachIs (fun u d => ∃ as, PySem.Reads h u d as) us (xs.map fun x => PyData.int (g x))
  | _, _, .nil, _ => .nil
  | _, _, .cons a b, h => .cons (by obtain ⟨t, rfl⟩ := a; exact ⟨[], .int _ t⟩) (keys_each b h)
section
variable {X : Cx} {pins : List (Addr × Obj)} {σ : Sg} {H : Hp} {s : Shared} {Q : VK}
def hid1 (h : Heap) (b : Addr) : Heap := hidT h fun c => if c = b then some (.lst []) else none
theorem hid1_get {h : Heap} {b c : Addr} {o : Obj} (e : h.get? c = some o) (n : c ≠ b) : (hid1 h b).get? c = some o := hidT_get e (if_neg n)
theorem of_hid1 {h : Heap} {b c : Addr} {o : Obj} (e : (hid1 h b).get? c = some o) : h.get? c = some o ∧ c ≠ b := by
  obtain ⟨e1, e2⟩ := of_hidT e
  refine ⟨e1, fun z => ?_⟩
  rw [if_pos z] at e2
  cases e2
theorem hid1_none {h : Heap} {b : Addr} : (hid1 h b).get? b = none := by
  cases e : (hid1 h b).get? b with
  | none => rfl
  | some o => exact absurd rfl (of_hid1 e).2
theorem fpTurned {it : Addr} {h' : Heap} {t' : Nat} (F : FpOk X pins H it) (I : Inv X pins σ H s) (k : ∀ b o, b ≠ it → s.heap.get? b = some o → h'.get? b = some o) : Inv X pins σ H { s with heap := h', toks := t' } :=
  I.turned k F.1 F.2.1 F.2.2.2.1 F.2.2.2.2.1 F.2.2.2.2.2
theorem sortK_run {p f : Addr} {vs : List V} {g : V → Int} (few : X.A.units + 10 < cLine) (I : Inv X pins σ H s) (hp : SqT X.K H p vs) (hf : KeyRun X f g vs H)
    (q : ∀ (ys : List V) (a : Addr) (H1 : Hp), ys.Perm vs → H a = none → (∀ b o, H b = some o → H1 b = some o) → H1 a = some (.lst ys) → Q (.ref a) H1) :
    wpAny (model X.prog X.w) X.A (call (.builtin "sorted") [.ref p] [(Str.ofString "key", .ref f)]) (EP X pins σ Q) X.xe s := by
  obtain ⟨us, rv, tp, hz⟩ := I.tuple hp
  have hzu : us.length ≤ sizeLine := by rw [← rv.length]; exact hz
  refine PyProof.Rows.call_function_entry_kw PyProof.Rows.kind_sorted PyProof.Rows.plain_sorted PyProof.Rows.entry_sorted (PyProof.Rows.ksk_s1 _ _) ?_
  unfold Builtin.«sorted»
  refine wpAny_bind (m := checkCount "sorted" 1 1 _) (wpAny_pure (wpAny_bind (gather_tup tp hzu fun g0 k0 => wpAny_bind (wpAny_newList ?_ hzu))))
  have I0 : Inv X pins σ H { s with heap := g0 } := I.kept k0
  have fp : ∀ (b : Addr) (H' : Hp), g0.objs.size ≤ b → H' b = none → FpOk X pins H' b := fun b H' l n => I0.fpOk l n
  have Ha : H g0.objs.size = none := I0.fresh
  have kg : ∀ b o, g0.get? b = some o → b ≠ g0.objs.size ∧ (g0.push (PyProof.Rows.seqObj "list" us.toArray 0)).get? b = some o := fun b o e => ⟨Nat.ne_of_lt (Heap.lt_size e), Heap.get?_push_of_some _ e⟩
  have sg : (g0.push (PyProof.Rows.seqObj "list" us.toArray 0)).objs.size = g0.objs.size + 1 := PyProof.Rows.size_push' _ _
  have oa : (g0.push (PyProof.Rows.seqObj "list" us.toArray 0)).get? g0.objs.size = some (PyProof.Rows.seqObj "list" us.toArray 0) := Heap.get?_push_size _ rfl
  generalize ea : g0.objs.size = a at *
  generalize g0.push (PyProof.Rows.seqObj "list" us.toArray 0) = g1 at *
  refine wpAny_bind (wpAny_holding (PyProof.Rows.wpAny_call_entry_kw PyProof.Rows.slot_list_sort ⟨_, oa, rfl⟩ PyProof.Rows.entry_list_sort ?body (PyProof.Rows.ksk_l1 _ _)))
  case body =>
    rw [PyProof.Rows.ksk_t1]
    unfold PyProof.Rows.ksk_tree
    refine wpAny_bind (PyProof.Rows.listItems_at oa rfl (wpAny_bind (PyProof.Rows.listUpdate_at oa rfl ?_ (by rw [List.size_toArray]; exact hzu) (Nat.zero_le _))))
    obtain ⟨n1, o1⟩ : ∃ n1, (g1.update a (Obj.mapSeq fun _ => (#[] : Array Value))).get? a = some (PyProof.Rows.seqObj "list" #[] n1) := ⟨_, PyProof.Rows.get?_update_seq oa fun _ => #[]⟩
    have kg2 : ∀ b o, g0.get? b = some o → (g1.update a (Obj.mapSeq fun _ => (#[] : Array Value))).get? b = some o := fun b o e => (Heap.get?_update_ne _ _ _ _ (kg b o e).1).trans (kg b o e).2
    have sg2 : (g1.update a (Obj.mapSeq fun _ => (#[] : Array Value))).objs.size = a + 1 := by rw [Heap.size_update]; exact sg
    generalize g1.update a (Obj.mapSeq fun _ => (#[] : Array Value)) = g2 at *
    refine wpAny_bind (PyProof.Rows.seqEpoch_at o1 rfl (wpAny_bind (wpAny_newTuple (wpAny_bind (wpAny_newList (wpAny_holding ?_) (Nat.zero_le _))) hzu)))
    have sg3 : (g2.push (PyProof.Rows.seqObj "tuple" us.toArray 0)).objs.size = a + 1 + 1 := by rw [PyProof.Rows.size_push', sg2]
    have I4 : Inv X pins σ H { s with heap := (g2.push (PyProof.Rows.seqObj "tuple" us.toArray 0)).push (PyProof.Rows.seqObj "list" #[] 0) } := I0.kept (t' := s.toks) fun b u e => Heap.get?_push_of_some _ (Heap.get?_push_of_some _ (kg2 b u e))
    have oa4 : ((g2.push (PyProof.Rows.seqObj "tuple" us.toArray 0)).push (PyProof.Rows.seqObj "list" #[] 0)).get? a = some (PyProof.Rows.seqObj "list" #[] n1) := Heap.get?_push_of_some _ (Heap.get?_push_of_some _ o1)
    have ok4 : ((g2.push (PyProof.Rows.seqObj "tuple" us.toArray 0)).push (PyProof.Rows.seqObj "list" #[] 0)).get? (g2.push (PyProof.Rows.seqObj "tuple" us.toArray 0)).objs.size = some (PyProof.Rows.seqObj "list" #[] 0) := Heap.get?_push_size _ rfl
    have hk4 : H (g2.push (PyProof.Rows.seqObj "tuple" us.toArray 0)).objs.size = none := I0.hok.fresh (by rw [sg3]; show g0.objs.size ≤ _; omega)
    generalize (g2.push (PyProof.Rows.seqObj "tuple" us.toArray 0)).objs.size = kS at *
    generalize (g2.push (PyProof.Rows.seqObj "tuple" us.toArray 0)).push (PyProof.Rows.seqObj "list" #[] 0) = g4 at *
    have lk : a ≤ kS := by omega
    have nka : kS ≠ a := by omega
    unfold PyProof.Rows.ksk_rest
    refine wpAny_bind (wpAny_rule ?_)
    rw [List.forIn_toArray]
    refine wpAny_bind (PyProof.Rows.ksk_fold (fun i s' => ∃ H1 kA e, Inv X pins σ H1 s' ∧ (∀ b o, H b = some o → H1 b = some o) ∧ (H1 a = none ∧ s'.heap.get? a = some (PyProof.Rows.seqObj "list" #[] n1)) ∧ H1 kS = none ∧ s'.heap.get? kS = some (PyProof.Rows.seqObj "list" kA e) ∧ PySem.W.EachIs (fun u x => ∃ t, u = Value.int (g x) t) kA.toList (vs.take i)) us 0 _ ⟨_, #[], 0, I4, fun b o e => e, ⟨Ha, oa4⟩, hk4, ok4, by rw [List.take_zero]; exact .nil⟩ ?step ?done)
    case step =>
      intro j u s1 hu hI
      obtain ⟨H1, kA, e, J, gr, ⟨ha1, oa1⟩, hk1, ho1, ei⟩ := hI
      rw [Nat.zero_add] at ei ⊢
      have hj : j < us.length := (List.getElem?_eq_some_iff.mp hu).1
      obtain ⟨x, hx⟩ : ∃ x, vs[j]? = some x := ⟨_, List.getElem?_eq_getElem (by rw [rv.length]; exact hj)⟩
      obtain ⟨u', hu', rx⟩ := rv.get hx
      rw [hu] at hu'
      cases hu'
      have J1 := J.pinned (fp := [kS, a]) (fun b hb => by
        rcases List.mem_cons.mp hb with z | z
        · rw [z]; exact fp kS H1 lk hk1
        · rw [List.mem_singleton.mp z]; exact fp a H1 (Nat.le_refl _) ha1) (fun b hb => by
        rcases List.mem_cons.mp hb with z | z
        · rw [z]; exact ⟨_, ho1, fun v z => by cases z⟩
        · rw [List.mem_singleton.mp z]; exact ⟨_, oa1, fun v z => by cases z⟩)
      refine wpAny_bind (wpAny_attempt (wpAny_mono (hf x (List.mem_of_getElem? hx) u _ σ s1 H1 rx gr J1) (fun r s2 hr => ?_) fun _ _ z => z.elim))
      obtain ⟨H2, t, rfl, gr2, J2⟩ := hr
      have pk := J2.pin (kS, PyProof.Rows.seqObj "list" kA e) (List.mem_append_right _ (List.mem_append_right _ (mem_pinsAt (by simp) ho1)))
      have pa := J2.pin (a, PyProof.Rows.seqObj "list" #[] n1) (List.mem_append_right _ (List.mem_append_right _ (mem_pinsAt (by simp) oa1)))
      have J3 := J2.unpinned
      have sz : kA.size ≤ us.length := by
        have l := ei.length
        rw [Array.length_toList, List.length_take] at l
        omega
      have F2 := fp kS H2 lk pk.2.1
      refine wpAny_bind (PyProof.Rows.listUpdate_at pk.1 rfl ?_ (Nat.le_trans sz hzu) (by rw [Array.size_push]; omega))
      refine wpAny_pure ⟨rfl, H2, kA.push (.int (g x) t), _, fpTurned F2 J3 (t' := s2.toks) (fun b o n z => (Heap.get?_update_ne _ _ _ _ n).trans z), fun b o z => gr2 b o (gr b o z), ⟨pa.2.1, (Heap.get?_update_ne _ _ _ _ (Ne.symm nka)).trans pa.1⟩, pk.2.1, PyProof.Rows.get?_update_seq pk.1 (·.push (.int (g x) t)), ?_⟩
      have e1 : (kA.push (.int (g x) t)).toList = kA.toList ++ [Value.int (g x) t] := by simp
      have e2 : vs.take (j + 1) = vs.take j ++ [x] := by rw [List.take_add_one, hx]; rfl
      rw [e1, e2]
      exact PySem.W.each_snoc (R := fun u x => ∃ t, u = Value.int (g x) t) ⟨t, rfl⟩ ei
    case done =>
      intro s1 hI
      obtain ⟨H1, kA, e, J, gr, ⟨ha1, oa1⟩, hk1, ho1, ei⟩ := hI
      rw [List.take_of_length_le (by rw [rv.length]; omega)] at ei
      have sz : kA.size = us.length := by
        have l := ei.length
        rw [Array.length_toList] at l
        rw [l, rv.length]
      have hal : PySem.W.AllAlike (vs.map fun x => PyData.int (g x)) := fun d hd d' hd' => by
        obtain ⟨x, _, rfl⟩ := List.mem_map.mp hd
        obtain ⟨y, _, rfl⟩ := List.mem_map.mp hd'
        rfl
      have hso : PySem.W.Sortable (vs.map fun x => PyData.int (g x)) := .inr fun d hd => by
        obtain ⟨x, _, rfl⟩ := List.mem_map.mp hd
        exact ⟨fun z => (by cases z), fun _ z => (by cases z)⟩
      have hk := keys_each ei s1.heap
      refine wpAny_bind (PyProof.Rows.listItems_at ho1 rfl ?_)
      refine PySem.W.keyH_end (κ := PySem.W.dataKind s1.heap (vs.map fun x => PyData.int (g x))) (h₁ := hid1 s1.heap kS) (fun b o n z => (of_hid1 z).1) hid1_none ho1 oa1 nka (PySem.W.SortsAt.data hk hal hso fun d hd => ?_) sz hzu fun h3 tk c kp oa3 => ?_
      · obtain ⟨x, _, rfl⟩ := List.mem_map.mp hd
        show X.A.units + 1 + 1 + 0 < cLine
        omega
      · have ko : PySem.W.KeyedOut false (vs.map fun x => PyData.int (g x)) us _ := ⟨s1.heap, kA.toList, hal, rfl, hk⟩
        have ro := vals_of_each (PySem.W.keyedOut_each (fun x => PyData.int (g x)) ko (each_of_vals rv))
        have lo : (vs.mergeSort (PySem.W.dataLe false fun x => PyData.int (g x))).length ≤ sizeLine := by rw [List.length_mergeSort]; exact hz
        have pm := List.mergeSort_perm vs (PySem.W.dataLe false fun x => PyData.int (g x))
        generalize vs.mergeSort (PySem.W.dataLe false fun x => PyData.int (g x)) = ys at *
        have k3 : ∀ b o, b ∉ [kS, a] → s1.heap.get? b = some o → h3.get? b = some o := fun b o n z => by
          rw [List.mem_cons, List.mem_singleton, not_or] at n
          exact kp b o n.2 (hid1_get z n.1)
        have n3 : ∀ b u, H1 b = some u → b ∉ [kS, a] := fun b u e z => by
          rcases List.mem_cons.mp z with y | y
          · rw [y, hk1] at e; cases e
          · rw [List.mem_singleton.mp y, ha1] at e; cases e
        have u3 : ∀ b u, H1 b = some u → upd H1 a (.lst ys) b = some u := fun b u e => by
          rw [upd_ne (ne_of_none e ha1)]
          exact e
        have Fk := fp kS H1 lk hk1
        have Fa := fp a H1 (Nat.le_refl _) ha1
        have J2 : Inv X pins σ (upd H1 a (.lst ys)) { s1 with heap := h3, toks := tk } := by
          refine J.step (g' := s1.gens) (d' := s1.drawn) (ch := [kS, a]) (fun b hb => ?_) (fun b o _ _ n z _ => k3 b o n z) (fun b o _ _ n z _ => ⟨o.slots, k3 b o n z⟩) (fun b o n _ z => ?_) (fun b o n z => ⟨o, k3 b o n z⟩) (fun b xs e => u3 b _ e) (fun b o u e => u3 b _ e) (fun b ps e => ⟨#[], by rw [u3 b _ e]; simp⟩) (fun m hm => ?_) (fun b u e => ?_) J.bare
          · rcases List.mem_cons.mp hb with z | z
            · rw [z]; exact ⟨Fk.2.2.2.1, Fk.2.1, Fk.2.2.2.2⟩
            · rw [List.mem_singleton.mp z]; exact ⟨Fa.2.2.2.1, Fa.2.1, Fa.2.2.2.2⟩
          · rw [List.mem_cons, List.mem_singleton, not_or] at n
            rw [upd_ne n.2]
            exact z
          · obtain ⟨o, es, ep, ho, r⟩ := hm
            refine ⟨o, es, ep, k3 _ o (fun z => ?_) ho, r⟩
            rcases List.mem_cons.mp z with y | y
            · exact Fk.2.1 y.symm
            · exact Fa.2.1 (List.mem_singleton.mp y).symm
          · by_cases z : b = a
            · subst z
              rw [upd_same] at e
              cases e
              exact ⟨lo, _, c, ro, oa3⟩
            · rw [upd_ne z] at e
              refine (J.hok b u e).stay (fun d v hd q => k3 d v ?_ q) (fun d q => u3 d _ q) fun d xs q => u3 d _ q
              rcases hd with y | y
              · rw [y]; exact n3 b u e
              · exact n3 d _ y
        refine ⟨.none, rfl, wpAny_pure ⟨_, rfl, .ref a, _, J2, rfl, q _ a _ pm Ha (fun b o z => u3 b _ (gr b o z)) upd_same⟩⟩
end
end Z
set_option Elab.async false
set_option linter.all false
set_option maxRecDepth 100000
namespace Z
open PySem L2
mutual
def noLst : PyData → Bool
  | .list _ => false
  | .dict _ => false
  | .tuple ds => noLsts ds
  | _ => true
def noLsts : List PyData → Bool
  | [] => true
  | d :: ds => noLst d && noLsts ds
end
section
variable {K : PySem.W.Frag} {H1 H2 : Hp} {a : Addr} {us : List V}
mutual
theorem Dz.off (ha : H1 a = some (.lst us)) (up : ∀ b o, H1 b = some o → b ≠ a → H2 b = some o) : ∀ {v : V} {d : PyData}, noLst d = true → Dz K H1 v d → Dz K H2 v d
  | _, _, _, .non => .non
  | _, _, _, .bl b => .bl b
  | _, _, _, .int i => .int i
  | _, _, _, .str x => .str x
  | _, _, h, .lst q r => by simp [noLst] at h
  | _, _, h, .dct0 _ => by simp [noLst] at h
  | _, _, h, .dct1 _ _ => by simp [noLst] at h
  | _, _, h, .excN _ => by simp [noLst] at h
  | _, _, h, .exc _ _ => by simp [noLst] at h
  | _, _, h, .frt _ _ _ _ => by simp [noLst] at h
  | _, _, h, .tup q r => .tup (by
      rcases q with (q | ⟨o, q⟩) | q
      · exact .inl (.inl (up _ _ q fun z => by rw [z, ha] at q; cases q))
      · exact .inl (.inr ⟨o, up _ _ q fun z => by rw [z, ha] at q; cases q⟩)
      · exact .inr q) (DzAll.off ha up (by simpa [noLst] using h) r)
theorem DzAll.off (ha : H1 a = some (.lst us)) (up : ∀ b o, H1 b = some o → b ≠ a → H2 b = some o) : ∀ {vs : List V} {ds : List PyData}, noLsts ds = true → DzAll K H1 vs ds → DzAll K H2 vs ds
  | _, _, _, .nil => .nil
  | _, _, h, .cons x y => .cons (Dz.off ha up (by simp only [noLsts, Bool.and_eq_true] at h; exact h.1) x) (DzAll.off ha up (by simp only [noLsts, Bool.and_eq_true] at h; exact h.2) y)
end
end
def viewB : Ev → Ev → Prop
  | [], [] => True
  | x :: xs, y :: ys => (match y with
    | some (.own es) => noLsts es = true
    | none => True
    | some (.val d) => x = some (.val d)) ∧ viewB xs ys
  | _, _ => False
theorem viewB_get : ∀ {e f : Ev} {j : Nat} {d : PyData}, viewB e f → f[j]? = some (some (.val d)) → e[j]? = some (some (.val d))
  | [], [], _, _, _, h => by simp at h
  | [], _ :: _, _, _, h, _ => h.elim
  | _ :: _, [], _, _, h, _ => h.elim
  | x :: xs, z :: zs, 0, d, h, e => by
    have e' : z = some (.val d) := by simpa using e
    subst e'
    have h1 : x = some (.val d) := h.1
    rw [h1]
    rfl
  | x :: xs, z :: zs, j + 1, d, h, e => by simpa using viewB_get (j := j) h.2 (by simpa using e)
theorem viewB_own : ∀ {e f : Ev} {j : Nat} {es : List PyData}, viewB e f → f[j]? = some (some (.own es)) → noLsts es = true
  | [], [], _, _, _, h => by simp at h
  | [], _ :: _, _, _, h, _ => h.elim
  | _ :: _, [], _, _, h, _ => h.elim
  | x :: xs, z :: zs, 0, y, h, e => by
    have e' : z = some (.own y) := by simpa using e
    subst e'
    exact h.1
  | x :: xs, z :: zs, j + 1, y, h, e => viewB_own (j := j) h.2 (by simpa using e)
/-- all that is seen is noted with its content -/
def vis (M : Mz) (H : Hp) : Mz := fun b => if (M b).1 = 0 then (0, H b) else M b
theorem vis1 {M : Mz} {H : Hp} {b : Addr} : (vis M H b).1 = (M b).1 := by
  unfold vis
  by_cases z : (M b).1 = 0
  · rw [if_pos z, z]
  · rw [if_neg z]
theorem msk_vis {M : Mz} {H H' : Hp} : msk (vis M H) H' = msk M H' := by
  funext b
  unfold msk
  rw [vis1]
theorem vis_see {M : Mz} {H : Hp} {b : Addr} {o : HO} (h : msk M H b = some o) : (vis M H b).2 = some o := by
  obtain ⟨h1, h2⟩ := msk_ok h
  unfold vis
  rw [if_pos h2]
  exact h1
section
variable {K : PySem.W.Frag} {c : Cf} {M : Mz} {σ : Sg} {H H' : Hp} {ev ev' : Ev} {pd : List (V × PyData)}
theorem Ok.vis (k : Ok K c M σ H ev pd) : Ok K c (Z.vis M H) σ H ev pd := by
  refine ⟨k.len, fun i d e => ?_, fun i ds e => ?_, k.inj, fun p hp => ?_, k.frame, fun a e => ?_, fun a e => ?_, k.mkd, fun a o e => ?_, k.tank⟩
  · rw [msk_vis]; exact k.val i d e
  · rw [msk_vis]
    obtain ⟨a, vs, e1, e2, e3⟩ := k.own i ds e
    exact ⟨a, vs, e1, by rw [vis1]; exact e2, e3⟩
  · rw [msk_vis]; exact k.pend p hp
  · rw [vis1]; exact k.sub a e
  · rw [vis1] at e; exact k.dom a e
  · unfold Z.vis at e ⊢
    by_cases z : (M a).1 = 0
    · rw [if_pos z] at e ⊢
      exact ⟨e, .inr rfl⟩
    · rw [if_neg z] at e ⊢
      exact k.lk a o e
/-- looked at as data ... -/
theorem Ok.view (k : Ok K c M σ H ev pd) {i : Nat} {a : Addr} {ds : List PyData} (h : ev[i]? = some (some (.own ds))) (ha : σ[i]? = some (some (.ref a))) (h0 : c.H0 a = none) : Ok K c (Z.vis (stM M a (0, none)) H) σ H (ev.set i (some (.val (.list ds)))) pd :=
  (k.freeze h ha h0).pop1.vis
/-- ... and own again -/
theorem Ok.unview (k : Ok K c M σ H ev pd) {i : Nat} {a : Addr} {ds : List PyData} {v : V} {d : PyData} {qd : List (V × PyData)} (ni : i ≠ 0) (h : ev[i]? = some (some (.own ds))) (ha : σ[i]? = some (some (.ref a))) (hb : viewB (ev.set i (some (.val (.list ds)))) ev')
    (k' : Ok K c (Z.vis (stM M a (0, none)) H) σ H' ev' (qd ++ pd)) (hq : ∀ p ∈ qd, noLst p.2 = true) : Ok K c M σ H' (ev'.set i (some (.own ds))) (qd ++ pd) := by
  obtain ⟨a', vs, e1, e2, e3, e4, e5⟩ := k.own i ds h
  obtain rfl : a' = a := by rw [ha] at e1; cases e1; rfl
  have nm : ∀ b, b ≠ a' → stM M a' (0, none) b = M b := fun b n => stM_off n
  have see : ∀ b o, msk (stM M a' (0, none)) H b = some o → H' b = some o := fun b o e => (k'.lk b o (vis_see e)).1
  have gr : ∀ b o, msk M H b = some o → msk M H' b = some o := fun b o e => by
    obtain ⟨e6, e7⟩ := msk_ok e
    have n : b ≠ a' := fun z => by rw [z, e2] at e7; cases e7
    exact msk_of (see b o (msk_of e6 (by rw [nm b n]; exact e7))) e7
  have hla : H' a' = some (.lst vs) := see a' _ (msk_of e4 (by rw [stM_at]))
  have hla2 : msk (Z.vis (stM M a' (0, none)) H) H' a' = some (.lst vs) := by
    rw [msk_vis]
    exact msk_of hla (by rw [stM_at])
  have off : ∀ b o, msk (Z.vis (stM M a' (0, none)) H) H' b = some o → b ≠ a' → msk M H' b = some o := fun b o e n => by
    rw [msk_vis] at e
    obtain ⟨e6, e7⟩ := msk_ok e
    exact msk_of e6 (by rw [← nm b n]; exact e7)
  have ow1 : ∀ (b : Addr), (Z.vis (stM M a' (0, none)) H b).1 = 1 → b ≠ a' ∧ (M b).1 = 1 := fun b e => by
    rw [vis1] at e
    have n : b ≠ a' := fun z => by rw [z, stM_at] at e; cases e
    exact ⟨n, by rw [← nm b n]; exact e⟩
  refine ⟨by rw [List.length_set]; exact k'.len, fun j e z => ?_, fun j es z => ?_, fun j l b ds1 ds2 z1 z2 z3 z4 => ?_, fun p hp => ?_, k'.frame, k.sub, fun b m => ?_, k.mkd, fun b o e => ?_, fun b t => ?_⟩
  · rcases get_set z with ⟨_, z1, _⟩ | ⟨n, z⟩
    · cases z1
    · have y := viewB_get hb z
      rw [List.getElem?_set_ne n] at y
      obtain ⟨u, y1, y2⟩ := k.val j e y
      exact ⟨u, y1, y2.up gr⟩
  · rcases get_set z with ⟨rfl, z1, _⟩ | ⟨n, z⟩
    · cases z1
      exact ⟨a', vs, ha, e2, e3, hla, e5.up gr⟩
    · obtain ⟨b, ws, y1, y2, y3, y4, y5⟩ := k'.own j es z
      obtain ⟨n2, y2⟩ := ow1 b y2
      have nl : noLsts es = true := viewB_own hb z
      exact ⟨b, ws, y1, y2, y3, y4, y5.off hla2 off nl⟩
  · have ap : ∀ (j : Nat) (es : List PyData), j ≠ i → (ev'.set i (some (.own ds)))[j]? = some (some (.own es)) → σ[j]? = some (some (.ref a')) → False := fun j es n q1 q2 => by
      rw [List.getElem?_set_ne (Ne.symm n)] at q1
      obtain ⟨b', ws, y1, y2, _⟩ := k'.own j es q1
      rw [q2] at y1
      cases y1
      exact (ow1 _ y2).1 rfl
    by_cases j1 : j = i
    · by_cases l1 : l = i
      · rw [j1, l1]
      · rw [j1, ha] at z3
        cases z3
        exact (ap l _ l1 z2 z4).elim
    · by_cases l1 : l = i
      · rw [l1, ha] at z4
        cases z4
        exact (ap j _ j1 z1 z3).elim
      · rw [List.getElem?_set_ne (Ne.symm j1)] at z1
        rw [List.getElem?_set_ne (Ne.symm l1)] at z2
        exact k'.inj j l b ds1 ds2 z1 z2 z3 z4
  · rcases List.mem_append.mp hp with y | y
    · exact (k'.pend p hp).off hla2 off (hq p y)
    · exact (k.pend p y).up gr
  · by_cases z : b = a'
    · rw [z]; exact ⟨_, hla⟩
    · exact k'.dom b (by rw [vis1, nm b z]; exact m)
  · by_cases z : b = a'
    · rw [z] at e
      obtain ⟨_, y⟩ := k.lk a' o e
      rw [e2] at y
      rcases y with y | y <;> cases y
    · obtain ⟨y1, y2⟩ := k.lk b o e
      refine ⟨?_, y2⟩
      rcases y2 with y2 | y2
      · refine (k'.lk b o ?_).1
        unfold Z.vis
        rw [if_neg (by rw [nm b z, y2]; decide), nm b z]
        exact e
      · exact see b o (msk_of y1 (by rw [nm b z]; exact y2))
  · obtain ⟨m, y1, ws, y2⟩ := k'.tank b t
    exact ⟨m, y1, ws, by rw [List.getElem?_set_ne ni]; exact y2⟩
end
def dViewT (i : Nat) (w : Wt) : Wt := fun ev Q => match ev[i]? with
  | some (some (.own ds)) => i ≠ 0 ∧ w (ev.set i (some (.val (.list ds)))) fun b e => viewB (ev.set i (some (.val (.list ds)))) e ∧ Q b (e.set i (some (.own ds)))
  | _ => False
section
variable {X : Cx} {c : Cf} {e : Expr} {i : Nat}
theorem dt_view {w : Wt} (h : DT X c e w) : DT X c e (dViewT i w) := ptM h fun σ H Q ⟨M, ev, pd, R, k, w, q⟩ => by
  unfold dViewT at w
  split at w
  · rename_i ds e0
    obtain ⟨n, w⟩ := w
    obtain ⟨a, e1, e2⟩ := k.h0own e0 n
    refine ⟨_, _, pd, _, k.view e0 e1 e2, w, fun b e' hd H' k' => ?_⟩
    obtain ⟨d2, d3⟩ := hd
    exact q b _ d3 H' (k.unview (v := .non) (d := .none) (qd := []) n e0 e1 d2 k' fun p hp => by cases hp)
  · exact w.elim
end
end Z
set_option Elab.async false
set_option linter.all false
set_option maxRecDepth 100000
namespace Z
open PySem L2
def dSortK (C : Cp) (u : Wa) : Wx := fun ev Q => u ev fun ds e => match ds with
  | [.tuple xs] => xs.length ≤ 1000 ∧ (∃ g : PyData → Int, ∀ x ∈ xs, ∀ R : PyData → Prop, R (.int (g x)) → C [x] R) ∧ ∀ ys : List PyData, ys.Perm xs → Q (.list ys) e
  | _ => False
theorem dzAll_mem {K : PySem.W.Frag} {H : Hp} : ∀ {vs : List V} {ds : List PyData}, DzAll K H vs ds → ∀ v ∈ vs, ∃ d ∈ ds, Dz K H v d
  | _, _, .nil, _, h => by cases h
  | _, _, .cons a b, v, h => by
    rcases List.mem_cons.mp h with e | h
    · rw [e]; exact ⟨_, List.mem_cons_self .., a⟩
    · obtain ⟨d, m, q⟩ := dzAll_mem b v h
      exact ⟨d, List.mem_cons_of_mem _ m, q⟩
theorem dzAll_perm {K : PySem.W.Frag} {H : Hp} {vs us : List V} (p : us.Perm vs) : ∀ {ds : List PyData}, DzAll K H vs ds → ∃ es : List PyData, es.Perm ds ∧ DzAll K H us es := by
  induction p with
  | nil => intro ds h; cases h; exact ⟨[], .nil, .nil⟩
  | cons x p ih =>
    intro ds h
    cases h with
    | cons a b =>
      obtain ⟨es, e1, e2⟩ := ih b
      exact ⟨_ :: es, e1.cons _, .cons a e2⟩
  | swap x y l =>
    intro ds h
    cases h with
    | cons a b =>
      cases b with
      | cons b d => exact ⟨_ :: _ :: _, .swap .., .cons b (.cons a d)⟩
  | trans p q ih1 ih2 =>
    intro ds h
    obtain ⟨es, e1, e2⟩ := ih2 h
    obtain ⟨fs, f1, f2⟩ := ih1 e2
    exact ⟨fs, f1.trans e1, f2⟩
section
variable {X : Cx} {c : Cf} {k kg : Nat} {y : Str} {ps : List Str} {p p2 pos kp : Pos} {e : Expr} {u : Wa} {C : Cp}
theorem cr_sortK {n : Nat} (hr : Room n X.A) : CallRK X (.builtin "sorted") [("key" : Str)] (rSortK X) := by
  intro pins s σ H xs zs us ws Q I rx rz h
  obtain ⟨a, f, vs, g, rfl, rfl, h1, h2, h3⟩ := h
  cases rx with
  | cons r1 r2 =>
    cases r2
    cases r1
    cases rz with
    | cons r3 r4 =>
      cases r4
      cases r3
      exact sortK_run (by have := hr.un; omega) I h1 h2 h3
theorem keyRun {f : Addr} {fd : FuncData} {M : Mz} {σ : Sg} {H : Hp} {ev : Ev} {pd : List (V × PyData)} {vs : List V} {ds : List PyData} {g : PyData → Int} (hb : Binds X.K fd ps []) (F : FnG X.prog X.w X.K X.mg X.base CX0 kg f fd ps (spP X.K 1 C)) (hk : kg + 2 ≤ k) (hr : Room k X.A) (hG : X.A.guards = some [])
    (K1 : Ok X.K c M σ H ev pd) (r : DzAll X.K (msk M H) vs ds) (hC : ∀ x ∈ ds, ∀ R : PyData → Prop, R (.int (g x)) → C [x] R) : ∃ g' : V → Int, KeyRun X f g' vs H := by
  classical
  refine ⟨fun v => if h : ∃ d ∈ ds, Dz X.K (msk M H) v d then g h.choose else 0, fun x hx u pins τ s H1 rx gr I => ?_⟩
  have ex : ∃ d ∈ ds, Dz X.K (msk M H) x d := dzAll_mem r x hx
  obtain ⟨m1, m2⟩ := ex.choose_spec
  have eg : (if h : ∃ d ∈ ds, Dz X.K (msk M H) x d then g h.choose else 0) = g ex.choose := dif_pos ex
  have k2 := K1.grow gr
  have hr2 : Room kg X.A.in1.in1 := ((hr.mono hk).in1).in1
  have sp : spP X.K 1 C [x] H1 (fun v H' => v = .int (g ex.choose) ∧ ∀ b o, H1 b = some o → H' b = some o) E0 := ⟨M, [ex.choose], fun d => d = .int (g ex.choose), rfl, k2.mkOk, .cons (m2.up (msk_same fun b o e _ => gr b o e)) .nil, hC _ m1 _ rfl, fun d hd v H' g2 z => by
    subst hd
    cases z
    exact ⟨rfl, g2⟩⟩
  have ar := F.ar _ _ _ _ sp
  have bd := hb s [u] I.kIn (by rw [List.append_nil]; exact ar)
  rw [List.append_nil] at bd
  refine wpAny_call (codeAny_mono (F.go X.A.in1.in1 X.stack s H1 ⟨[u], []⟩ [u] [x] _ E0 hG hr2 I.env0.in1.in1 bd (.cons rx .nil) sp) fun rr s' hq => ?_)
  cases rr with
  | error e => exact hq.elim
  | ok fl => cases fl with
    | next => exact hq.elim
    | brk => exact hq.elim
    | cont => exact hq.elim
    | ret w =>
      obtain ⟨v, H2, J, rv, rfl, g2⟩ := I.after hq
      obtain ⟨t, rfl⟩ := rv
      exact ⟨H2, t, congrArg (Value.int · t) eg.symm, g2, J⟩
theorem de_sortK (F : Cl X.prog X.w X.K X.mg X.base kg y ps (spP X.K 1 C)) (hk : kg + 2 ≤ k) (hr : Room k X.A) (hG : X.A.guards = some []) (hg : Gl X "sorted") (hm : X.mg "sorted" = none) (hy : Gl X y) (ha : DA X c [e] u) (hd : (y == ("__debug__" : Str)) = false := by decide)
    (he : backTo pos (starEach [e] X.env) = (false, eval e X.env) :: backTo pos (starEach [] X.env) := by rfl) (hpl : (backTo pos (starEach [e] X.env)).any (·.1) = false := by rfl)
    (hall : (backToKw pos (keywordEach [⟨some ("key" : Str), .Name y p2, kp⟩] X.env)).all (·.1.isSome) = true := by rfl) (hnone : (backToKw pos (keywordEach [⟨some ("key" : Str), .Name y p2, kp⟩] X.env)).any (·.1.isNone) = false := by rfl) (hks : (backToKw pos (keywordEach [⟨some ("key" : Str), .Name y p2, kp⟩] X.env)).filterMap (·.1) = [("key" : Str)] := by rfl) :
    DE X c (.Call (.Name "sorted" p) [e] [⟨some ("key" : Str), .Name y p2, kp⟩] pos) (dSortK C u) := by
  obtain ⟨f, fd, hmf, hkp, hb, F⟩ := F.ex
  refine peM (pe_callBK (cr_sortK hr) hg hm (by decide +kernel) ha (pk_cons (pe_glob (v := .ref f) hy hmf rfl hd) pk_nil) (by decide) (by decide) he hpl hall hnone hks) fun σ H Q ⟨M, ev, pd, R, K1, w, q⟩ => ?_
  refine ⟨M, ev, pd, _, K1, w, fun ds e h vs H1 k1 r => ?_⟩
  split at h
  · rename_i xs
    obtain ⟨l, ⟨g, hC⟩, hQ⟩ := h
    cases r with
    | cons r1 r2 =>
      cases r2
      cases r1 with
      | tup t1 t2 =>
        obtain ⟨g', kr⟩ := keyRun hb F hk hr hG k1 t2 hC
        refine ⟨_, f, _, g', rfl, rfl, sqT_up msk_sub t1, kr, fun ys a H2 pm hn gr hl => ?_⟩
        obtain ⟨es, p1, p2⟩ := dzAll_perm pm t2
        exact q _ e (hQ es p1) _ _ ((k1.grow gr).push (.lst (sq_lst (msk_of hl (k1.free hn))) (p2.up (msk_same fun b o e _ => gr b o e))))
  · exact h.elim
end
end Z
set_option Elab.async false
set_option linter.all false
set_option maxRecDepth 100000
set_option synthInstance.maxSize 4000
set_option synthInstance.maxHeartbeats 400000
namespace Z
open PySem L2
def whole : PyData → Bool
  | .int _ => true
  | _ => false
def areW : PyData → Int → Bool
  | .tuple ds, n => decide ((ds.length : Int) = n) && ds.all whole
  | _, _ => false
theorem bools_map : ∀ ds : List PyData, bools (ds.map fun d => .bool (whole d)) = some (ds.map whole)
  | [] => rfl
  | d :: ds => by
    rw [List.map_cons, List.map_cons]
    show (bools (ds.map fun d => PyData.bool (whole d))).map (whole d :: ·) = _
    rw [bools_map ds]
    rfl
abbrev cd (p : Int × Int) : PyData := cp p.1 p.2
/-- the quarter form -/
def qf (a b : Int) : Int × Int := if a = 0 ∧ b = 0 then (a, b) else if 0 < a ∧ 0 ≤ b then (a, b) else if 0 < -b ∧ 0 ≤ a then (-b, a) else if 0 < -a ∧ 0 ≤ -b then (-a, -b) else (-(-b), -a)
/-- the quotient -/
def xq (a b c d : Int) : Option (Int × Int) := if c * c + d * d = 0 then none else if (a * c - b * -d) % (c * c + d * d) = 0 ∧ (a * -d + b * c) % (c * c + d * d) = 0 then some ((a * c - b * -d) / (c * c + d * d), (a * -d + b * c) / (c * c + d * d)) else none
def od : Option (Int × Int) → PyData
  | none => .none
  | some p => cd p
instance sh_odn : Sh 0 4 0 (od none) := sh_none
instance sh_ods {n m : Nat} {x y : Int} [Sz n x] [Sz m y] : Sh (max n (max m 0)) (n + 2 + 2 + (m + 2 + 2 + 0) + 3) (max 0 (max 0 0) + 1) (od (some (x, y))) := inferInstanceAs (Sh _ _ _ (cp x y))
theorem sq0 (c : Int) : 0 ≤ c * c := by
  rcases Int.le_total 0 c with h | h
  · exact Int.mul_nonneg h h
  · exact Int.mul_nonneg_of_nonpos_of_nonpos h h
theorem nrm0 (c d : Int) : 0 ≤ c * c + d * d := Int.add_nonneg (sq0 c) (sq0 d)
theorem nrmP {c d : Int} (h : c * c + d * d ≠ 0) : 0 < c * c + d * d := by
  have := nrm0 c d
  omega
/-- what draws come from, after so many draws -/
def Tk (b : Int) (ts : List PyData) : Prop := ∃ r s n : Int, ts = [.int r, .int s, .int n] ∧ 0 ≤ r ∧ (0 ≤ s ∧ s < 2147483629) ∧ 0 ≤ n ∧ n ≤ b
theorem Tk.up {b c : Int} {ts : List PyData} (h : Tk b ts) (l : b ≤ c) : Tk c ts := by
  obtain ⟨r, s, n, e, h1, h2, h3, h4⟩ := h
  exact ⟨r, s, n, e, h1, h2, h3, Int.le_trans h4 l⟩
theorem qf_cases (a b : Int) : (a = 0 ∧ b = 0 ∧ qf a b = (0, 0)) ∨ (¬(a = 0 ∧ b = 0) ∧ 0 < (qf a b).1 ∧ 0 ≤ (qf a b).2 ∧ (qf a b = (a, b) ∨ qf a b = (0 - b, a) ∨ qf a b = (0 - a, 0 - b) ∨ qf a b = (b, 0 - a))) := by
  unfold qf
  by_cases z : a = 0 ∧ b = 0
  · rw [if_pos z, z.1, z.2]; exact .inl ⟨rfl, rfl, rfl⟩
  refine .inr ⟨z, ?_⟩
  rw [if_neg z]
  simp only [Int.zero_sub, Int.neg_neg]
  by_cases y1 : 0 < a ∧ 0 ≤ b
  · rw [if_pos y1]; exact ⟨y1.1, y1.2, .inl rfl⟩
  rw [if_neg y1]
  by_cases y2 : 0 < -b ∧ 0 ≤ a
  · rw [if_pos y2]; exact ⟨y2.1, y2.2, .inr (.inl rfl)⟩
  rw [if_neg y2]
  by_cases y3 : 0 < -a ∧ 0 ≤ -b
  · rw [if_pos y3]; exact ⟨y3.1, y3.2, .inr (.inr (.inl rfl))⟩
  rw [if_neg y3]
  exact ⟨show 0 < b by omega, show 0 ≤ -a by omega, .inr (.inr (.inr rfl))⟩
/-- the numbers of a row that is one -/
structure Rw (n : Nat) (q l m k : Int) : Prop where
  one : gcI [q, l, m, k] = 1
  pos : 0 < l * l + m * m - 2 * (q * k + q * k)
  sq : Sz n q
  sl : Sz n l
  sm : Sz n m
  sk : Sz n k
/-- whether three numbers are a place -/
def isPl (a b c : Int) : Bool := decide (a = 1 ∧ b = 0 ∧ c = 0) || (decide (0 < c) && decide (gcI [a, b, c] = 1))
/-- whether the first number that is not 0 is above 0 -/
def posL : List Int → Bool
  | [] => false
  | x :: xs => if x = 0 then posL xs else decide (0 < x)
/-- the row in its form -/
def fm (us : List Int) : List Int := if posL (rd us) = true then rd us else (rd us).map (0 - ·)
def nz : PyData → Bool
  | .int i => !decide (i = 0)
  | _ => false
theorem all4 {n : Nat} {a b c d : Int} (ha : Sz n a) (hb : Sz n b) (hc : Sz n c) (hd : Sz n d) : ∀ u ∈ [a, b, c, d], Sz n u := fun u hu => by
  simp only [List.mem_cons, List.not_mem_nil, or_false] at hu
  rcases hu with rfl | rfl | rfl | rfl <;> assumption
end Z
set_option Elab.async false
set_option linter.all false
set_option maxRecDepth 100000
namespace Z
open PySem L2
abbrev G := Int × Int
def gm (p q : G) : G := (p.1 * q.1 - p.2 * q.2, p.1 * q.2 + p.2 * q.1)
def nm (p : G) : Int := p.1 * p.1 + p.2 * p.2
def gdv (p q : G) : Prop := ∃ r, q = gm p r
theorem gm_comm (p q : G) : gm p q = gm q p := Prod.ext (by simp only [gm]; grind) (by simp only [gm]; grind)
theorem gm_assoc (p q r : G) : gm (gm p q) r = gm p (gm q r) := Prod.ext (by simp only [gm]; grind) (by simp only [gm]; grind)
theorem gm_one (p : G) : gm p (1, 0) = p := Prod.ext (by simp only [gm]; grind) (by simp only [gm]; grind)
theorem gm_zero (p : G) : gm p (0, 0) = (0, 0) := Prod.ext (by simp only [gm]; grind) (by simp only [gm]; grind)
theorem zero_gm (p : G) : gm (0, 0) p = (0, 0) := Prod.ext (by simp only [gm]; grind) (by simp only [gm]; grind)
theorem nm_mul (p q : G) : nm (gm p q) = nm p * nm q := by simp only [gm, nm]; grind
theorem nm_nn (p : G) : 0 ≤ nm p := nrm0 p.1 p.2
theorem nm_pos {p : G} (h : p ≠ (0, 0)) : 0 < nm p := ne_sq fun z => h (Prod.ext z.1 z.2)
theorem nm_zero {p : G} (h : nm p = 0) : p = (0, 0) := Classical.byContradiction fun n => by
  have := nm_pos n
  omega
theorem gdv_refl (p : G) : gdv p p := ⟨(1, 0), (gm_one p).symm⟩
theorem gdv_zero (p : G) : gdv p (0, 0) := ⟨(0, 0), (gm_zero p).symm⟩
theorem gdv_trans {p q r : G} (h : gdv p q) (g : gdv q r) : gdv p r := by
  obtain ⟨s, rfl⟩ := h
  obtain ⟨t, rfl⟩ := g
  exact ⟨gm s t, gm_assoc _ _ _⟩
theorem gdv_mul {p q : G} (h : gdv p q) (r : G) : gdv p (gm q r) := gdv_trans h ⟨r, rfl⟩
theorem gdv_left (p r : G) : gdv p (gm p r) := ⟨r, rfl⟩
theorem gdv_sub {p q r : G} (h : gdv p q) (g : gdv p r) : gdv p (q.1 - r.1, q.2 - r.2) := by
  obtain ⟨s, rfl⟩ := h
  obtain ⟨t, rfl⟩ := g
  exact ⟨(s.1 - t.1, s.2 - t.2), Prod.ext (by simp only [gm]; grind) (by simp only [gm]; grind)⟩
theorem gdv_add {p q r : G} (h : gdv p q) (g : gdv p r) : gdv p (q.1 + r.1, q.2 + r.2) := by
  obtain ⟨s, rfl⟩ := h
  obtain ⟨t, rfl⟩ := g
  exact ⟨(s.1 + t.1, s.2 + t.2), Prod.ext (by simp only [gm]; grind) (by simp only [gm]; grind)⟩
theorem zero_gdv {q : G} (h : gdv (0, 0) q) : q = (0, 0) := by
  obtain ⟨r, rfl⟩ := h
  exact zero_gm r
theorem gm_cancel {k p q : G} (hk : k ≠ (0, 0)) (h : gm k p = gm k q) : p = q := by
  have e : gm k (p.1 - q.1, p.2 - q.2) = (0, 0) := by
    have e1 : (gm k p).1 = (gm k q).1 := by rw [h]
    have e2 : (gm k p).2 = (gm k q).2 := by rw [h]
    simp only [gm] at e1 e2 ⊢
    exact Prod.ext (by show k.1 * (p.1 - q.1) - k.2 * (p.2 - q.2) = 0; grind) (by show k.1 * (p.2 - q.2) + k.2 * (p.1 - q.1) = 0; grind)
  have n : nm k * nm (p.1 - q.1, p.2 - q.2) = 0 := by rw [← nm_mul, e]; rfl
  have kp := nm_pos hk
  have z : nm (p.1 - q.1, p.2 - q.2) = 0 := by
    rcases Int.mul_eq_zero.mp n with y | y
    · omega
    · exact y
  have y := nm_zero z
  have y1 : p.1 - q.1 = 0 := congrArg Prod.fst y
  have y2 : p.2 - q.2 = 0 := congrArg Prod.snd y
  exact Prod.ext (by omega) (by omega)
theorem gdv_cancel {k p q : G} (hk : k ≠ (0, 0)) (h : gdv (gm k p) (gm k q)) : gdv p q := by
  obtain ⟨r, e⟩ := h
  rw [gm_assoc] at e
  exact ⟨r, gm_cancel hk e⟩
theorem sq_one {x : Int} (h : x * x ≤ 1) : x = -1 ∨ x = 0 ∨ x = 1 := by
  have h1 : ¬ 2 ≤ x := fun y => by
    have := Int.mul_le_mul y y (by decide) (by omega)
    omega
  have h2 : ¬ x ≤ -2 := fun y => by
    have := Int.mul_le_mul (show 2 ≤ -x by omega) (show 2 ≤ -x by omega) (by decide) (by omega)
    rw [Int.neg_mul_neg] at this
    omega
  omega
theorem unit_of {r : G} (h : nm r = 1) : r = (1, 0) ∨ r = (0, 1) ∨ r = (-1, 0) ∨ r = (0, -1) := by
  obtain ⟨x, y⟩ := r
  have h' : x * x + y * y = 1 := h
  have hx := sq0 x
  have hy := sq0 y
  rcases sq_one (x := x) (by omega) with rfl | rfl | rfl
  · rcases sq_one (x := y) (by omega) with rfl | rfl | rfl
    · omega
    · exact .inr (.inr (.inl rfl))
    · omega
  · rcases sq_one (x := y) (by omega) with rfl | rfl | rfl
    · exact .inr (.inr (.inr rfl))
    · omega
    · exact .inr (.inl rfl)
  · rcases sq_one (x := y) (by omega) with rfl | rfl | rfl
    · omega
    · exact .inl rfl
    · omega
theorem qf_turn (a b : Int) : qf (-b) a = qf a b := by
  unfold qf
  repeat' split
  all_goals first
    | (exfalso; omega)
    | (refine Prod.ext ?_ ?_ <;> (show _ = _; omega))
    | rfl
def as (p q : G) : Prop := gdv p q ∧ gdv q p
theorem as_refl (p : G) : as p p := ⟨gdv_refl p, gdv_refl p⟩
theorem as_symm {p q : G} (h : as p q) : as q p := ⟨h.2, h.1⟩
theorem as_trans {p q r : G} (h : as p q) (g : as q r) : as p r := ⟨gdv_trans h.1 g.1, gdv_trans g.2 h.2⟩
theorem as_unit {p q : G} (h : as p q) : q = p ∨ q = (-p.2, p.1) ∨ q = (-p.1, -p.2) ∨ q = (p.2, -p.1) := by
  obtain ⟨⟨r, h1⟩, ⟨s, h2⟩⟩ := h
  by_cases z : p = (0, 0)
  · subst z
    rw [zero_gm] at h1
    exact .inl h1
  · have e : gm p (gm r s) = gm p (1, 0) := by rw [← gm_assoc, ← h1, gm_one]; exact h2.symm
    have e2 := gm_cancel z e
    have e3 : nm r * nm s = 1 := by rw [← nm_mul, e2]; rfl
    have e4 : nm r = 1 := by
      have r0 := nm_nn r
      have s0 := nm_nn s
      have r1 : nm r ≠ 0 := fun y => by rw [y, Int.zero_mul] at e3; omega
      have s1 : nm s ≠ 0 := fun y => by rw [y, Int.mul_zero] at e3; omega
      by_cases y : 2 ≤ nm r
      · have := Int.mul_le_mul y (show 1 ≤ nm s by omega) (by decide) r0
        omega
      · omega
    rcases unit_of e4 with rfl | rfl | rfl | rfl
    · exact .inl (by rw [h1, gm_one])
    · exact .inr (.inl (by rw [h1]; exact Prod.ext (by simp only [gm]; omega) (by simp only [gm]; omega)))
    · exact .inr (.inr (.inl (by rw [h1]; exact Prod.ext (by simp only [gm]; omega) (by simp only [gm]; omega))))
    · exact .inr (.inr (.inr (by rw [h1]; exact Prod.ext (by simp only [gm]; omega) (by simp only [gm]; omega))))
theorem as_qf {p q : G} (h : as p q) : qf q.1 q.2 = qf p.1 p.2 := by
  rcases as_unit h with e | e | e | e
  · rw [e]
  · rw [e]; exact qf_turn p.1 p.2
  · rw [e]
    exact (qf_turn (-p.2) p.1).trans (qf_turn p.1 p.2)
  · rw [e]
    have e1 := qf_turn (-p.1) (-p.2)
    rw [Int.neg_neg] at e1
    exact e1.trans ((qf_turn (-p.2) p.1).trans (qf_turn p.1 p.2))
theorem qf_as (p : G) : as p (qf p.1 p.2) := by
  rcases qf_cases p.1 p.2 with ⟨h1, h2, e⟩ | ⟨_, _, _, e⟩
  · rw [e]
    have : p = (0, 0) := Prod.ext h1 h2
    rw [this]
    exact as_refl _
  · rcases e with e | e | e | e
    · rw [e]; exact as_refl _
    · rw [e]; exact ⟨⟨(0, 1), Prod.ext (by simp only [gm]; omega) (by simp only [gm]; omega)⟩, ⟨(0, -1), Prod.ext (by simp only [gm]; omega) (by simp only [gm]; omega)⟩⟩
    · rw [e]; exact ⟨⟨(-1, 0), Prod.ext (by simp only [gm]; omega) (by simp only [gm]; omega)⟩, ⟨(-1, 0), Prod.ext (by simp only [gm]; omega) (by simp only [gm]; omega)⟩⟩
    · rw [e]; exact ⟨⟨(0, -1), Prod.ext (by simp only [gm]; omega) (by simp only [gm]; omega)⟩, ⟨(0, 1), Prod.ext (by simp only [gm]; omega) (by simp only [gm]; omega)⟩⟩
theorem qf_qf (p : G) : qf (qf p.1 p.2).1 (qf p.1 p.2).2 = qf p.1 p.2 := as_qf (qf_as p)
theorem qf_sz {n : Nat} {a b : Int} (ha : Sz n a) (hb : Sz n b) : Sz n (qf a b).1 ∧ Sz n (qf a b).2 := by
  unfold qf
  repeat' split
  all_goals exact ⟨inferInstance, inferInstance⟩
structure GC (ns : List G) (g : G) : Prop where
  dv : ∀ n ∈ ns, gdv g n
  big : ∀ d, (∀ n ∈ ns, gdv d n) → gdv d g
theorem GC.nil : GC [] (0, 0) := ⟨fun n h => (by cases h), fun d _ => gdv_zero d⟩
theorem GC.same {ns ms : List G} {g : G} (h : GC ns g) (e : ∀ d, (∀ n ∈ ns, gdv d n) ↔ ∀ m ∈ ms, gdv d m) : GC ms g := ⟨(e g).mp h.dv, fun d q => h.big d ((e d).mpr q)⟩
theorem GC.perm {ns ms : List G} {g : G} (p : ns.Perm ms) (h : GC ns g) : GC ms g := h.same fun d => ⟨fun q m hm => q m (p.mem_iff.mpr hm), fun q m hm => q m (p.mem_iff.mp hm)⟩
theorem GC.as {ns : List G} {g h : G} (a : GC ns g) (b : GC ns h) : Z.as g h := ⟨b.big g a.dv, a.big h b.dv⟩
theorem GC.of_as {ns : List G} {g h : G} (a : GC ns g) (b : Z.as g h) : GC ns h := ⟨fun n hn => gdv_trans b.2 (a.dv n hn), fun d q => gdv_trans (a.big d q) b.1⟩
theorem GC.one (g : G) : GC [g] g := ⟨fun n h => by rw [List.mem_singleton.mp h]; exact gdv_refl g, fun d q => q g (by simp)⟩
theorem GC.snoc {ns : List G} {g n h : G} (a : GC ns g) (b : GC [g, n] h) : GC (ns ++ [n]) h := by
  refine ⟨fun m hm => ?_, fun d q => b.big d fun m hm => ?_⟩
  · rcases List.mem_append.mp hm with y | y
    · exact gdv_trans (b.dv g (by simp)) (a.dv m y)
    · rw [List.mem_singleton.mp y]; exact b.dv n (by simp)
  · rcases List.mem_cons.mp hm with y | y
    · rw [y]; exact a.big d fun m hm => q m (List.mem_append_left _ hm)
    · rw [List.mem_singleton.mp y]; exact q n (by simp)
theorem gc2 {a b g : G} : GC [a, b] g ↔ (gdv g a ∧ gdv g b ∧ ∀ d, gdv d a → gdv d b → gdv d g) := by
  constructor
  · intro h
    exact ⟨h.dv a (by simp), h.dv b (by simp), fun d p q => h.big d fun n hn => by
      rcases List.mem_cons.mp hn with y | y
      · rw [y]; exact p
      · rw [List.mem_singleton.mp y]; exact q⟩
  · rintro ⟨h1, h2, h3⟩
    exact ⟨fun n hn => by
      rcases List.mem_cons.mp hn with y | y
      · rw [y]; exact h1
      · rw [List.mem_singleton.mp y]; exact h2, fun d q => h3 d (q a (by simp)) (q b (by simp))⟩
theorem GC.zero (a : G) : GC [a, (0, 0)] a := gc2.mpr ⟨gdv_refl a, gdv_zero a, fun d h _ => h⟩
theorem GC.zeroL (a : G) : GC [(0, 0), a] a := gc2.mpr ⟨gdv_zero a, gdv_refl a, fun d _ h => h⟩
/-- one number less a multiple of the other one -/
def les (a t b : G) : G := (a.1 - (gm t b).1, a.2 - (gm t b).2)
theorem gdv_les {d a b : G} (t : G) (h : gdv d a) (g : gdv d b) : gdv d (les a t b) := gdv_sub h (by rw [gm_comm]; exact gdv_mul g t)
theorem gdv_les' {d a b : G} {t : G} (h : gdv d (les a t b)) (g : gdv d b) : gdv d a := by
  have := gdv_add h (show gdv d (gm t b) by rw [gm_comm]; exact gdv_mul g t)
  have e : ((les a t b).1 + (gm t b).1, (les a t b).2 + (gm t b).2) = a := Prod.ext (by simp only [les]; omega) (by simp only [les]; omega)
  rw [e] at this
  exact this
theorem GC.step {a b t h : G} (x : GC [b, les a t b] h) : GC [a, b] h := by
  obtain ⟨h1, h2, h3⟩ := gc2.mp x
  exact gc2.mpr ⟨gdv_les' h2 h1, h1, fun d p q => h3 d q (gdv_les t p q)⟩
theorem GC.swap {a b h : G} (x : GC [a, b] h) : GC [b, a] h := by
  obtain ⟨h1, h2, h3⟩ := gc2.mp x
  exact gc2.mpr ⟨h2, h1, fun d p q => h3 d q p⟩
/-- the nearest multiple leaves at most half the norm -/
theorem half_sq {s e : Int} (h1 : -s ≤ 2 * e) (h2 : 2 * e ≤ s) : 4 * (e * e) ≤ s * s := by
  have : 0 ≤ (s - 2 * e) * (s + 2 * e) := Int.mul_nonneg (by omega) (by omega)
  grind
theorem floor_near {s t : Int} (hs : 0 < s) : -s ≤ 2 * (t - (2 * t + s) / (2 * s) * s) ∧ 2 * (t - (2 * t + s) / (2 * s) * s) ≤ s := by
  have h1 := Int.emod_nonneg (2 * t + s) (show 2 * s ≠ 0 by omega)
  have h2 := Int.emod_lt_of_pos (2 * t + s) (show 0 < 2 * s by omega)
  have h3 := Int.mul_ediv_add_emod (2 * t + s) (2 * s)
  generalize (2 * t + s) / (2 * s) = q at *
  generalize (2 * t + s) % (2 * s) = r at *
  have e : q * s * 2 = 2 * s * q := by grind
  omega
theorem rest_nm {a b c d : Int} (h : 0 < c * c + d * d) : 2 * nm (les (a, b) ((2 * (a * c - b * -d) + (c * c + d * d)) / (2 * (c * c + d * d)), (2 * (a * -d + b * c) + (c * c + d * d)) / (2 * (c * c + d * d))) (c, d)) ≤ c * c + d * d := by
  have f1 := floor_near (t := a * c - b * -d) h
  have f2 := floor_near (t := a * -d + b * c) h
  generalize (2 * (a * c - b * -d) + (c * c + d * d)) / (2 * (c * c + d * d)) = u at *
  generalize (2 * (a * -d + b * c) + (c * c + d * d)) / (2 * (c * c + d * d)) = v at *
  have g1 := half_sq f1.1 f1.2
  have g2 := half_sq f2.1 f2.2
  have e : (c * c + d * d) * nm (les (a, b) (u, v) (c, d)) = (a * c - b * -d - u * (c * c + d * d)) * (a * c - b * -d - u * (c * c + d * d)) + (a * -d + b * c - v * (c * c + d * d)) * (a * -d + b * c - v * (c * c + d * d)) := by
    simp only [nm, les, gm]
    grind
  refine Int.le_of_mul_le_mul_left (a := c * c + d * d) ?_ h
  have e2 : (c * c + d * d) * (2 * nm (les (a, b) (u, v) (c, d))) = 2 * ((c * c + d * d) * nm (les (a, b) (u, v) (c, d))) := by grind
  rw [e2, e]
  omega
theorem le_of_sq {a b : Int} (h : a * a ≤ b * b) (hb : 0 ≤ b) : a ≤ b ∧ -b ≤ a := by
  constructor
  · by_cases y : b < a
    · have h1 := Int.mul_le_mul_of_nonneg_left (Int.le_of_lt y) hb
      have h2 := Int.mul_lt_mul_of_pos_right y (show 0 < a by omega)
      omega
    · omega
  · by_cases y : b < -a
    · have h1 := Int.mul_le_mul_of_nonneg_left (Int.le_of_lt y) hb
      have h2 := Int.mul_lt_mul_of_pos_right y (show 0 < -a by omega)
      rw [Int.neg_mul_neg] at h2
      omega
    · omega
theorem sz_sq {n : Nat} {a c d : Int} (h : 2 * (a * a) ≤ c * c + d * d) (hc : Sz n c) (hd : Sz n d) : Sz n a := by
  have key : ∀ b : Int, Sz n b → a * a ≤ b * b → Sz n a := fun b hb q => ⟨by
    have e : (b.natAbs : Int) * (b.natAbs : Int) = b * b := Int.natAbs_mul_self' b
    have l := le_of_sq (a := a) (b := (b.natAbs : Int)) (by rw [e]; exact q) (Int.natCast_nonneg _)
    have := hb.lt
    omega⟩
  by_cases z : c * c ≤ d * d
  · exact key d hd (by omega)
  · exact key c hc (by omega)
theorem sz_nm {n : Nat} {x y c d : Int} (h : 2 * nm (x, y) ≤ c * c + d * d) (hc : Sz n c) (hd : Sz n d) : Sz n x ∧ Sz n y := by
  have h' : 2 * (x * x + y * y) ≤ c * c + d * d := h
  have hx := sq0 x
  have hy := sq0 y
  exact ⟨sz_sq (by omega) hc hd, sz_sq (by omega) hc hd⟩
theorem dvd_gcF {k : Int} : ∀ {us : List Int} {s : Int}, k ∣ s → (∀ u ∈ us, k ∣ u) → k ∣ gcF s us
  | [], s, h, _ => h
  | u :: us, s, h, g => by
    show k ∣ gcF (Int.gcd s u : Int) us
    exact dvd_gcF (Int.dvd_coe_gcd h (g u (List.mem_cons_self ..))) fun v hv => g v (List.mem_cons_of_mem _ hv)
theorem dvd_gc {k : Int} {us : List Int} (h : ∀ u ∈ us, k ∣ u) : k ∣ gcI us := dvd_gcF (Int.dvd_zero k) h
/-- a common divisor of two numbers divides the whole number that all their products have in common -/
theorem gdv_whole {d n o : G} (h1 : gdv d n) (h2 : gdv d o) : gdv d (gcI [n.1 * n.1 + n.2 * n.2, o.1 * o.1 + o.2 * o.2, n.1 * o.1 - n.2 * -o.2, n.1 * -o.2 + n.2 * o.1], 0) := by
  obtain ⟨r, rfl⟩ := h1
  obtain ⟨s, rfl⟩ := h2
  have dv : nm d ∣ gcI [(gm d r).1 * (gm d r).1 + (gm d r).2 * (gm d r).2, (gm d s).1 * (gm d s).1 + (gm d s).2 * (gm d s).2, (gm d r).1 * (gm d s).1 - (gm d r).2 * -(gm d s).2, (gm d r).1 * -(gm d s).2 + (gm d r).2 * (gm d s).1] := dvd_gc fun u hu => by
    simp only [List.mem_cons, List.not_mem_nil, or_false] at hu
    rcases hu with rfl | rfl | rfl | rfl
    · exact ⟨nm r, by simp only [nm, gm]; grind⟩
    · exact ⟨nm s, by simp only [nm, gm]; grind⟩
    · exact ⟨r.1 * s.1 + r.2 * s.2, by simp only [nm, gm]; grind⟩
    · exact ⟨r.2 * s.1 - r.1 * s.2, by simp only [nm, gm]; grind⟩
  obtain ⟨t, e⟩ := dv
  refine ⟨(d.1 * t, -(d.2 * t)), ?_⟩
  rw [e]
  exact Prod.ext (by simp only [nm, gm]; grind) (by simp only [gm]; grind)
/-- the divisor of numbers that are longer by a factor -/
theorem GC.longer {ns : List G} {k g h : G} (hk : k ≠ (0, 0)) (a : GC ns g) (b : GC (ns.map (gm k)) h) : Z.as (gm k g) h := by
  constructor
  · refine b.big _ fun m hm => ?_
    obtain ⟨n, hn, rfl⟩ := List.mem_map.mp hm
    obtain ⟨r, e⟩ := a.dv n hn
    exact ⟨r, by rw [gm_assoc, ← e]⟩
  · obtain ⟨m, rfl⟩ := b.big k fun n hn => by
      obtain ⟨n, _, rfl⟩ := List.mem_map.mp hn
      exact gdv_left k n
    have q := a.big m fun n hn => gdv_cancel hk (b.dv _ (List.mem_map_of_mem hn))
    obtain ⟨r, e⟩ := q
    exact ⟨r, by rw [gm_assoc, ← e]⟩
theorem GC.ne {ns : List G} {g : G} (a : GC ns g) (h : ∃ n ∈ ns, n ≠ (0, 0)) : g ≠ (0, 0) := fun z => by
  obtain ⟨n, hn, e⟩ := h
  have := a.dv n hn
  rw [z] at this
  exact e (zero_gdv this)
end Z
set_option Elab.async false
set_option linter.all false
set_option maxRecDepth 100000
namespace Z
open PySem L2
theorem foD_pre {g : Wg} {b : Ws} {E : Ed} (I : List PyData → Ev → Prop) : ∀ {ds pre : List PyData} {ev : Ev}, (∀ (pre : List PyData) (d : PyData) (ev : Ev) (E' : Ed), d ∈ ds → I pre ev → (∀ ev', I (pre ++ [d]) ev' → E'.nx ev') → E'.ct = E'.nx → E'.rt = E.rt → E'.rl = E.rl → E'.bk = E.nx → g d ev fun e => b E' e) → I pre ev → (∀ ev', I (pre ++ ds) ev' → E.nx ev') → foD g b ds E ev
  | [], pre, ev, _, i, n => n ev (by rw [List.append_nil]; exact i)
  | d :: ds, pre, ev, h, i, n => h pre d ev _ (List.mem_cons_self ..) i (fun ev' i' => foD_pre I (fun p d' e' E' m => h p d' e' E' (List.mem_cons_of_mem _ m)) i' fun e i'' => n e (by rw [List.append_assoc] at i''; exact i'')) rfl rfl rfl rfl
def toG : PyData → G
  | .tuple [.int a, .int b] => (a, b)
  | _ => (0, 0)
theorem toG_map (ps : List G) : (ps.map cd).map toG = ps := by
  rw [List.map_map]
  have : ps.map (toG ∘ cd) = ps.map id := List.map_congr_left fun p _ => rfl
  rw [this, List.map_id]
theorem perm_cd {ys : List PyData} {ps : List G} (h : ys.Perm (ps.map cd)) : ∃ qs : List G, qs.Perm ps ∧ ys = qs.map cd := by
  refine ⟨ys.map toG, ?_, ?_⟩
  · have := h.map toG
    rw [toG_map] at this
    exact this
  · rw [List.map_map]
    have : ys.map (cd ∘ toG) = ys.map id := List.map_congr_left fun y hy => by
      obtain ⟨p, _, rfl⟩ := List.mem_map.mp (h.mem_iff.mp hy)
      rfl
    rw [this, List.map_id]
theorem cd_inj {ps qs : List G} (h : ps.map cd = qs.map cd) : ps = qs := by
  have := congrArg (List.map toG) h
  rw [toG_map, toG_map] at this
  exact this
theorem bools_of {α : Type} {f : α → Bool} : ∀ l : List α, bools (l.map fun x => .bool (f x)) = some (l.map f)
  | [] => rfl
  | x :: l => by
    show (bools (l.map fun x => PyData.bool (f x))).map (f x :: ·) = _
    rw [bools_of l]
    rfl
theorem eqv_cd (p q : G) : PyData.eqv (cd p) (cd q) = decide (p = q) := by
  show PyData.eqv (cp p.1 p.2) (cp q.1 q.2) = _
  rw [eqv_cp]
  by_cases z : p = q
  · rw [decide_eq_true z, decide_eq_true ⟨congrArg Prod.fst z, congrArg Prod.snd z⟩]
  · rw [decide_eq_false z, decide_eq_false fun y => z (Prod.ext y.1 y.2)]
theorem foD_at {g : Wg} {b : Ws} {E : Ed} (all : List PyData) (I : List PyData → Ev → Prop) (step : ∀ (pre : List PyData) (d : PyData) (post : List PyData) (ev : Ev) (E' : Ed), all = pre ++ d :: post → I pre ev → (∀ ev', I (pre ++ [d]) ev' → E'.nx ev') → E'.rt = E.rt → E'.bk = E.nx → E'.ct = E'.nx → g d ev fun e => b E' e) : ∀ {ds pre : List PyData} {ev : Ev}, all = pre ++ ds → I pre ev → (∀ ev', I all ev' → E.nx ev') → foD g b ds E ev
  | [], pre, ev, e, i, n => n ev (by rw [e, List.append_nil]; exact i)
  | d :: ds, pre, ev, e, i, n => step pre d ds ev _ e i (fun ev' i' => foD_at all I step (by rw [List.append_assoc]; exact e) i' n) rfl rfl rfl
theorem Tk.noLst {b : Int} {ts : List PyData} (h : Tk b ts) : noLsts ts = true := by
  obtain ⟨r, s, n, rfl, _⟩ := h
  rfl
/-- a slot that holds no own list -/
def fr (s : Option Sl) : Prop := s = none ∨ ∃ v, s = some (.val v)
theorem fr_none : fr none := .inl rfl
theorem fr_val {v : PyData} : fr (some (.val v)) := .inr ⟨v, rfl⟩
theorem gN_fr {i : Nat} {d : PyData} {ev : Ev} {Q : Ev → Prop} {s : Option Sl} (e : ev[i]? = some s) (h : fr s) (q : Q (ev.set i (some (.val d)))) : gN i d ev Q := by
  unfold gN
  rw [e]
  rcases h with rfl | ⟨v, rfl⟩ <;> exact q
theorem dLc_of {i : Nat} {u : Wa} {t : Wt} {el : Wx} {ds : List PyData} {ev : Ev} {Q : PyData → Ev → Prop} (hi : i ≠ 0) (hu : ∀ R : List PyData → Ev → Prop, R ds ev → u ev R) (he : ev[i]? = some none) (h : lcD [i] (gN i) t el ds [] ev fun acc e => Q (.list acc) e) : dLc [i] u (gN i) t el ev Q := by
  have e1 : ([i].all fun v => v != 0) = true := by simpa using hi
  have e2 : cleanB ev [i] = true := by
    unfold cleanB
    rw [he]
    rfl
  show (match [i].all fun v => v != 0 with
    | true => u ev fun ds e => match cleanB e [i] with
      | true => lcD [i] (gN i) t el ds [] e fun acc e' => Q (.list acc) e'
      | false => lcD [i] (gN i) t el ds [] (wipeD e [i]) fun acc e' => Q (.list acc) e'
    | false => False)
  rw [e1]
  refine hu _ ?_
  rw [e2]
  exact h
/-- all([.. for x in xs]) -/
theorem all_lc {i : Nat} {u : Wa} {el : Wx} {f : PyData → Bool} {ds : List PyData} {ev : Ev} {Q : PyData → Ev → Prop} (hi : i ≠ 0) (hu : ∀ R : List PyData → Ev → Prop, R ds ev → u ev R) (he : ev[i]? = some none) (hl : ds.length ≤ 1000)
    (h : ∀ d ∈ ds, ∀ R : PyData → Ev → Prop, R (.bool (f d)) (ev.set i (some (.val d))) → el (ev.set i (some (.val d))) R) (q : Q (.bool ((ds.map f).all id)) ev) : dCal fAll (daC (dLc [i] u (gN i) dYes el) daN) ev Q :=
  dLc_of (Q := fun d e => fAll [d] fun d => Q d e) hi hu he (lc_map (f := fun d => .bool (f d)) he (by rw [List.length_nil, Nat.zero_add]; exact hl) h (fAll_of (bools_of ds) q))
theorem gs_fr {i : Nat} {gs : Wgs} {d : PyData} {r : List PyData} {ev : Ev} {Q : Ev → Prop} {s : Option Sl} (e : ev[i]? = some s) (h : fr s) (q : gs r (ev.set i (some (.val d))) Q) : gsC (gN i) gs (d :: r) ev Q := gN_fr (Q := fun e => gs r e Q) e h q
theorem dt_lele {X : Cx} {c : Cf} {a b d : Expr} {wa wb wd : Wx} {pos : Pos} (ha : DE X c a wa) (hb : DE X c b wb) (hd : DE X c d wd) (m1 : lastMarks [.LtE, .LtE] [b, d] = false := by rfl) : DT X c (.Compare a [.LtE, .LtE] [b, d] pos) (dTru (dChain fLe fLe wa wb wd)) :=
  ptM (pt_chain op_le op_le ha hb hd m1) fun σ H Q ⟨M, ev, pd, R, k, w, q⟩ =>
  ⟨M, ev, pd, _, k, w, fun x e1 y1 v H1 k1 => ⟨M, e1, _, _, k1, y1, fun y e2 y2 u H2 k2 => (rz_ii0 (K := X.K) (g := fun i j => .bl (decide (i ≤ j))) (g' := fun i j => .bool (decide (i ≤ j))) fun _ _ _ => .bl _) c M σ H2 e2 ((u, y) :: pd) v u x y _ _ (k2.pop fun p hp => by
      rcases List.mem_cons.mp hp with z | z
      · rw [z]; exact List.mem_cons_self ..
      · exact List.mem_cons_of_mem _ (List.mem_cons_of_mem _ z)) k2.pop1.top k2.top y2 fun dd w' H3 hq k3 => by
    have t := k3.top
    split at hq
    · cases t
      rename_i t
      refine ⟨_, rfl, ?_⟩
      by_cases z : t = true
      · rw [if_pos z] at hq ⊢
        exact ⟨M, e2, _, _, k3.pop1, hq, fun u3 e3 y3 v3 H4 k4 => (rz_ii0 (K := X.K) (g := fun i j => .bl (decide (i ≤ j))) (g' := fun i j => .bool (decide (i ≤ j))) fun _ _ _ => .bl _) c M σ H4 e3 pd u v3 y u3 _ _ (k4.pop1.pop1) k4.pop1.top k4.top (bl_ii y u3 _ y3) fun d4 w4 H5 hq4 k5 => by
          obtain ⟨⟨b, rfl⟩, _, hq4⟩ := hq4
          have t5 := k5.top
          cases t5
          exact ⟨b, rfl, q b _ hq4 H5 k5.pop1⟩⟩
      · rw [if_neg z] at hq ⊢
        exact ⟨false, rfl, q false _ hq.2 H3 k3.pop1.pop1⟩
    · exact hq.elim⟩⟩
end Z
set_option Elab.async false
set_option linter.all false
set_option maxRecDepth 100000
namespace Z
open PySem L2
theorem Rw.up {n m : Nat} {a b c d : Int} (h : Rw n a b c d) (l : n ≤ m) : Rw m a b c d := ⟨h.one, h.pos, szUp h.sq l, szUp h.sl l, szUp h.sm l, szUp h.sk l⟩
end Z
set_option Elab.async false
set_option linter.all false
set_option maxRecDepth 100000
namespace Z
open PySem L2
section
variable {X : Cx} {c : Cf} {pos : Pos}
/-- a, b, c = a list -/
def gL (n : Nat) (gs : Wgs) : Wg := fun d ev Q => match d with
  | .list ds => ds.length = n ∧ gs ds ev Q
  | _ => False
theorem dg_lst {vs : List Nat} {es : List Expr} {gs : Wgs} {n k : Nat} (hc : X.calm = true) (h : DGs X c vs es gs) (h1 : (assignEach es X.env).length = n := by rfl) (h2 : (assignEach es X.env).findIdx? (·.1) = none := by rfl) :
    DG X c vs (.Tuple es k pos) (gL n gs) := pgM (pg_unl (n := n) hc h h1 h2) fun v σ H Q ⟨M, ev, pd, d, R, k, w, q⟩ => by
  have t := k.top
  unfold gL at w
  split at w
  · cases t with
    | lst g1 g2 => exact ⟨_, _, rfl, sqL_up msk_sub g1, by rw [g2.len]; exact w.1, M, ev, pd, _, R, k.pop1.pushA g2, g2.len, w.2, q⟩
  · exact w.elim
end
section
variable {P : Program} {wd : World} {K : PySem.W.Frag} {mg : Str → Option Value} {base : Heap} {CX : CXT}
theorem fnG_ofD {x qual : Str} {params : Arguments} {bd : List Stmt} {scope : Scope} {dvs : List V} {kws : List (Str × V)} {f : Addr} {fd : FuncData} {N ps : List Str} {k : Nat} {sp : Sp} (F : FunD K x qual params bd scope dvs kws f fd) (S : FnScope N ps scope) (ar : ∀ vs H Q E, sp vs H Q E → vs.length = ps.length)
    (body : ∀ (cdv : Value) (A : Around) (outer : List Env) (s : Shared) (H : Hp) (vs : List V) (Q : VK) (E : XK), A.guards = some [] → Room k (A.deeper (PyProof.Rows.envOfC qual scope s.heap.objs.size f cdv)) → sp vs H Q E →
      ∃ t, PSs (cxOf CX P wd K mg base N qual scope f cdv A outer s H E) bd t ∧ t { nx := fun _ H' => Q .non H', rt := Q } (L2.start N vs) H) : FnG P wd K mg base CX (k + 1) f fd ps sp := by
  obtain ⟨oc, od, dV, kV, doc, pm, an, cdv, ct, osl, rfl, lk, hcd, _, _⟩ := F.ex
  constructor
  · exact ar
  intro A outer s H args us vs Q E hG hr e0 hb r hsp
  have inK : K.In s.heap := e0.mod.kin.keeps (fun b o q => (e0.bs b o q).1)
  have lim := e0.mod.nolimit.keeps (fun b o q => (e0.bs b o q).1)
  refine PySem.codeAny_call_function (hr.depth) (inK _ _ lk) rfl S.co S.gen rfl (PySem.W.codeRec_of inK hcd) (hb _ _ _ _ ?_)
  refine PySem.wpAny_newFunctionEnv_cells S.kind ?_ ?_
  · rintro ⟨n, v⟩ hy
    have m := (List.of_mem_zip hy).1
    cases S.par n m with
    | inl q => exact .inl q
    | inr q => exact .inr ⟨q, PySem.W.cellsFrom_some _ _ _ (.inl q)⟩
  · intro env he s1 x
    subst he
    refine ⟨lim.keeps x.toInCall.keep, PySem.codeAny_func ?_⟩
    obtain ⟨t, ht, hq⟩ := body cdv A outer s H vs Q E hG (hr.deeper _) hsp
    have I := inv_start (CX := CX) (E := E) S hr.hd e0 (ar _ _ _ _ hsp) r x
    refine wpAny_mono (ht.run [] s1 _ H _ I hq) ?_ ?_
    · intro fl s' hs
      cases fl with
      | next =>
        obtain ⟨σ', H', J, q⟩ := hs
        exact ⟨V.non, H', J.os, J.bare, J.base, J.hok, rfl, q⟩
      | ret u =>
        obtain ⟨v, σ', H', J, rv, q⟩ := hs
        exact ⟨v, H', J.os, J.bare, J.base, J.hok, rv, q⟩
      | brk => obtain ⟨_, _, _, q⟩ := hs; exact q.elim
      | cont => obtain ⟨_, _, _, q⟩ := hs; exact q.elim
    · intro e s' hs
      exact hs
theorem okPD {x qual : Str} {params : Arguments} {bd : List Stmt} {scope : Scope} {dvs : List V} {kws : List (Str × V)} {f : Addr} {fd : FuncData} {N ps : List Str} {k n m : Nat} {C : Cp} {w : Ws} (F : FunD K x qual params bd scope dvs kws f fd) (S : FnScope N ps scope) (hn : ps.length = n) (hN : N.length = n + m)
    (body : ∀ (c : Cf) (cdv : Value) (A : Around) (outer : List Env) (s : Shared) (H : Hp) (E : XK), A.guards = some [] → Room k (A.deeper (PyProof.Rows.envOfC qual scope s.heap.objs.size f cdv)) → DSs (cxOf CX0 P wd K mg base N qual scope f cdv A outer s H E).nox c bd w)
    (sem : ∀ ds R, C ds R → ds.length = n → w (edP R) (ev0 m ds)) : FnG P wd K mg base CX0 (k + 1) f fd ps (spP K n C) := by
  refine fnG_ofD F S (fun vs H Q E h => ?_) (fun cdv A outer s H vs Q E hG hr h => ?_)
  · obtain ⟨_, _, _, l, _⟩ := h
    rw [l, hn]
  · obtain ⟨Mk, ds, R, l, mk, ra, hC, q⟩ := h
    refine ⟨_, (body ⟨H, fun _ => false, Mk⟩ cdv A outer s H E hG hr).nox, Mk, ev0 m ds, [], edP R, ⟨?_, fun i d e => ?_, fun i es e => ?_, fun i j a es fs e => ?_, fun p hp => (by cases hp), fun b o e _ => e, fun a e => e, mk.dom, mk.dom, mk.lk, fun a e => (by cases e)⟩, sem ds R hC (by rw [← ra.len, l]), ?_⟩
    · simp only [L2.start, ev0, List.length_append, List.length_map, List.length_replicate, hN, ← ra.len, l]
      omega
    · obtain ⟨d', z, e⟩ := ev0_get e
      cases z
      obtain ⟨v, y1, y2⟩ := ra.get i e
      exact ⟨v, start_get y1, y2⟩
    · obtain ⟨d', z, e⟩ := ev0_get e
      cases z
    · obtain ⟨d', z, e⟩ := ev0_get e
      cases z
    · exact ⟨fun ev' h M' σ' H' k' => q _ h _ _ (fun b o e => k'.frame b o e rfl) .non, fun d ev' h M' σ' v H' k' r => q _ h _ _ (fun b o e => k'.frame b o e rfl) r, fun ev' h => h.elim, fun ev' h => h.elim, fun ds ev' h M' σ' p vs H' k' z1 z2 r => q _ h _ _ (fun b o e => k'.frame b o e rfl) (.lst (sq_lst (msk_of z2 (by
          by_cases z : (Mk p).1 = 0
          · exact z
          · obtain ⟨o, y⟩ := mk.dom p z
            rw [show H p = none from z1] at y
            cases y))) r)⟩
/-- a def that may be called with its last parameters left to their defaults dd -/
structure ClD (P : Program) (wd : World) (K : PySem.W.Frag) (mg : Str → Option Value) (base : Heap) (k : Nat) (x : Str) (ps : List Str) (dd : List PyData) (sp : Sp) : Prop where
  ex : ∃ f fd dvs ds, mg x = some (.ref f) ∧ PySem.W.keepIn K (.ref f) = true ∧ Binds K fd ps ds ∧ Vals dvs ds ∧ (∀ H, DzAll K H dvs dd) ∧ FnG P wd K mg base CX0 k f fd ps sp
end
section
variable {X : Cx} {c : Cf} {k kg n : Nat} {x : Str} {ps : List Str} {p pos : Pos} {e : Expr} {es : List Expr} {u : Wa}
theorem pe_cGD {f : Addr} {fd : FuncData} {dvs : List V} {dl : List Value} {sp : Sp} {t : TA} (hm : X.mg x = some (.ref f)) (hkp : PySem.W.keepIn X.K (.ref f) = true) (hb : Binds X.K fd ps dl) (hv : Vals dvs dl) (F : FnG X.prog X.w X.K X.mg X.base CX0 kg f fd ps sp) (hk : kg ≤ k) (hr : Room k X.A) (hG : X.A.guards = some []) (hg : Gl X x) (ha : PA X (e :: es) t) (h2 : (x == ("__debug__" : Str)) = false) (h3 : starEach (e :: es) X.env = (false, eval e X.env) :: starEach es X.env) (h4 : (backTo pos (starEach es X.env)).any (·.1) = false) :
    PE X (.Call (.Name x p) (e :: es) [] pos) (fun σ H Q => t σ H fun vs H1 => sp (vs ++ dvs) H1 Q E0) := by
  constructor
  intro pins s σ H Q I h
  apply wpAny_Call_Name_kw
  apply ld_glob I hg hm _ h2
  refine PySem.W.callWith_K (h₀ := X.base) I.ok.mod.kin hkp (thn (ha.run pos pins s σ H _ I h) ?_) h3 h4
  rintro us s1 ⟨vs, H1, I1, r, q⟩
  refine ⟨I1.kIn, ?_⟩
  have ar := F.ar _ _ _ _ q
  have b := hb s1 us I1.kIn (by rw [List.length_append, ← r.length, ← hv.length, ← List.length_append, ar])
  exact callG (args := ⟨us, []⟩) (us := us) (kw := []) (runG F hk hr hG I1 b (r.append hv) q)
theorem DzAll.app2 {K : PySem.W.Frag} {H : Hp} : ∀ {vs us : List V} {ds es : List PyData}, DzAll K H vs ds → DzAll K H us es → DzAll K H (vs ++ us) (ds ++ es)
  | _, _, _, _, .nil, b => b
  | _, _, _, _, .cons a r, b => .cons a (DzAll.app2 r b)
def dFnD (n : Nat) (dd : List PyData) (C : Cp) (u : Wa) : Wx := fun ev Q => u ev fun ds e => (ds ++ dd).length = n ∧ C (ds ++ dd) fun d => Q d e
theorem de_fnD {C : Cp} {dd : List PyData} (F : ClD X.prog X.w X.K X.mg X.base kg x ps dd (spP X.K n C)) (hk : kg ≤ k) (hr : Room k X.A) (hG : X.A.guards = some []) (hg : Gl X x) (ha : DA X c (e :: es) u) (h2 : (x == ("__debug__" : Str)) = false := by decide) (h3 : starEach (e :: es) X.env = (false, eval e X.env) :: starEach es X.env := by rfl) (h4 : (backTo pos (starEach es X.env)).any (·.1) = false := by rfl) :
    DE X c (.Call (.Name x p) (e :: es) [] pos) (dFnD n dd C u) := by
  obtain ⟨f, fd, dvs, dl, hm, hkp, hb, hv, hd, F⟩ := F.ex
  exact peM (pe_cGD hm hkp hb hv F hk hr hG hg ha h2 h3 h4) fun σ H Q ⟨M, ev, pd, R, k, w, q⟩ =>
    ⟨M, ev, pd, _, k, w, fun ds e ⟨l, h1⟩ vs H1 k1 r => ⟨M, ds ++ dd, _, by rw [List.length_append, r.len, (hd H1).len, ← List.length_append, l], k1.mkOk, r.app2 (hd _), h1, fun d hd v H' g z => q d e hd v H' ((k1.grow g).push z)⟩⟩
end
section
variable {K : PySem.W.Frag}
theorem funD_mk {x qual : Str} {st : Stmt} {f T : Addr} {oc : Value} {od an : Option Addr} {osl : Array (Option Value)} {kV doc pm cdv ct : Value} {o : Obj} {its : List Value} {n : Nat} {dvs : List V} (l : K.lookup f = some ⟨oc, od, .func (PySem.W.fnOf x qual (defArgs st) (defBody st) (defScope st) (.ref T) kV doc pm an cdv ct), osl⟩)
    (c : PySem.W.codeIn K cdv qual = true) (k : PySem.W.keepIn K (.ref f) = true) (lT : K.lookup T = some o) (oT : o.data = .seq its.toArray n) (r : Vals dvs its) (hd : dvs ≠ []) : FunD K x qual (defArgs st) (defBody st) (defScope st) dvs [] f (PySem.W.fnOf x qual (defArgs st) (defBody st) (defScope st) (.ref T) kV doc pm an cdv ct) :=
  ⟨⟨oc, od, _, kV, doc, pm, an, cdv, ct, osl, rfl, l, c, .inr ⟨hd, T, o, its, n, rfl, lT, oT, r⟩, .inl rfl⟩, k⟩
theorem dd_tup {a : Addr} {od : Option Addr} {its : Array Value} {n : Nat} {sl : Array (Option Value)} {vs : List V} {ds : List PyData} (hl : K.lookup a = some ⟨.type "tuple", od, .seq its n, sl⟩) (hz : its.size ≤ 1000) (hd : ∀ H, DzAll K H vs ds) (hv : Vals vs its.toList) :
    ∀ H, DzAll K H [.ref a] [.tuple ds] := fun H => .cons (.tup (.inr ⟨_, its, n, hl, rfl, rfl, line_of hz, hv⟩) (hd H)) .nil
theorem bindsFull {x qual : Str} {params : Arguments} {body : List Stmt} {scope : Scope} {dvs : List V} {f : Addr} {fd : FuncData} {ps : List Str} (F : FunD K x qual params body scope dvs [] f fd) (n : Nat) (hd : dvs ≠ []) (hn : n = ps.length)
    (h : ∀ (T : Addr) (kV doc pm : Value) (an : Option Addr) (cdv ct : Value) (us its : List Value), us.length = n → its.length = dvs.length →
      ∃ k, bindArgs (PySem.W.fnOf x qual params body scope (.ref T) kV doc pm an cdv ct) ⟨us, []⟩ = seqItems? (.ref T) >>= k ∧ k (some its.toArray) = pure (ps.zip (us ++ its.drop dvs.length))) : Binds K fd ps [] := by
  obtain ⟨ds, r, b⟩ := F.binds1 n dvs.length hd (by omega) h
  rw [List.drop_length] at r
  cases r
  exact b
end
end Z
set_option Elab.async false
set_option linter.all false
set_option maxRecDepth 100000
namespace Z
open PySem L2
def ga (p q : G) : G := (p.1 + q.1, p.2 + q.2)
def gu (p q : G) : G := (p.1 - q.1, p.2 - q.2)
def gn (p : G) : G := (-p.1, -p.2)
def gj (p : G) : G := (p.1, -p.2)
def gt (p : G) : G := (-p.2, p.1)
/-- four numbers as data -/
abbrev q4 (a b c d : G) : PyData := .tuple [cd a, cd b, cd c, cd d]
/-- a map as data -/
abbrev mp (f : Int) (a b c d : G) : PyData := .tuple [.int f, cd a, cd b, cd c, cd d]
def dtm (a b c d : G) : G := gu (gm a d) (gm b c)
/-- n bits hold each of the four numbers -/
structure S4 (n : Nat) (a b c d : G) : Prop where
  a1 : Sz n a.1
  a2 : Sz n a.2
  b1 : Sz n b.1
  b2 : Sz n b.2
  c1 : Sz n c.1
  c2 : Sz n c.2
  d1 : Sz n d.1
  d2 : Sz n d.2
def isQ (p : G) : Prop := 0 < p.1 ∧ 0 ≤ p.2
instance (p : G) : Decidable (isQ p) := inferInstanceAs (Decidable (_ ∧ _))
/-- the number that says how a map is turned -/
def led (a b : G) : G := if a ≠ (0, 0) then a else b
/-- the form of a map's numbers -/
structure Fm (n : Nat) (a b c d : G) : Prop where
  sz : S4 n a b c d
  gc : GC [a, b, c, d] (1, 0)
  dt : dtm a b c d ≠ (0, 0)
  qt : isQ (led a b)
theorem gm_gt (g p : G) : gm g (gt p) = gm (gt g) p := Prod.ext (by simp only [gm, gt]; grind) (by simp only [gm, gt]; grind)
theorem gt_ne {p : G} (h : p ≠ (0, 0)) : gt p ≠ (0, 0) := fun z => h (Prod.ext (by have := congrArg Prod.snd z; exact this) (by have := congrArg Prod.fst z; simp only [gt] at this; show p.2 = 0; omega))
theorem gt_4 (p : G) : gt (gt (gt (gt p))) = p := Prod.ext (by simp only [gt]; omega) (by simp only [gt]; omega)
theorem led_gt (a b : G) : led (gt a) (gt b) = gt (led a b) := by
  unfold led
  by_cases z : a = (0, 0)
  · have z' : gt a = (0, 0) := by rw [z]; rfl
    rw [if_neg (fun n => n z'), if_neg (fun n => n z)]
  · rw [if_pos z, if_pos (gt_ne z)]
theorem ngS {n : Nat} {x : Int} (h : Sz n x) : Sz n (-x) := sz_neg
theorem S4.gt {n : Nat} {a b c d : G} (h : S4 n a b c d) : S4 n (gt a) (gt b) (gt c) (gt d) :=
  ⟨ngS h.a2, h.a1, ngS h.b2, h.b1, ngS h.c2, h.c1, ngS h.d2, h.d1⟩
theorem gt_gmR (p : G) : gt p = gm p (0, 1) := Prod.ext (by simp only [gm, gt]; grind) (by simp only [gm, gt]; grind)
theorem gt_back (p : G) : p = gm (gt p) (0, -1) := Prod.ext (by simp only [gm, gt]; grind) (by simp only [gm, gt]; grind)
theorem gdv_gt {d p : G} : gdv d (gt p) ↔ gdv d p := ⟨fun h => by rw [gt_back p]; exact gdv_trans h ⟨_, rfl⟩, fun h => by rw [gt_gmR]; exact gdv_trans h ⟨_, rfl⟩⟩
theorem al4 {d a b c e : G} : (∀ n ∈ [a, b, c, e], gdv d n) ↔ (gdv d a ∧ gdv d b ∧ gdv d c ∧ gdv d e) := ⟨fun h => ⟨h _ (by simp), h _ (by simp), h _ (by simp), h _ (by simp)⟩, fun h n hn => by
  rcases List.mem_cons.mp hn with e | hn
  · rw [e]; exact h.1
  rcases List.mem_cons.mp hn with e | hn
  · rw [e]; exact h.2.1
  rcases List.mem_cons.mp hn with e | hn
  · rw [e]; exact h.2.2.1
  · rw [List.mem_singleton.mp hn]; exact h.2.2.2⟩
theorem GC.gt {a b c e g : G} (h : GC [a, b, c, e] g) : GC [Z.gt a, Z.gt b, Z.gt c, Z.gt e] g := h.same fun d => by
  rw [al4, al4, gdv_gt, gdv_gt, gdv_gt, gdv_gt]
theorem dtm_gt (a b c d : G) : dtm (gt a) (gt b) (gt c) (gt d) = gn (dtm a b c d) := Prod.ext (by simp only [dtm, gu, gm, gt, gn]; grind) (by simp only [dtm, gu, gm, gt, gn]; grind)
theorem gn_ne {p : G} (h : p ≠ (0, 0)) : gn p ≠ (0, 0) := fun z => h (Prod.ext (by have := congrArg Prod.fst z; simp only [gn] at this; show p.1 = 0; omega) (by have := congrArg Prod.snd z; simp only [gn] at this; show p.2 = 0; omega))
/-- what is left of four numbers once their divisor is taken out -/
theorem GC.quot {a b c d m g x y z w : G} (h : GC [a, b, c, d, m] g) (hm : ∀ k, gdv k a → gdv k b → gdv k c → gdv k d → gdv k m) (hg : g ≠ (0, 0)) (ha : a = gm g x) (hb : b = gm g y) (hc : c = gm g z) (hd : d = gm g w) : GC [x, y, z, w] (1, 0) := by
  refine ⟨fun n _ => ⟨n, by rw [gm_comm, gm_one]⟩, fun k q => ?_⟩
  obtain ⟨qx, qy, qz, qw⟩ := al4.mp q
  have st : ∀ {u v : G}, u = gm g v → gdv k v → gdv (gm g k) u := fun e h => by
    obtain ⟨r, h⟩ := h
    exact ⟨r, by rw [e, h, gm_assoc]⟩
  have e := h.big (gm g k) fun n hn => by
    have da := st ha qx
    have db := st hb qy
    have dc := st hc qz
    have dd := st hd qw
    rcases List.mem_cons.mp hn with e | hn
    · rw [e]; exact da
    rcases List.mem_cons.mp hn with e | hn
    · rw [e]; exact db
    rcases List.mem_cons.mp hn with e | hn
    · rw [e]; exact dc
    rcases List.mem_cons.mp hn with e | hn
    · rw [e]; exact dd
    · rw [List.mem_singleton.mp hn]; exact hm _ da db dc dd
  obtain ⟨r, e⟩ := e
  rw [gm_assoc] at e
  exact ⟨r, gm_cancel hg (by rw [gm_one]; exact e)⟩
theorem dtm_gm (g a b c d : G) : dtm (gm g a) (gm g b) (gm g c) (gm g d) = gm (gm g g) (dtm a b c d) := Prod.ext (by simp only [dtm, gu, gm]; grind) (by simp only [dtm, gu, gm]; grind)
theorem xq_gm {a b c d : Int} {p : G} (hz : (c, d) ≠ ((0, 0) : G)) (h : ((a, b) : G) = gm (c, d) p) : xq a b c d = some p := by
  have ea : a = c * p.1 - d * p.2 := congrArg Prod.fst h
  have eb : b = c * p.2 + d * p.1 := congrArg Prod.snd h
  have n1 : 0 < c * c + d * d := nm_pos hz
  have n : c * c + d * d ≠ 0 := by omega
  have e1 : a * c - b * -d = (c * c + d * d) * p.1 := by rw [ea, eb]; grind
  have e2 : a * -d + b * c = (c * c + d * d) * p.2 := by rw [ea, eb]; grind
  unfold xq
  rw [if_neg n, e1, e2, if_pos ⟨Int.mul_emod_right _ _, Int.mul_emod_right _ _⟩, Int.mul_ediv_cancel_left _ n, Int.mul_ediv_cancel_left _ n]
/-- a factor is no longer than its product -/
theorem sz_fac {n : Nat} {g p : G} (hg : g ≠ (0, 0)) {q : G} (e : q = gm g p) (h1 : Sz n q.1) (h2 : Sz n q.2) : Sz (n + 1) p.1 ∧ Sz (n + 1) p.2 := by
  have a : nm q = nm g * nm p := by rw [e, nm_mul]
  have b : 0 < nm g := nm_pos hg
  have c : 0 ≤ nm p := nm_nn p
  have d : nm p ≤ nm q := by
    rw [a]
    have := Int.mul_le_mul_of_nonneg_right (show 1 ≤ nm g from b) c
    omega
  have k1 : 2 * (p.1 * p.1) ≤ (2 * q.1) * (2 * q.1) + (2 * q.2) * (2 * q.2) := by
    simp only [nm] at d
    have := nrm0 p.2 0
    have := nrm0 q.1 0
    have := nrm0 q.2 0
    grind
  have k2 : 2 * (p.2 * p.2) ≤ (2 * q.1) * (2 * q.1) + (2 * q.2) * (2 * q.2) := by
    simp only [nm] at d
    have := nrm0 p.1 0
    have := nrm0 q.1 0
    have := nrm0 q.2 0
    grind
  have t1 : Sz (n + 1) (2 * q.1) := ⟨by have := h1.lt; rw [Nat.pow_succ]; omega⟩
  have t2 : Sz (n + 1) (2 * q.2) := ⟨by have := h2.lt; rw [Nat.pow_succ]; omega⟩
  exact ⟨sz_sq k1 t1 t2, sz_sq k2 t1 t2⟩
end Z
set_option Elab.async false
set_option linter.all false
set_option maxRecDepth 100000
namespace Z
open PySem L2
theorem gc_ex2 : ∀ (k : Nat) (a b : G), (nm b).toNat ≤ k → ∃ h, GC [a, b] h
  | 0, a, b, hk => by
    have h0 := nm_nn b
    have e : b = (0, 0) := nm_zero (by omega)
    exact ⟨a, by rw [e]; exact GC.zero a⟩
  | k + 1, a, b, hk => by
    by_cases e : b = (0, 0)
    · exact ⟨a, by rw [e]; exact GC.zero a⟩
    · have np : 0 < b.1 * b.1 + b.2 * b.2 := nm_pos e
      have r := rest_nm (a := a.1) (b := a.2) (c := b.1) (d := b.2) np
      have hb : nm b = b.1 * b.1 + b.2 * b.2 := rfl
      obtain ⟨h, g⟩ := gc_ex2 k b (les (a.1, a.2) ((2 * (a.1 * b.1 - a.2 * -b.2) + (b.1 * b.1 + b.2 * b.2)) / (2 * (b.1 * b.1 + b.2 * b.2)), (2 * (a.1 * -b.2 + a.2 * b.1) + (b.1 * b.1 + b.2 * b.2)) / (2 * (b.1 * b.1 + b.2 * b.2))) (b.1, b.2)) (by
        have nn := nm_nn (les (a.1, a.2) ((2 * (a.1 * b.1 - a.2 * -b.2) + (b.1 * b.1 + b.2 * b.2)) / (2 * (b.1 * b.1 + b.2 * b.2)), (2 * (a.1 * -b.2 + a.2 * b.1) + (b.1 * b.1 + b.2 * b.2)) / (2 * (b.1 * b.1 + b.2 * b.2))) (b.1, b.2))
        omega)
      exact ⟨h, GC.step g⟩
theorem gc_ex : ∀ ns : List G, ∃ g, GC ns.reverse g
  | [] => ⟨_, GC.nil⟩
  | n :: ns => by
    obtain ⟨g, h⟩ := gc_ex ns
    obtain ⟨k, hk⟩ := gc_ex2 _ g n (Nat.le_refl _)
    exact ⟨k, by rw [List.reverse_cons]; exact h.snoc hk⟩
theorem gc_ex' (ns : List G) : ∃ g, GC ns g := by
  obtain ⟨g, h⟩ := gc_ex ns.reverse
  exact ⟨g, by rw [List.reverse_reverse] at h; exact h⟩
theorem gm_nz {g x : G} (hg : g ≠ (0, 0)) : gm g x = (0, 0) ↔ x = (0, 0) := ⟨fun h => gm_cancel hg (by rw [h, gm_zero]), fun h => by rw [h, gm_zero]⟩
theorem isQ_unit {l u : G} (hu : nm u = 1) (h : isQ l) (h2 : isQ (gm u l)) : u = (1, 0) := by
  unfold isQ gm at *
  rcases unit_of hu with e | e | e | e
  · exact e
  all_goals (subst e; simp only at *; omega)
theorem led_gm {g x y : G} (hg : g ≠ (0, 0)) : led (gm g x) (gm g y) = gm g (led x y) := by
  unfold led
  by_cases z : x = (0, 0)
  · rw [if_neg (fun n => n ((gm_nz hg).mpr z)), if_neg (fun n => n z)]
  · rw [if_pos (fun n => z ((gm_nz hg).mp n)), if_pos z]
/-- factors out of both make the same numbers only if the forms are the same -/
theorem Fm.uniq {n m : Nat} {x y z w x' y' z' w' g h : G} (F : Fm n x y z w) (F' : Fm m x' y' z' w') (hg : g ≠ (0, 0)) (hh : h ≠ (0, 0)) (e1 : gm g x = gm h x') (e2 : gm g y = gm h y') (e3 : gm g z = gm h z') (e4 : gm g w = gm h w') : x = x' ∧ y = y' ∧ z = z' ∧ w = w' := by
  obtain ⟨D, hD⟩ := gc_ex' ([x, y, z, w].map (gm g))
  have a1 := F.gc.longer hg hD
  have hD' : GC ([x', y', z', w'].map (gm h)) D := by
    have : [x, y, z, w].map (gm g) = [x', y', z', w'].map (gm h) := by
      show [gm g x, gm g y, gm g z, gm g w] = [gm h x', gm h y', gm h z', gm h w']
      rw [e1, e2, e3, e4]
    rw [← this]
    exact hD
  have a2 := F'.gc.longer hh hD'
  rw [gm_one] at a1 a2
  have a := as_trans a1 (as_symm a2)
  obtain ⟨⟨r, hr⟩, ⟨s, hs⟩⟩ := a
  -- h = g r, g = h s
  have u1 : nm r = 1 := by
    have t : gm g (gm r s) = gm g (1, 0) := by rw [← gm_assoc, ← hr, ← hs, gm_one]
    have t2 := gm_cancel hg t
    have t3 : nm r * nm s = 1 := by rw [← nm_mul, t2]; rfl
    have := nm_nn r
    have := nm_nn s
    rcases Int.lt_or_le (nm r) 2 with p | p
    · rcases Int.lt_or_le (nm r) 1 with q | q
      · have : nm r = 0 := by omega
        rw [this, Int.zero_mul] at t3
        cases t3
      · omega
    · rcases Int.lt_or_le (nm s) 1 with q | q
      · have : nm s = 0 := by omega
        rw [this, Int.mul_zero] at t3
        cases t3
      · have := Int.mul_le_mul p q (by decide) (by omega)
        omega
  have st : ∀ {u v : G}, gm g u = gm h v → u = gm r v := fun e => gm_cancel hg (by rw [e, hr, gm_assoc])
  have r1 : r = (1, 0) := isQ_unit u1 F'.qt (by
    have q := F.qt
    rw [st e1, st e2, led_gm (fun z => by rw [z] at u1; cases u1)] at q
    exact q)
  have fin : ∀ {u v : G}, gm g u = gm h v → u = v := fun e => by rw [st e, r1, gm_comm, gm_one]
  exact ⟨fin e1, fin e2, fin e3, fin e4⟩
end Z
set_option Elab.async false
set_option linter.all false
set_option maxRecDepth 100000
namespace Z
open PySem L2
def m1 (a b e g : G) : G := ga (gm a e) (gm b g)
/-- a number as a map of the hand f reads it -/
def cj (f : Int) (p : G) : G := if f = 1 then gj p else p
theorem gj_ne {p : G} (h : p ≠ (0, 0)) : gj p ≠ (0, 0) := fun z => h (Prod.ext (by have := congrArg Prod.fst z; exact this) (by have := congrArg Prod.snd z; simp only [gj] at this; show p.2 = 0; omega))
theorem gj_gj (p : G) : gj (gj p) = p := Prod.ext rfl (by simp only [gj]; omega)
theorem gj_gm (p q : G) : gj (gm p q) = gm (gj p) (gj q) := Prod.ext (by simp only [gm, gj]; grind) (by simp only [gm, gj]; grind)
theorem gj_ga (p q : G) : gj (ga p q) = ga (gj p) (gj q) := Prod.ext (by simp only [ga, gj]) (by simp only [ga, gj]; omega)
theorem dtm_gj (a b c d : G) : dtm (gj a) (gj b) (gj c) (gj d) = gj (dtm a b c d) := Prod.ext (by simp only [dtm, gu, gm, gj]; grind) (by simp only [dtm, gu, gm, gj]; grind)
theorem cj_cj (f : Int) (p : G) : cj f (cj f p) = p := by
  unfold cj
  by_cases h : f = 1
  · rw [if_pos h, if_pos h, gj_gj]
  · rw [if_neg h, if_neg h]
theorem cj_gm (f : Int) (p q : G) : cj f (gm p q) = gm (cj f p) (cj f q) := by
  unfold cj
  by_cases h : f = 1
  · rw [if_pos h, if_pos h, if_pos h, gj_gm]
  · rw [if_neg h, if_neg h, if_neg h]
theorem cj_ga (f : Int) (p q : G) : cj f (ga p q) = ga (cj f p) (cj f q) := by
  unfold cj
  by_cases h : f = 1
  · rw [if_pos h, if_pos h, if_pos h, gj_ga]
  · rw [if_neg h, if_neg h, if_neg h]
theorem cj_ne {f : Int} {p : G} (h : p ≠ (0, 0)) : cj f p ≠ (0, 0) := by
  unfold cj
  by_cases z : f = 1
  · rw [if_pos z]; exact gj_ne h
  · rw [if_neg z]; exact h
theorem dtm_cj (f : Int) (a b c d : G) : dtm (cj f a) (cj f b) (cj f c) (cj f d) = cj f (dtm a b c d) := by
  unfold cj
  by_cases z : f = 1
  · rw [if_pos z, if_pos z, if_pos z, if_pos z, if_pos z, dtm_gj]
  · rw [if_neg z, if_neg z, if_neg z, if_neg z, if_neg z]
theorem gj_sz {n : Nat} {p : G} (h1 : Sz n p.1) (h2 : Sz n p.2) : Sz n (gj p).1 ∧ Sz n (gj p).2 := ⟨h1, sz_neg⟩
theorem cj_sz {n : Nat} {f : Int} {p : G} (h1 : Sz n p.1) (h2 : Sz n p.2) : Sz n (cj f p).1 ∧ Sz n (cj f p).2 := by
  unfold cj
  by_cases z : f = 1
  · rw [if_pos z]; exact gj_sz h1 h2
  · rw [if_neg z]; exact ⟨h1, h2⟩
theorem S4.cj {n : Nat} {f : Int} {a b c d : G} (s : S4 n a b c d) : S4 n (Z.cj f a) (Z.cj f b) (Z.cj f c) (Z.cj f d) :=
  ⟨(cj_sz s.a1 s.a2).1, (cj_sz s.a1 s.a2).2, (cj_sz s.b1 s.b2).1, (cj_sz s.b1 s.b2).2, (cj_sz s.c1 s.c2).1, (cj_sz s.c1 s.c2).2, (cj_sz s.d1 s.d2).1, (cj_sz s.d1 s.d2).2⟩
theorem S4.up {n m : Nat} {a b c d : G} (s : S4 n a b c d) (h : n ≤ m) : S4 m a b c d := ⟨szUp s.a1 h, szUp s.a2 h, szUp s.b1 h, szUp s.b2 h, szUp s.c1 h, szUp s.c2 h, szUp s.d1 h, szUp s.d2 h⟩
theorem S4.adj {n : Nat} {a b c d : G} (s : S4 n a b c d) : S4 n d (gn b) (gn c) a := ⟨s.d1, s.d2, ngS s.b1, ngS s.b2, ngS s.c1, ngS s.c2, s.a1, s.a2⟩
theorem Fm.up {n m : Nat} {a b c d : G} (s : Fm n a b c d) (h : n ≤ m) : Fm m a b c d := ⟨s.sz.up h, s.gc, s.dt, s.qt⟩
theorem m1_sz {n : Nat} {a b e g : G} (a1 : Sz n a.1) (a2 : Sz n a.2) (b1 : Sz n b.1) (b2 : Sz n b.2) (e1 : Sz n e.1) (e2 : Sz n e.2) (g1 : Sz n g.1) (g2 : Sz n g.2) : Sz (2 * n + 2) (m1 a b e g).1 ∧ Sz (2 * n + 2) (m1 a b e g).2 := by
  have h : max (max (n + n) (n + n) + 1) (max (n + n) (n + n) + 1) + 1 ≤ 2 * n + 2 := by omega
  exact ⟨szUp (inferInstance : Sz _ ((a.1 * e.1 - a.2 * e.2) + (b.1 * g.1 - b.2 * g.2))) h, szUp (inferInstance : Sz _ ((a.1 * e.2 + a.2 * e.1) + (b.1 * g.2 + b.2 * g.1))) h⟩
theorem S4.mul {n : Nat} {a b c d e f g h : G} (s : S4 n a b c d) (t : S4 n e f g h) : S4 (2 * n + 2) (m1 a b e g) (m1 a b f h) (m1 c d e g) (m1 c d f h) := by
  have k1 := m1_sz s.a1 s.a2 s.b1 s.b2 t.a1 t.a2 t.c1 t.c2
  have k2 := m1_sz s.a1 s.a2 s.b1 s.b2 t.b1 t.b2 t.d1 t.d2
  have k3 := m1_sz s.c1 s.c2 s.d1 s.d2 t.a1 t.a2 t.c1 t.c2
  have k4 := m1_sz s.c1 s.c2 s.d1 s.d2 t.b1 t.b2 t.d1 t.d2
  exact ⟨k1.1, k1.2, k2.1, k2.2, k3.1, k3.2, k4.1, k4.2⟩
theorem dtm_sz {n : Nat} {a b c d : G} (s : S4 n a b c d) : Sz (2 * n + 2) (dtm a b c d).1 ∧ Sz (2 * n + 2) (dtm a b c d).2 := by
  have h : max (max (n + n) (n + n) + 1) (max (n + n) (n + n) + 1) + 1 ≤ 2 * n + 2 := by omega
  obtain ⟨_, _, _, _, _, _, _, _⟩ := s
  exact ⟨szUp (inferInstance : Sz _ ((a.1 * d.1 - a.2 * d.2) - (b.1 * c.1 - b.2 * c.2))) h, szUp (inferInstance : Sz _ ((a.1 * d.2 + a.2 * d.1) - (b.1 * c.2 + b.2 * c.1))) h⟩
theorem dtm_mul (a b c d e f g h : G) : dtm (m1 a b e g) (m1 a b f h) (m1 c d e g) (m1 c d f h) = gm (dtm a b c d) (dtm e f g h) := Prod.ext (by simp only [dtm, gu, gm, m1, ga]; grind) (by simp only [dtm, gu, gm, m1, ga]; grind)
theorem gm_ne0 {p q : G} (hp : p ≠ (0, 0)) (hq : q ≠ (0, 0)) : gm p q ≠ (0, 0) := fun z => hq ((gm_nz hp).mp z)
/-- what divides all multiples of numbers without a common divisor divides the factor -/
theorem GC.fac {ns : List G} {k D : G} (h : GC ns (1, 0)) (q : ∀ n ∈ ns, gdv k (gm D n)) : gdv k D := by
  by_cases z : D = (0, 0)
  · rw [z]; exact gdv_zero k
  obtain ⟨g, hg⟩ := gc_ex' (ns.map (gm D))
  have a := h.longer z hg
  rw [gm_one] at a
  exact gdv_trans (hg.big k fun m hm => by
    obtain ⟨n, hn, rfl⟩ := List.mem_map.mp hm
    exact q n hn) a.2
theorem adj1 (a b e f g h : G) : gu (gm (m1 a b e g) h) (gm (m1 a b f h) g) = gm (dtm e f g h) a := Prod.ext (by simp only [dtm, gu, gm, m1, ga]; grind) (by simp only [dtm, gu, gm, m1, ga]; grind)
theorem adj2 (a b e f g h : G) : gu (gm (m1 a b f h) e) (gm (m1 a b e g) f) = gm (dtm e f g h) b := Prod.ext (by simp only [dtm, gu, gm, m1, ga]; grind) (by simp only [dtm, gu, gm, m1, ga]; grind)
theorem gdv_gmR {k p : G} (h : gdv k p) (q : G) : gdv k (gm p q) := gdv_trans h ⟨q, rfl⟩
/-- a common divisor of a product of maps divides the determinant behind -/
theorem gdv_det {n : Nat} {a b c d e f g h k : G} (F : Fm n a b c d) (h1 : gdv k (m1 a b e g)) (h2 : gdv k (m1 a b f h)) (h3 : gdv k (m1 c d e g)) (h4 : gdv k (m1 c d f h)) : gdv k (dtm e f g h) :=
  F.gc.fac fun n hn => by
    rcases List.mem_cons.mp hn with e | hn
    · rw [e, ← adj1]; exact gdv_sub (gdv_gmR h1 _) (gdv_gmR h2 _)
    rcases List.mem_cons.mp hn with e | hn
    · rw [e, ← adj2]; exact gdv_sub (gdv_gmR h2 _) (gdv_gmR h1 _)
    rcases List.mem_cons.mp hn with e | hn
    · rw [e, ← adj1]; exact gdv_sub (gdv_gmR h3 _) (gdv_gmR h4 _)
    · rw [List.mem_singleton.mp hn, ← adj2]; exact gdv_sub (gdv_gmR h4 _) (gdv_gmR h3 _)
/-- a, b, c = a list or a tuple -/
def gA (n : Nat) (gs : Wgs) : Wg := fun d ev Q => gL n gs d ev Q ∨ gT n gs d ev Q
theorem pg_or {X : Cx} {e : Expr} {a b : TG} (p : PG X e a) (q : PG X e b) : PG X e (fun v σ H Q => a v σ H Q ∨ b v σ H Q) := ⟨fun pins s σ H v u Q I r h => h.elim (p.run pins s σ H v u Q I r) (q.run pins s σ H v u Q I r)⟩
theorem dg_any {X : Cx} {c : Cf} {pos : Pos} {vs : List Nat} {es : List Expr} {gs : Wgs} {n k : Nat} (hc : X.calm = true) (h : DGs X c vs es gs) (h1 : (assignEach es X.env).length = n := by rfl) (h2 : (assignEach es X.env).findIdx? (·.1) = none := by rfl) :
    DG X c vs (.Tuple es k pos) (gA n gs) := pgM (pg_or (dg_lst hc h h1 h2) (dg_tup hc h h1 h2)) fun v σ H Q ⟨M, ev, pd, d, R, k, w, q⟩ => w.elim (fun w => .inl ⟨M, ev, pd, d, R, k, w, q⟩) (fun w => .inr ⟨M, ev, pd, d, R, k, w, q⟩)
end Z
set_option Elab.async false
set_option linter.all false
set_option maxRecDepth 100000
namespace Z
open PySem L2
def tk : Nat → G → G
  | 0, p => p
  | k + 1, p => gt (tk k p)
theorem tk_unit : ∀ k : Nat, k ≤ 3 → ∃ u : G, (∀ x, gm x u = tk k x) ∧ Sz 1 u.1 ∧ Sz 1 u.2
  | 0, _ => ⟨(1, 0), fun x => by rw [gm_one]; rfl, ⟨by decide⟩, ⟨by decide⟩⟩
  | 1, _ => ⟨(0, 1), fun x => (gt_gmR x).symm, ⟨by decide⟩, ⟨by decide⟩⟩
  | 2, _ => ⟨(-1, 0), fun x => Prod.ext (by simp only [gm, tk, gt]; grind) (by simp only [gm, tk, gt]; grind), ⟨by decide⟩, ⟨by decide⟩⟩
  | 3, _ => ⟨(0, -1), fun x => Prod.ext (by simp only [gm, tk, gt]; grind) (by simp only [gm, tk, gt]; grind), ⟨by decide⟩, ⟨by decide⟩⟩
theorem qf_tk (p : G) : ∃ k, k ≤ 3 ∧ qf p.1 p.2 = tk k p := by
  rcases as_unit (qf_as p) with e | e | e | e
  · exact ⟨0, by decide, e⟩
  · exact ⟨1, by decide, e⟩
  · exact ⟨2, by decide, e⟩
  · exact ⟨3, by decide, by rw [e]; exact Prod.ext (by simp only [tk, gt]; omega) (by simp only [tk, gt])⟩
theorem isQ_qf {p : G} (h : p ≠ (0, 0)) : isQ (qf p.1 p.2) := by
  have n : ¬ (p.1 = 0 ∧ p.2 = 0) := fun z => h (Prod.ext z.1 z.2)
  unfold qf isQ
  rw [if_neg n]
  split
  · simp only; omega
  · split
    · simp only; omega
    · split
      · simp only; omega
      · simp only; omega
theorem tk_S4 {n : Nat} {a b c d : G} (h : S4 n a b c d) : ∀ k, S4 n (tk k a) (tk k b) (tk k c) (tk k d)
  | 0 => h
  | k + 1 => (tk_S4 h k).gt
theorem tk_GC {a b c d g : G} (h : GC [a, b, c, d] g) : ∀ k, GC [tk k a, tk k b, tk k c, tk k d] g
  | 0 => h
  | k + 1 => (tk_GC h k).gt
theorem tk_dtm {a b c d : G} (h : dtm a b c d ≠ (0, 0)) : ∀ k, dtm (tk k a) (tk k b) (tk k c) (tk k d) ≠ (0, 0)
  | 0 => h
  | k + 1 => by
    show dtm (gt _) (gt _) (gt _) (gt _) ≠ _
    rw [dtm_gt]
    exact gn_ne (tk_dtm h k)
theorem tk_led (a b : G) : ∀ k, led (tk k a) (tk k b) = tk k (led a b)
  | 0 => rfl
  | k + 1 => by
    show led (gt _) (gt _) = gt _
    rw [led_gt, tk_led a b k]
theorem tk_fac (g : G) (hg : g ≠ (0, 0)) : ∀ k, ∃ D : G, D ≠ (0, 0) ∧ ∀ x, gm g x = gm D (tk k x)
  | 0 => ⟨g, hg, fun _ => rfl⟩
  | k + 1 => by
    obtain ⟨D, h1, h2⟩ := tk_fac g hg k
    exact ⟨gt (gt (gt D)), gt_ne (gt_ne (gt_ne h1)), fun x => by rw [h2 x]; show _ = gm _ (gt _); rw [gm_gt, gt_4]⟩
/-- a map's form, once the leading number is turned into the quarter -/
theorem Fm.turn {n k : Nat} {x y z w : G} (S : S4 n x y z w) (g : GC [x, y, z, w] (1, 0)) (d : dtm x y z w ≠ (0, 0)) (hl : led x y ≠ (0, 0)) (e : qf (led x y).1 (led x y).2 = tk k (led x y)) : Fm n (tk k x) (tk k y) (tk k z) (tk k w) :=
  ⟨tk_S4 S k, tk_GC g k, tk_dtm d k, by rw [tk_led, ← e]; exact isQ_qf hl⟩
theorem led_nz {a b c d : G} (h : dtm a b c d ≠ (0, 0)) : led a b ≠ (0, 0) := fun z => h (by
  unfold led at z
  by_cases y : a = (0, 0)
  · rw [if_neg (fun n => n y)] at z
    rw [y, z]
    exact Prod.ext (by simp only [dtm, gu, gm]; grind) (by simp only [dtm, gu, gm]; grind)
  · rw [if_pos y] at z
    exact absurd z y)
/-- the first number that is not 0 -/
theorem first_led {x y z w : G} (h : led x y ≠ (0, 0)) : ∃ r, ([cd x, cd y, cd z, cd w].filter fun d => !PyData.eqv d (cd (0, 0))) = cd (led x y) :: r := by
  unfold led at *
  by_cases e : x = (0, 0)
  · rw [if_neg (fun n => n e)] at h ⊢
    rw [List.filter_cons_of_neg (by rw [eqv_cd, decide_eq_true e]; decide), List.filter_cons_of_pos (by rw [eqv_cd, decide_eq_false h]; rfl)]
    exact ⟨_, rfl⟩
  · rw [if_pos e]
    rw [List.filter_cons_of_pos (by rw [eqv_cd, decide_eq_false e]; rfl)]
    exact ⟨_, rfl⟩
theorem atI_hd {d : PyData} {ds : List PyData} : atI (d :: ds) 0 = some d := by
  show (ixN (d :: ds).length 0).bind _ = _
  unfold ixN
  rw [if_pos (by decide), if_pos (by rw [List.length_cons]; omega)]
  rfl
theorem fIx_hd {d : PyData} {ds : List PyData} {Q : PyData → Prop} (q : Q d) : fIx (.list (d :: ds)) (.int 0) Q := fIx_lst atI_hd q
/-- x = [..] where x may hold an own list already: that one is let go -/
def wOwnR (i : Nat) (u : Wa) : Ws := fun E ev => u ev fun ds e => ds.length ≤ 1000 ∧ i ≠ 0 ∧ i < e.length ∧ E.nx (e.set i (some (.own ds)))
theorem ds_ownR {X : Cx} {c : Cf} {pos : Pos} {i : Nat} {x : Str} {es : List Expr} {u : Wa} {pos' p2 : Pos} (hN : X.N.Nodup) (hi : X.N[i]? = some x) (hx : Loc X.env.scope x) (ha : DA X c es u) (h1 : swapsWith (.List es p2) (some (.Name x pos')) pos.line X.env = pure false := by rfl)
    (hf : X.fn x = true ∨ X.env.scope.names.lookup x = some .local := by first | exact .inl rfl | exact .inr rfl | assumption) : DS X c (.Assign [.Name x pos'] (.List es p2) pos) (wOwnR i u) :=
  psM (ps_set hN hi hx (pe_lst ha) h1 hf) fun De σ H ⟨M, ev, pd, R, k, h, f⟩ => ⟨M, ev, pd, _, k, h, fun ds e q vs H' k' r => by
    obtain ⟨l, i0, il, q⟩ := q
    refine ⟨by rw [r.len]; exact line_of l, fun p hp => ?_⟩
    have k1 := k'.less (ev' := e.set i none) List.length_set (fun j s z => by
      rcases get_set z with ⟨_, z1, _⟩ | ⟨_, z⟩
      · cases z1
      · exact z) (fun ds z => by rw [List.getElem?_set_ne i0]; exact z)
    have k2 := k1.ownNew (i := i) (by unfold notOwn; rw [List.getElem?_set_self il]; trivial) hp r
    rw [List.set_set] at k2
    exact f.nx _ q _ _ _ k2⟩
end Z
set_option Elab.async false
set_option linter.all false
set_option maxRecDepth 100000
namespace Z
open PySem L2
section
variable {X : Cx} {c : Cf} {k kg n : Nat} {x : Str} {ps : List Str} {p pos : Pos} {e : Expr} {es : List Expr} {u : Wa}
/-- the own list that a call hands back -/
theorem Ok.take {K : PySem.W.Frag} {M : Mz} {σ : Sg} {H1 H' : Hp} {ev : Ev} {pd : List (V × PyData)} (k1 : Ok K c M σ H1 ev pd) {i j : Nat} {a p : Addr} {ts ts' es : List PyData} {us' zs : List V} (e1 : ev[j]? = some (some (.own ts))) (a1 : σ[j]? = some (some (.ref a)))
    (g0 : H1 p = none) (g1 : ∀ b o, H1 b = some o → b ≠ a → H' b = some o) (g2 : H' a = some (.lst us')) (g3 : DzAll K (msk M H') us' ts') (g4 : H' p = some (.lst zs)) (g5 : DzAll K (msk M H') zs es) (nt : noLsts ts' = true) (ne : noLsts es = true) (hi : notOwn (ev.set j (some (.own ts'))) i) :
    Ok K c (stM M p (1, none)) (σ.set i (some (.ref p))) H' ((ev.set j (some (.own ts'))).set i (some (.own es))) pd := by
  have hmp : (M p).1 = 0 := k1.free g0
  obtain ⟨a', vs, y1, y2, y3, y4, y5⟩ := k1.own j ts e1
  obtain rfl : a' = a := by rw [a1] at y1; cases y1; rfl
  have nap : a' ≠ p := ne_of_none y4 g0
  let Hm : Hp := fun b => if b = p then none else H' b
  have hm_off : ∀ {b : Addr}, b ≠ p → Hm b = H' b := fun n => if_neg n
  have hm_at : Hm p = none := if_pos rfl
  have vp : msk M H' p = some (.lst zs) := msk_of g4 hmp
  have off : ∀ b o, msk M H' b = some o → b ≠ p → msk M Hm b = some o := fun b o q n => by
    obtain ⟨q1, q2⟩ := msk_ok q
    exact msk_of (by rw [hm_off n]; exact q1) q2
  have w := k1.write e1 a1 (H' := Hm) (us := us') (es := ts') (fun b o q n => by rw [hm_off (ne_of_none q g0)]; exact g1 b o q n) (by rw [hm_off nap]; exact g2) (g3.off vp off nt)
  have r := w.ownNew (i := i) (p := p) (vs := zs) (ds := es) hi hm_at (g5.off vp off ne)
  have eH : upd Hm p (.lst zs) = H' := by
    funext b
    by_cases z : b = p
    · rw [z, upd_same, g4]
    · rw [upd_ne z, hm_off z]
  rw [eH] at r
  exact r
end
end Z
set_option Elab.async false
set_option linter.all false
set_option maxRecDepth 100000
namespace Z
open PySem L2
instance : Add G := ⟨ga⟩
instance : Sub G := ⟨gu⟩
instance : Neg G := ⟨gn⟩
instance : Mul G := ⟨gm⟩
def gnat (n : Nat) : G := ((n : Int), 0)
def gint (n : Int) : G := (n, 0)
def gpow (p : G) : Nat → G
  | 0 => (1, 0)
  | n + 1 => gm (gpow p n) p
theorem gadd (p q : G) : p + q = (p.1 + q.1, p.2 + q.2) := rfl
theorem gmul (p q : G) : p * q = (p.1 * q.1 - p.2 * q.2, p.1 * q.2 + p.2 * q.1) := rfl
instance gring : Lean.Grind.CommRing G where
  natCast := ⟨gnat⟩
  ofNat := fun n => ⟨gnat n⟩
  nsmul := ⟨fun n p => gm (gnat n) p⟩
  npow := ⟨fun p n => gpow p n⟩
  intCast := ⟨gint⟩
  zsmul := ⟨fun n p => gm (gint n) p⟩
  add_zero := fun a => Prod.ext (Int.add_zero _) (Int.add_zero _)
  add_comm := fun a b => Prod.ext (Int.add_comm _ _) (Int.add_comm _ _)
  add_assoc := fun a b c => Prod.ext (Int.add_assoc _ _ _) (Int.add_assoc _ _ _)
  mul_assoc := gm_assoc
  mul_one := gm_one
  one_mul := fun a => by show gm (1, 0) a = a; rw [gm_comm, gm_one]
  left_distrib := fun a b c => Prod.ext (by simp only [gadd, gmul]; grind) (by simp only [gadd, gmul]; grind)
  right_distrib := fun a b c => Prod.ext (by simp only [gadd, gmul]; grind) (by simp only [gadd, gmul]; grind)
  zero_mul := zero_gm
  mul_zero := gm_zero
  pow_zero := fun a => rfl
  pow_succ := fun a n => rfl
  ofNat_succ := fun a => Prod.ext (by show ((a + 1 : Nat) : Int) = (a : Int) + 1; omega) rfl
  ofNat_eq_natCast := fun n => rfl
  nsmul_eq_natCast_mul := fun n a => rfl
  neg_zsmul := fun i a => Prod.ext (by show (-i) * a.1 - 0 * a.2 = -(i * a.1 - 0 * a.2); grind) (by show (-i) * a.2 + 0 * a.1 = -(i * a.2 + 0 * a.1); grind)
  zsmul_natCast_eq_nsmul := fun n a => rfl
  neg_add_cancel := fun a => Prod.ext (Int.add_left_neg _) (Int.add_left_neg _)
  sub_eq_add_neg := fun a b => Prod.ext Int.sub_eq_add_neg Int.sub_eq_add_neg
  mul_comm := gm_comm
  intCast_neg := fun i => rfl
  intCast_ofNat := fun n => rfl
theorem z_r : ((0, 0) : G) = 0 := rfl
theorem gmc {k p q : G} (hk : k ≠ 0) (h : k * p = k * q) : p = q := gm_cancel hk h
theorem gz {p q : G} (h : p * q = 0) (hp : p ≠ 0) : q = 0 := gmc hp (by rw [h]; grind)
theorem gnz {p q : G} (hp : p ≠ 0) (hq : q ≠ 0) : p * q ≠ 0 := fun h => hq (gz h hp)
theorem cj_mul (f : Int) (p q : G) : cj f (p * q) = cj f p * cj f q := cj_gm f p q
theorem cj_add (f : Int) (p q : G) : cj f (p + q) = cj f p + cj f q := cj_ga f p q
theorem cj_neg (f : Int) (p : G) : cj f (-p) = -cj f p := by
  unfold cj
  by_cases h : f = 1
  · rw [if_pos h, if_pos h]; rfl
  · rw [if_neg h, if_neg h]
theorem cj_sub (f : Int) (p q : G) : cj f (p - q) = cj f p - cj f q := by
  rw [show p - q = p + -q by grind, cj_add, cj_neg]; grind
theorem cj_zero (f : Int) : cj f 0 = 0 := by
  unfold cj
  by_cases h : f = 1
  · rw [if_pos h]; rfl
  · rw [if_neg h]
theorem cj_one (f : Int) : cj f 1 = 1 := by
  unfold cj
  by_cases h : f = 1
  · rw [if_pos h]; rfl
  · rw [if_neg h]
theorem cj_nz {f : Int} {p : G} (h : p ≠ 0) : cj f p ≠ 0 := cj_ne h
theorem cj_real (f : Int) (r : Int) : cj f (r, 0) = (r, 0) := by
  unfold cj
  by_cases h : f = 1
  · rw [if_pos h]; exact Prod.ext rfl (by show -(0:Int) = 0; omega)
  · rw [if_neg h]
theorem cj_cj2 {f i : Int} (hf : f = 0 ∨ f = 1) (hi : i = 0 ∨ i = 1) (p : G) : cj f (cj i p) = cj ((f + i) % 2) p := by
  rcases hf with rfl | rfl <;> rcases hi with rfl | rfl
  · rfl
  · rfl
  · rfl
  · exact gj_gj p
structure M4 where
  a : G
  b : G
  c : G
  d : G
namespace M4
def mul (A B : M4) : M4 := ⟨A.a * B.a + A.b * B.c, A.a * B.b + A.b * B.d, A.c * B.a + A.d * B.c, A.c * B.b + A.d * B.d⟩
def adj (A : M4) : M4 := ⟨A.d, -A.b, -A.c, A.a⟩
def cj (f : Int) (A : M4) : M4 := ⟨Z.cj f A.a, Z.cj f A.b, Z.cj f A.c, Z.cj f A.d⟩
def sm (g : G) (A : M4) : M4 := ⟨g * A.a, g * A.b, g * A.c, g * A.d⟩
def dt (A : M4) : G := A.a * A.d - A.b * A.c
def one : M4 := ⟨1, 0, 0, 1⟩
end M4
theorem m4_ext {A B : M4} (h1 : A.a = B.a) (h2 : A.b = B.b) (h3 : A.c = B.c) (h4 : A.d = B.d) : A = B := by
  cases A; cases B; simp only at h1 h2 h3 h4; rw [h1, h2, h3, h4]
theorem mul_as (A B C : M4) : (A.mul B).mul C = A.mul (B.mul C) := m4_ext (by simp only [M4.mul]; grind) (by simp only [M4.mul]; grind) (by simp only [M4.mul]; grind) (by simp only [M4.mul]; grind)
theorem mul_one (A : M4) : A.mul M4.one = A := m4_ext (by simp only [M4.mul, M4.one]; grind) (by simp only [M4.mul, M4.one]; grind) (by simp only [M4.mul, M4.one]; grind) (by simp only [M4.mul, M4.one]; grind)
theorem one_mul (A : M4) : M4.one.mul A = A := m4_ext (by simp only [M4.mul, M4.one]; grind) (by simp only [M4.mul, M4.one]; grind) (by simp only [M4.mul, M4.one]; grind) (by simp only [M4.mul, M4.one]; grind)
theorem adj_adj (A : M4) : A.adj.adj = A := m4_ext rfl (by simp only [M4.adj]; grind) (by simp only [M4.adj]; grind) rfl
theorem cjm_mul (f : Int) (A B : M4) : (A.mul B).cj f = (A.cj f).mul (B.cj f) := m4_ext (by simp only [M4.mul, M4.cj, cj_add, cj_mul]) (by simp only [M4.mul, M4.cj, cj_add, cj_mul]) (by simp only [M4.mul, M4.cj, cj_add, cj_mul]) (by simp only [M4.mul, M4.cj, cj_add, cj_mul])
theorem cjm_adj (f : Int) (A : M4) : A.adj.cj f = (A.cj f).adj := m4_ext rfl (by simp only [M4.adj, M4.cj, cj_neg]) (by simp only [M4.adj, M4.cj, cj_neg]) rfl
theorem cjm_cj {f i : Int} (hf : f = 0 ∨ f = 1) (hi : i = 0 ∨ i = 1) (A : M4) : (A.cj i).cj f = A.cj ((f + i) % 2) := m4_ext (cj_cj2 hf hi _) (cj_cj2 hf hi _) (cj_cj2 hf hi _) (cj_cj2 hf hi _)
theorem cjm_self (f : Int) (A : M4) : (A.cj f).cj f = A := m4_ext (cj_cj f _) (cj_cj f _) (cj_cj f _) (cj_cj f _)
theorem cjm_one (f : Int) : M4.one.cj f = M4.one := m4_ext (cj_one f) (cj_zero f) (cj_zero f) (cj_one f)
theorem cjm_sm (f : Int) (g : G) (A : M4) : (A.sm g).cj f = (A.cj f).sm (cj f g) := m4_ext (cj_mul ..) (cj_mul ..) (cj_mul ..) (cj_mul ..)
theorem adj_sm (g : G) (A : M4) : (A.sm g).adj = A.adj.sm g := m4_ext rfl (by simp only [M4.adj, M4.sm]; grind) (by simp only [M4.adj, M4.sm]; grind) rfl
theorem mul_adj (A : M4) : A.mul A.adj = M4.one.sm A.dt := m4_ext (by simp only [M4.mul, M4.adj, M4.sm, M4.one, M4.dt]; grind) (by simp only [M4.mul, M4.adj, M4.sm, M4.one, M4.dt]; grind) (by simp only [M4.mul, M4.adj, M4.sm, M4.one, M4.dt]; grind) (by simp only [M4.mul, M4.adj, M4.sm, M4.one, M4.dt]; grind)
theorem adj_mul' (A : M4) : A.adj.mul A = M4.one.sm A.dt := m4_ext (by simp only [M4.mul, M4.adj, M4.sm, M4.one, M4.dt]; grind) (by simp only [M4.mul, M4.adj, M4.sm, M4.one, M4.dt]; grind) (by simp only [M4.mul, M4.adj, M4.sm, M4.one, M4.dt]; grind) (by simp only [M4.mul, M4.adj, M4.sm, M4.one, M4.dt]; grind)
theorem sm_mul (g : G) (A B : M4) : (A.sm g).mul B = (A.mul B).sm g := m4_ext (by simp only [M4.mul, M4.sm]; grind) (by simp only [M4.mul, M4.sm]; grind) (by simp only [M4.mul, M4.sm]; grind) (by simp only [M4.mul, M4.sm]; grind)
theorem mul_sm (g : G) (A B : M4) : A.mul (B.sm g) = (A.mul B).sm g := m4_ext (by simp only [M4.mul, M4.sm]; grind) (by simp only [M4.mul, M4.sm]; grind) (by simp only [M4.mul, M4.sm]; grind) (by simp only [M4.mul, M4.sm]; grind)
theorem sm_sm (g h : G) (A : M4) : (A.sm h).sm g = A.sm (g * h) := m4_ext (by simp only [M4.sm]; grind) (by simp only [M4.sm]; grind) (by simp only [M4.sm]; grind) (by simp only [M4.sm]; grind)
theorem dt_mul (A B : M4) : (A.mul B).dt = A.dt * B.dt := by simp only [M4.mul, M4.dt]; grind
theorem dt_adj (A : M4) : A.adj.dt = A.dt := by simp only [M4.adj, M4.dt]; grind
theorem dt_cj (f : Int) (A : M4) : (A.cj f).dt = cj f A.dt := by simp only [M4.cj, M4.dt, cj_sub, cj_mul]
theorem dt_sm (g : G) (A : M4) : (A.sm g).dt = g * g * A.dt := by simp only [M4.sm, M4.dt]; grind
/-- the same numbers but for factors -/
def Sim (A B : M4) : Prop := ∃ g h : G, g ≠ 0 ∧ h ≠ 0 ∧ A.sm g = B.sm h
theorem one_ne : (1 : G) ≠ 0 := by intro h; have := congrArg Prod.fst h; cases this
theorem sm_one (A : M4) : A.sm 1 = A := m4_ext (by simp only [M4.sm]; grind) (by simp only [M4.sm]; grind) (by simp only [M4.sm]; grind) (by simp only [M4.sm]; grind)
theorem Sim.refl (A : M4) : Sim A A := ⟨1, 1, one_ne, one_ne, rfl⟩
theorem Sim.symm {A B : M4} (s : Sim A B) : Sim B A := by obtain ⟨g, h, x, y, e⟩ := s; exact ⟨h, g, y, x, e.symm⟩
theorem Sim.trans {A B C : M4} (s : Sim A B) (t : Sim B C) : Sim A C := by
  obtain ⟨g, h, x, y, e⟩ := s
  obtain ⟨k, l, u, v, f⟩ := t
  refine ⟨k * g, h * l, gnz u x, gnz y v, ?_⟩
  rw [← sm_sm, e, sm_sm, show k * h = h * k by grind, ← sm_sm, f, sm_sm]
theorem Sim.smr (A : M4) {g : G} (h : g ≠ 0) : Sim A (A.sm g) := ⟨g, 1, h, one_ne, (sm_one _).symm⟩
theorem Sim.mul {A B C D : M4} (s : Sim A B) (t : Sim C D) : Sim (A.mul C) (B.mul D) := by
  obtain ⟨g, h, x, y, e⟩ := s
  obtain ⟨k, l, u, v, f⟩ := t
  refine ⟨g * k, h * l, gnz x u, gnz y v, ?_⟩
  rw [← sm_sm, ← mul_sm, ← sm_mul, e, f, sm_mul, mul_sm, sm_sm]
theorem Sim.adj {A B : M4} (s : Sim A B) : Sim A.adj B.adj := by
  obtain ⟨g, h, x, y, e⟩ := s
  exact ⟨g, h, x, y, by rw [← adj_sm, e, adj_sm]⟩
theorem Sim.cj {A B : M4} (f : Int) (s : Sim A B) : Sim (A.cj f) (B.cj f) := by
  obtain ⟨g, h, x, y, e⟩ := s
  exact ⟨Z.cj f g, Z.cj f h, cj_nz x, cj_nz y, by rw [← cjm_sm, e, cjm_sm]⟩
theorem Sim.inv (A : M4) (h : A.dt ≠ 0) : Sim (A.mul A.adj) M4.one := by rw [mul_adj]; exact (Sim.smr _ h).symm
theorem Sim.inv' (A : M4) (h : A.dt ≠ 0) : Sim (A.adj.mul A) M4.one := by rw [adj_mul']; exact (Sim.smr _ h).symm
abbrev Fm4 (n : Nat) (A : M4) : Prop := Fm n A.a A.b A.c A.d
theorem Fm4.sim {n m : Nat} {A B : M4} (F : Fm4 n A) (F' : Fm4 m B) (s : Sim A B) : A = B := by
  obtain ⟨g, h, x, y, e⟩ := s
  obtain ⟨e1, e2, e3, e4⟩ := F.uniq F' x y (congrArg M4.a e) (congrArg M4.b e) (congrArg M4.c e) (congrArg M4.d e)
  exact m4_ext e1 e2 e3 e4
theorem Fm4.one : Fm4 1 M4.one := ⟨⟨⟨by decide⟩, ⟨by decide⟩, ⟨by decide⟩, ⟨by decide⟩, ⟨by decide⟩, ⟨by decide⟩, ⟨by decide⟩, ⟨by decide⟩⟩, ⟨fun n _ => ⟨n, by rw [gm_comm, gm_one]⟩, fun d q => q (1, 0) (List.mem_cons_self ..)⟩, by decide, by decide⟩
structure V2 where
  x : G
  y : G
def M4.app (A : M4) (v : V2) : V2 := ⟨A.a * v.x + A.b * v.y, A.c * v.x + A.d * v.y⟩
def V2.cj (f : Int) (v : V2) : V2 := ⟨Z.cj f v.x, Z.cj f v.y⟩
def cr (u v : V2) : G := u.x * v.y - u.y * v.x
def V2.nz (u : V2) : Prop := ¬(u.x = 0 ∧ u.y = 0)
theorem cr_sym {u v : V2} (h : cr u v = 0) : cr v u = 0 := by simp only [cr] at *; grind
theorem app_cj (f : Int) (A : M4) (v : V2) : (A.app v).cj f = (A.cj f).app (v.cj f) := by simp only [M4.app, V2.cj, M4.cj, cj_add, cj_mul]
theorem app_mul (A B : M4) (v : V2) : (A.mul B).app v = A.app (B.app v) := by
  simp only [M4.app, M4.mul]
  rw [show (A.a * B.a + A.b * B.c) * v.x + (A.a * B.b + A.b * B.d) * v.y = A.a * (B.a * v.x + B.b * v.y) + A.b * (B.c * v.x + B.d * v.y) by grind, show (A.c * B.a + A.d * B.c) * v.x + (A.c * B.b + A.d * B.d) * v.y = A.c * (B.a * v.x + B.b * v.y) + A.d * (B.c * v.x + B.d * v.y) by grind]
theorem vcj_cj2 {f i : Int} (hf : f = 0 ∨ f = 1) (hi : i = 0 ∨ i = 1) (v : V2) : (v.cj i).cj f = v.cj ((f + i) % 2) := by simp only [V2.cj, cj_cj2 hf hi]
theorem cr_trans {u w v : V2} (h1 : cr u w = 0) (h2 : cr w v = 0) (hw : w.nz) : cr u v = 0 := by
  have a : w.x * cr u v = 0 := by simp only [cr] at *; grind
  have b : w.y * cr u v = 0 := by simp only [cr] at *; grind
  by_cases z : w.x = 0
  · exact gz b fun y => hw ⟨z, y⟩
  · exact gz a z
theorem app_nz {A : M4} (h : A.dt ≠ 0) {v : V2} (n : v.nz) : (A.app v).nz := fun ⟨z1, z2⟩ => by
  simp only [M4.app] at z1 z2
  have e1 : A.dt * v.x = 0 := by simp only [M4.dt]; grind
  have e2 : A.dt * v.y = 0 := by simp only [M4.dt]; grind
  exact n ⟨gz e1 h, gz e2 h⟩
theorem cjv_nz {f : Int} {v : V2} (n : v.nz) : (v.cj f).nz := fun ⟨z1, z2⟩ => n ⟨by have := congrArg (Z.cj f) z1; simp only [V2.cj, cj_cj, cj_zero] at this; exact this, by have := congrArg (Z.cj f) z2; simp only [V2.cj, cj_cj, cj_zero] at this; exact this⟩
/-- the same numbers but for factors lead along one pair -/
theorem Sim.app {A B : M4} (s : Sim A B) (v : V2) : cr (A.app v) (B.app v) = 0 := by
  obtain ⟨g, h, x, y, e⟩ := s
  have e1 : g * A.a = h * B.a := congrArg M4.a e
  have e2 : g * A.b = h * B.b := congrArg M4.b e
  have e3 : g * A.c = h * B.c := congrArg M4.c e
  have e4 : g * A.d = h * B.d := congrArg M4.d e
  have : g * cr (A.app v) (B.app v) = 0 := by
    have t : g * cr (A.app v) (B.app v) = (g * A.a * v.x + g * A.b * v.y) * (B.c * v.x + B.d * v.y) - (g * A.c * v.x + g * A.d * v.y) * (B.a * v.x + B.b * v.y) := by simp only [cr, M4.app]; grind
    rw [t, e1, e2, e3, e4]
    grind
  exact gz this x
end Z
set_option Elab.async false
set_option linter.all false
set_option maxRecDepth 100000
set_option synthInstance.maxSize 4000
set_option synthInstance.maxHeartbeats 400000
namespace Z
open PySem L2
abbrev T3 := Int × Int × Int
abbrev pd (t : T3) : PyData := pl t.1 t.2.1 t.2.2
/-- a place -/
def Pt (t : T3) : Prop := t = (1, 0, 0) ∨ (0 < t.2.2 ∧ gcI [t.1, t.2.1, t.2.2] = 1)
structure S3 (n : Nat) (t : T3) : Prop where
  p : Sz n t.1
  s : Sz n t.2.1
  r : Sz n t.2.2
theorem S3.up {n m : Nat} {t : T3} (h : S3 n t) (l : n ≤ m) : S3 m t := ⟨szUp h.p l, szUp h.s l, szUp h.r l⟩
def vt (t : T3) : V2 := ⟨(t.1, t.2.1), (t.2.2, 0)⟩
theorem eqv_pd (t u : T3) : PyData.eqv (pd t) (pd u) = decide (t = u) := by
  rw [show PyData.eqv (pd t) (pd u) = _ from eqv_pl ..]
  have : (t.1 = u.1 ∧ t.2.1 = u.2.1 ∧ t.2.2 = u.2.2) ↔ t = u := ⟨fun ⟨a, b, c⟩ => Prod.ext a (Prod.ext b c), fun h => by rw [h]; exact ⟨rfl, rfl, rfl⟩⟩
  exact decide_eq_decide.mpr this
theorem Pt.of_rt {n : Nat} {p s r : Int} (h : Rt n p s r) : Pt (p, s, r) ∧ S3 n (p, s, r) := ⟨.inr ⟨h.pos, h.one⟩, h.sa, h.sb, h.sr⟩
theorem Pt.far : Pt (1, 0, 0) := .inl rfl
theorem S3.far {n : Nat} (h : 1 ≤ n) : S3 n (1, 0, 0) := ⟨szUp (n := 1) ⟨by decide⟩ h, szUp (n := 1) ⟨by decide⟩ h, szUp (n := 1) ⟨by decide⟩ h⟩
theorem Pt.nz {t : T3} (h : Pt t) : (vt t).nz := fun ⟨z1, z2⟩ => by
  have a : t.1 = 0 := congrArg Prod.fst z1
  have b : t.2.2 = 0 := congrArg Prod.fst z2
  rcases h with h | ⟨h, _⟩
  · rw [h] at a; cases a
  · omega
theorem Pt.uniq {t u : T3} (h : Pt t) (g : Pt u) (e : cr (vt t) (vt u) = 0) : t = u := by
  have e1 : t.1 * u.2.2 = t.2.2 * u.1 := by
    have := congrArg Prod.fst e
    have w : (cr (vt t) (vt u)).1 = (t.1 * u.2.2 - t.2.1 * 0) - (t.2.2 * u.1 - 0 * u.2.1) := rfl
    rw [w] at this
    have z : ((0 : G)).1 = 0 := rfl
    rw [z] at this
    grind
  have e2 : t.2.1 * u.2.2 = t.2.2 * u.2.1 := by
    have := congrArg Prod.snd e
    have w : (cr (vt t) (vt u)).2 = (t.1 * 0 + t.2.1 * u.2.2) - (t.2.2 * u.2.1 + 0 * u.1) := rfl
    rw [w] at this
    have z : ((0 : G)).2 = 0 := rfl
    rw [z] at this
    grind
  rcases h with h | ⟨h, o⟩
  · rcases g with g | ⟨g, o'⟩
    · rw [h, g]
    · rw [h] at e1
      have : (1 : Int) * u.2.2 = 0 * u.1 := e1
      omega
  · rcases g with g | ⟨g, o'⟩
    · rw [g] at e1
      have : t.1 * 0 = t.2.2 * 1 := e1
      omega
    · have r := rd_prop (us := [t.1, t.2.1, t.2.2]) (vs := [u.1, u.2.1, u.2.2]) g h (by
        show [u.2.2 * t.1, u.2.2 * t.2.1, u.2.2 * t.2.2] = [t.2.2 * u.1, t.2.2 * u.2.1, t.2.2 * u.2.2]
        rw [show u.2.2 * t.1 = t.2.2 * u.1 by grind, show u.2.2 * t.2.1 = t.2.2 * u.2.1 by grind, show u.2.2 * t.2.2 = t.2.2 * u.2.2 by grind])
      rw [rd_self o, rd_self o'] at r
      simp only [List.cons.injEq, and_true] at r
      exact Prod.ext r.1 (Prod.ext r.2.1 r.2.2)
/-- the place of a quotient -/
def qt (p q : G) : T3 := if q = (0, 0) then (1, 0, 0) else
  let X := p.1 * q.1 - p.2 * -q.2
  let Y := p.1 * -q.2 + p.2 * q.1
  let W := q.1 * q.1 + q.2 * q.2
  (X / gcI [X, Y, W], Y / gcI [X, Y, W], W / gcI [X, Y, W])
def qp (p q : G) : PyData := if q = (0, 0) then pl 1 0 0 else tup (rd [p.1 * q.1 - p.2 * -q.2, p.1 * -q.2 + p.2 * q.1, q.1 * q.1 + q.2 * q.2])
theorem qp_qt (p q : G) : qp p q = pd (qt p q) := by
  unfold qp qt
  by_cases z : q = (0, 0)
  · rw [if_pos z, if_pos z]
  · rw [if_neg z, if_neg z]; rfl
theorem qt_ok {n : Nat} {p q : G} (h : ¬(p = 0 ∧ q = 0)) (p1 : Sz n p.1) (p2 : Sz n p.2) (q1 : Sz n q.1) (q2 : Sz n q.2) : Pt (qt p q) ∧ S3 (2 * n + 1) (qt p q) ∧ cr (vt (qt p q)) ⟨p, q⟩ = 0 := by
  unfold qt
  by_cases z : q = (0, 0)
  · rw [if_pos z]
    refine ⟨.inl rfl, S3.far (by omega), ?_⟩
    subst z
    show ((1, 0) : G) * (0, 0) - (0, 0) * p = 0
    rw [z_r]
    grind
  · rw [if_neg z]
    have np : 0 < q.1 * q.1 + q.2 * q.2 := nm_pos z
    have h1 : max (n + n) (n + n) + 1 ≤ 2 * n + 1 := by omega
    have X : Sz (2 * n + 1) (p.1 * q.1 - p.2 * -q.2) := szUp inferInstance h1
    have Y : Sz (2 * n + 1) (p.1 * -q.2 + p.2 * q.1) := szUp inferInstance h1
    have W : Sz (2 * n + 1) (q.1 * q.1 + q.2 * q.2) := szUp inferInstance h1
    obtain ⟨x, y, w, g, e, rt, hg, g1, g2, g3⟩ := rd3 X Y W np
    have e' : ([_, _, _] : List Int) = [x, y, w] := e
    simp only [List.cons.injEq, and_true] at e'
    obtain ⟨ea, eb, ec⟩ := e'
    simp only at ea eb ec ⊢
    rw [ea, eb, ec]
    refine ⟨.inr ⟨rt.pos, rt.one⟩, ⟨rt.sa, rt.sb, rt.sr⟩, ?_⟩
    have gn : ((g, 0) : G) ≠ 0 := fun z => by have : g = 0 := congrArg Prod.fst z; omega
    refine gz (p := (g, 0)) ?_ gn
    have ew : ((g, 0) : G) * cr (vt (x, y, w)) ⟨p, q⟩ = ((g * x, g * y) : G) * q - (g * w, 0) * p := by
      have t1 : ((g * x, g * y) : G) = (g, 0) * (x, y) := Prod.ext (by show g * x = g * x - 0 * y; grind) (by show g * y = g * y + 0 * x; grind)
      have t2 : ((g * w, 0) : G) = (g, 0) * (w, 0) := Prod.ext (by show g * w = g * w - 0 * 0; grind) (by show (0 : Int) = g * 0 + 0 * w; grind)
      rw [t1, t2]
      show (g, 0) * ((x, y) * q - (w, 0) * p) = _
      grind
    rw [ew, g1, g2, g3]
    exact Prod.ext (by show (p.1 * q.1 - p.2 * -q.2) * q.1 - (p.1 * -q.2 + p.2 * q.1) * q.2 - ((q.1 * q.1 + q.2 * q.2) * p.1 - 0 * p.2) = 0; grind) (by show (p.1 * q.1 - p.2 * -q.2) * q.2 + (p.1 * -q.2 + p.2 * q.1) * q.1 - ((q.1 * q.1 + q.2 * q.2) * p.2 + 0 * p.1) = 0; grind)
/-- where a map's numbers lead a place -/
def ldp (f : Int) (a b c d : G) (p s r : Int) : PyData := qp (ga (gm a (cj f (p, s))) (b.1 * r, b.2 * r)) (ga (gm c (cj f (p, s))) (d.1 * r, d.2 * r))
def lt (f : Int) (A : M4) (t : T3) : T3 := qt (ga (gm A.a (cj f (t.1, t.2.1))) (A.b.1 * t.2.2, A.b.2 * t.2.2)) (ga (gm A.c (cj f (t.1, t.2.1))) (A.d.1 * t.2.2, A.d.2 * t.2.2))
theorem ldp_lt (f : Int) (A : M4) (t : T3) : ldp f A.a A.b A.c A.d t.1 t.2.1 t.2.2 = pd (lt f A t) := qp_qt _ _
abbrev mp4 (f : Int) (A : M4) : PyData := mp f A.a A.b A.c A.d
abbrev S44 (n : Nat) (A : M4) : Prop := S4 n A.a A.b A.c A.d
theorem rl_mul (b : G) (r : Int) : ((b.1 * r, b.2 * r) : G) = b * (r, 0) := Prod.ext (by show b.1 * r = b.1 * r - b.2 * 0; grind) (by show b.2 * r = b.1 * 0 + b.2 * r; grind)
theorem lt_ok {f : Int} {n m : Nat} {A : M4} {t : T3} (S : S44 n A) (h : A.dt ≠ 0) (T : Pt t) (T' : S3 m t) : Pt (lt f A t) ∧ S3 (2 * (n + m + 2) + 1) (lt f A t) ∧ cr (vt (lt f A t)) (A.app ((vt t).cj f)) = 0 := by
  obtain ⟨k1, k2⟩ := cj_sz (f := f) (p := (t.1, t.2.1)) T'.p T'.s
  have a := app_nz h (cjv_nz (f := f) T.nz)
  obtain ⟨_, _, _, _, _, _, _, _⟩ := S
  have tr := T'.r
  have hb : max (max (n + m) (n + m) + 1) (n + m) + 1 ≤ n + m + 2 := by omega
  have e1 : ∀ (u v : G), Sz n u.1 → Sz n u.2 → Sz n v.1 → Sz n v.2 → Sz (n + m + 2) (ga (gm u (cj f (t.1, t.2.1))) (v.1 * t.2.2, v.2 * t.2.2)).1 ∧ Sz (n + m + 2) (ga (gm u (cj f (t.1, t.2.1))) (v.1 * t.2.2, v.2 * t.2.2)).2 := fun u v h1 h2 h3 h4 =>
    ⟨szUp (inferInstance : Sz _ ((u.1 * (cj f (t.1, t.2.1)).1 - u.2 * (cj f (t.1, t.2.1)).2) + v.1 * t.2.2)) hb, szUp (inferInstance : Sz _ ((u.1 * (cj f (t.1, t.2.1)).2 + u.2 * (cj f (t.1, t.2.1)).1) + v.2 * t.2.2)) hb⟩
  have ex : A.app ((vt t).cj f) = ⟨ga (gm A.a (cj f (t.1, t.2.1))) (A.b.1 * t.2.2, A.b.2 * t.2.2), ga (gm A.c (cj f (t.1, t.2.1))) (A.d.1 * t.2.2, A.d.2 * t.2.2)⟩ := by
    rw [rl_mul, rl_mul]
    show (⟨A.a * cj f (t.1, t.2.1) + A.b * cj f (t.2.2, 0), A.c * cj f (t.1, t.2.1) + A.d * cj f (t.2.2, 0)⟩ : V2) = _
    rw [cj_real]
    rfl
  obtain ⟨x1, x2⟩ := e1 A.a A.b inferInstance inferInstance inferInstance inferInstance
  obtain ⟨y1, y2⟩ := e1 A.c A.d inferInstance inferInstance inferInstance inferInstance
  have nz : ¬(ga (gm A.a (cj f (t.1, t.2.1))) (A.b.1 * t.2.2, A.b.2 * t.2.2) = 0 ∧ ga (gm A.c (cj f (t.1, t.2.1))) (A.d.1 * t.2.2, A.d.2 * t.2.2) = 0) := fun z => a (by rw [ex]; exact z)
  have q := qt_ok nz x1 x2 y1 y2
  rw [ex]
  exact q
theorem sz_any (x : Int) : ∃ n, Sz n x := ⟨x.natAbs.log2 + 1, ⟨Nat.lt_log2_self⟩⟩
theorem S3.any (t : T3) : ∃ n, S3 n t := by
  obtain ⟨a, ha⟩ := sz_any t.1
  obtain ⟨b, hb⟩ := sz_any t.2.1
  obtain ⟨c, hc⟩ := sz_any t.2.2
  exact ⟨max a (max b c), szUp ha (by omega), szUp hb (by omega), szUp hc (by omega)⟩
theorem S44.any (A : M4) : ∃ n, S44 n A := by
  obtain ⟨n1, h1⟩ := sz_any A.a.1
  obtain ⟨n2, h2⟩ := sz_any A.a.2
  obtain ⟨n3, h3⟩ := sz_any A.b.1
  obtain ⟨n4, h4⟩ := sz_any A.b.2
  obtain ⟨n5, h5⟩ := sz_any A.c.1
  obtain ⟨n6, h6⟩ := sz_any A.c.2
  obtain ⟨n7, h7⟩ := sz_any A.d.1
  obtain ⟨n8, h8⟩ := sz_any A.d.2
  exact ⟨n1 + n2 + n3 + n4 + n5 + n6 + n7 + n8, szUp h1 (by omega), szUp h2 (by omega), szUp h3 (by omega), szUp h4 (by omega), szUp h5 (by omega), szUp h6 (by omega), szUp h7 (by omega), szUp h8 (by omega)⟩
theorem Sim.dt {A B : M4} (s : Sim A B) (h : B.dt ≠ 0) : A.dt ≠ 0 := fun z => by
  obtain ⟨g, k, x, y, e⟩ := s
  have e2 := congrArg M4.dt e
  rw [dt_sm, dt_sm, z] at e2
  exact gnz (gnz y y) h (by rw [← e2]; grind)
end Z
set_option Elab.async false
set_option linter.all false
set_option maxRecDepth 100000
set_option synthInstance.maxSize 4000
set_option synthInstance.maxHeartbeats 400000
namespace Z
open PySem L2
theorem nrm_ex {n : Nat} {A : M4} (S : S44 n A) (h : A.dt ≠ 0) : ∃ X : M4, Fm4 (n + 1) X ∧ Sim X A := by
  obtain ⟨a, b, c, d⟩ := A
  have hz : dtm a b c d ≠ (0, 0) := h
  obtain ⟨g, gc⟩ := gc_ex' [a, b, c, d]
  have hg : g ≠ (0, 0) := gc.ne (by
    by_cases y : a = (0, 0)
    · refine ⟨b, by simp, fun z => led_nz hz ?_⟩
      unfold led
      rw [if_neg (fun n => n y)]
      exact z
    · exact ⟨a, by simp, y⟩)
  obtain ⟨x, hx⟩ := gc.dv a (by simp)
  obtain ⟨y, hy⟩ := gc.dv b (by simp)
  obtain ⟨z, hz'⟩ := gc.dv c (by simp)
  obtain ⟨w, hw⟩ := gc.dv d (by simp)
  have dn : dtm x y z w ≠ (0, 0) := fun e => hz (by rw [hx, hy, hz', hw, dtm_gm, e, gm_zero])
  have sx := sz_fac hg hx S.a1 S.a2
  have sy := sz_fac hg hy S.b1 S.b2
  have sz := sz_fac hg hz' S.c1 S.c2
  have sw := sz_fac hg hw S.d1 S.d2
  have S' : S4 (n + 1) x y z w := ⟨sx.1, sx.2, sy.1, sy.2, sz.1, sz.2, sw.1, sw.2⟩
  have gc1 : GC [x, y, z, w] (1, 0) := by
    have g0 : GC [a, b, c, d, (0, 0)] g := gc.snoc (GC.zero g)
    exact g0.quot (fun k _ _ _ _ => gdv_zero k) hg hx hy hz' hw
  have ln := led_nz dn
  obtain ⟨k, hk, ek⟩ := qf_tk (led x y)
  have F := Fm.turn S' gc1 dn ln ek
  obtain ⟨D, hD, fD⟩ := tk_fac g hg k
  exact ⟨⟨tk k x, tk k y, tk k z, tk k w⟩, F, D, 1, hD, one_ne, by
    rw [sm_one]
    exact m4_ext (hx.trans (fD x)).symm (hy.trans (fD y)).symm (hz'.trans (fD z)).symm (hw.trans (fD w)).symm⟩
open Classical in
noncomputable def nrm (A : M4) : M4 := if h : ∃ n X, Fm4 n X ∧ Sim X A then (Classical.choose_spec h).choose else M4.one
theorem nrm_sim {A : M4} (h : A.dt ≠ 0) : Sim (nrm A) A := by
  obtain ⟨n, S⟩ := S44.any A
  obtain ⟨X, F, s⟩ := nrm_ex S h
  have e : ∃ n X, Fm4 n X ∧ Sim X A := ⟨_, X, F, s⟩
  unfold nrm
  rw [dif_pos e]
  exact (Classical.choose_spec e).choose_spec.2
theorem nrm_fm {n : Nat} {A : M4} (S : S44 n A) (h : A.dt ≠ 0) : Fm4 (n + 1) (nrm A) := by
  obtain ⟨X, F, s⟩ := nrm_ex S h
  have e : ∃ n X, Fm4 n X ∧ Sim X A := ⟨_, X, F, s⟩
  have e2 : nrm A = X := by
    unfold nrm
    rw [dif_pos e]
    obtain ⟨F', s'⟩ := (Classical.choose_spec e).choose_spec
    exact F'.sim F (s'.trans s.symm)
  rw [e2]
  exact F
theorem nrm_of {n : Nat} {A X : M4} (h : A.dt ≠ 0) (F : Fm4 n X) (s : Sim X A) : X = nrm A := by
  obtain ⟨m, S⟩ := S44.any A
  exact F.sim (nrm_fm S h) (s.trans (nrm_sim h).symm)
theorem nrm_eq {A B : M4} (h : B.dt ≠ 0) (s : Sim A B) : nrm A = nrm B := by
  obtain ⟨m, S⟩ := S44.any A
  exact nrm_of h (nrm_fm S (s.dt h)) ((nrm_sim (s.dt h)).trans s)
theorem nrm_self {n : Nat} {A : M4} (F : Fm4 n A) : nrm A = A := (nrm_of F.dt F (Sim.refl A)).symm
theorem nrm_dt {A : M4} (h : A.dt ≠ 0) : (nrm A).dt ≠ 0 := (nrm_sim h).dt h
/-- one map after another one, the way back -/
noncomputable def aft (f : Int) (A B : M4) : M4 := nrm (A.mul (B.cj f))
noncomputable def bck (f : Int) (A : M4) : M4 := nrm (A.adj.cj f)
theorem dtMul {f : Int} {A B : M4} (h : A.dt ≠ 0) (g : B.dt ≠ 0) : (A.mul (B.cj f)).dt ≠ 0 := by rw [dt_mul, dt_cj]; exact gnz h (cj_nz g)
theorem dtAdj {f : Int} {A : M4} (h : A.dt ≠ 0) : (A.adj.cj f).dt ≠ 0 := by rw [dt_cj, dt_adj]; exact cj_nz h
theorem aft_dt {f : Int} {A B : M4} (h : A.dt ≠ 0) (g : B.dt ≠ 0) : (aft f A B).dt ≠ 0 := nrm_dt (dtMul h g)
theorem bck_dt {f : Int} {A : M4} (h : A.dt ≠ 0) : (bck f A).dt ≠ 0 := nrm_dt (dtAdj h)
theorem bck_fm {f : Int} {n : Nat} {A : M4} (F : Fm4 n A) : Fm4 (n + 1) (bck f A) := nrm_fm (F.sz.adj.cj (f := f)) (dtAdj F.dt)
theorem bck_bck {f : Int} {n : Nat} {A : M4} (F : Fm4 n A) : bck f (bck f A) = A := by
  have h := F.dt
  refine (nrm_of (dtAdj (bck_dt h)) F ?_).symm
  have s := (nrm_sim (dtAdj (f := f) h)).adj.cj f
  rw [show (A.adj.cj f).adj.cj f = A by rw [← cjm_adj, adj_adj, cjm_self]] at s
  exact s.symm
theorem bck_aft {f : Int} {A : M4} (h : A.dt ≠ 0) : aft f (bck f A) A = M4.one := by
  refine (nrm_of (dtMul (bck_dt h) h) Fm4.one ?_).symm
  have s : Sim ((bck f A).mul (A.cj f)) ((A.adj.cj f).mul (A.cj f)) := (nrm_sim (dtAdj (f := f) h)).mul (Sim.refl (A.cj f))
  have e : (A.adj.cj f).mul (A.cj f) = ((A.cj f).adj).mul (A.cj f) := by rw [cjm_adj]
  rw [e] at s
  refine (s.trans (Sim.inv' _ ?_)).symm
  rw [dt_cj]
  exact cj_nz h
theorem aft_bck {f : Int} {A : M4} (h : A.dt ≠ 0) : aft f A (bck f A) = M4.one := by
  refine (nrm_of (dtMul h (bck_dt h)) Fm4.one ?_).symm
  have s := (Sim.refl A).mul ((nrm_sim (dtAdj (f := f) h)).cj f)
  rw [cjm_self] at s
  exact (s.trans (Sim.inv A h)).symm
theorem aft_as {f i : Int} {A B C : M4} (hf : f = 0 ∨ f = 1) (hi : i = 0 ∨ i = 1) (hA : A.dt ≠ 0) (hB : B.dt ≠ 0) (hC : C.dt ≠ 0) : aft ((f + i) % 2) (aft f A B) C = aft f A (aft i B C) := by
  have s1 := (nrm_sim (dtMul (f := f) hA hB)).mul (Sim.refl (C.cj ((f + i) % 2)))
  have s2 := (Sim.refl A).mul ((nrm_sim (dtMul (f := i) hB hC)).cj f)
  rw [cjm_mul, cjm_cj hf hi, ← mul_as] at s2
  exact nrm_eq (dtMul hA (aft_dt hB hC)) (s1.trans s2.symm)
theorem inD_pds (t : T3) (ps : List T3) : inD (pd t) (ps.map pd) = decide (t ∈ ps) := by
  unfold inD
  rw [List.any_map]
  by_cases h : t ∈ ps
  · rw [decide_eq_true h]
    exact List.any_eq_true.mpr ⟨t, h, by show PyData.eqv (pd t) (pd t) = true; rw [eqv_pd, decide_eq_true rfl]⟩
  · rw [decide_eq_false h]
    refine Bool.eq_false_iff.mpr fun e => h ?_
    obtain ⟨u, m, z⟩ := List.any_eq_true.mp e
    have z : PyData.eqv (pd u) (pd t) = true := z
    rw [eqv_pd] at z
    rw [← of_decide_eq_true z]
    exact m
theorem Pt.isPl {t : T3} (h : Pt t) : isPl t.1 t.2.1 t.2.2 = true := by
  unfold Z.isPl
  rcases h with h | ⟨h1, h2⟩
  · rw [h]; rfl
  · rw [decide_eq_true h1, decide_eq_true h2, Bool.and_self, Bool.or_true]
end Z
set_option Elab.async false
set_option linter.all false
set_option maxRecDepth 100000
namespace Z
open PySem L2 PyProof.Rows
end Z
set_option Elab.async false
set_option linter.all false
set_option maxRecDepth 100000
set_option synthInstance.maxSize 4000
set_option synthInstance.maxHeartbeats 400000
namespace Z
open PySem L2
theorem cr_ne {t u : T3} (T : Pt t) (U : Pt u) (n : t ≠ u) : cr (vt t) (vt u) ≠ 0 := fun e => n (T.uniq U e)
/-- three places that are not equal -/
structure Tr (a b c : T3) : Prop where
  pa : Pt a
  pb : Pt b
  pc : Pt c
  ab : a ≠ b
  ac : a ≠ c
  bc : b ≠ c
def mir (q l m k : Int) : M4 := ⟨(-l, -m), (-2 * k, 0), (2 * q, 0), (l, -m)⟩
def nx (t u : T3) : Int := (t.1 * u.2.2 - u.1 * t.2.2) * (t.1 * u.2.2 - u.1 * t.2.2) + (t.2.1 * u.2.2 - u.2.1 * t.2.2) * (t.2.1 * u.2.2 - u.2.1 * t.2.2)
abbrev t3 (a b c : T3) : PyData := .tuple [pd a, pd b, pd c]
end Z
set_option Elab.async false
set_option linter.all false
set_option maxRecDepth 100000
namespace Z
open PySem L2 PyProof.Rows
theorem fl01 (f i : Int) : (f + i) % 2 = 0 ∨ (f + i) % 2 = 1 := by omega
theorem sz01 {f : Int} (hf : f = 0 ∨ f = 1) : Sz 1 f := ⟨by rcases hf with rfl | rfl <;> decide⟩
end Z
set_option Elab.async false
set_option linter.all false
set_option maxRecDepth 100000
set_option synthInstance.maxSize 4000
set_option synthInstance.maxHeartbeats 400000
namespace Z
open PySem L2
def ap (t u : T3) : G := (t.1 * u.2.2 - u.1 * t.2.2, t.2.1 * u.2.2 - u.2.1 * t.2.2)
theorem ap_cr (t u : T3) : ap t u = cr (vt t) (vt u) := Prod.ext (by show _ = (t.1 * u.2.2 - t.2.1 * 0) - (t.2.2 * u.1 - 0 * u.2.1); simp only [ap]; grind) (by show _ = (t.1 * 0 + t.2.1 * u.2.2) - (t.2.2 * u.2.1 + 0 * u.1); simp only [ap]; grind)
theorem ap_ne {t u : T3} (T : Pt t) (U : Pt u) (n : t ≠ u) : ap t u ≠ 0 := by rw [ap_cr]; exact cr_ne T U n
theorem qt_par {p q p' q' : G} (h : ¬(p = 0 ∧ q = 0)) (h' : ¬(p' = 0 ∧ q' = 0)) (e : p * q' - q * p' = 0) : qt p q = qt p' q' := by
  have szs : ∀ x : G, ∃ n, Sz n x.1 ∧ Sz n x.2 := fun x => by
    obtain ⟨a, ha⟩ := sz_any x.1
    obtain ⟨b, hb⟩ := sz_any x.2
    exact ⟨a + b, szUp ha (by omega), szUp hb (by omega)⟩
  obtain ⟨n1, s1, s2⟩ := szs p
  obtain ⟨n2, s3, s4⟩ := szs q
  obtain ⟨n3, s5, s6⟩ := szs p'
  obtain ⟨n4, s7, s8⟩ := szs q'
  obtain ⟨P, _, c⟩ := qt_ok (n := n1 + n2) h (szUp s1 (by omega)) (szUp s2 (by omega)) (szUp s3 (by omega)) (szUp s4 (by omega))
  obtain ⟨P', _, c'⟩ := qt_ok (n := n3 + n4) h' (szUp s5 (by omega)) (szUp s6 (by omega)) (szUp s7 (by omega)) (szUp s8 (by omega))
  refine P.uniq P' ?_
  exact cr_trans c (cr_trans (w := ⟨p', q'⟩) e (cr_sym c') h') h
theorem qt_any {p q : G} (h : ¬(p = 0 ∧ q = 0)) : Pt (qt p q) ∧ cr (vt (qt p q)) ⟨p, q⟩ = 0 := by
  obtain ⟨n1, s1⟩ := sz_any p.1
  obtain ⟨n2, s2⟩ := sz_any p.2
  obtain ⟨n3, s3⟩ := sz_any q.1
  obtain ⟨n4, s4⟩ := sz_any q.2
  obtain ⟨P, _, c⟩ := qt_ok (n := n1 + n2 + n3 + n4) h (szUp s1 (by omega)) (szUp s2 (by omega)) (szUp s3 (by omega)) (szUp s4 (by omega))
  exact ⟨P, c⟩
/-- the conjugate -/
def tj (t : T3) : T3 := (t.1, -t.2.1, t.2.2)
theorem qt_gj {p q : G} : qt (gj p) (gj q) = tj (qt p q) := by
  unfold qt
  by_cases z : q = (0, 0)
  · rw [if_pos z, if_pos (by rw [z]; rfl)]
    rfl
  · rw [if_neg z, if_neg (gj_ne z)]
    have e1 : (gj p).1 * (gj q).1 - (gj p).2 * -(gj q).2 = p.1 * q.1 - p.2 * -q.2 := by simp only [gj]; grind
    have e2 : (gj p).1 * -(gj q).2 + (gj p).2 * (gj q).1 = -(p.1 * -q.2 + p.2 * q.1) := by simp only [gj]; grind
    have e3 : (gj q).1 * (gj q).1 + (gj q).2 * (gj q).2 = q.1 * q.1 + q.2 * q.2 := by simp only [gj]; grind
    simp only [e1, e2, e3]
    generalize p.1 * q.1 - p.2 * -q.2 = X
    generalize hY : p.1 * -q.2 + p.2 * q.1 = Y
    generalize q.1 * q.1 + q.2 * q.2 = W
    have eg : gcI [X, -Y, W] = gcI [X, Y, W] := by
      show ((Int.gcd (Int.gcd (Int.gcd 0 X : Int) (-Y) : Int) W : Nat) : Int) = ((Int.gcd (Int.gcd (Int.gcd 0 X : Int) Y : Int) W : Nat) : Int)
      rw [Int.gcd_neg]
    rw [eg]
    have dv : gcI [X, Y, W] ∣ Y := (gcF_dvd [X, Y, W] 0).2 Y (by simp)
    have : -Y / gcI [X, Y, W] = -(Y / gcI [X, Y, W]) := Int.neg_ediv_of_dvd dv
    rw [this]
    rfl
/-- four places that are not equal -/
structure Qd (a b c d : T3) : Prop where
  tr : Tr a b c
  p4 : Pt d
  ad : a ≠ d
  bd : b ≠ d
  cd : c ≠ d
def up4 (a b c d : T3) : G := ap a c * ap b d
def lo4 (a b c d : T3) : G := ap b c * ap a d
def rt4 (a b c d : T3) : T3 := qt (up4 a b c d) (lo4 a b c d)
section
variable {a b c d : T3}
theorem Qd.up (h : Qd a b c d) : up4 a b c d ≠ 0 := gnz (ap_ne h.tr.pa h.tr.pc h.tr.ac) (ap_ne h.tr.pb h.p4 h.bd)
theorem Qd.nz (h : Qd a b c d) : ¬(up4 a b c d = 0 ∧ lo4 a b c d = 0) := fun z => h.up z.1
theorem Qd.pt (h : Qd a b c d) : Pt (rt4 a b c d) := (qt_any h.nz).1
def awd (t u : T3) : Int := if t = (1, 0, 0) ∨ u = (1, 0, 0) then 1 else t.2.2 * u.2.2
def upw (a b c d : T3) : Int := awd b c * awd a d
end
end Z
set_option Elab.async false
set_option linter.all false
set_option maxRecDepth 100000
set_option synthInstance.maxSize 4000
set_option synthInstance.maxHeartbeats 400000
namespace Z
open PySem L2
def sg (v : Int) : Int := if 0 < v then 1 else if v < 0 then -1 else 0
/-- whether three places lie in a row -/
def dp (a b c : T3) : Int := a.1 * (b.2.1 * c.2.2 - c.2.1 * b.2.2) - a.2.1 * (b.1 * c.2.2 - c.1 * b.2.2) + a.2.2 * (b.1 * c.2.1 - c.1 * b.2.1)
end Z
set_option Elab.async false
set_option linter.all false
set_option maxRecDepth 100000
namespace Z
open PySem L2
end Z
set_option autoImplicit false
namespace Z
/-- the value of a row's form on two complex numbers -/
def vO (q l m k : Int) (x y : G) : Int := q * (x.1 * x.1 + x.2 * x.2) + (l * (x.1 * y.1 + x.2 * y.2) + m * (x.2 * y.1 - x.1 * y.2)) + k * (y.1 * y.1 + y.2 * y.2)
/-- the middle numbers -/
def sO (q l m k : Int) (A : M4) : G :=
  (2 * q * (A.a.1 * A.b.1 + A.a.2 * A.b.2) + 2 * k * (A.c.1 * A.d.1 + A.c.2 * A.d.2) + (l * (A.a.1 * A.d.1 + A.a.2 * A.d.2) + m * (A.a.2 * A.d.1 - A.a.1 * A.d.2)) + (l * (A.b.1 * A.c.1 + A.b.2 * A.c.2) - m * (A.b.1 * A.c.2 - A.b.2 * A.c.1)),
   2 * q * (A.a.2 * A.b.1 - A.a.1 * A.b.2) + 2 * k * (A.c.2 * A.d.1 - A.c.1 * A.d.2) + (l * (A.a.2 * A.d.1 - A.a.1 * A.d.2) - m * (A.a.1 * A.d.1 + A.a.2 * A.d.2)) + (l * (A.b.1 * A.c.2 - A.b.2 * A.c.1) + m * (A.b.1 * A.c.1 + A.b.2 * A.c.2)))
/-- rows as four numbers -/
abbrev R4 := Int × Int × Int × Int
def dsc (r : R4) : Int := r.2.1 * r.2.1 + r.2.2.1 * r.2.2.1 - 4 * (r.1 * r.2.2.2)
/-- a row led back by a map -/
def rlb (f : Int) (A : M4) (r : R4) : R4 := (vO r.1 r.2.1 r.2.2.1 r.2.2.2 A.a A.c, (sO r.1 r.2.1 r.2.2.1 r.2.2.2 A).1, if f = 1 then (sO r.1 r.2.1 r.2.2.1 r.2.2.2 A).2 else 0 - (sO r.1 r.2.1 r.2.2.1 r.2.2.2 A).2, vO r.1 r.2.1 r.2.2.1 r.2.2.2 A.b A.d)
set_option maxHeartbeats 4000000 in
theorem vO_rlb (f : Int) (A : M4) (r : R4) (v : V2) : vO (rlb f A r).1 (rlb f A r).2.1 (rlb f A r).2.2.1 (rlb f A r).2.2.2 v.x v.y = vO r.1 r.2.1 r.2.2.1 r.2.2.2 (A.app (v.cj f)).x (A.app (v.cj f)).y := by
  obtain ⟨⟨a1, a2⟩, ⟨b1, b2⟩, ⟨c1, c2⟩, ⟨d1, d2⟩⟩ := A
  obtain ⟨q, l, m, k⟩ := r
  obtain ⟨⟨x1, x2⟩, ⟨y1, y2⟩⟩ := v
  by_cases z : f = 1
  · subst z
    have e : (M4.app ⟨(a1, a2), (b1, b2), (c1, c2), (d1, d2)⟩ (V2.cj 1 ⟨(x1, x2), (y1, y2)⟩)) = ⟨((a1 * x1 - a2 * -x2) + (b1 * y1 - b2 * -y2), (a1 * -x2 + a2 * x1) + (b1 * -y2 + b2 * y1)), ((c1 * x1 - c2 * -x2) + (d1 * y1 - d2 * -y2), (c1 * -x2 + c2 * x1) + (d1 * -y2 + d2 * y1))⟩ := rfl
    rw [e]
    simp only [rlb, vO, sO, if_pos]
    grind
  · have e : (V2.cj f ⟨(x1, x2), (y1, y2)⟩) = ⟨(x1, x2), (y1, y2)⟩ := by simp only [V2.cj, cj, if_neg z]
    have e' : (M4.app ⟨(a1, a2), (b1, b2), (c1, c2), (d1, d2)⟩ ⟨(x1, x2), (y1, y2)⟩) = ⟨((a1 * x1 - a2 * x2) + (b1 * y1 - b2 * y2), (a1 * x2 + a2 * x1) + (b1 * y2 + b2 * y1)), ((c1 * x1 - c2 * x2) + (d1 * y1 - d2 * y2), (c1 * x2 + c2 * x1) + (d1 * y2 + d2 * y1))⟩ := rfl
    rw [e, e']
    simp only [rlb, vO, sO, if_neg z]
    grind
/-- the form of a row on two complex numbers -/
def vR (r : R4) (v : V2) : Int := vO r.1 r.2.1 r.2.2.1 r.2.2.2 v.x v.y
theorem vR_rlb (f : Int) (A : M4) (r : R4) (v : V2) : vR (rlb f A r) v = vR r (A.app (v.cj f)) := vO_rlb f A r v
/-- rows are told apart by their forms -/
theorem vR_ext {r s : R4} (h : ∀ v : V2, vR r v = vR s v) : r = s := by
  obtain ⟨q, l, m, k⟩ := r
  obtain ⟨q2, l2, m2, k2⟩ := s
  have h1 := h ⟨(1, 0), (0, 0)⟩
  have h2 := h ⟨(0, 0), (1, 0)⟩
  have h3 := h ⟨(1, 0), (1, 0)⟩
  have h4 := h ⟨(0, 1), (1, 0)⟩
  simp only [vR, vO] at h1 h2 h3 h4
  have e1 : q = q2 := by omega
  have e2 : k = k2 := by omega
  have e3 : l = l2 := by omega
  have e4 : m = m2 := by omega
  rw [e1, e2, e3, e4]
theorem vR_mul (c : G) (r : R4) (v : V2) : vR r ⟨c * v.x, c * v.y⟩ = nm c * vR r v := by
  obtain ⟨c1, c2⟩ := c
  obtain ⟨q, l, m, k⟩ := r
  obtain ⟨⟨x1, x2⟩, ⟨y1, y2⟩⟩ := v
  have e : (⟨((c1, c2) : G) * (x1, x2), ((c1, c2) : G) * (y1, y2)⟩ : V2) = ⟨(c1 * x1 - c2 * x2, c1 * x2 + c2 * x1), (c1 * y1 - c2 * y2, c1 * y2 + c2 * y1)⟩ := rfl
  show vR (q, l, m, k) ⟨((c1, c2) : G) * (x1, x2), ((c1, c2) : G) * (y1, y2)⟩ = _
  rw [e]
  have n : nm ((c1, c2) : G) = c1 * c1 + c2 * c2 := rfl
  rw [n]
  simp only [vR, vO]
  grind
/-- led back by one map and then by another: led back by the first after the other -/
theorem rlb_mul {f i : Int} (hf : f = 0 ∨ f = 1) (hi : i = 0 ∨ i = 1) (A B : M4) (r : R4) : rlb i B (rlb f A r) = rlb ((f + i) % 2) (A.mul (B.cj f)) r := vR_ext fun v => by
  rw [vR_rlb, vR_rlb, vR_rlb, app_cj, app_mul, vcj_cj2 hf hi]
def smR (c : Int) (r : R4) : R4 := (c * r.1, c * r.2.1, c * r.2.2.1, c * r.2.2.2)
theorem vR_sm (c : Int) (r : R4) (v : V2) : vR (smR c r) v = c * vR r v := by simp only [vR, vO, smR]; grind
theorem rlb_smr (f : Int) (A : M4) (c : Int) (r : R4) : rlb f A (smR c r) = smR c (rlb f A r) := vR_ext fun v => by rw [vR_rlb, vR_sm, vR_sm, vR_rlb]
theorem rlb_sma (f : Int) (A : M4) (g : G) (r : R4) : rlb f (A.sm g) r = smR (nm g) (rlb f A r) := vR_ext fun v => by
  rw [vR_rlb, vR_sm, vR_rlb, ← vR_mul]
  congr 1
  simp only [M4.app, M4.sm]
  rw [show g * A.a * (v.cj f).x + g * A.b * (v.cj f).y = g * (A.a * (v.cj f).x + A.b * (v.cj f).y) by grind, show g * A.c * (v.cj f).x + g * A.d * (v.cj f).y = g * (A.c * (v.cj f).x + A.d * (v.cj f).y) by grind]
theorem rlb_one (r : R4) : rlb 0 M4.one r = r := vR_ext fun v => by
  rw [vR_rlb]
  congr 1
  have e : v.cj 0 = v := by simp only [V2.cj, cj]; rfl
  rw [e]
  obtain ⟨x, y⟩ := v
  simp only [M4.app, M4.one]
  rw [show (1 : G) * x + 0 * y = x by grind, show (0 : G) * x + 1 * y = y by grind]
end Z
set_option autoImplicit false
namespace Z
end Z
set_option autoImplicit false
set_option linter.all false
namespace Z
open PySem L2
abbrev lsR (r : R4) : List Int := [r.1, r.2.1, r.2.2.1, r.2.2.2]
/-- a round in its form -/
structure Rd (n : Nat) (r : R4) : Prop where
  one : gcI (lsR r) = 1
  pos : 0 < dsc r
  up : posL (lsR r) = true
  s1 : Sz n r.1
  s2 : Sz n r.2.1
  s3 : Sz n r.2.2.1
  s4 : Sz n r.2.2.2
abbrev SR (n : Nat) (r : R4) : Prop := Sz n r.1 ∧ Sz n r.2.1 ∧ Sz n r.2.2.1 ∧ Sz n r.2.2.2
theorem Rd.sr {n : Nat} {r : R4} (h : Rd n r) : SR n r := ⟨h.s1, h.s2, h.s3, h.s4⟩
theorem SR.up {n m : Nat} {r : R4} (h : SR n r) (l : n ≤ m) : SR m r := ⟨szUp h.1 l, szUp h.2.1 l, szUp h.2.2.1 l, szUp h.2.2.2 l⟩
theorem SR.any (r : R4) : ∃ n, SR n r := by
  obtain ⟨a, h1⟩ := sz_any r.1
  obtain ⟨b, h2⟩ := sz_any r.2.1
  obtain ⟨c, h3⟩ := sz_any r.2.2.1
  obtain ⟨d, h4⟩ := sz_any r.2.2.2
  exact ⟨a + b + c + d, szUp h1 (by omega), szUp h2 (by omega), szUp h3 (by omega), szUp h4 (by omega)⟩
theorem ff0 {f : Int} (hf : f = 0 ∨ f = 1) : (f + f) % 2 = 0 := by rcases hf with rfl | rfl <;> rfl
class GS (n : outParam Nat) (p : G) : Prop where
  a : Sz n p.1
  b : Sz n p.2
instance gs_fst {n : Nat} {p : G} [h : GS n p] : Sz n p.1 := h.a
instance gs_snd {n : Nat} {p : G} [h : GS n p] : Sz n p.2 := h.b
instance gs_mk {n m : Nat} {x y : Int} [a : Sz n x] [b : Sz m y] : GS (max n m) (x, y) := ⟨szUp a (Nat.le_max_left ..), szUp b (Nat.le_max_right ..)⟩
instance gs_gm {n m : Nat} {p q : G} [a : GS n p] [b : GS m q] : GS (n + m + 1) (gm p q) := by
  refine ⟨szUp (inferInstance : Sz _ (p.1 * q.1 - p.2 * q.2)) (by omega), szUp (inferInstance : Sz _ (p.1 * q.2 + p.2 * q.1)) (by omega)⟩
instance gs_gj {n : Nat} {p : G} [a : GS n p] : GS n (gj p) := ⟨a.a, ngS a.b⟩
instance gs_ga {n m : Nat} {p q : G} [a : GS n p] [b : GS m q] : GS (max n m + 1) (ga p q) := ⟨(inferInstance : Sz _ (p.1 + q.1)), (inferInstance : Sz _ (p.2 + q.2))⟩
instance gs_gu {n m : Nat} {p q : G} [a : GS n p] [b : GS m q] : GS (max n m + 1) (gu p q) := ⟨(inferInstance : Sz _ (p.1 - q.1)), (inferInstance : Sz _ (p.2 - q.2))⟩
instance gs_nm {n : Nat} {p : G} [a : GS n p] : Sz (2 * n + 1) (nm p) := szUp (inferInstance : Sz _ (p.1 * p.1 + p.2 * p.2)) (by omega)
end Z
set_option autoImplicit false
set_option linter.all false
namespace Z
open PySem L2
end Z
set_option autoImplicit false
set_option linter.all false
namespace Z
open PySem L2
end Z
set_option autoImplicit false
set_option linter.all false
namespace Z
open PySem L2
def mirR (r : R4) : M4 := mir r.1 r.2.1 r.2.2.1 r.2.2.2
def mm (r s : R4) : M4 := (mirR r).mul ((mirR s).cj 1)
instance : DecidableEq M4 := fun A B => decidable_of_iff (A.a = B.a ∧ A.b = B.b ∧ A.c = B.c ∧ A.d = B.d) ⟨fun h => m4_ext h.1 h.2.1 h.2.2.1 h.2.2.2, fun h => by subst h; exact ⟨rfl, rfl, rfl, rfl⟩⟩
theorem eqv_M (f i : Int) (A B : M4) : PyData.eqv (mp4 f A) (mp4 i B) = (decide (f = i) && decide (A = B)) := by
  obtain ⟨⟨a1, a2⟩, ⟨b1, b2⟩, ⟨c1, c2⟩, ⟨d1, d2⟩⟩ := A
  obtain ⟨⟨x1, x2⟩, ⟨y1, y2⟩, ⟨z1, z2⟩, ⟨w1, w2⟩⟩ := B
  have e : decide ((⟨(a1, a2), (b1, b2), (c1, c2), (d1, d2)⟩ : M4) = ⟨(x1, x2), (y1, y2), (z1, z2), (w1, w2)⟩) = ((decide (a1 = x1) && decide (a2 = x2)) && ((decide (b1 = y1) && decide (b2 = y2)) && ((decide (c1 = z1) && decide (c2 = z2)) && (decide (d1 = w1) && decide (d2 = w2))))) := by
    rw [← Bool.decide_and, ← Bool.decide_and, ← Bool.decide_and, ← Bool.decide_and, ← Bool.decide_and, ← Bool.decide_and, ← Bool.decide_and]
    apply decide_eq_decide.mpr
    simp only [M4.mk.injEq, Prod.mk.injEq]
  rw [e]
  simp [PyData.eqv, PyData.eqvAll]
  rfl
theorem m1_sz2 {n m : Nat} {a b e g : G} (a1 : Sz n a.1) (a2 : Sz n a.2) (b1 : Sz n b.1) (b2 : Sz n b.2) (e1 : Sz m e.1) (e2 : Sz m e.2) (g1 : Sz m g.1) (g2 : Sz m g.2) : Sz (n + m + 2) (a * e + b * g).1 ∧ Sz (n + m + 2) (a * e + b * g).2 :=
  ⟨szUp (inferInstance : Sz _ ((a.1 * e.1 - a.2 * e.2) + (b.1 * g.1 - b.2 * g.2))) (by omega), szUp (inferInstance : Sz _ ((a.1 * e.2 + a.2 * e.1) + (b.1 * g.2 + b.2 * g.1))) (by omega)⟩
theorem mul_sz2 {n m : Nat} {A B : M4} (s : S44 n A) (t : S44 m B) : S44 (n + m + 2) (A.mul B) := by
  obtain ⟨a1, a2, b1, b2, c1, c2, d1, d2⟩ := s
  obtain ⟨e1, e2, f1, f2, g1, g2, h1, h2⟩ := t
  have p := m1_sz2 a1 a2 b1 b2 e1 e2 g1 g2
  have q := m1_sz2 a1 a2 b1 b2 f1 f2 h1 h2
  have r := m1_sz2 c1 c2 d1 d2 e1 e2 g1 g2
  have s := m1_sz2 c1 c2 d1 d2 f1 f2 h1 h2
  exact ⟨p.1, p.2, q.1, q.2, r.1, r.2, s.1, s.2⟩
theorem aft_fm2 {f : Int} {n m : Nat} {A B : M4} (F : Fm4 n A) (F' : Fm4 m B) : Fm4 (n + m + 3) (aft f A B) := nrm_fm (mul_sz2 F.sz (F'.sz.cj (f := f))) (dtMul F.dt F'.dt)
noncomputable def hid (w : Ws) : Ws := Classical.choose (⟨w, rfl⟩ : ∃ q, q = w)
theorem hid_eq (w : Ws) : hid w = w := Classical.choose_spec (⟨w, rfl⟩ : ∃ q, q = w)
theorem hid_of {w : Ws} {E : Ed} {ev : Ev} (h : w E ev) : hid w E ev := by rw [hid_eq]; exact h
end Z
set_option Elab.async false
set_option linter.all false
set_option maxRecDepth 100000
namespace Z
open PySem L2
end Z
set_option autoImplicit false
set_option linter.all false
namespace Z
open PySem L2
theorem Pt.pos {t : T3} (T : Pt t) (n : t ≠ (1, 0, 0)) : 0 < t.2.2 := by
  rcases T with z | ⟨p, _⟩
  · exact absurd z n
  · exact p
end Z
set_option Elab.async false
set_option linter.all false
set_option maxRecDepth 100000
namespace Z
open PySem L2
/-- no caught exception -/
def isX : PyData → Bool
  | .dict ((.int _, _) :: _) => true
  | _ => false
theorem okE_in {d : PyData} {P : Prop} (h : isX d = false) (p : P) : okE d P := by
  unfold okE
  split
  · exact Bool.noConfusion h
  · exact p
def okv : PyData → Bool
  | .tuple xs => Nat.ble xs.length 1000 && xs.all fun x => !isX x
  | d => !isX d
theorem okv_x {d : PyData} (h : okv d = true) : isX d = false := by
  cases d with
  | dict ps => exact Bool.eq_false_iff.mpr fun z => by rw [show okv (.dict ps) = !isX (.dict ps) from rfl, z] at h; cases h
  | _ => rfl
theorem okv_t {xs : List PyData} (h : okv (.tuple xs) = true) : xs.length ≤ 1000 ∧ ∀ x ∈ xs, isX x = false := by
  have h : (Nat.ble xs.length 1000 && xs.all fun x => !isX x) = true := h
  rw [Bool.and_eq_true] at h
  refine ⟨Nat.le_of_ble_eq_true h.1, fun x m => ?_⟩
  have := List.all_eq_true.mp h.2 x m
  cases z : isX x with
  | false => rfl
  | true => rw [z] at this; cases this
end Z
set_option Elab.async false
set_option linter.all false
set_option maxRecDepth 100000
namespace Z
open PySem PySem.W PySem.Calls PyProof.Rows PySem.HandSPX
/-- the two fields that the program's errors have -/
def Fld (fl : Str) : Prop := fl = PySem.Str.ofString "given" ∨ fl = PySem.Str.ofString "index"
end Z
set_option Elab.async false
set_option linter.all false
set_option maxRecDepth 100000
namespace Z
open PySem PySem.Spec PyProof.Rows L2
/-- the field of an error that has none -/
def noF : Str := PySem.Str.ofString ""
theorem Fld.ne {fl : Str} (h : Fld fl) : fl ≠ noF := by
  rcases h with rfl | rfl <;> decide +kernel
end Z
set_option Elab.async false
set_option linter.all false
set_option maxRecDepth 100000
namespace Z
open PySem PySem.Spec PyProof.Rows L2
end Z
set_option Elab.async false
set_option linter.all false
set_option maxRecDepth 100000
namespace Z
open PySem PySem.Spec PyProof.Rows L2
end Z
set_option Elab.async false
set_option linter.all false
set_option maxRecDepth 100000
namespace Z
open PySem PySem.Spec PyProof.Rows L2
end Z
set_option Elab.async false
set_option linter.all false
set_option maxRecDepth 100000
namespace Z
open PySem PySem.Spec PyProof.Rows L2
section
variable {X : Cx} {c : Cf}
def ixD (d : PyData) : List PyData → Option Nat
  | [] => none
  | z :: r => if PyData.eqv z d = true then some 0 else (ixD d r).map (· + 1)
theorem ixD_ok {d : PyData} : ∀ {ds : List PyData} {j : Nat}, ixD d ds = some j → (∃ z, ds[j]? = some z ∧ PyData.eqv z d = true) ∧ ∀ (m : Nat) (z' : PyData), m < j → ds[m]? = some z' → PyData.eqv z' d = false
  | [], j, h => by cases h
  | z :: r, j, h => by
    unfold ixD at h
    by_cases e : PyData.eqv z d = true
    · rw [if_pos e] at h
      cases h
      exact ⟨⟨z, rfl, e⟩, fun m z' l => absurd l (Nat.not_lt_zero _)⟩
    · rw [if_neg e] at h
      cases y : ixD d r with
      | none => rw [y] at h; cases h
      | some i =>
        rw [y] at h
        cases h
        obtain ⟨⟨z1, q1, q2⟩, q3⟩ := ixD_ok y
        refine ⟨⟨z1, q1, q2⟩, fun m z' l w => ?_⟩
        cases m with
        | zero => cases w; exact Bool.eq_false_iff.mpr e
        | succ m => exact q3 m z' (Nat.lt_of_succ_lt_succ l) w
variable {o e : Expr} {wo we : Wx} {apos cpos : Pos}
end
end Z
set_option Elab.async false
set_option linter.all false
set_option maxRecDepth 100000
namespace Z
open PySem PySem.Spec PyProof.Rows L2
end Z
set_option Elab.async false
set_option linter.all false
set_option maxRecDepth 100000
namespace Z
open PySem PySem.Spec PyProof.Rows L2
end Z
set_option Elab.async false
set_option linter.all false
set_option maxRecDepth 100000
namespace Z
open PySem PySem.Spec PyProof.Rows L2
end Z
set_option Elab.async false
set_option linter.all false
set_option maxRecDepth 100000
namespace Z
open PySem PySem.Spec PyProof.Rows L2
end Z
set_option Elab.async false
set_option linter.all false
set_option maxRecDepth 100000
set_option maxHeartbeats 4000000
namespace L2
open PySem PySem.Spec PyProof.Rows
end L2
namespace Z
open PySem PySem.Spec PyProof.Rows L2
end Z
set_option Elab.async false
set_option linter.all false
set_option maxRecDepth 100000
set_option maxHeartbeats 4000000
namespace Z
open PySem PySem.Spec PyProof.Rows L2
abbrev il (t : T3) : List Int := [t.1, t.2.1, t.2.2]
end Z
namespace Z
open PySem PySem.Spec PyProof.Rows L2
theorem dz_kt {K : PySem.W.Frag} {a : Addr} {od : Option Addr} {its : Array Value} {n : Nat} {sl : Array (Option Value)} {vs : List V} {ds : List PyData} (hl : K.lookup a = some ⟨.type "tuple", od, .seq its n, sl⟩)
    (hz : its.size ≤ 1000) (hd : ∀ H, DzAll K H vs ds) (hv : Vals vs its.toList) (H : Hp) : Dz K H (.ref a) (.tuple ds) := .tup (.inr ⟨_, its, n, hl, rfl, rfl, line_of hz, hv⟩) (hd H)
end Z
set_option Elab.async false
set_option linter.all false
set_option maxRecDepth 100000
set_option maxHeartbeats 4000000
namespace Z
open PySem PySem.Spec PyProof.Rows L2
def M4.tr (A : M4) : G := A.a + A.d
def M4.al (A : M4) : G := A.a - A.d
def M4.lv (A : M4) : G := A.al * A.al + A.b * A.c * (4, 0)
def rto (A : M4) : T3 := qt (A.tr * A.tr) A.dt
theorem four : ((4, 0) : G) = 4 := rfl
theorem lv_tr (A : M4) : A.lv = A.tr * A.tr - 4 * A.dt := by
  simp only [M4.lv, M4.al, M4.tr, M4.dt, four]
  grind
theorem par_ne {p q : G} (h : q ≠ 0) : ¬(p = 0 ∧ q = 0) := fun z => h z.2
theorem Sim.tr {X Y : M4} (s : Sim X Y) : ∃ g h : G, g ≠ 0 ∧ h ≠ 0 ∧ g * X.tr = h * Y.tr ∧ g * g * X.dt = h * h * Y.dt ∧ g * g * X.lv = h * h * Y.lv := by
  obtain ⟨g, h, hg, hh, e⟩ := s
  have e1 : g * X.a = h * Y.a := congrArg M4.a e
  have e2 : g * X.b = h * Y.b := congrArg M4.b e
  have e3 : g * X.c = h * Y.c := congrArg M4.c e
  have e4 : g * X.d = h * Y.d := congrArg M4.d e
  have et : g * X.tr = h * Y.tr := by simp only [M4.tr]; grind
  have ed : g * g * X.dt = h * h * Y.dt := by simp only [M4.dt]; grind
  exact ⟨g, h, hg, hh, et, ed, by rw [lv_tr, lv_tr]; grind⟩
theorem rto_sim {X Y : M4} (s : Sim X Y) (hX : X.dt ≠ 0) (hY : Y.dt ≠ 0) : rto X = rto Y := by
  obtain ⟨g, h, hg, hh, et, ed, _⟩ := s.tr
  refine qt_par (par_ne hX) (par_ne hY) ?_
  refine gmc hg (gmc hg ?_)
  have : g * X.tr * (g * X.tr) = h * Y.tr * (h * Y.tr) := by rw [et]
  grind
/-- A B adj A -/
def M4.con (A B : M4) : M4 := (A.mul B).mul A.adj
theorem con_tr (A B : M4) : (A.con B).tr = B.tr * A.dt := by simp only [M4.con, M4.mul, M4.adj, M4.tr, M4.dt]; grind
theorem con_dt (A B : M4) : (A.con B).dt = B.dt * (A.dt * A.dt) := by simp only [M4.con, M4.mul, M4.adj, M4.dt]; grind
theorem con_nz {A B : M4} (h : A.dt ≠ 0) (g : B.dt ≠ 0) : (A.con B).dt ≠ 0 := by rw [con_dt]; exact gnz g (gnz h h)
theorem rto_con {A B : M4} (h : A.dt ≠ 0) (g : B.dt ≠ 0) : rto (A.con B) = rto B := by
  refine qt_par (par_ne (con_nz h g)) (par_ne g) ?_
  rw [con_tr, con_dt]
  grind
end Z
set_option Elab.async false
set_option linter.all false
set_option maxRecDepth 100000
set_option maxHeartbeats 4000000
namespace Z
open PySem PySem.Spec PyProof.Rows L2
def wd (u w : G) : Str := if nm u = nm w then "winds" else if (gm u (gj w)).2 ≠ 0 then "spirals" else if 0 < (gm u (gj w)).1 then "pulls" else "swings"
end Z
set_option Elab.async false
set_option linter.all false
set_option maxRecDepth 100000
set_option maxHeartbeats 4000000
namespace Z
open PySem PySem.Spec PyProof.Rows L2
def M4.sq (A : M4) : M4 := A.mul (A.cj 1)
end Z
set_option Elab.async false
set_option linter.all false
set_option maxRecDepth 100000
set_option maxHeartbeats 4000000
namespace Z
open PySem PySem.Spec PyProof.Rows L2
end Z
set_option autoImplicit false
set_option linter.all false
namespace Z
open PySem L2
def KQ (f : Int) (A : M4) (r s : R4) (v : Int) : Prop := ∃ k g : Int, 0 < k ∧ 0 < g ∧ smR k (rlb f A r) = smR (v * g) s
theorem smR_smR (a b : Int) (r : R4) : smR a (smR b r) = smR (a * b) r := by simp only [smR, Int.mul_assoc]
theorem KQ.mul {f i : Int} {A B : M4} {r s t : R4} {v w : Int} (hf : f = 0 ∨ f = 1) (hi : i = 0 ∨ i = 1) (h : KQ f A r s v) (h2 : KQ i B s t w) : KQ ((f + i) % 2) (A.mul (B.cj f)) r t (v * w) := by
  obtain ⟨k, g, hk, hg, e⟩ := h
  obtain ⟨l, m, hl, hm, e2⟩ := h2
  refine ⟨k * l, g * m, Int.mul_pos hk hl, Int.mul_pos hg hm, ?_⟩
  rw [← rlb_mul hf hi]
  have e3 : smR (k * l) (rlb i B (rlb f A r)) = smR l (rlb i B (smR k (rlb f A r))) := by rw [rlb_smr, smR_smR, Int.mul_comm]
  have e4 : smR l (smR (v * g) (rlb i B s)) = smR (v * g) (smR l (rlb i B s)) := by rw [smR_smR, smR_smR, Int.mul_comm]
  rw [e3, e, rlb_smr, e4, e2, smR_smR, show v * g * (w * m) = v * w * (g * m) by grind]
theorem KQ.sim {f : Int} {A B : M4} {r s : R4} {v : Int} (S : Sim A B) (h : KQ f A r s v) : KQ f B r s v := by
  obtain ⟨a, b, ha, hb, e⟩ := S
  obtain ⟨k, g, hk, hg, e2⟩ := h
  have e3 : smR (nm a) (rlb f A r) = smR (nm b) (rlb f B r) := by rw [← rlb_sma, ← rlb_sma, e]
  refine ⟨k * nm b, g * nm a, Int.mul_pos hk (nm_pos hb), Int.mul_pos hg (nm_pos ha), ?_⟩
  rw [← smR_smR, ← e3, smR_smR, Int.mul_comm, ← smR_smR, e2, smR_smR, show nm a * (v * g) = v * (g * nm a) by grind]
theorem rlb_bk {f : Int} (hf : f = 0 ∨ f = 1) (A : M4) (r : R4) : rlb f (A.adj.cj f) (rlb f A r) = smR (nm A.dt) r := by
  rw [rlb_mul hf hf, cjm_self, mul_adj, ff0 hf, rlb_sma, rlb_one]
theorem KQ.back {f : Int} {A : M4} {r s : R4} {v : Int} (hf : f = 0 ∨ f = 1) (hA : A.dt ≠ 0) (hv : v * v = 1) (h : KQ f A r s v) : KQ f (A.adj.cj f) s r v := by
  obtain ⟨k, g, hk, hg, e⟩ := h
  refine ⟨g, k * nm A.dt, hg, Int.mul_pos hk (nm_pos hA), ?_⟩
  have e2 : smR (v * g) (rlb f (A.adj.cj f) s) = smR (k * nm A.dt) r := by rw [← rlb_smr, ← e, rlb_smr, rlb_bk hf, smR_smR]
  have e3 : smR v (smR (v * g) (rlb f (A.adj.cj f) s)) = smR g (rlb f (A.adj.cj f) s) := by rw [smR_smR, show v * (v * g) = (v * v) * g by grind, hv, Int.one_mul]
  rw [← e3, e2, smR_smR]
end Z
set_option autoImplicit false
set_option linter.all false
namespace Z
open PySem L2
def sw {α : Type} : List α → List α
  | [a, b] => [b, a]
  | l => l
end Z
set_option autoImplicit false
set_option linter.all false
namespace Z
open PySem L2
end Z
set_option autoImplicit false
set_option linter.all false
namespace Z
open PySem L2
end Z
set_option Elab.async false
set_option linter.all false
set_option maxRecDepth 100000
namespace Z
open PySem L2
theorem lc_keepA {α : Type} {i : Nat} {t : Wt} {el : Wx} {d : α → PyData} {p : α → Bool} {f : α → PyData} : ∀ {xs : List α} {ds acc : List PyData} {ev : Ev} {Q : List PyData → Ev → Prop}, ds = xs.map d → ev[i]? = some none → acc.length + xs.length ≤ 1000 →
    (∀ x ∈ xs, ∀ R : Bool → Ev → Prop, R (p x) (ev.set i (some (.val (d x)))) → t (ev.set i (some (.val (d x)))) R) →
    (∀ x ∈ xs, p x = true → ∀ R : PyData → Ev → Prop, R (f x) (ev.set i (some (.val (d x)))) → el (ev.set i (some (.val (d x)))) R) → Q (acc ++ (xs.filter p).map f) ev → lcD [i] (gN i) t el ds acc ev Q
  | [], _, acc, ev, Q, rfl, _, l, _, _, q => by
    rw [List.filter_nil, List.map_nil, List.append_nil] at q
    exact ⟨l, q⟩
  | x :: xs, _, acc, ev, Q, rfl, e, l, ht, he, q => by
    rw [List.length_cons] at l
    have g : ∀ P : Ev → Prop, gN i (d x) ev P = P (ev.set i (some (.val (d x)))) := fun P => by
      unfold gN
      rw [e]
    show gN i (d x) ev _
    rw [g]
    have back := set_back (x := some (.val (d x))) e
    refine ht x (List.mem_cons_self ..) (fun b e2 => if b = true then el e2 fun y e3 => acc.length < 1000 ∧ lcD [i] (gN i) t el (xs.map d) (acc ++ [y]) (wipeD e3 [i]) Q else lcD [i] (gN i) t el (xs.map d) acc (wipeD e2 [i]) Q) ?_
    have ht' := fun d' (m : d' ∈ xs) => ht d' (List.mem_cons_of_mem _ m)
    have he' := fun d' (m : d' ∈ xs) => he d' (List.mem_cons_of_mem _ m)
    by_cases z : p x = true
    · rw [if_pos z]
      rw [List.filter_cons_of_pos z, List.map_cons] at q
      refine he x (List.mem_cons_self ..) z _ ⟨by omega, ?_⟩
      rw [back]
      refine lc_keepA rfl e (by rw [List.length_append, List.length_cons, List.length_nil]; omega) ht' he' ?_
      rw [List.append_assoc]
      exact q
    · rw [if_neg z, back]
      rw [List.filter_cons_of_neg z] at q
      exact lc_keepA rfl e (by omega) ht' he' q
end Z
set_option Elab.async false
set_option linter.all false
set_option maxRecDepth 100000
set_option maxHeartbeats 4000000
namespace Z
open PySem PySem.Spec PyProof.Rows L2
def KvOk : List (List Int × Addr × Value) → List (List Int × Int) → Prop
  | [], [] => True
  | x :: xs, y :: ys => x.1 = y.1 ∧ (∃ t, x.2.2 = .int y.2 t) ∧ KvOk xs ys
  | _, _ => False
def lkV (kvs : List (List Int × Int)) (k : List Int) : V := match kvs.lookup k with
  | some i => .int i
  | none => .non
def lkD (kvs : List (List Int × Int)) (k : List Int) : PyData := match kvs.lookup k with
  | some i => .int i
  | none => .none
theorem kvOk_at {k : List Int} : ∀ {xs : List (List Int × Addr × Value)} {kvs : List (List Int × Int)}, KvOk xs kvs → RelV (lkV kvs k) (((atKey xs k).map (·.2)).getD .none)
  | [], [], _ => rfl
  | [], _ :: _, h => h.elim
  | _ :: _, [], h => h.elim
  | x :: xs, y :: ys, ⟨h1, ⟨t, h2⟩, h3⟩ => by
    have ih := kvOk_at (k := k) h3
    unfold lkV atKey at *
    rw [List.lookup_cons, List.find?_cons]
    by_cases e : x.1 = k
    · rw [show (k == y.1) = true from by rw [← h1, e]; exact beq_self_eq_true k, decide_eq_true e]
      show RelV (.int y.2) x.2.2
      rw [h2]
      exact ⟨t, rfl⟩
    · rw [show (k == y.1) = false from beq_eq_false_iff_ne.mpr (fun z => e (by rw [h1, z])), decide_eq_false e]
      exact ih
theorem itemsAre_int {P : Program} {w : World} : ∀ {ks : List Int} {us : List Value}, Vals (ks.map V.int) us → ItemsAre (intKind P w) ks us
  | [], _, .nil => .nil
  | k :: ks, _, .cons (b := u) r rs => by
    obtain ⟨t, e⟩ := (show ∃ t, u = Value.int k t from r)
    subst e
    exact .cons (show Value.isInt k (.int k t) = true by simp [Value.isInt]) (itemsAre_int rs)
/-- what is known of the dict -/
structure DT9 (K : PySem.W.Frag) (P : Program) (wd : World) (a : Addr) (kvs : List (List Int × Int)) : Prop where
  ex : ∃ (es : Array DictEntry) (n : Nat) (xs : List (List Int × Addr × Value)), (a == sysModules) = false ∧ K.lookup a = some ⟨.type "dict", none, .dict es n, #[]⟩ ∧ es.toList = xs.map (entryOfKey (tupleKind (intKind P wd))) ∧ (xs.map (·.1)).Nodup ∧
    (∀ y ∈ xs, ∃ od its m sl, K.lookup y.2.1 = some ⟨.type "tuple", od, .seq its m, sl⟩ ∧ Vals (y.1.map V.int) its.toList) ∧ KvOk xs kvs
def rGetT (K : PySem.W.Frag) (kvs : List (List Int × Int)) : List V → Hp → VK → Prop := fun xs H Q => ∃ b k, xs = [.ref b] ∧ SqT K H b (k.map V.int) ∧ Q (lkV kvs k) H
section
variable {X : Cx} {e : Expr} {t : TA} {a : Addr} {p0 apos cpos : Pos} {x : Str} {kvs : List (List Int × Int)}
theorem pe_getT (hu : X.A.units + 1 < cLine) (hg : Gl X x) (hm : X.mg x = some (.ref a)) (D : DT9 X.K X.prog X.w a kvs) (ha : PA X [e] t) (h2 : (x == ("__debug__" : Str)) = false := by decide)
    (hbase : attributeBase (.Name x p0) "get" X.env (eval (.Name x p0) X.env) = eval (.Name x p0) X.env := by rfl)
    (hfew : ((backTo cpos (starEach [e] X.env)).all (fun x => !x.1) && (backToKw cpos (keywordEach [] X.env)).all (fun x => x.1.isSome)
      && decide ([e].length + ([] : List Keyword).length + (if ([] : List Keyword).isEmpty then 0 else 1) < 30)) = true := by rfl)
    (hline : (apos.endLine == cpos.line) = true := by rfl) (hs : starEach [e] X.env = (false, eval e X.env) :: starEach [] X.env := by rfl) (hplain : (backTo cpos (starEach [] X.env)).any (·.1) = false := by rfl) :
    PE X (.Call (.Attribute (.Name x p0) "get" apos) [e] [] cpos) (fun σ H Q => t σ H fun xs H2 => rGetT X.K kvs xs H2 Q) := by
  obtain ⟨es, n, ys, hd, hl, he, hn, hk, hv⟩ := D.ex
  have ho := pe_glob (X := X) (x := x) (pos := p0) (v := .ref a) hg hm rfl h2
  refine ⟨fun pins s σ H Q I h => ?_⟩
  refine wpAny_Call_method_late hbase hfew hline rfl (thn (ho.run pins s σ H (fun v H1 => v = .ref a ∧ t σ H1 fun xs H2 => rGetT X.K kvs xs H2 Q) I ⟨rfl, h⟩) fun v s1 ⟨y, H1, I1, r1, ey, q1⟩ => ?_)
  subst ey
  cases r1
  refine ⟨"dict", "dict.get", PySem.F.plainAttrs_dict, PySem.F.slot_dict_get, PySem.F.type_dict_get, ⟨_, I1.kIn a _ hl, rfl⟩, fun b eb => by cases eb; exact ⟨_, I1.kIn a _ hl, rfl⟩, ?_⟩
  have hA := ha.run cpos pins s1 σ H1 _ I1 q1
  rw [hs] at hA ⊢
  refine Calls.callWith_builtin (by show (false || (backTo cpos (starEach [] X.env)).any (·.1)) = false; rw [hplain] <;> rfl) (Calls.evalArgs_plain ?_)
  refine thn hA fun us s2 ⟨vs, H2, I2, r2, b, k, ev, hq, q2⟩ => ?_
  subst ev
  cases r2 with
  | cons ry rt =>
    cases rt
    cases ry
    obtain ⟨its, rv, ⟨o, ho, hc, m, hdat⟩, hz⟩ := I2.tuple hq
    have dd : s2.heap.DictOfH (tupleKind (intKind X.prog X.w)) a ys := ⟨_, es, n, I2.kIn a _ hl, ⟨rfl, rfl, rfl⟩, rfl, he, fun y hy => by
      obtain ⟨od, is, m, sl, h1, h2⟩ := hk y hy
      exact ⟨_, is, m, I2.kIn _ _ h1, rfl, rfl, itemsAre_int h2⟩, hn⟩
    have key : (tupleKind (intKind X.prog X.w)).is s2.heap k b := ⟨o, its.toArray, m, ho, hc, hdat, by simpa using itemsAre_int rv⟩
    exact call_meetsIn PySem.F.slot_dict_get dd.typeIs PySem.F.entry_dict_get (PySem.F.args_dict_get_2 _ _) (meetsH_dict_get (tupleKind (intKind X.prog X.w)) a b hd) ⟨tupleKind_room_in1 hu, k, ys, key, dd, ⟨lkV kvs k, H2, I2.tok _, kvOk_at hv, q2⟩⟩
end
def dGT (kvs : List (List Int × Int)) (w : Wx) : Wx := fun ev Q => w ev fun d e => ∃ k : List Int, d = .tuple (k.map .int) ∧ Q (lkD kvs k) e
theorem ints_of {K : PySem.W.Frag} {H : Hp} : ∀ {xs : List V} {k : List Int}, DzAll K H xs (k.map PyData.int) → xs = k.map V.int
  | [], [], .nil => rfl
  | _ :: _, _ :: _, .cons a b => by
    cases a
    rw [ints_of b]
    rfl
structure GT (K : PySem.W.Frag) (P : Program) (wd : World) (mg : Str → Option Value) (x : Str) (kvs : List (List Int × Int)) : Prop where
  ex : ∃ a, mg x = some (.ref a) ∧ DT9 K P wd a kvs
theorem de_getT {X : Cx} {c : Cf} {x : Str} {kvs : List (List Int × Int)} {e : Expr} {we : Wx} {n : Nat} {p0 apos cpos : Pos} (hr : Room n X.A) (g : GT X.K X.prog X.w X.mg x kvs) (hg : Gl X x) (he : DE X c e we)
    (p : ∀ {a : Addr} {t : TA}, X.mg x = some (.ref a) → DT9 X.K X.prog X.w a kvs → PA X [e] t → PE X (.Call (.Attribute (.Name x p0) "get" apos) [e] [] cpos) (fun σ H Q => t σ H fun xs H2 => rGetT X.K kvs xs H2 Q))
    (h1 : starEach [e] X.env = (false, eval e X.env) :: starEach [] X.env := by rfl) : DE X c (.Call (.Attribute (.Name x p0) "get" apos) [e] [] cpos) (dGT kvs we) := by
  obtain ⟨a, hm, D⟩ := g.ex
  exact peM (p hm D (pa_cons he pa_nil h1)) fun σ H Q ⟨M, ev, pd, R, k, w, q⟩ => by
    refine ⟨M, ev, pd, _, k, w, fun d e1 h v H1 k1 => ?_⟩
    obtain ⟨k', rfl, h⟩ := h
    have tu := unm k1.top
    cases tu with
    | tup hs hx =>
      rw [ints_of hx] at hs
      refine ⟨_, k', rfl, hs, q _ e1 h _ _ ?_⟩
      unfold lkV lkD
      cases kvs.lookup k' with
      | none => exact k1.pop1.push .non
      | some i => exact k1.pop1.push (.int i)
/-- the hash of a tuple of whole numbers -/
def tkHash (k : List Int) : Int := reduceHash (Builtin.Tuple.tupleHashOf (k.map hashInt))
structure DTL (K : PySem.W.Frag) (P : Program) (wd : World) (es : List DictEntry) (kvs : List (List Int × Int)) : Prop where
  ex : ∃ xs : List (List Int × Addr × Value), es = xs.map (entryOfKey (tupleKind (PySem.intKind P wd))) ∧ xs.map (·.1) = kvs.map (·.1) ∧
    (∀ y ∈ xs, ∃ od its m sl, K.lookup y.2.1 = some ⟨.type "tuple", od, .seq its m, sl⟩ ∧ Vals (y.1.map V.int) its.toList) ∧ KvOk xs kvs
section
variable {K : PySem.W.Frag} {P : Program} {wd : World} {es : List DictEntry} {kvs : List (List Int × Int)}
theorem dtn : DTL K P wd [] [] := ⟨[], rfl, rfl, fun _ h => absurd h List.not_mem_nil, trivial⟩
theorem dtc {k : List Int} {v h : Int} {a : Addr} {t : Tok} {od : Option Addr} {its : Array Value} {m : Nat} {sl : Array (Option Value)} (eh : tkHash k = h) (l : K.lookup a = some ⟨.type "tuple", od, .seq its m, sl⟩) (vs : Vals (k.map V.int) its.toList)
    (r : DTL K P wd es kvs) : DTL K P wd (⟨h, .ref a, .int v t⟩ :: es) ((k, v) :: kvs) := by
  obtain ⟨xs, e1, e2, e3, e4⟩ := r.ex
  refine ⟨(k, a, .int v t) :: xs, ?_, ?_, fun y hy => ?_, rfl, ⟨t, rfl⟩, e4⟩
  · subst eh e1
    rfl
  · rw [List.map_cons, List.map_cons, e2]
  · rcases List.mem_cons.mp hy with rfl | hy
    · exact ⟨od, its, m, sl, l, vs⟩
    · exact e3 y hy
theorem gt_mk {mg : Str → Option Value} {x : Str} {a : Addr} {ea : Array DictEntry} {n : Nat} (h : mg x = some (.ref a)) (hs : (a == sysModules) = false) (l : K.lookup a = some ⟨.type "dict", none, .dict ea n, #[]⟩) (e : ea.toList = es) (nd : (kvs.map (·.1)).Nodup)
    (d : DTL K P wd es kvs) : GT K P wd mg x kvs := by
  obtain ⟨xs, e1, e2, e3, e4⟩ := d.ex
  exact ⟨a, h, ⟨ea, n, xs, hs, l, e.trans e1, by rw [e2]; exact nd, e3, e4⟩⟩
end
end Z
set_option Elab.async false
set_option linter.all false
set_option maxRecDepth 100000
set_option maxHeartbeats 4000000
namespace Z
open PySem PySem.Spec PyProof.Rows L2
abbrev frD (a : Nat) (ds : List PyData) : PyData := .dict [(.int a, .tuple ds)]
def unfO : PyData → Option (List PyData)
  | .dict [(.int _, .tuple ds)] => some ds
  | _ => none
theorem frt_inv {K : PySem.W.Frag} {H : Hp} {v : V} {d : PyData} {ds : List PyData} (r : Dz K H v d) (h : unfO d = some ds) : ∃ a o xs, v = .ref a ∧ H a = some (.frz o (.tup xs)) ∧ o.cls = .type "tuple" ∧ o.dict = none ∧ DzAll K H xs ds := by
  cases r with
  | frt q c d r =>
    cases h
    exact ⟨_, _, _, rfl, q, c, d, r⟩
  | _ => cases h
def tTupF (t : TA) : TE := fun σ H Q => t σ H fun xs H1 => xs.length ≤ sizeLine ∧ ∀ (p : Addr) (o : Obj), H1 p = none → o.cls = .type "tuple" → o.dict = none → Q (.ref p) (upd H1 p (.frz o (.tup xs)))
theorem Ok.newFrt {c : Cf} {K : PySem.W.Frag} {M : Mz} {σ : Sg} {H : Hp} {ev : Ev} {pd : List (V × PyData)} (k : Ok K c M σ H ev pd) {p : Addr} {o : Obj} {vs : List V} {ds : List PyData} (h : H p = none) (h1 : o.cls = .type "tuple") (h2 : o.dict = none) (q : DzAll K (msk M H) vs ds) : Ok K c M σ (upd H p (.frz o (.tup vs))) ev ((.ref p, frD p ds) :: pd) :=
  (k.new h).push (.frt (msk_of upd_same (k.free h)) h1 h2 (q.up (msk_same fun b o e _ => up_new h b o e)))
def frV (x : V) (H : Hp) : Prop := ∃ a o xs, x = V.ref a ∧ H a = some (.frz o (.tup xs)) ∧ o.cls = .type "tuple" ∧ o.dict = none
def rIndexT (K : PySem.W.Frag) : V → List V → Hp → VK → Prop := fun x xs H Q => ∃ (a : Addr) (y : V) (d : PyData) (ds : List PyData) (j : Nat) (z : PyData), x = V.ref a ∧ xs = [y] ∧ Dp K H (V.ref a) (.tuple ds) ∧ Dp K H y d ∧
  SeqAt.shaped (.tuple ds) = true ∧ SeqAt.shaped d = true ∧ ds[j]? = some z ∧ PyData.eqv z d = true ∧ (∀ (m : Nat) (z' : PyData), m < j → ds[m]? = some z' → PyData.eqv z' d = false) ∧ Q (.int (j : Nat)) H
section
variable {X : Cx}
theorem mt_indexT (hu : X.A.units + 65 < cLine) : MtR X "tuple.index" (rIndexT X.K) := by
  intro pins s σ H x xs v us Q I rx rxs h
  obtain ⟨a, y, d, ds, j, z, rfl, rfl, hl, hy, sl, sd, hz, hzj, hno, q⟩ := h
  cases rx
  cases rxs with
  | cons ry rt =>
    rename_i uy ut
    cases rt
    obtain ⟨bs, r1⟩ := Dp.reads I d y uy hy ry
    have hxs : PyData.canLayAll0 ds = true := SeqAt.canLay_of_shaped sl
    have hroom : X.A.units + 1 + min (PyData.depthAll ds) d.depth < cLine := room_in_shaped sd hu
    cases hl with
    | tup hs ha =>
      obtain ⟨its, rv, ⟨⟨cls, dd, data, sls⟩, ho, hc, n, hdt⟩, hlen⟩ := I.tuple hs
      simp only at hc hdt
      subst hc hdt
      obtain ⟨as, h4⟩ := Dp.readsAll I ds _ its ha rv
      have hn : its.length = ds.length := SeqAt.ReadsAll.length ds its as h4
      have hmap : its.map (SeqAt.readOf s.heap) = ds := SeqAt.readsAll_map ds its as hxs h4
      have hvl := rv.length
      have hsl := sizeLine_eq
      obtain ⟨hjd, _⟩ := List.getElem?_eq_some_iff.mp hz
      have hjl : j < its.length := by omega
      have hj : j < its.toArray.size := by simpa using hjl
      have at_ : ∀ (m : Nat) (hm : m < its.toArray.size) (z' : PyData), ds[m]? = some z' → SeqAt.readOf s.heap its.toArray[m] = z' := by
        intro m hm z' hz'
        have hml : m < its.length := by simpa using hm
        rw [← hmap, List.getElem?_map, List.getElem?_eq_getElem hml] at hz'
        have e1 : SeqAt.readOf s.heap its[m] = z' := Option.some.inj (show some (SeqAt.readOf s.heap its[m]) = some z' from hz')
        simpa using e1
      refine call_meets PySem.F.slot_tuple_index ⟨_, ho, rfl⟩ PySem.F.entry_tuple_index (PySem.F.args_tuple_index_2 _ _)
        (TI.tuple_indexAt a its.toArray n dd sls uy (fun u => PyData.eqv (SeqAt.readOf s.heap u) d) j hj ?_ ?_) ⟨ho, SeqAt.items_eqAt (vs := its.toArray) (show ReadsAll s.heap its.toArray.toList ds as from h4) r1 hxs (SeqAt.canLay_of_shaped sd) hroom, ?_⟩
      · show PyData.eqv (SeqAt.readOf s.heap its.toArray[j]) d = true
        rw [at_ j hj z hz]
        exact hzj
      · intro m hm hmj
        have hmd : m < ds.length := by omega
        have hz' : ds[m]? = some ds[m] := List.getElem?_eq_getElem hmd
        show PyData.eqv (SeqAt.readOf s.heap its.toArray[m]) d = false
        rw [at_ m hm _ hz']
        exact hno m _ hmj hz'
      · exact ⟨.int (j : Nat), H, I.tok _, ⟨_, rfl⟩, q⟩
variable {es : List Expr} {e o : Expr} {t : TA} {to : TE} {pos apos cpos : Pos} {name : Str} {id : String} {r : V → List V → Hp → VK → Prop}
theorem pe_tupF {x1} (h : PA X es t) : PE X (.Tuple es x1 pos) (tTupF t) := by
  refine ⟨fun pins s σ H Q I hq => ?_⟩
  refine wpAny_Tuple_spliced (thn (h.run pos pins s σ H _ I hq) fun us s1 ⟨xs, H1, I1, r, z, q⟩ => ⟨by rw [← r.length]; exact z, ?_⟩)
  have hf : H1 s1.heap.objs.size = none := I1.hok.fresh (Nat.le_refl _)
  refine ⟨.ref s1.heap.objs.size, upd H1 s1.heap.objs.size (.frz { cls := .type "tuple", data := .seq us.toArray } (.tup xs)), I1.laid (t' := s1.toks) (fun b u e => Heap.get?_push_of_some _ e) (Nat.le_refl _) ?_, rfl, q _ _ hf rfl rfl⟩
  exact ⟨Heap.get?_push_size _ rfl, z, us, r, ⟨_, Heap.get?_push_size _ rfl, rfl, _, rfl⟩⟩
theorem pe_bmF (pa : PlainAttrs "tuple") (slot : Slot "tuple" name id) (hty : typeOf (.builtin id) = pure (.type "method_descriptor")) (hm : MtR X id r) (ho : PE X o to) (ha : PA X (e :: es) t)
    (hbase : attributeBase o name X.env (eval o X.env) = eval o X.env := by rfl)
    (hfew : ((backTo cpos (starEach (e :: es) X.env)).all (fun x => !x.1) && (backToKw cpos (keywordEach [] X.env)).all (fun x => x.1.isSome)
      && decide ((e :: es).length + ([] : List Keyword).length + (if ([] : List Keyword).isEmpty then 0 else 1) < 30)) = true := by rfl)
    (hline : (apos.endLine == cpos.line) = true := by rfl) (hs : starEach (e :: es) X.env = (false, eval e X.env) :: starEach es X.env := by rfl) (hplain : (backTo cpos (starEach es X.env)).any (·.1) = false := by rfl) :
    PE X (.Call (.Attribute o name apos) (e :: es) [] cpos) (fun σ H Q => to σ H fun x H1 => frV x H1 ∧ t σ H1 fun xs H2 => r x xs H2 Q) := by
  refine ⟨fun pins s σ H Q I h => ?_⟩
  refine wpAny_Call_method_late hbase hfew hline rfl (thn (ho.run pins s σ H _ I h) fun v s1 ⟨x, H1, I1, r1, ty, q1⟩ => ?_)
  obtain ⟨a, ob, xs, rfl, hq, hc, hd⟩ := ty
  have eo : s1.heap.get? a = some ob := (I1.hok a _ hq).1
  refine ⟨"tuple", id, pa, slot, hty, by cases r1; exact ⟨ob, eo, hc⟩, fun b eb => by cases r1; cases eb; exact ⟨ob, eo, hd⟩, ?_⟩
  have hA := ha.run cpos pins s1 σ H1 _ I1 q1
  rw [hs] at hA ⊢
  refine Calls.callWith_builtin (by show (false || (backTo cpos (starEach es X.env)).any (·.1)) = false; rw [hplain] <;> rfl) (Calls.evalArgs_plain ?_)
  exact thn hA fun us s2 ⟨vs, H2, I2, r2, q2⟩ => hm pins s2 σ H2 (.ref a) vs v us Q I2 r1 r2 q2
end
def dTupF (u : Wa) : Wx := fun ev Q => u ev fun ds e => ds.length ≤ 1000 ∧ ∀ a : Nat, Q (frD a ds) e
def dUnf (w : Wx) : Wx := fun ev Q => w ev fun d e => ∃ ds, unfO d = some ds ∧ Q (.tuple ds) e
def fIndexT (ds : List PyData) (d : PyData) (Q : PyData → Prop) : Prop := shp (.tuple ds) ∧ shp d ∧ match ixD d ds with
    | some j => Q (.int (j : Nat))
    | none => False
def dMetT (wo we : Wx) : Wx := fun ev Q => wo ev fun x e1 => ∃ ds, unfO x = some ds ∧ we e1 fun y e2 => fIndexT ds y fun z => Q z e2
section
variable {X : Cx} {c : Cf} {es : List Expr} {e o : Expr} {u : Wa} {w wo we : Wx} {pos apos cpos : Pos}
theorem de_tupF {x1} (h : DA X c es u) : DE X c (.Tuple es x1 pos) (dTupF u) := peM (pe_tupF h) fun σ H Q ⟨M, ev, pd, R, k, w, q⟩ =>
  ⟨M, ev, pd, _, k, w, fun ds e ⟨l, h1⟩ vs H1 k1 r => ⟨by rw [r.len]; exact line_of l, fun p o hp c1 c2 => q _ e (h1 p) _ _ (k1.newFrt hp c1 c2 r)⟩⟩
theorem de_unf (h : DE X c e w) : DE X c e (dUnf w) := peM h fun σ H Q ⟨M, ev, pd, R, k, w, q⟩ =>
  ⟨M, ev, pd, _, k, w, fun d e ⟨ds, h1, h2⟩ v H1 k1 => by
    obtain ⟨a, o, xs, rfl, q1, _, _, q2⟩ := frt_inv k1.top h1
    exact q _ e h2 _ _ (k1.pop1.push (.tup (.inl (.inr ⟨o, q1⟩)) q2))⟩
theorem de_indexT (ho : DE X c o wo) (he : DE X c e we)
    (p : ∀ {to : TE} {t : TA}, PE X o to → PA X [e] t → PE X (.Call (.Attribute o "index" apos) [e] [] cpos) (fun σ H Q => to σ H fun x H1 => frV x H1 ∧ t σ H1 fun xs H2 => rIndexT X.K x xs H2 Q))
    (h1 : starEach [e] X.env = (false, eval e X.env) :: starEach [] X.env := by rfl) : DE X c (.Call (.Attribute o "index" apos) [e] [] cpos) (dMetT wo we) :=
  peM (p ho (pa_cons he pa_nil h1)) fun σ H Q ⟨M, ev, pd, R, k, w, q⟩ => by
    refine ⟨M, ev, pd, _, k, w, fun x e1 h v H1 k1 => ?_⟩
    obtain ⟨ds, hx, h⟩ := h
    obtain ⟨a, o, xs, rfl, q1, c1, c2, q2⟩ := frt_inv (unm k1.top) hx
    refine ⟨⟨a, o, xs, rfl, q1, c1, c2⟩, M, e1, _, _, k1, h, fun y e2 h2 u H2 k2 => ?_⟩
    obtain ⟨s1, s2, h2⟩ := h2
    split at h2
    · rename_i j ej
      obtain ⟨⟨z, z1, z2⟩, z3⟩ := ixD_ok ej
      obtain ⟨a', o', xs', e', q1', _, _, q2'⟩ := frt_inv (unm k2.pop1.top) hx
      cases e'
      have dt : Dz X.K H2 (.ref a) (.tuple ds) := .tup (.inl (.inr ⟨o', q1'⟩)) q2'
      exact ⟨a, u, y, ds, j, z, rfl, rfl, dt.dp (shp_nd s1), (unm k2.top).dp (shp_nd s2), s1, s2, z1, z2, z3, q _ e2 h2 _ _ (k2.pop1.pop1.push (.int _))⟩
    · exact h2.elim
end
end Z
set_option Elab.async false
set_option linter.all false
set_option maxRecDepth 100000
set_option maxHeartbeats 1000000
namespace Z
open PySem L2
abbrev MP := Int × M4
def MOk (P : MP) : Prop := (P.1 = 0 ∨ P.1 = 1) ∧ ∃ n, Fm4 n P.2
noncomputable def pm (P Q : MP) : MP := ((P.1 + Q.1) % 2, aft P.1 P.2 Q.2)
def p1 : MP := (0, M4.one)
noncomputable def pb (P : MP) : MP := (P.1, bck P.1 P.2)
theorem MOk.dt {P : MP} (h : MOk P) : P.2.dt ≠ 0 := let ⟨_, F⟩ := h.2; F.dt
theorem MOk.one : MOk p1 := ⟨.inl rfl, 1, Fm4.one⟩
theorem MOk.mul {P Q : MP} (h : MOk P) (g : MOk Q) : MOk (pm P Q) := by
  obtain ⟨_, n, F⟩ := h
  obtain ⟨_, m, F'⟩ := g
  exact ⟨fl01 _ _, _, aft_fm2 F F'⟩
theorem MOk.back {P : MP} (h : MOk P) : MOk (pb P) := by
  obtain ⟨h1, n, F⟩ := h
  exact ⟨h1, _, bck_fm F⟩
theorem pm_as {P Q R : MP} (h : MOk P) (g : MOk Q) (k : MOk R) : pm (pm P Q) R = pm P (pm Q R) := by
  refine Prod.ext ?_ (aft_as h.1 g.1 h.dt g.dt k.dt)
  show ((P.1 + Q.1) % 2 + R.1) % 2 = (P.1 + (Q.1 + R.1) % 2) % 2
  omega
theorem pm_one {P : MP} (h : MOk P) : pm P p1 = P := by
  obtain ⟨h1, n, F⟩ := h
  refine Prod.ext ?_ ?_
  · show (P.1 + 0) % 2 = P.1
    omega
  · show nrm (P.2.mul (M4.one.cj P.1)) = P.2
    rw [cjm_one, mul_one, nrm_self F]
theorem cjm0 (A : M4) : A.cj 0 = A := rfl
theorem one_pm {P : MP} (h : MOk P) : pm p1 P = P := by
  obtain ⟨h1, n, F⟩ := h
  refine Prod.ext ?_ ?_
  · show (0 + P.1) % 2 = P.1
    omega
  · show nrm (M4.one.mul (P.2.cj 0)) = P.2
    rw [cjm0, one_mul, nrm_self F]
theorem pm_pb {P : MP} (h : MOk P) : pm P (pb P) = p1 := Prod.ext (ff0 h.1) (aft_bck h.dt)
theorem pb_pm {P : MP} (h : MOk P) : pm (pb P) P = p1 := Prod.ext (ff0 h.1) (bck_aft h.dt)
theorem pb_pb {P : MP} (h : MOk P) : pb (pb P) = P := by
  obtain ⟨h1, n, F⟩ := h
  exact Prod.ext rfl (bck_bck F)
noncomputable def pw (P : MP) : Nat → MP
  | 0 => p1
  | k + 1 => pm (pw P k) P
theorem MOk.pw {P : MP} (h : MOk P) : ∀ k, MOk (Z.pw P k)
  | 0 => MOk.one
  | k + 1 => (MOk.pw h k).mul h
theorem pw_add {P : MP} (h : MOk P) (a : Nat) : ∀ b, pw P (a + b) = pm (pw P a) (pw P b)
  | 0 => (pm_one (h.pw a)).symm
  | b + 1 => by
    show pm (pw P (a + b)) P = pm (pw P a) (pm (pw P b) P)
    rw [pw_add h a b, pm_as (h.pw a) (h.pw b) h]
theorem pw_one {P : MP} (h : MOk P) : pw P 1 = P := one_pm h
theorem pw_succ {P : MP} (h : MOk P) (k : Nat) : pw P (k + 1) = pm P (pw P k) := by
  rw [Nat.add_comm, pw_add h 1 k, pw_one h]
/-- powers with whole exponents -/
noncomputable def pz (P : MP) (m : Int) : MP := if 0 < m then pw P m.toNat else pw (pb P) (-m).toNat
theorem pz_pos {P : MP} (k : Nat) : pz P k = pw P k := by
  unfold pz
  by_cases h : 0 < (k : Int)
  · rw [if_pos h]; rfl
  · rw [if_neg h]
    have : k = 0 := by omega
    subst this
    rfl
theorem pz_neg {P : MP} (k : Nat) : pz P (-(k : Int)) = pw (pb P) k := by
  unfold pz
  by_cases h : 0 < -(k : Int)
  · exfalso; omega
  · rw [if_neg h, show (-(-(k : Int))).toNat = k by omega]
theorem MOk.pz {P : MP} (h : MOk P) (m : Int) : MOk (Z.pz P m) := by
  unfold Z.pz
  by_cases g : 0 < m
  · rw [if_pos g]; exact h.pw _
  · rw [if_neg g]; exact h.back.pw _
theorem pw_mix {P : MP} (h : MOk P) : ∀ a b : Nat, pm (pw P a) (pw (pb P) b) = pz P ((a : Int) - b)
  | a, 0 => by
    rw [show ((a : Int) - (0 : Nat)) = (a : Int) by omega, pz_pos]
    exact pm_one (h.pw a)
  | 0, b + 1 => by
    rw [show (((0 : Nat) : Int) - ((b + 1 : Nat) : Int)) = -((b + 1 : Nat) : Int) by omega, pz_neg]
    exact one_pm (h.back.pw _)
  | a + 1, b + 1 => by
    have e : ((a + 1 : Nat) : Int) - ((b + 1 : Nat) : Int) = (a : Int) - b := by omega
    rw [e, ← pw_mix h a b, pw_succ h.back b]
    show pm (pm (pw P a) P) (pm (pb P) (pw (pb P) b)) = _
    rw [pm_as (h.pw a) h (h.back.mul (h.back.pw b)), ← pm_as h h.back (h.back.pw b), pm_pb h, one_pm (h.back.pw b)]
theorem pz_add {P : MP} (h : MOk P) (m n : Int) : pm (pz P m) (pz P n) = pz P (m + n) := by
  have p : ∀ m : Int, (∃ k : Nat, m = k) ∨ ∃ k : Nat, m = -(k : Int) := fun m => by
    rcases Int.le_total 0 m with y | y
    · exact .inl ⟨m.toNat, by omega⟩
    · exact .inr ⟨(-m).toNat, by omega⟩
  rcases p m with ⟨a, rfl⟩ | ⟨a, rfl⟩ <;> rcases p n with ⟨b, rfl⟩ | ⟨b, rfl⟩
  · rw [pz_pos, pz_pos, ← pw_add h, show (a : Int) + b = ((a + b : Nat) : Int) by omega, pz_pos]
  · rw [pz_pos, pz_neg, pw_mix h]; rfl
  · have q := pw_mix h.back a b
    rw [pb_pb h] at q
    rw [pz_neg, pz_pos, q]
    rcases Int.le_total (a : Int) b with y | y
    · rw [show (a : Int) - b = -((b - a : Nat) : Int) by omega, show -(a : Int) + b = ((b - a : Nat) : Int) by omega, pz_neg, pz_pos, pb_pb h]
    · rw [show (a : Int) - b = ((a - b : Nat) : Int) by omega, show -(a : Int) + b = -((a - b : Nat) : Int) by omega, pz_neg, pz_pos]
  · rw [pz_neg, pz_neg, ← pw_add h.back, show -(a : Int) + -(b : Int) = -((a + b : Nat) : Int) by omega, pz_neg]
/-- sizes: each step adds n + 3 -/
theorem pw_fm {P : MP} {n : Nat} (h : P.1 = 0 ∨ P.1 = 1) (F : Fm4 n P.2) : ∀ k : Nat, Fm4 (k * (n + 3) + 1) (pw P k).2
  | 0 => Fm4.one.up (by omega)
  | k + 1 => (aft_fm2 (f := (pw P k).1) (pw_fm h F k) F).up (by rw [Nat.add_mul]; omega)
noncomputable def seen (T L : MP) : MP := pm (pm T L) (pb T)
theorem MOk.seen {T L : MP} (h : MOk T) (g : MOk L) : MOk (Z.seen T L) := (h.mul g).mul h.back
theorem seen_mul {T L K : MP} (h : MOk T) (g : MOk L) (k : MOk K) : pm (seen T L) (seen T K) = seen T (pm L K) := by
  unfold seen
  rw [pm_as (h.mul g) h.back ((h.mul k).mul h.back), ← pm_as h.back (h.mul k) h.back, ← pm_as h.back h k, pb_pm h, one_pm k, ← pm_as (h.mul g) k h.back, pm_as h g k]
theorem seen_one {T : MP} (h : MOk T) : seen T p1 = p1 := by
  unfold seen
  rw [pm_one h, pm_pb h]
theorem seen_pw {T L : MP} (h : MOk T) (g : MOk L) : ∀ k, pw (seen T L) k = seen T (pw L k)
  | 0 => (seen_one h).symm
  | k + 1 => by
    show pm (pw (seen T L) k) (seen T L) = seen T (pm (pw L k) L)
    rw [seen_pw h g k, seen_mul h (g.pw k) g]
theorem seen_inj {T L : MP} (h : MOk T) (g : MOk L) (e : seen T L = p1) : L = p1 := by
  unfold seen at e
  have e2 : pm (pm (pm T L) (pb T)) T = T := by rw [e, one_pm h]
  rw [pm_as (h.mul g) h.back h, pb_pm h, pm_one (h.mul g)] at e2
  have e3 : pm (pb T) (pm T L) = pm (pb T) T := by rw [e2]
  rw [← pm_as h.back h g, pb_pm h, one_pm g] at e3
  exact e3
end Z
set_option Elab.async false
set_option linter.all false
set_option maxRecDepth 100000
namespace Z
open PySem L2
end Z
set_option synthInstance.maxSize 4000
set_option synthInstance.maxHeartbeats 400000
set_option maxHeartbeats 1000000
set_option Elab.async false
set_option linter.all false
set_option maxRecDepth 100000
namespace Lk22
open PySem L2 Z
local macro_rules | `(tactic| walk_at "sz") => `(tactic| first
  | exact mulC_of inferInstance inferInstance (by decide +kernel)
  | exact divC_of inferInstance (by first | assumption | omega | decide) (by decide +kernel)
  | exact szUp inferInstance (by decide +kernel))
local macro_rules | `(tactic| walk_at "rp") => `(tactic| refine RP_of inferInstance (by decide +kernel) (by decide +kernel) (by decide +kernel) ?_)
local macro_rules | `(tactic| walk_at "go") => `(tactic| repeat' (first
  | exact trivial
  | exact rfl
  | assumption
  | exact Or.inl rfl
  | exact Or.inr ⟨rfl, rfl⟩
  | walk_at "sz"
  | refine And.intro ?_ ?_
  | exact Nat.le_of_ble_eq_true rfl))
local macro_rules | `(tactic| walk_at "all") => `(tactic| repeat' (first
  | exact trivial
  | exact rfl
  | assumption
  | exact Or.inl rfl
  | exact Or.inr ⟨rfl, rfl⟩
  | walk_at "sz"
  | walk_at "rp"
  | refine And.intro ?_ ?_
  | exact Nat.le_of_ble_eq_true rfl
  | refine ⟨_, _, _, _, rfl, ?_⟩
  | refine ⟨_, _, rfl, ?_⟩
  | fail))
local macro_rules | `(tactic| walk_at "mu") => `(tactic| repeat' (first
  | exact trivial
  | walk_at "sz"
  | refine And.intro ?_ ?_))
local macro_rules | `(tactic| walk_at "ne") => `(tactic| (rw [eqv_str, decide_eq_true (p := _ = _) rfl]; refine ite_f rfl ?_))
local macro_rules | `(tactic| walk_at "ob") => `(tactic| repeat (first
  | refine And.intro trivial ?_
  | refine And.intro rfl ?_
  | refine And.intro (Nat.le_of_ble_eq_true rfl) ?_
  | refine And.intro (by walk_at "sz") ?_
  | refine And.intro (Or.inl rfl) ?_
  | refine And.intro (Or.inr ⟨rfl, rfl⟩) ?_))
set_option exponentiation.threshold 400
def oi : Option Int → PyData
  | none => .none
  | some i => .int i
abbrev mpP (P : MP) : PyData := mp4 P.1 P.2
instance szc_0 : Sz 1 (0 : Int) := ⟨by decide⟩
instance szc_1 : Sz 1 (1 : Int) := ⟨by decide⟩
instance szc_2 : Sz 2 (2 : Int) := ⟨by decide⟩
instance szc_3 : Sz 2 (3 : Int) := ⟨by decide⟩
instance szc_4 : Sz 3 (4 : Int) := ⟨by decide⟩
instance szc_5 : Sz 3 (5 : Int) := ⟨by decide⟩
instance szc_6 : Sz 3 (6 : Int) := ⟨by decide⟩
instance szc_8 : Sz 4 (8 : Int) := ⟨by decide⟩
instance szc_9 : Sz 4 (9 : Int) := ⟨by decide⟩
instance szc_10 : Sz 4 (10 : Int) := ⟨by decide⟩
instance szc_11 : Sz 4 (11 : Int) := ⟨by decide⟩
instance szc_18 : Sz 5 (18 : Int) := ⟨by decide⟩
instance szc_19 : Sz 5 (19 : Int) := ⟨by decide⟩
instance szc_37 : Sz 6 (37 : Int) := ⟨by decide⟩
instance szc_53 : Sz 6 (53 : Int) := ⟨by decide⟩
instance szc_60 : Sz 6 (60 : Int) := ⟨by decide⟩
instance szc_121 : Sz 7 (121 : Int) := ⟨by decide⟩
instance szc_2000 : Sz 11 (2000 : Int) := ⟨by decide⟩
instance szc_2003 : Sz 11 (2003 : Int) := ⟨by decide⟩
instance szc_7001 : Sz 13 (7001 : Int) := ⟨by decide⟩
instance szc_9001 : Sz 14 (9001 : Int) := ⟨by decide⟩
instance szc_30011 : Sz 15 (30011 : Int) := ⟨by decide⟩
instance szc_33013 : Sz 16 (33013 : Int) := ⟨by decide⟩
instance szc_51977 : Sz 16 (51977 : Int) := ⟨by decide⟩
instance szc_70001 : Sz 17 (70001 : Int) := ⟨by decide⟩
instance szc_90011 : Sz 17 (90011 : Int) := ⟨by decide⟩
instance szc_2147483629 : Sz 31 (2147483629 : Int) := ⟨by decide⟩
abbrev kt_RETURNS : List (List Int × Int) := [([0, 0, 1], 2), ([1, 0, 1], 3), ([2, 0, 1], 4), ([3, 0, 1], 6)]
def c_is_whole : Cp := fun ds R => ∃ d, ds = [d] ∧ isX d = false ∧ R (.bool (whole d))
def c_are_wholes : Cp := fun ds R => ∃ v n, ds = [v, .int n] ∧ okv v = true ∧ R (.bool (areW v n))
def c_common_of : Cp := fun ds R => ∃ us : List Int, ds = [tup us] ∧ R (.int (gcI us))
def c_reduced : Cp := fun ds R => ∃ us : List Int, ds = [tup us] ∧ us.length ≤ 1000 ∧ (∀ u ∈ us, Sz 8100 u) ∧ gcI us ≠ 0 ∧ R (tup (rd us))
def c_plus : Cp := fun ds R => ∃ a b c d, ds = [cp a b, cp c d] ∧ (Sm a ∧ Sm b ∧ Sm c ∧ Sm d) ∧ R (cp (a + c) (b + d))
def c_minus : Cp := fun ds R => ∃ a b c d, ds = [cp a b, cp c d] ∧ (Sm a ∧ Sm b ∧ Sm c ∧ Sm d) ∧ R (cp (a - c) (b - d))
def c_negative : Cp := fun ds R => ∃ a b, ds = [cp a b] ∧ (Sm a ∧ Sm b) ∧ R (cp (-a) (-b))
def c_times : Cp := fun ds R => ∃ a b c d, ds = [cp a b, cp c d] ∧ (Sm a ∧ Sm b ∧ Sm c ∧ Sm d) ∧ R (cp (a * c - b * d) (a * d + b * c))
def c_scaled : Cp := fun ds R => ∃ a b w, ds = [cp a b, .int w] ∧ (Sm a ∧ Sm b ∧ Sm w) ∧ R (cp (a * w) (b * w))
def c_conjugate_of : Cp := fun ds R => ∃ a b, ds = [cp a b] ∧ (Sm a ∧ Sm b) ∧ R (cp a (-b))
def c_norm_of : Cp := fun ds R => ∃ a b, ds = [cp a b] ∧ (Sm a ∧ Sm b) ∧ R (.int (a * a + b * b))
def c_is_quarter : Cp := fun ds R => ∃ a b, ds = [cp a b] ∧ R (.bool (decide (0 < a) && decide (0 ≤ b)))
def c_turned : Cp := fun ds R => ∃ a b, ds = [cp a b] ∧ R (cp (-b) a)
def c_quarter_of : Cp := fun ds R => ∃ a b, ds = [cp a b] ∧ R (cd (qf a b))
def c_exact_quotient : Cp := fun ds R => ∃ a b c d, ds = [cp a b, cp c d] ∧ (Sz 2000 a ∧ Sz 2000 b ∧ Sz 2000 c ∧ Sz 2000 d) ∧ R (od (xq a b c d))
def c_rest_of : Cp := fun ds R => ∃ a b c d, ds = [cp a b, cp c d] ∧ (Sz 2000 a ∧ Sz 2000 b ∧ Sz 2000 c ∧ Sz 2000 d) ∧ 0 < c * c + d * d ∧ ∀ t : G, 2 * nm (les (a, b) t (c, d)) ≤ c * c + d * d → R (cd (les (a, b) t (c, d)))
def c_divisor_of : Cp := fun ds R => ∃ (ps : List G) (n : Nat), ds = [.tuple (ps.map cd)] ∧ ps.length ≤ 1000 ∧ n ≤ 900 ∧ (∀ p ∈ ps, Sz n p.1 ∧ Sz n p.2) ∧ ∀ g : G, GC ps g → qf g.1 g.2 = g → Sz n g.1 → Sz n g.2 → R (cd g)
def c_divisor_of_two : Cp := fun ds R => ∃ a b c d n, ds = [cp a b, cp c d] ∧ (Sz n a ∧ Sz n b ∧ Sz n c ∧ Sz n d) ∧ n ≤ 900 ∧ ∀ x y, GC [(a, b), (c, d)] (x, y) → Sz n x → Sz n y → R (cp x y)
def c_divisor_by_steps : Cp := fun ds R => ∃ a b c d n, ds = [cp a b, cp c d] ∧ (Sz 2000 a ∧ Sz 2000 b) ∧ (Sz n c ∧ Sz n d) ∧ n ≤ 2000 ∧ ∀ x y, GC [(a, b), (c, d)] (x, y) → ((c, d) ≠ ((0, 0) : G) → Sz n x ∧ Sz n y) → ((c, d) = ((0, 0) : G) → x = a ∧ y = b) → R (cp x y)
def c_is_complex : Cp := fun ds R => ∃ v, ds = [v] ∧ okv v = true ∧ R (.bool (areW v 2))
def c_determinant : Cp := fun ds R => ∃ a b c d : G, ds = [q4 a b c d] ∧ S4 5000 a b c d ∧ R (cd (dtm a b c d))
def c_matrix_product : Cp := fun ds R => ∃ a b c d e f g h : G, ds = [q4 a b c d, q4 e f g h] ∧ S4 5000 a b c d ∧ S4 5000 e f g h ∧ R (q4 (m1 a b e g) (m1 a b f h) (m1 c d e g) (m1 c d f h))
def c_adjugate : Cp := fun ds R => ∃ a b c d : G, ds = [q4 a b c d] ∧ S4 5000 a b c d ∧ R (q4 d (gn b) (gn c) a)
def c_conjugates : Cp := fun ds R => ∃ a b c d : G, ds = [q4 a b c d] ∧ S4 5000 a b c d ∧ R (q4 (gj a) (gj b) (gj c) (gj d))
def c_led_parts : Cp := fun ds R => ∃ (a b c d p : G) (r : Int), ds = [q4 a b c d, cd p, .int r] ∧ S4 5000 a b c d ∧ (Sz 5000 p.1 ∧ Sz 5000 p.2 ∧ Sz 5000 r) ∧ R (.tuple [cd (ga (gm a p) (b.1 * r, b.2 * r)), cd (ga (gm c p) (d.1 * r, d.2 * r))])
def c_is_place : Cp := fun ds R => ∃ a b c, ds = [pl a b c] ∧ R (.bool (isPl a b c))
def c_require_place : Cp := fun ds R => ∃ a b c, ds = [pl a b c] ∧ isPl a b c = true ∧ R .none
def c_upper_and_lower : Cp := fun ds R => ∃ a b r, ds = [pl a b r] ∧ R (.tuple [cp a b, .int r])
def c_quotient_place : Cp := fun ds R => ∃ p q : G, ds = [cd p, cd q] ∧ (Sz 4000 p.1 ∧ Sz 4000 p.2 ∧ Sz 4000 q.1 ∧ Sz 4000 q.2) ∧ R (qp p q)
def c_map_from : Cp := fun ds R => ∃ (f : Int) (a b c d m : G) (n : Nat), ds = [.int f, q4 a b c d, cd m] ∧ S4 n a b c d ∧ (Sz n m.1 ∧ Sz n m.2) ∧ n ≤ 900 ∧ dtm a b c d ≠ (0, 0) ∧ (∀ k, gdv k a → gdv k b → gdv k c → gdv k d → gdv k m) ∧
  ∀ g x y z w : G, g ≠ (0, 0) → a = gm g x → b = gm g y → c = gm g z → d = gm g w → Fm (n + 1) x y z w → R (mp f x y z w)
def c_joined : Cp := fun ds R => ∃ (f i : Int) (a b c d e g h k : G) (n : Nat), ds = [mp f a b c d, mp i e g h k] ∧ (f = 0 ∨ f = 1) ∧ (i = 0 ∨ i = 1) ∧ Fm n a b c d ∧ Fm n e g h k ∧ n ≤ 400 ∧
  ∀ D x y z w : G, D ≠ (0, 0) → m1 a b (cj f e) (cj f h) = gm D x → m1 a b (cj f g) (cj f k) = gm D y → m1 c d (cj f e) (cj f h) = gm D z → m1 c d (cj f g) (cj f k) = gm D w → Fm (2 * n + 3) x y z w → R (mp ((f + i) % 2) x y z w)
def c_back_of : Cp := fun ds R => ∃ (f : Int) (a b c d : G) (n : Nat), ds = [mp f a b c d] ∧ (f = 0 ∨ f = 1) ∧ Fm n a b c d ∧ n ≤ 800 ∧
  ∀ D x y z w : G, D ≠ (0, 0) → cj f d = gm D x → cj f (gn b) = gm D y → cj f (gn c) = gm D z → cj f a = gm D w → Fm (n + 1) x y z w → R (mp f x y z w)
def c_place_led : Cp := fun ds R => ∃ (f : Int) (a b c d : G) (p s r : Int), ds = [mp f a b c d, pl p s r] ∧ (f = 0 ∨ f = 1) ∧ S4 900 a b c d ∧ (Sz 900 p ∧ Sz 900 s ∧ Sz 900 r) ∧ R (ldp f a b c d p s r)
def c_is_flag : Cp := fun ds R => ∃ f : Int, ds = [.int f] ∧ (f = 0 ∨ f = 1) ∧ R (.bool true)
def c_is_map : Cp := fun ds R => ∃ (f : Int) (a b c d : G) (n : Nat), ds = [mp f a b c d] ∧ (f = 0 ∨ f = 1) ∧ Fm n a b c d ∧ n ≤ 800 ∧ R (.bool true)
def c_require_map : Cp := fun ds R => ∃ (f : Int) (a b c d : G) (n : Nat), ds = [mp f a b c d] ∧ (f = 0 ∨ f = 1) ∧ Fm n a b c d ∧ n ≤ 800 ∧ R .none
abbrev c_after : Cp := c_joined
def c_plain_trace_ratio : Cp := fun ds R => ∃ A : M4, ds = [mp4 0 A] ∧ S44 900 A ∧ R (pd (rto A))
noncomputable def rtP (A : M4) : Option Int := if A = M4.one then some 1 else kt_RETURNS.lookup [(rto A).1, (rto A).2.1, (rto A).2.2]
def c_plain_return : Cp := fun ds R => ∃ A : M4, ds = [mp4 0 A] ∧ S44 900 A ∧ A.dt ≠ 0 ∧ R (oi (rtP A))
noncomputable def rtn (P : MP) : Option Int := if P.1 = 0 then rtP P.2 else (rtP (pm P P).2).map (2 * ·)
def c_return_of : Cp := fun ds R => ∃ (P : MP) (n : Nat), ds = [mpP P] ∧ (P.1 = 0 ∨ P.1 = 1) ∧ Fm4 n P.2 ∧ n ≤ 300 ∧ R (oi (rtn P))
def c_require_number : Cp := fun ds R => ∃ m : Int, ds = [.int m] ∧ -60 ≤ m ∧ m ≤ 60 ∧ R .none
def c_power : Cp := fun ds R => ∃ (P : MP) (m : Int), ds = [mpP P, .int m] ∧ MOk P ∧ Fm4 300 P.2 ∧ m.natAbs ≤ 60 ∧ (∀ k : Nat, k ≤ m.natAbs → Fm4 400 (pw (if 0 < m then P else pb P) k).2) ∧ R (mpP (pz P m))
def c_power_of : Cp := fun ds R => ∃ (P : MP) (m : Int), ds = [mpP P, .int m] ∧ MOk P ∧ Fm4 300 P.2 ∧ m.natAbs ≤ 60 ∧ (∀ k : Nat, k ≤ m.natAbs → Fm4 400 (pw (if 0 < m then P else pb P) k).2) ∧ R (mpP (pz P m))
def c_place_after : Cp := fun ds R => ∃ (P : MP) (m : Int) (t : T3), ds = [mpP P, pd t, .int m] ∧ MOk P ∧ Fm4 300 P.2 ∧ m.natAbs ≤ 60 ∧ (∀ k : Nat, k ≤ m.natAbs → Fm4 400 (pw (if 0 < m then P else pb P) k).2) ∧ Pt t ∧ S3 800 t ∧ R (pd (lt (pz P m).1 (pz P m).2 t))
def c_law_tank : List PyData → (List PyData → Prop) → Prop := fun ds R => ∃ (ns : List Int) (k : Int), ds = [.list (ns.map .int), .int k] ∧ ns.length ≤ 63 ∧ 0 ≤ k ∧ k ≤ 2 ∧ ∀ r s, 0 ≤ r → 0 ≤ s → s < 2147483629 → R [.int r, .int s, .int 0]
def c_law_draw : Ct := fun ts ds R => ∃ b m, Tk b ts ∧ b < 1000000000000 ∧ ds = [.int m] ∧ 0 < m ∧ m < 1000000000 ∧ ∀ k ts', 0 ≤ k → k < m → Tk (b + 1) ts' → R (.int k) ts'
def c_law_pick : Ct := fun ts ds R => ∃ b xs, Tk b ts ∧ b < 1000000000000 ∧ (ds = [.tuple xs] ∨ ds = [.list xs]) ∧ 0 < xs.length ∧ xs.length ≤ 1000 ∧ ∀ x ts', x ∈ xs → Tk (b + 1) ts' → R x ts'
def c_law_rounds : Cp := fun ds R => ∃ ns : List Int, ds = [.list (ns.map .int)] ∧ ns.length ≤ 63 ∧ ∀ k, 2 ≤ k → k ≤ 3 → R (.int k)
def c_law_small : Ct := fun ts ds R => ∃ b, Tk b ts ∧ b < 900000000000 ∧ ds = [] ∧ ∀ x ts', -9 ≤ x → x ≤ 9 → Sz 4 x → Tk (b + 2) ts' → R (.int x) ts'
def c_law_least : Cp := fun ds R => ∃ us : List Int, ds = [tup us] ∧ us.length ≤ 1000 ∧ (∀ u ∈ us, Sz 8100 u) ∧ gcI us ≠ 0 ∧ R (tup (rd us))
def c_law_plus : Cp := fun ds R => ∃ a b c d, ds = [cp a b, cp c d] ∧ (Sm a ∧ Sm b ∧ Sm c ∧ Sm d) ∧ R (cp (a + c) (b + d))
def c_law_less : Cp := fun ds R => ∃ a b c d, ds = [cp a b, cp c d] ∧ (Sm a ∧ Sm b ∧ Sm c ∧ Sm d) ∧ R (cp (a - c) (b - d))
def c_law_times : Cp := fun ds R => ∃ a b c d, ds = [cp a b, cp c d] ∧ (Sm a ∧ Sm b ∧ Sm c ∧ Sm d) ∧ R (cp (a * c - b * d) (a * d + b * c))
def c_law_star : Cp := fun ds R => ∃ a b, ds = [cp a b] ∧ R (cp a (-b))
def c_law_size : Cp := fun ds R => ∃ a b, ds = [cp a b] ∧ (Sm a ∧ Sm b) ∧ R (.int (a * a + b * b))
def c_law_quarter : Cp := fun ds R => ∃ a b, ds = [cp a b] ∧ R (cd (qf a b))
def c_law_over : Cp := fun ds R => ∃ a b c d, ds = [cp a b, cp c d] ∧ (Sz 2000 a ∧ Sz 2000 b ∧ Sz 2000 c ∧ Sz 2000 d) ∧ R (od (xq a b c d))
def c_law_common : Cp := fun ds R => ∃ (ps : List G) (n : Nat), ds = [.list (ps.map cd)] ∧ n ≤ 900 ∧ (∀ p ∈ ps, Sz n p.1 ∧ Sz n p.2) ∧ ∀ g : G, GC ps g → Sz n g.1 → Sz n g.2 → R (cd g)
def c_law_near : Ct := fun ts ds R => ∃ b, Tk b ts ∧ b < 800000000000 ∧ ds = [] ∧ ∀ x y z ts', Rt 4 x y z → Tk (b + 6) ts' → R (pl x y z) ts'
def c_law_any_place : Ct := fun ts ds R => ∃ b, Tk b ts ∧ b < 700000000000 ∧ ds = [] ∧ (∀ ts', Tk (b + 7) ts' → R (pl 1 0 0) ts') ∧ ∀ x y z ts', Rt 4 x y z → Tk (b + 7) ts' → R (pl x y z) ts'
def c_law_place_of : Cp := fun ds R => ∃ p q : G, ds = [cd p, cd q] ∧ (Sz 4000 p.1 ∧ Sz 4000 p.2 ∧ Sz 4000 q.1 ∧ Sz 4000 q.2) ∧ R (qp p q)
def c_law_little : Ct := fun ts ds R => ∃ b, Tk b ts ∧ b < 700000000000 ∧ ds = [] ∧ ∀ (p : G) ts', Sz 4 p.1 → Sz 4 p.2 → Tk (b + 4) ts' → R (cd p) ts'
def c_law_map : Cp := fun ds R => ∃ (f : Int) (a b c d : G) (n : Nat), ds = [.int f, .list [cd a, cd b, cd c, cd d]] ∧ S4 n a b c d ∧ n ≤ 900 ∧ dtm a b c d ≠ (0, 0) ∧
  ∀ g x y z w : G, g ≠ (0, 0) → a = gm g x → b = gm g y → c = gm g z → d = gm g w → Fm (n + 1) x y z w → R (mp f x y z w)
def c_law_det : Cp := fun ds R => ∃ a b c d : G, (ds = [.list [cd a, cd b, cd c, cd d]] ∨ ds = [.tuple [cd a, cd b, cd c, cd d]]) ∧ S4 5000 a b c d ∧ R (cd (dtm a b c d))
def c_law_four : Ct := fun ts ds R => ∃ b, Tk b ts ∧ b < 600000000000 ∧ ds = [] ∧ ∀ (x y z w : G) ts', S4 4 x y z w → dtm x y z w ≠ (0, 0) → Tk (b + 50) ts' → R (.list [cd x, cd y, cd z, cd w]) ts'
def c_law_drawn_map : Ct := fun ts ds R => ∃ b, Tk b ts ∧ b < 500000000000 ∧ ds = [] ∧ ∀ (f : Int) (x y z w : G) ts', (f = 0 ∨ f = 1) → Fm 5 x y z w → Tk (b + 60) ts' → R (mp f x y z w) ts'
def c_law_led : Cp := fun ds R => ∃ (f : Int) (a b c d : G) (p s r : Int), ds = [mp f a b c d, pl p s r] ∧ (f = 0 ∨ f = 1) ∧ S4 900 a b c d ∧ (Sz 900 p ∧ Sz 900 s ∧ Sz 900 r) ∧ R (ldp f a b c d p s r)
abbrev c_law_after : Cp := c_joined
abbrev c_law_backward : Cp := c_back_of
def c_law_stays : Cp := fun ds R => ds = [] ∧ R (mp 0 (1, 0) (0, 0) (0, 0) (1, 0))
def c_law_power : Cp := fun ds R => ∃ (P : MP) (m : Int), ds = [mpP P, .int m] ∧ MOk P ∧ Fm4 300 P.2 ∧ m.natAbs ≤ 60 ∧ (∀ k : Nat, k ≤ m.natAbs → Fm4 400 (pw (if 0 < m then P else pb P) k).2) ∧ R (mpP (pz P m))
def c_law_powers_right : Cp := fun ds R => ∃ (P : MP) (i j : Int) (t : T3), ds = [mpP P, .int i, .int j, pd t] ∧ (P.1 = 0 ∨ P.1 = 1) ∧ Fm4 5 P.2 ∧ (-5 ≤ i ∧ i ≤ 5) ∧ (-5 ≤ j ∧ j ≤ 5) ∧ Pt t ∧ S3 4 t ∧ R (.bool true)
def c_law_far_right : Ct := fun ts ds R => ∃ b, Tk b ts ∧ b < 400000000000 ∧ ds = [] ∧ ∀ ts', Tk (b + 10) ts' → R (.bool true) ts'
structure Laid (P : MP) (m : Nat) : Prop where
  fl : P.1 = 0 ∨ P.1 = 1
  fm : Fm4 4 P.2
  m0 : 0 < m
  m8 : m ≤ 8
  rt : rtn P = some (m : Int)
  on : pw P m = p1
  no : ∀ k : Nat, 0 < k → k < m → pw P k ≠ p1
def c_law_laid : Ct := fun ts ds R => ∃ b, Tk b ts ∧ b < 400000000000 ∧ ds = [] ∧ ∀ (P : MP) (m : Nat) ts', Laid P m → Tk (b + 5) ts' → R (.tuple [mpP P, .int m]) ts'
def c_law_return_right : Cp := fun ds R => ∃ (P : MP) (m : Nat), ds = [mpP P, .int m] ∧ (P.1 = 0 ∨ P.1 = 1) ∧ Fm4 30 P.2 ∧ 0 < m ∧ m ≤ 8 ∧ rtn P = some m ∧ pw P m = p1 ∧ (∀ k : Nat, 0 < k → k < m → pw P k ≠ p1) ∧ R (.bool true)
def c_law_any_right : Cp := fun ds R => ∃ P : MP, ds = [mpP P] ∧ (P.1 = 0 ∨ P.1 = 1) ∧ Fm4 30 P.2 ∧ R (.bool true)
def c_law_right : Ct := fun ts ds R => ∃ b, Tk b ts ∧ b < 300000000000 ∧ ds = [] ∧ ∀ ts', R (.bool true) ts'
def c_law : Cp := fun ds R => ∃ ns : List Int, ds = [.list (ns.map .int)] ∧ ns.length ≤ 63 ∧ R (.bool true)
def w_is_whole : Ws := (wRet (dAnd (dIsa isInt (dVar 0)) (dNot (dIsa isBool (dVar 0)))))
theorem sem_is_whole : ∀ ds R, c_is_whole ds R → ds.length = 1 → w_is_whole (edP R) (ev0 0 ds) := by
  intro ds R h _
  obtain ⟨d, rfl, o, q⟩ := h
  refine okE_in o ?_
  cases d <;> exact q
def w_are_wholes : Ws := (wSeq (wIf (dOrT (dNotT (dTru (dIsa isTuple (dVar 0)))) (dTru (dOp fNe (dCal fLen (daC (dVar 0) daN)) (dVar 1)))) (wRet (dLit (.bool false))) wNx) (wRet (dCal fAll (daC (dLc [2] (diT (dVar 0)) (gN 2) dYes (dFn 1 c_is_whole (daC (dVar 2) daN))) daN))))
theorem sem_are_wholes : ∀ ds R, c_are_wholes ds R → ds.length = 2 → w_are_wholes (edP R) (ev0 1 ds) := by
  intro ds R h _
  obtain ⟨v, n, rfl, o, q⟩ := h
  refine okE_in (okv_x o) ?_
  cases v with
  | tuple xs =>
    obtain ⟨hl, hx⟩ := okv_t o
    refine ⟨trivial, Or.inr ⟨rfl, rfl⟩, trivial, ?_⟩
    have e := eqv_int (xs.length : Int) n
    by_cases z : (xs.length : Int) = n
    · have t : tru (.bool (!PyData.eqv (.int (xs.length : Int)) (.int n))) = false := by rw [e, decide_eq_true z]; rfl
      rw [t]
      refine lc_map (f := fun d => .bool (whole d)) rfl (by rw [List.length_nil, Nat.zero_add]; exact hl) (fun d hd R r => ⟨rfl, d, rfl, hx d hd, r⟩) ?_
      have a : (xs.map whole).all id = areW (.tuple xs) n := by
        show _ = (decide ((xs.length : Int) = n) && xs.all whole)
        rw [decide_eq_true z, Bool.true_and, List.all_map]
        rfl
      exact fAll_of (bools_map xs) (by rw [a]; exact q)
    · have t : tru (.bool (!PyData.eqv (.int (xs.length : Int)) (.int n))) = true := by rw [e, decide_eq_false z]; rfl
      rw [t]
      have a : areW (.tuple xs) n = false := by
        show (decide ((xs.length : Int) = n) && xs.all whole) = false
        rw [decide_eq_false z, Bool.false_and]
      rw [a] at q
      exact q
  | _ => exact ⟨trivial, q⟩
def w_common_of : Ws := (wSeq (wAsg (dLit (.int 0)) (gN 1)) (wSeq (wFor (diT (dVar 0)) (gN 2) (wAsg (dCal fGcd (daC (dVar 1) (daC (dVar 2) daN))) (gN 1))) (wRet (dVar 1))))
theorem sem_common_of : ∀ ds R, c_common_of ds R → ds.length = 1 → w_common_of (edP R) (ev0 2 ds) := by
  intro ds R h _
  obtain ⟨us, rfl, q⟩ := h
  refine foD_fold (fun s ev => ∃ o, ev = [some (.val (tup us)), some (.val (.int s)), o] ∧ ∀ t, o ≠ some (.own t)) (fun g u => (Int.gcd g u : Int)) (fun u s ev E' i nx => ?_) ⟨none, rfl, fun _ => by simp⟩ (fun ev i => ?_)
  · obtain ⟨o, rfl, ho⟩ := i
    have e : gN 2 (.int u) [some (.val (tup us)), some (.val (.int s)), o] = fun Q => Q [some (.val (tup us)), some (.val (.int s)), some (.val (.int u))] := by
      cases o with
      | none => rfl
      | some s => cases s with
        | val _ => rfl
        | own t => exact absurd rfl (ho t)
    rw [e]
    exact nx _ ⟨_, rfl, fun _ => by simp⟩
  · obtain ⟨o, rfl, ho⟩ := i
    exact q
def w_reduced : Ws := (wSeq (wAsg (dFn 1 c_common_of (daC (dVar 0) daN)) (gN 1)) (wRet (dCal fTuple (daC (dLc [2] (diT (dVar 0)) (gN 2) dYes (dOp fDiv (dVar 2) (dVar 1))) daN))))
def ovr (g : Int) : PyData → PyData
  | .int i => .int (i / g)
  | d => d
theorem ovr_map (us : List Int) : (us.map PyData.int).map (ovr (gcI us)) = (rd us).map .int := by
  unfold rd
  rw [List.map_map, List.map_map]
  rfl
theorem sem_reduced : ∀ ds R, c_reduced ds R → ds.length = 1 → w_reduced (edP R) (ev0 2 ds) := by
  intro ds R h _
  obtain ⟨us, rfl, hl, hs, hz, q⟩ := h
  refine ⟨rfl, us, rfl, ?_⟩
  refine lc_map (f := ovr (gcI us)) rfl (by rw [List.length_nil, Nat.zero_add, List.length_map]; exact hl) (fun d hd R r => ?_) ?_
  · obtain ⟨i, _, rfl⟩ := List.mem_map.mp hd
    exact ⟨gc_divC hs (by decide) hz i, r⟩
  · rw [ovr_map]
    exact q
def w_plus : Ws := (wRet (dTup (daC (dOp fCat (dOp fIx (dVar 0) (dLit (.int 0))) (dOp fIx (dVar 1) (dLit (.int 0)))) (daC (dOp fCat (dOp fIx (dVar 0) (dLit (.int 1))) (dOp fIx (dVar 1) (dLit (.int 1)))) daN))))
theorem sem_plus : ∀ ds R, c_plus ds R → ds.length = 2 → w_plus (edP R) (ev0 0 ds) := by
  intro ds R h _
  obtain ⟨a, b, c, d, rfl, ⟨ha, hb, hc, hd⟩, q⟩ := h
  walk_at "go"
def w_minus : Ws := (wRet (dTup (daC (dOp fSub (dOp fIx (dVar 0) (dLit (.int 0))) (dOp fIx (dVar 1) (dLit (.int 0)))) (daC (dOp fSub (dOp fIx (dVar 0) (dLit (.int 1))) (dOp fIx (dVar 1) (dLit (.int 1)))) daN))))
theorem sem_minus : ∀ ds R, c_minus ds R → ds.length = 2 → w_minus (edP R) (ev0 0 ds) := by
  intro ds R h _
  obtain ⟨a, b, c, d, rfl, ⟨ha, hb, hc, hd⟩, q⟩ := h
  walk_at "go"
def w_negative : Ws := (wRet (dTup (daC (dU fNeg (dOp fIx (dVar 0) (dLit (.int 0)))) (daC (dU fNeg (dOp fIx (dVar 0) (dLit (.int 1)))) daN))))
theorem sem_negative : ∀ ds R, c_negative ds R → ds.length = 1 → w_negative (edP R) (ev0 0 ds) := by
  intro ds R h _
  obtain ⟨a, b, rfl, ⟨ha, hb⟩, q⟩ := h
  walk_at "go"
def w_times : Ws := (wSeq (wAsg (dVar 0) (gT 2 (gsC (gN 2) (gsC (gN 3) gsN)))) (wSeq (wAsg (dVar 1) (gT 2 (gsC (gN 4) (gsC (gN 5) gsN)))) (wRet (dTup (daC (dOp fSub (dOp fMul (dVar 2) (dVar 4)) (dOp fMul (dVar 3) (dVar 5))) (daC (dOp fCat (dOp fMul (dVar 2) (dVar 5)) (dOp fMul (dVar 3) (dVar 4))) daN))))))
theorem sem_times : ∀ ds R, c_times ds R → ds.length = 2 → w_times (edP R) (ev0 4 ds) := by
  intro ds R h _
  obtain ⟨a, b, c, d, rfl, ⟨ha, hb, hc, hd⟩, q⟩ := h
  walk_at "go"
def w_scaled : Ws := (wRet (dTup (daC (dOp fMul (dOp fIx (dVar 0) (dLit (.int 0))) (dVar 1)) (daC (dOp fMul (dOp fIx (dVar 0) (dLit (.int 1))) (dVar 1)) daN))))
theorem sem_scaled : ∀ ds R, c_scaled ds R → ds.length = 2 → w_scaled (edP R) (ev0 0 ds) := by
  intro ds R h _
  obtain ⟨a, b, w, rfl, ⟨ha, hb, hw⟩, q⟩ := h
  walk_at "go"
def w_conjugate_of : Ws := (wRet (dTup (daC (dOp fIx (dVar 0) (dLit (.int 0))) (daC (dU fNeg (dOp fIx (dVar 0) (dLit (.int 1)))) daN))))
theorem sem_conjugate_of : ∀ ds R, c_conjugate_of ds R → ds.length = 1 → w_conjugate_of (edP R) (ev0 0 ds) := by
  intro ds R h _
  obtain ⟨a, b, rfl, ⟨ha, hb⟩, q⟩ := h
  walk_at "go"
def w_norm_of : Ws := (wRet (dOp fCat (dOp fMul (dOp fIx (dVar 0) (dLit (.int 0))) (dOp fIx (dVar 0) (dLit (.int 0)))) (dOp fMul (dOp fIx (dVar 0) (dLit (.int 1))) (dOp fIx (dVar 0) (dLit (.int 1))))))
theorem sem_norm_of : ∀ ds R, c_norm_of ds R → ds.length = 1 → w_norm_of (edP R) (ev0 0 ds) := by
  intro ds R h _
  obtain ⟨a, b, rfl, ⟨ha, hb⟩, q⟩ := h
  walk_at "go"
def w_is_quarter : Ws := (wRet (dAnd (dOp fGt (dOp fIx (dVar 0) (dLit (.int 0))) (dLit (.int 0))) (dOp fGe (dOp fIx (dVar 0) (dLit (.int 1))) (dLit (.int 0)))))
theorem sem_is_quarter : ∀ ds R, c_is_quarter ds R → ds.length = 1 → w_is_quarter (edP R) (ev0 0 ds) := by
  intro ds R h _
  obtain ⟨a, b, rfl, q⟩ := h
  refine ⟨trivial, ?_⟩
  refine ite_b (fun z => ⟨trivial, ?_⟩) (fun z => ?_)
  · exact rB (R := R) q (by rw [z]; rfl)
  · exact rB (R := R) q (by rw [z]; rfl)
def w_turned : Ws := (wRet (dTup (daC (dU fNeg (dOp fIx (dVar 0) (dLit (.int 1)))) (daC (dOp fIx (dVar 0) (dLit (.int 0))) daN))))
theorem sem_turned : ∀ ds R, c_turned ds R → ds.length = 1 → w_turned (edP R) (ev0 0 ds) := by
  intro ds R h _
  obtain ⟨a, b, rfl, q⟩ := h
  walk_at "go"
def w_quarter_of : Ws := (wSeq (wIf (dTru (dOp fEq (dVar 0) (dLit (.tuple [(.int 0), (.int 0)])))) (wRet (dVar 0)) wNx) (wSeq (wWhile (dNotT (dTru (dFn 1 c_is_quarter (daC (dVar 0) daN)))) (wAsg (dFn 1 c_turned (daC (dVar 0) daN)) (gN 0))) (wRet (dVar 0))))
theorem qt_step {a b : Int} {n : Nat} {E : Ed} {s : PyData} (h : (0 < a ∧ 0 ≤ b) → E.nx [some (.val (cp a b))]) (g : ¬(0 < a ∧ 0 ≤ b) → whD (dNotT (dTru (dFn 1 c_is_quarter (daC (dVar 0) daN)))) (wAsg (dFn 1 c_turned (daC (dVar 0) daN)) (gN 0)) n E [some (.val (cp (-b) a))]) :
    whD (dNotT (dTru (dFn 1 c_is_quarter (daC (dVar 0) daN)))) (wAsg (dFn 1 c_turned (daC (dVar 0) daN)) (gN 0)) (n + 1) E [some (.val (cp a b))] := by
  refine ⟨rfl, a, b, rfl, trivial, ?_⟩
  refine ite_b (fun z => ?_) (fun z => ?_)
  · refine ⟨rfl, a, b, rfl, ?_⟩
    exact g (fun y => by
      rw [decide_eq_true y.1, decide_eq_true y.2] at z
      cases z)
  · refine h ?_
    have z1 : (decide (0 < a) && decide (0 ≤ b)) = true := by
      cases y : (decide (0 < a) && decide (0 ≤ b))
      · rw [show tru (.bool (decide (0 < a) && decide (0 ≤ b))) = (decide (0 < a) && decide (0 ≤ b)) from rfl, y] at z
        cases z
      · rfl
    rw [Bool.and_eq_true] at z1
    exact ⟨of_decide_eq_true z1.1, of_decide_eq_true z1.2⟩
theorem sem_quarter_of : ∀ ds R, c_quarter_of ds R → ds.length = 1 → w_quarter_of (edP R) (ev0 0 ds) := by
  intro ds R h _
  obtain ⟨a, b, rfl, q⟩ := h
  refine ⟨Or.inr ⟨rfl, rfl⟩, trivial, ?_⟩
  rw [eqv_cp]
  refine ite_b (fun z => ?_) (fun z => ?_)
  · have z0 := of_decide_eq_true z
    have e : qf a b = (a, b) := by unfold qf; rw [if_pos z0]
    rw [e] at q
    exact q
  · have z0 := of_decide_eq_false z
    unfold qf at q
    rw [if_neg z0] at q
    refine ⟨4, ?_⟩
    refine qt_step (s := .none) (fun y => ?_) (fun y => ?_)
    · rw [if_pos y] at q; exact q
    rw [if_neg y] at q
    refine qt_step (s := .none) (fun y => ?_) (fun y => ?_)
    · rw [if_pos y] at q; exact q
    rw [if_neg y] at q
    refine qt_step (s := .none) (fun y => ?_) (fun y => ?_)
    · rw [if_pos y] at q; exact q
    rw [if_neg y] at q
    refine qt_step (s := .none) (fun y => ?_) (fun y => ?_)
    · exact q
    exfalso
    omega
def w_exact_quotient : Ws := (wSeq (wAsg (dFn 1 c_norm_of (daC (dVar 1) daN)) (gN 2)) (wSeq (wIf (dTru (dOp fEq (dVar 2) (dLit (.int 0)))) (wRet (dLit .none)) wNx) (wSeq (wAsg (dFn 2 c_times (daC (dVar 0) (daC (dFn 1 c_conjugate_of (daC (dVar 1) daN)) daN))) (gT 2 (gsC (gN 3) (gsC (gN 4) gsN)))) (wSeq (wIf (dOrT (dTru (dOp fMod (dVar 3) (dVar 2))) (dTru (dOp fMod (dVar 4) (dVar 2)))) (wRet (dLit .none)) wNx) (wRet (dTup (daC (dOp fDiv (dVar 3) (dVar 2)) (daC (dOp fDiv (dVar 4) (dVar 2)) daN))))))))
theorem sem_exact_quotient : ∀ ds R, c_exact_quotient ds R → ds.length = 2 → w_exact_quotient (edP R) (ev0 3 ds) := by
  intro ds R h _
  obtain ⟨a, b, c, d, rfl, ⟨ha, hb, hc, hd⟩, q⟩ := h
  refine ⟨rfl, c, d, rfl, ⟨by walk_at "sz", by walk_at "sz"⟩, Or.inr ⟨rfl, rfl⟩, trivial, ?_⟩
  rw [eqv_int]
  unfold xq at q
  refine ite_b (fun z => ?_) (fun z => ?_)
  · rw [if_pos (of_decide_eq_true z)] at q
    exact q
  have z0 := of_decide_eq_false z
  have z1 := nrmP z0
  rw [if_neg z0] at q
  refine ⟨rfl, c, d, rfl, ⟨by walk_at "sz", by walk_at "sz"⟩, rfl, a, b, c, -d, rfl, ⟨by walk_at "sz", by walk_at "sz", by walk_at "sz", by walk_at "sz"⟩, ?_⟩
  have dv : ∀ x : Int, divC x (c * c + d * d) := fun x => divC_of (m := max (2000 + 2000) (2000 + 2000) + 1) inferInstance z1 (by decide)
  refine ⟨rfl, z1, trivial, ?_⟩
  by_cases y : (a * c - b * -d) % (c * c + d * d) = 0
  · refine ite_f (bne_eq_false_iff_eq.mpr y) ?_
    refine ⟨z1, trivial, ?_⟩
    by_cases x : (a * -d + b * c) % (c * c + d * d) = 0
    · refine ite_f (bne_eq_false_iff_eq.mpr x) ?_
      rw [if_pos ⟨y, x⟩] at q
      exact ⟨dv _, dv _, Nat.le_of_ble_eq_true rfl, q⟩
    · refine ite_t (bne_iff_ne.mpr x) ?_
      rw [if_neg (fun n => x n.2)] at q
      exact q
  · refine ite_t (bne_iff_ne.mpr y) ?_
    refine ite_t rfl ?_
    rw [if_neg (fun n => y n.1)] at q
    exact q
def w_rest_of : Ws := (wSeq (wAsg (dFn 1 c_norm_of (daC (dVar 1) daN)) (gN 2)) (wSeq (wAsg (dFn 2 c_times (daC (dVar 0) (daC (dFn 1 c_conjugate_of (daC (dVar 1) daN)) daN))) (gT 2 (gsC (gN 3) (gsC (gN 4) gsN)))) (wSeq (wAsg (dTup (daC (dOp fDiv (dOp fCat (dOp fMul (dLit (.int 2)) (dVar 3)) (dVar 2)) (dOp fMul (dLit (.int 2)) (dVar 2))) (daC (dOp fDiv (dOp fCat (dOp fMul (dLit (.int 2)) (dVar 4)) (dVar 2)) (dOp fMul (dLit (.int 2)) (dVar 2))) daN))) (gN 5)) (wRet (dFn 2 c_minus (daC (dVar 0) (daC (dFn 2 c_times (daC (dVar 5) (daC (dVar 1) daN))) daN)))))))
theorem sem_rest_of : ∀ ds R, c_rest_of ds R → ds.length = 2 → w_rest_of (edP R) (ev0 4 ds) := by
  intro ds R h _
  obtain ⟨a, b, c, d, rfl, ⟨ha, hb, hc, hd⟩, hz, q⟩ := h
  have dv : ∀ x : Int, divC x (2 * (c * c + d * d)) := fun x => divC_of (m := 2 + (max (2000 + 2000) (2000 + 2000) + 1)) inferInstance (by omega) (by decide)
  have sd : ∀ x y : Int, Sz 4005 x → Sz 4100 (x / y) := fun x y s => szUp inferInstance (by decide)
  have s1 : Sz 4100 ((2 * (a * c - b * -d) + (c * c + d * d)) / (2 * (c * c + d * d))) := sd _ _ (szUp inferInstance (by decide))
  have s2 : Sz 4100 ((2 * (a * -d + b * c) + (c * c + d * d)) / (2 * (c * c + d * d))) := sd _ _ (szUp inferInstance (by decide))
  refine ⟨rfl, c, d, rfl, ⟨by walk_at "sz", by walk_at "sz"⟩, rfl, c, d, rfl, ⟨by walk_at "sz", by walk_at "sz"⟩, rfl, a, b, c, -d, rfl, ⟨by walk_at "sz", by walk_at "sz", by walk_at "sz", by walk_at "sz"⟩, rfl, ?_⟩
  refine ⟨by walk_at "sz", by walk_at "sz", dv _, by walk_at "sz", by walk_at "sz", dv _, Nat.le_of_ble_eq_true rfl, ?_⟩
  refine ⟨rfl, _, _, c, d, rfl, ⟨szUp s1 (by decide), szUp s2 (by decide), by walk_at "sz", by walk_at "sz"⟩, ?_⟩
  refine ⟨rfl, a, b, _, _, rfl, ⟨by walk_at "sz", by walk_at "sz", szUp inferInstance (by decide), szUp inferInstance (by decide)⟩, ?_⟩
  exact q (_, _) (rest_nm hz)
def w_divisor_of : Ws := (wSeq (wAsg (dLit (.tuple [(.int 0), (.int 0)])) (gN 1)) (wSeq (wFor (diL (dSortK c_norm_of (daC (dVar 0) daN))) (gN 2) (wAsg (dFn 2 c_divisor_of_two (daC (dVar 1) (daC (dVar 2) daN))) (gN 1))) (wRet (dFn 1 c_quarter_of (daC (dVar 1) daN)))))
def nmD (d : PyData) : Int := (toG d).1 * (toG d).1 + (toG d).2 * (toG d).2
theorem sem_divisor_of : ∀ ds R, c_divisor_of ds R → ds.length = 1 → w_divisor_of (edP R) (ev0 2 ds) := by
  intro ds R h _
  obtain ⟨ps, n, rfl, hl, hn, hs, q⟩ := h
  refine ⟨by rw [List.length_map]; exact hl, ⟨nmD, fun x hx R r => ?_⟩, fun ys hp => ?_⟩
  · obtain ⟨p, hp, rfl⟩ := List.mem_map.mp hx
    obtain ⟨h1, h2⟩ := hs p hp
    exact ⟨p.1, p.2, rfl, ⟨szUp h1 (by show n ≤ cap; unfold cap; omega), szUp h2 (by show n ≤ cap; unfold cap; omega)⟩, r⟩
  · obtain ⟨qs, hq, rfl⟩ := perm_cd hp
    refine foD_pre (fun pre ev => ∃ (done : List G) (g : G) (s : Option Sl), pre = done.map cd ∧ ev = [some (.val (.tuple (ps.map cd))), some (.val (cd g)), s] ∧ (∀ t, s ≠ some (.own t)) ∧ GC done g ∧ Sz n g.1 ∧ Sz n g.2) (pre := []) (fun pre d ev E' hd i nx _ _ _ _ => ?_) ⟨[], (0, 0), none, rfl, rfl, fun _ => by simp, GC.nil, szUp (n := 0) ⟨by decide⟩ (Nat.zero_le _), szUp (n := 0) ⟨by decide⟩ (Nat.zero_le _)⟩ (fun ev i => ?_)
    · obtain ⟨done, g, s, rfl, rfl, hns, hg, s1, s2⟩ := i
      obtain ⟨p, hp', rfl⟩ := List.mem_map.mp hd
      obtain ⟨t1, t2⟩ := hs p (hq.mem_iff.mp hp')
      have e : gN 2 (cd p) [some (.val (.tuple (ps.map cd))), some (.val (cd g)), s] = fun Q => Q [some (.val (.tuple (ps.map cd))), some (.val (cd g)), some (.val (cd p))] := by
        cases s with
        | none => rfl
        | some s => cases s with
          | val _ => rfl
          | own t => exact absurd rfl (hns t)
      rw [e]
      refine ⟨rfl, g.1, g.2, p.1, p.2, n, rfl, ⟨s1, s2, t1, t2⟩, hn, fun x y gc sx sy => ?_⟩
      exact nx _ ⟨done ++ [p], (x, y), some (.val (cd p)), by rw [List.map_append]; rfl, rfl, fun _ => by simp, GC.snoc hg gc, sx, sy⟩
    · obtain ⟨done, g, s, e, rfl, hns, hg, s1, s2⟩ := i
      rw [List.nil_append] at e
      have e' := cd_inj e
      subst e'
      refine ⟨rfl, g.1, g.2, rfl, ?_⟩
      obtain ⟨t1, t2⟩ := qf_sz s1 s2
      exact q (qf g.1 g.2) ((hg.perm hq).of_as (qf_as g)) (qf_qf g) t1 t2
def w_divisor_of_two : Ws := (wSeq (wIf (dTru (dOp fEq (dVar 0) (dLit (.tuple [(.int 0), (.int 0)])))) (wRet (dVar 1)) wNx) (wSeq (wAsg (dFn 2 c_rest_of (daC (dVar 1) (daC (dVar 0) daN))) (gN 1)) (wSeq (wAsg (dFn 2 c_times (daC (dVar 0) (daC (dFn 1 c_conjugate_of (daC (dVar 1) daN)) daN))) (gT 2 (gsC (gN 2) (gsC (gN 3) gsN)))) (wSeq (wAsg (dFn 1 c_common_of (daC (dTup (daC (dFn 1 c_norm_of (daC (dVar 0) daN)) (daC (dFn 1 c_norm_of (daC (dVar 1) daN)) (daC (dVar 2) (daC (dVar 3) daN))))) daN)) (gN 4)) (wRet (dFn 2 c_divisor_by_steps (daC (dFn 2 c_divisor_by_steps (daC (dTup (daC (dVar 4) (daC (dLit (.int 0)) daN))) (daC (dVar 0) daN))) (daC (dVar 1) daN))))))))
theorem sem_divisor_of_two : ∀ ds R, c_divisor_of_two ds R → ds.length = 2 → w_divisor_of_two (edP R) (ev0 3 ds) := by
  intro ds R h _
  obtain ⟨a, b, c, d, n, rfl, ⟨ha, hb, hc, hd⟩, hn, q⟩ := h
  have ha9 : Sz 900 a := szUp ha hn
  have hb9 : Sz 900 b := szUp hb hn
  have hc9 : Sz 900 c := szUp hc hn
  have hd9 : Sz 900 d := szUp hd hn
  refine ⟨Or.inr ⟨rfl, rfl⟩, trivial, ?_⟩
  rw [eqv_cp]
  refine ite_b (fun z => ?_) (fun z => ?_)
  · obtain ⟨rfl, rfl⟩ := of_decide_eq_true z
    exact q c d (GC.zeroL _) hc hd
  · have z0 := of_decide_eq_false z
    have hz : 0 < a * a + b * b := ne_sq z0
    refine ⟨rfl, c, d, a, b, rfl, ⟨by walk_at "sz", by walk_at "sz", by walk_at "sz", by walk_at "sz"⟩, hz, fun t ht => ?_⟩
    obtain ⟨sx, sy⟩ := sz_nm (x := (les (c, d) t (a, b)).1) (y := (les (c, d) t (a, b)).2) ht ha hb
    have fin : ∀ x y : Int, GC [(a, b), les (c, d) t (a, b)] (x, y) → GC [(a, b), (c, d)] (x, y) := fun x y g => (GC.step g).swap
    generalize les (c, d) t (a, b) = o at *
    obtain ⟨x, y⟩ := o
    have sx9 : Sz 900 x := szUp sx hn
    have sy9 : Sz 900 y := szUp sy hn
    refine ⟨rfl, x, y, rfl, ⟨by walk_at "sz", by walk_at "sz"⟩, rfl, a, b, x, -y, rfl, ⟨by walk_at "sz", by walk_at "sz", by walk_at "sz", by walk_at "sz"⟩, rfl, ?_⟩
    refine ⟨rfl, a, b, rfl, ⟨by walk_at "sz", by walk_at "sz"⟩, rfl, x, y, rfl, ⟨by walk_at "sz", by walk_at "sz"⟩, Nat.le_of_ble_eq_true rfl, rfl, [a * a + b * b, x * x + y * y, a * x - b * -y, a * -y + b * x], rfl, ?_⟩
    have dvd : ∀ e : G, gdv e (a, b) → gdv e (x, y) → gdv e (gcI [a * a + b * b, x * x + y * y, a * x - b * -y, a * -y + b * x], 0) := fun e h1 h2 => gdv_whole h1 h2
    have ne : gcI [a * a + b * b, x * x + y * y, a * x - b * -y, a * -y + b * x] ≠ 0 := gc_ne (u := a * a + b * b) (by simp) (by omega)
    have sg : Sz 1900 (gcI [a * a + b * b, x * x + y * y, a * x - b * -y, a * -y + b * x]) := gc_sz (all4 (szUp inferInstance (by decide)) (szUp inferInstance (by decide)) (szUp inferInstance (by decide)) (szUp inferInstance (by decide))) ne
    generalize gcI [a * a + b * b, x * x + y * y, a * x - b * -y, a * -y + b * x] = s at *
    refine ⟨Nat.le_of_ble_eq_true rfl, rfl, s, 0, a, b, n, rfl, ⟨szUp sg (by decide), ⟨by decide⟩⟩, ⟨ha, hb⟩, by omega, fun u v g1 g2 _ => ?_⟩
    obtain ⟨su, sv⟩ := g2 fun y => z0 ⟨congrArg Prod.fst y, congrArg Prod.snd y⟩
    refine ⟨rfl, u, v, x, y, n, rfl, ⟨szUp su (by omega), szUp sv (by omega)⟩, ⟨sx, sy⟩, by omega, fun u' v' g3 g4 g5 => ?_⟩
    have sz : Sz n u' ∧ Sz n v' := by
      by_cases w : (x, y) = ((0, 0) : G)
      · obtain ⟨rfl, rfl⟩ := g5 w
        exact ⟨su, sv⟩
      · exact g4 w
    refine q u' v' (fin _ _ ?_) sz.1 sz.2
    obtain ⟨p1, p2, p3⟩ := gc2.mp g1
    obtain ⟨r1, r2, r3⟩ := gc2.mp g3
    exact gc2.mpr ⟨gdv_trans r1 p2, r2, fun e e1 e2 => r3 e (p3 e (dvd e e1 e2) e1) e2⟩
def w_divisor_by_steps : Ws := (wSeq (wWhile (dTru (dOp fNe (dVar 1) (dLit (.tuple [(.int 0), (.int 0)])))) (wPar 0 1 (daC (dVar 1) (daC (dFn 2 c_rest_of (daC (dVar 0) (daC (dVar 1) daN))) daN)))) (wRet (dVar 0)))
abbrev T_steps : Wt := dTru (dOp fNe (dVar 1) (dLit (.tuple [(.int 0), (.int 0)])))
abbrev B_steps : Ws := wPar 0 1 (daC (dVar 1) (daC (dFn 2 c_rest_of (daC (dVar 0) (daC (dVar 1) daN))) daN))
theorem steps_loop {n : Nat} {E : Ed} (hn : n ≤ 2000) : ∀ (N : Nat) (a b c d : Int), nm (c, d) < N → Sz 2000 a → Sz 2000 b → Sz n c → Sz n d →
    (∀ x y, GC [(a, b), (c, d)] (x, y) → ((c, d) ≠ ((0, 0) : G) → Sz n x ∧ Sz n y) → ((c, d) = ((0, 0) : G) → x = a ∧ y = b) → E.nx [some (.val (cp x y)), some (.val (cp 0 0))]) →
    whD T_steps B_steps N E [some (.val (cp a b)), some (.val (cp c d))] := by
  intro N
  induction N with
  | zero =>
    intro a b c d h
    have := nm_nn (c, d)
    omega
  | succ N ih =>
    intro a b c d h ha hb hc hd q
    by_cases z : (c, d) = ((0, 0) : G)
    · cases z
      refine ⟨Or.inr ⟨rfl, rfl⟩, trivial, ?_⟩
      refine ite_f (by show (!PyData.eqv (cp 0 0) (cp 0 0)) = false; rw [eqv_cp]; rfl) ?_
      exact q a b (GC.zero _) (fun n => absurd rfl n) (fun _ => ⟨rfl, rfl⟩)
    · have hz : 0 < c * c + d * d := nm_pos z
      have hc2 : Sz 2000 c := szUp hc hn
      have hd2 : Sz 2000 d := szUp hd hn
      refine ⟨Or.inr ⟨rfl, rfl⟩, trivial, ?_⟩
      refine ite_t (by show (!PyData.eqv (cp c d) (cp 0 0)) = true; rw [eqv_cp, decide_eq_false fun y => z (Prod.ext y.1 y.2)]; rfl) ?_
      refine ⟨rfl, a, b, c, d, rfl, ⟨ha, hb, hc2, hd2⟩, hz, fun t ht => ?_⟩
      obtain ⟨sx, sy⟩ := sz_nm (x := (les (a, b) t (c, d)).1) (y := (les (a, b) t (c, d)).2) ht hc hd
      refine ih c d (les (a, b) t (c, d)).1 (les (a, b) t (c, d)).2 ?_ hc2 hd2 sx sy fun x y g g1 g2 => ?_
      · have e : nm (c, d) = c * c + d * d := rfl
        have := nm_nn (les (a, b) t (c, d))
        show nm (les (a, b) t (c, d)) < N
        omega
      · refine q x y (GC.step g) (fun _ => ?_) (fun y => absurd y z)
        by_cases w : les (a, b) t (c, d) = ((0, 0) : G)
        · obtain ⟨rfl, rfl⟩ := g2 w
          exact ⟨hc, hd⟩
        · exact g1 w
theorem sem_divisor_by_steps : ∀ ds R, c_divisor_by_steps ds R → ds.length = 2 → w_divisor_by_steps (edP R) (ev0 0 ds) := by
  intro ds R h _
  obtain ⟨a, b, c, d, n, rfl, ⟨ha, hb⟩, ⟨hc, hd⟩, hn, q⟩ := h
  have h0 := nm_nn (c, d)
  exact ⟨(nm (c, d)).toNat + 1, steps_loop hn _ a b c d (by omega) ha hb hc hd fun x y g g1 g2 => q x y g g1 g2⟩
def w_is_complex : Ws := (wRet (dFn 2 c_are_wholes (daC (dVar 0) (daC (dLit (.int 2)) daN))))
theorem sem_is_complex : ∀ ds R, c_is_complex ds R → ds.length = 1 → w_is_complex (edP R) (ev0 0 ds) := by
  intro ds R h _
  obtain ⟨v, rfl, l, q⟩ := h
  exact ⟨rfl, v, 2, rfl, l, q⟩
abbrev r_determinant_2 : Ws := (wRet (dFn 2 c_minus (daC (dFn 2 c_times (daC (dVar 1) (daC (dVar 4) daN))) (daC (dFn 2 c_times (daC (dVar 2) (daC (dVar 3) daN))) daN))))
def w_determinant : Ws := (wSeq (wAsg (dVar 0) (gT 4 (gsC (gN 1) (gsC (gN 2) (gsC (gN 3) (gsC (gN 4) gsN)))))) (wRet (dFn 2 c_minus (daC (dFn 2 c_times (daC (dVar 1) (daC (dVar 4) daN))) (daC (dFn 2 c_times (daC (dVar 2) (daC (dVar 3) daN))) daN)))))
theorem sem_determinant : ∀ ds R, c_determinant ds R → ds.length = 1 → w_determinant (edP R) (ev0 4 ds) := by
  intro ds R h _
  obtain ⟨a, b, c, d, rfl, ⟨_, _, _, _, _, _, _, _⟩, q⟩ := h
  refine ⟨rfl, ?_⟩
  show r_determinant_2 (edP R) [some (.val (q4 a b c d)), some (.val (cd a)), some (.val (cd b)), some (.val (cd c)), some (.val (cd d))]
  refine ⟨rfl, a.1, a.2, d.1, d.2, rfl, ⟨by walk_at "sz", by walk_at "sz", by walk_at "sz", by walk_at "sz"⟩, ?_⟩
  refine ⟨rfl, b.1, b.2, c.1, c.2, rfl, ⟨by walk_at "sz", by walk_at "sz", by walk_at "sz", by walk_at "sz"⟩, ?_⟩
  exact ⟨rfl, _, _, _, _, rfl, ⟨by walk_at "sz", by walk_at "sz", by walk_at "sz", by walk_at "sz"⟩, q⟩
abbrev r_matrix_product_3 : Ws := (wRet (dTup (daC (dFn 2 c_plus (daC (dFn 2 c_times (daC (dVar 2) (daC (dVar 6) daN))) (daC (dFn 2 c_times (daC (dVar 3) (daC (dVar 8) daN))) daN))) (daC (dFn 2 c_plus (daC (dFn 2 c_times (daC (dVar 2) (daC (dVar 7) daN))) (daC (dFn 2 c_times (daC (dVar 3) (daC (dVar 9) daN))) daN))) (daC (dFn 2 c_plus (daC (dFn 2 c_times (daC (dVar 4) (daC (dVar 6) daN))) (daC (dFn 2 c_times (daC (dVar 5) (daC (dVar 8) daN))) daN))) (daC (dFn 2 c_plus (daC (dFn 2 c_times (daC (dVar 4) (daC (dVar 7) daN))) (daC (dFn 2 c_times (daC (dVar 5) (daC (dVar 9) daN))) daN))) daN))))))
abbrev r_matrix_product_2 : Ws := (wSeq (wAsg (dVar 1) (gT 4 (gsC (gN 6) (gsC (gN 7) (gsC (gN 8) (gsC (gN 9) gsN)))))) r_matrix_product_3)
def w_matrix_product : Ws := (wSeq (wAsg (dVar 0) (gT 4 (gsC (gN 2) (gsC (gN 3) (gsC (gN 4) (gsC (gN 5) gsN)))))) (wSeq (wAsg (dVar 1) (gT 4 (gsC (gN 6) (gsC (gN 7) (gsC (gN 8) (gsC (gN 9) gsN)))))) (wRet (dTup (daC (dFn 2 c_plus (daC (dFn 2 c_times (daC (dVar 2) (daC (dVar 6) daN))) (daC (dFn 2 c_times (daC (dVar 3) (daC (dVar 8) daN))) daN))) (daC (dFn 2 c_plus (daC (dFn 2 c_times (daC (dVar 2) (daC (dVar 7) daN))) (daC (dFn 2 c_times (daC (dVar 3) (daC (dVar 9) daN))) daN))) (daC (dFn 2 c_plus (daC (dFn 2 c_times (daC (dVar 4) (daC (dVar 6) daN))) (daC (dFn 2 c_times (daC (dVar 5) (daC (dVar 8) daN))) daN))) (daC (dFn 2 c_plus (daC (dFn 2 c_times (daC (dVar 4) (daC (dVar 7) daN))) (daC (dFn 2 c_times (daC (dVar 5) (daC (dVar 9) daN))) daN))) daN))))))))
theorem sem_matrix_product : ∀ ds R, c_matrix_product ds R → ds.length = 2 → w_matrix_product (edP R) (ev0 8 ds) := by
  intro ds R h _
  obtain ⟨a, b, c, d, e, f, g, h, rfl, ⟨_, _, _, _, _, _, _, _⟩, ⟨_, _, _, _, _, _, _, _⟩, q⟩ := h
  refine ⟨rfl, ?_⟩
  show r_matrix_product_2 (edP R) [some (.val (q4 a b c d)), some (.val (q4 e f g h)), some (.val (cd a)), some (.val (cd b)), some (.val (cd c)), some (.val (cd d)), none, none, none, none]
  refine ⟨rfl, ?_⟩
  show r_matrix_product_3 (edP R) [some (.val (q4 a b c d)), some (.val (q4 e f g h)), some (.val (cd a)), some (.val (cd b)), some (.val (cd c)), some (.val (cd d)), some (.val (cd e)), some (.val (cd f)), some (.val (cd g)), some (.val (cd h))]
  refine ⟨rfl, a.1, a.2, e.1, e.2, rfl, ⟨by walk_at "sz", by walk_at "sz", by walk_at "sz", by walk_at "sz"⟩, ?_⟩
  refine ⟨rfl, b.1, b.2, g.1, g.2, rfl, ⟨by walk_at "sz", by walk_at "sz", by walk_at "sz", by walk_at "sz"⟩, ?_⟩
  refine ⟨rfl, _, _, _, _, rfl, ⟨by walk_at "sz", by walk_at "sz", by walk_at "sz", by walk_at "sz"⟩, ?_⟩
  refine ⟨rfl, a.1, a.2, f.1, f.2, rfl, ⟨by walk_at "sz", by walk_at "sz", by walk_at "sz", by walk_at "sz"⟩, ?_⟩
  refine ⟨rfl, b.1, b.2, h.1, h.2, rfl, ⟨by walk_at "sz", by walk_at "sz", by walk_at "sz", by walk_at "sz"⟩, ?_⟩
  refine ⟨rfl, _, _, _, _, rfl, ⟨by walk_at "sz", by walk_at "sz", by walk_at "sz", by walk_at "sz"⟩, ?_⟩
  refine ⟨rfl, c.1, c.2, e.1, e.2, rfl, ⟨by walk_at "sz", by walk_at "sz", by walk_at "sz", by walk_at "sz"⟩, ?_⟩
  refine ⟨rfl, d.1, d.2, g.1, g.2, rfl, ⟨by walk_at "sz", by walk_at "sz", by walk_at "sz", by walk_at "sz"⟩, ?_⟩
  refine ⟨rfl, _, _, _, _, rfl, ⟨by walk_at "sz", by walk_at "sz", by walk_at "sz", by walk_at "sz"⟩, ?_⟩
  refine ⟨rfl, c.1, c.2, f.1, f.2, rfl, ⟨by walk_at "sz", by walk_at "sz", by walk_at "sz", by walk_at "sz"⟩, ?_⟩
  refine ⟨rfl, d.1, d.2, h.1, h.2, rfl, ⟨by walk_at "sz", by walk_at "sz", by walk_at "sz", by walk_at "sz"⟩, ?_⟩
  refine ⟨rfl, _, _, _, _, rfl, ⟨by walk_at "sz", by walk_at "sz", by walk_at "sz", by walk_at "sz"⟩, ?_⟩
  exact ⟨Nat.le_of_ble_eq_true rfl, q⟩
abbrev r_adjugate_2 : Ws := (wRet (dTup (daC (dVar 4) (daC (dFn 1 c_negative (daC (dVar 2) daN)) (daC (dFn 1 c_negative (daC (dVar 3) daN)) (daC (dVar 1) daN))))))
def w_adjugate : Ws := (wSeq (wAsg (dVar 0) (gT 4 (gsC (gN 1) (gsC (gN 2) (gsC (gN 3) (gsC (gN 4) gsN)))))) (wRet (dTup (daC (dVar 4) (daC (dFn 1 c_negative (daC (dVar 2) daN)) (daC (dFn 1 c_negative (daC (dVar 3) daN)) (daC (dVar 1) daN)))))))
theorem sem_adjugate : ∀ ds R, c_adjugate ds R → ds.length = 1 → w_adjugate (edP R) (ev0 4 ds) := by
  intro ds R h _
  obtain ⟨a, b, c, d, rfl, ⟨_, _, _, _, _, _, _, _⟩, q⟩ := h
  refine ⟨rfl, ?_⟩
  show r_adjugate_2 (edP R) [some (.val (q4 a b c d)), some (.val (cd a)), some (.val (cd b)), some (.val (cd c)), some (.val (cd d))]
  refine ⟨rfl, b.1, b.2, rfl, ⟨by walk_at "sz", by walk_at "sz"⟩, ?_⟩
  refine ⟨rfl, c.1, c.2, rfl, ⟨by walk_at "sz", by walk_at "sz"⟩, ?_⟩
  exact ⟨Nat.le_of_ble_eq_true rfl, q⟩
def w_conjugates : Ws := (wRet (dCal fTuple (daC (dLc [1] (diT (dVar 0)) (gN 1) dYes (dFn 1 c_conjugate_of (daC (dVar 1) daN))) daN)))
theorem sem_conjugates : ∀ ds R, c_conjugates ds R → ds.length = 1 → w_conjugates (edP R) (ev0 1 ds) := by
  intro ds R h _
  obtain ⟨a, b, c, d, rfl, ⟨_, _, _, _, _, _, _, _⟩, q⟩ := h
  refine lc_map (f := fun d => cd (gj (toG d))) rfl (Nat.le_of_ble_eq_true rfl) (fun x hx R r => ?_) ?_
  · rcases List.mem_cons.mp hx with e | hx
    · subst e; exact ⟨rfl, a.1, a.2, rfl, ⟨by walk_at "sz", by walk_at "sz"⟩, r⟩
    rcases List.mem_cons.mp hx with e | hx
    · subst e; exact ⟨rfl, b.1, b.2, rfl, ⟨by walk_at "sz", by walk_at "sz"⟩, r⟩
    rcases List.mem_cons.mp hx with e | hx
    · subst e; exact ⟨rfl, c.1, c.2, rfl, ⟨by walk_at "sz", by walk_at "sz"⟩, r⟩
    · rw [List.mem_singleton.mp hx] at r ⊢; exact ⟨rfl, d.1, d.2, rfl, ⟨by walk_at "sz", by walk_at "sz"⟩, r⟩
  · exact q
abbrev r_led_parts_2 : Ws := (wRet (dTup (daC (dFn 2 c_plus (daC (dFn 2 c_times (daC (dVar 3) (daC (dVar 1) daN))) (daC (dFn 2 c_scaled (daC (dVar 4) (daC (dVar 2) daN))) daN))) (daC (dFn 2 c_plus (daC (dFn 2 c_times (daC (dVar 5) (daC (dVar 1) daN))) (daC (dFn 2 c_scaled (daC (dVar 6) (daC (dVar 2) daN))) daN))) daN))))
def w_led_parts : Ws := (wSeq (wAsg (dVar 0) (gT 4 (gsC (gN 3) (gsC (gN 4) (gsC (gN 5) (gsC (gN 6) gsN)))))) (wRet (dTup (daC (dFn 2 c_plus (daC (dFn 2 c_times (daC (dVar 3) (daC (dVar 1) daN))) (daC (dFn 2 c_scaled (daC (dVar 4) (daC (dVar 2) daN))) daN))) (daC (dFn 2 c_plus (daC (dFn 2 c_times (daC (dVar 5) (daC (dVar 1) daN))) (daC (dFn 2 c_scaled (daC (dVar 6) (daC (dVar 2) daN))) daN))) daN)))))
theorem sem_led_parts : ∀ ds R, c_led_parts ds R → ds.length = 3 → w_led_parts (edP R) (ev0 4 ds) := by
  intro ds R h _
  obtain ⟨a, b, c, d, p, r, rfl, ⟨_, _, _, _, _, _, _, _⟩, ⟨_, _, _⟩, q⟩ := h
  refine ⟨rfl, ?_⟩
  show r_led_parts_2 (edP R) [some (.val (q4 a b c d)), some (.val (cd p)), some (.val (.int r)), some (.val (cd a)), some (.val (cd b)), some (.val (cd c)), some (.val (cd d))]
  refine ⟨rfl, a.1, a.2, p.1, p.2, rfl, ⟨by walk_at "sz", by walk_at "sz", by walk_at "sz", by walk_at "sz"⟩, ?_⟩
  refine ⟨rfl, b.1, b.2, r, rfl, ⟨by walk_at "sz", by walk_at "sz", by walk_at "sz"⟩, ?_⟩
  refine ⟨rfl, _, _, _, _, rfl, ⟨by walk_at "sz", by walk_at "sz", by walk_at "sz", by walk_at "sz"⟩, ?_⟩
  refine ⟨rfl, c.1, c.2, p.1, p.2, rfl, ⟨by walk_at "sz", by walk_at "sz", by walk_at "sz", by walk_at "sz"⟩, ?_⟩
  refine ⟨rfl, d.1, d.2, r, rfl, ⟨by walk_at "sz", by walk_at "sz", by walk_at "sz"⟩, ?_⟩
  refine ⟨rfl, _, _, _, _, rfl, ⟨by walk_at "sz", by walk_at "sz", by walk_at "sz", by walk_at "sz"⟩, ?_⟩
  exact ⟨Nat.le_of_ble_eq_true rfl, q⟩
def w_is_place : Ws := (wSeq (wIf (dNotT (dTru (dFn 2 c_are_wholes (daC (dVar 0) (daC (dLit (.int 3)) daN))))) (wRet (dLit (.bool false))) wNx) (wRet (dOr (dOp fEq (dVar 0) (dLit (.tuple [(.int 1), (.int 0), (.int 0)]))) (dAnd (dOp fGt (dOp fIx (dVar 0) (dLit (.int 2))) (dLit (.int 0))) (dOp fEq (dFn 1 c_common_of (daC (dVar 0) daN)) (dLit (.int 1)))))))
theorem areW_pl (a b r : Int) : areW (pl a b r) 3 = true := rfl
theorem sem_is_place : ∀ ds R, c_is_place ds R → ds.length = 1 → w_is_place (edP R) (ev0 0 ds) := by
  intro ds R h _
  obtain ⟨a, b, c, rfl, q⟩ := h
  refine ⟨rfl, pl a b c, 3, rfl, rfl, ?_⟩
  rw [areW_pl]
  refine ⟨trivial, Or.inr ⟨rfl, rfl⟩, ?_⟩
  rw [eqv_pl]
  unfold isPl at q
  refine ite_b (fun z => ?_) (fun z => ?_)
  · rw [z, Bool.true_or] at q
    exact q
  · rw [z, Bool.false_or] at q
    refine ⟨trivial, ?_⟩
    refine ite_b (fun y => ?_) (fun y => ?_)
    · rw [show decide (0 < c) = true from y, Bool.true_and] at q
      refine ⟨rfl, [a, b, c], rfl, Or.inr ⟨rfl, rfl⟩, ?_⟩
      rw [eqv_int]
      exact q
    · rw [show decide (0 < c) = false from y, Bool.false_and] at q
      exact q
def w_require_place : Ws := (wIf (dNotT (dTru (dFn 1 c_is_place (daC (dVar 0) daN)))) wNever wNx)
theorem sem_require_place : ∀ ds R, c_require_place ds R → ds.length = 1 → w_require_place (edP R) (ev0 0 ds) := by
  intro ds R h _
  obtain ⟨a, b, c, rfl, e, q⟩ := h
  refine ⟨rfl, a, b, c, rfl, ?_⟩
  rw [e]
  exact ⟨trivial, q⟩
def w_upper_and_lower : Ws := (wSeq (wAsg (dVar 0) (gT 3 (gsC (gN 1) (gsC (gN 2) (gsC (gN 3) gsN))))) (wRet (dTup (daC (dTup (daC (dVar 1) (daC (dVar 2) daN))) (daC (dVar 3) daN)))))
theorem sem_upper_and_lower : ∀ ds R, c_upper_and_lower ds R → ds.length = 1 → w_upper_and_lower (edP R) (ev0 3 ds) := by
  intro ds R h _
  obtain ⟨a, b, r, rfl, q⟩ := h
  exact ⟨rfl, Nat.le_of_ble_eq_true rfl, Nat.le_of_ble_eq_true rfl, q⟩
abbrev r_quotient_place_4 : Ws := (wRet (dFn 1 c_reduced (daC (dTup (daC (dVar 2) (daC (dVar 3) (daC (dFn 1 c_norm_of (daC (dVar 1) daN)) daN)))) daN)))
def w_quotient_place : Ws := (wSeq (wIf (dTru (dOp fEq (dVar 1) (dLit (.tuple [(.int 0), (.int 0)])))) (wRet (dLit (.tuple [(.int 1), (.int 0), (.int 0)]))) wNx) (wSeq (wAsg (dFn 2 c_times (daC (dVar 0) (daC (dFn 1 c_conjugate_of (daC (dVar 1) daN)) daN))) (gT 2 (gsC (gN 2) (gsC (gN 3) gsN)))) (wRet (dFn 1 c_reduced (daC (dTup (daC (dVar 2) (daC (dVar 3) (daC (dFn 1 c_norm_of (daC (dVar 1) daN)) daN)))) daN)))))
theorem sem_quotient_place : ∀ ds R, c_quotient_place ds R → ds.length = 2 → w_quotient_place (edP R) (ev0 2 ds) := by
  intro ds R h _
  obtain ⟨p, q, rfl, ⟨h1, h2, h3, h4⟩, r⟩ := h
  refine ⟨Or.inr ⟨rfl, rfl⟩, trivial, ?_⟩
  rw [show PyData.eqv (cd q) (.tuple [.int 0, .int 0]) = decide (q = (0, 0)) from eqv_cd q (0, 0)]
  unfold qp at r
  refine ite_b (fun z => ?_) (fun z => ?_)
  · rw [if_pos (of_decide_eq_true z)] at r
    exact r
  have z0 := of_decide_eq_false z
  rw [if_neg z0] at r
  have np : 0 < q.1 * q.1 + q.2 * q.2 := nm_pos z0
  refine ⟨rfl, q.1, q.2, rfl, ⟨by walk_at "sz", by walk_at "sz"⟩, ?_⟩
  refine ⟨rfl, p.1, p.2, q.1, -q.2, rfl, ⟨by walk_at "sz", by walk_at "sz", by walk_at "sz", by walk_at "sz"⟩, ?_⟩
  refine ⟨rfl, ?_⟩
  show r_quotient_place_4 (edP R) [some (.val (cd p)), some (.val (cd q)), some (.val (.int (p.1 * q.1 - p.2 * -q.2))), some (.val (.int (p.1 * -q.2 + p.2 * q.1)))]
  refine ⟨rfl, q.1, q.2, rfl, ⟨by walk_at "sz", by walk_at "sz"⟩, ?_⟩
  refine ⟨Nat.le_of_ble_eq_true rfl, rfl, [p.1 * q.1 - p.2 * -q.2, p.1 * -q.2 + p.2 * q.1, q.1 * q.1 + q.2 * q.2], rfl, Nat.le_of_ble_eq_true rfl, fun u hu => ?_, fun z => ?_, r⟩
  · rcases List.mem_cons.mp hu with e | hu
    · rw [e]; exact szUp inferInstance (by decide +kernel)
    rcases List.mem_cons.mp hu with e | hu
    · rw [e]; exact szUp inferInstance (by decide +kernel)
    · rw [List.mem_singleton.mp hu]; exact szUp inferInstance (by decide +kernel)
  · exact gc_ne (u := q.1 * q.1 + q.2 * q.2) (by simp) (by omega) z
abbrev r_map_from_6 : Ws := (wAsg (dCal fTuple (daC (dLc [5] (diT (dVar 1)) (gN 5) dYes (dFn 1 c_turned (daC (dVar 5) daN))) daN)) (gN 1))
abbrev r_map_from_5 : Ws := (wSeq (wAsg (dFn 1 c_turned (daC (dVar 4) daN)) (gN 4)) r_map_from_6)
abbrev r_map_from_7 : Ws := (wRet (dOp fCat (dTup (daC (dVar 0) daN)) (dVar 1)))
abbrev r_map_from_4 : Ws := (wSeq (wWhile (dNotT (dTru (dFn 1 c_is_quarter (daC (dVar 4) daN)))) r_map_from_5) r_map_from_7)
abbrev r_map_from_3 : Ws := (wSeq (wAsg (dIf (dTru (dOp fNe (dOp fIx (dVar 1) (dLit (.int 0))) (dLit (.tuple [(.int 0), (.int 0)])))) (dOp fIx (dVar 1) (dLit (.int 0))) (dOp fIx (dVar 1) (dLit (.int 1)))) (gN 4)) r_map_from_4)
abbrev r_map_from_2 : Ws := (wSeq (wAsg (dCal fTuple (daC (dLc [5] (diT (dVar 1)) (gN 5) dYes (dFn 2 c_exact_quotient (daC (dVar 5) (daC (dVar 3) daN)))) daN)) (gN 1)) r_map_from_3)
def w_map_from : Ws := (wSeq (wAsg (dFn 1 c_divisor_of (daC (dOp fCat (dVar 1) (dTup (daC (dVar 2) daN))) daN)) (gN 3)) (wSeq (wAsg (dCal fTuple (daC (dLc [5] (diT (dVar 1)) (gN 5) dYes (dFn 2 c_exact_quotient (daC (dVar 5) (daC (dVar 3) daN)))) daN)) (gN 1)) (wSeq (wAsg (dIf (dTru (dOp fNe (dOp fIx (dVar 1) (dLit (.int 0))) (dLit (.tuple [(.int 0), (.int 0)])))) (dOp fIx (dVar 1) (dLit (.int 0))) (dOp fIx (dVar 1) (dLit (.int 1)))) (gN 4)) (wSeq (wWhile (dNotT (dTru (dFn 1 c_is_quarter (daC (dVar 4) daN)))) (wSeq (wAsg (dFn 1 c_turned (daC (dVar 4) daN)) (gN 4)) (wAsg (dCal fTuple (daC (dLc [5] (diT (dVar 1)) (gN 5) dYes (dFn 1 c_turned (daC (dVar 5) daN))) daN)) (gN 1)))) (wRet (dOp fCat (dTup (daC (dVar 0) daN)) (dVar 1)))))))
/-- one look at the loop that turns a map's numbers -/
theorem mf_step {f : Int} {a b c d l s m g : G} {sd : Sl} {n : Nat} {E : Ed} {t : Wt} (ht : t = dNotT (dTru (dFn 1 c_is_quarter (daC (dVar 4) daN))))
    (h : isQ l → E.nx [some (.val (.int f)), some (.val (q4 a b c d)), some (.val (cd m)), some (.val (cd g)), some (.val (cd l)), none])
    (k : ¬ isQ l → whD t r_map_from_5 n E [some (.val (.int f)), some (.val (q4 (gt a) (gt b) (gt c) (gt d))), some (.val (cd m)), some (.val (cd g)), some (.val (cd (gt l))), none]) :
    whD t r_map_from_5 (n + 1) E [some (.val (.int f)), some (.val (q4 a b c d)), some (.val (cd m)), some (.val (cd g)), some (.val (cd l)), none] := by
  subst ht
  refine ⟨rfl, l.1, l.2, rfl, trivial, ?_⟩
  refine ite_b (fun z => ?_) (fun z => ?_)
  · refine ⟨rfl, l.1, l.2, rfl, ?_⟩
    refine lc_map (f := fun d => cd (gt (toG d))) rfl (Nat.le_of_ble_eq_true rfl) (fun x hx R r => ?_) ?_
    · rcases List.mem_cons.mp hx with e | hx
      · subst e; exact ⟨rfl, a.1, a.2, rfl, r⟩
      rcases List.mem_cons.mp hx with e | hx
      · subst e; exact ⟨rfl, b.1, b.2, rfl, r⟩
      rcases List.mem_cons.mp hx with e | hx
      · subst e; exact ⟨rfl, c.1, c.2, rfl, r⟩
      · rw [List.mem_singleton.mp hx] at r ⊢; exact ⟨rfl, d.1, d.2, rfl, r⟩
    · exact k (fun y => by
        have : (decide (0 < l.1) && decide (0 ≤ l.2)) = true := by rw [decide_eq_true y.1, decide_eq_true y.2]; rfl
        rw [this] at z
        cases z)
  · refine h ?_
    have z1 : (decide (0 < l.1) && decide (0 ≤ l.2)) = true := by
      cases y : (decide (0 < l.1) && decide (0 ≤ l.2))
      · rw [show tru (.bool (decide (0 < l.1) && decide (0 ≤ l.2))) = (decide (0 < l.1) && decide (0 ≤ l.2)) from rfl, y] at z
        cases z
      · rfl
    rw [Bool.and_eq_true] at z1
    exact ⟨of_decide_eq_true z1.1, of_decide_eq_true z1.2⟩
theorem led_ne {a b c d : G} (h : dtm a b c d ≠ (0, 0)) : led a b ≠ (0, 0) := fun z => h (by
  unfold led at z
  by_cases y : a = (0, 0)
  · rw [if_neg (fun n => n y)] at z
    rw [y, z]
    exact Prod.ext (by simp only [dtm, gu, gm]; grind) (by simp only [dtm, gu, gm]; grind)
  · rw [if_pos y] at z
    exact absurd z y)
theorem qt_some {l : G} (h : l ≠ (0, 0)) (h0 : ¬ isQ l) (h1 : ¬ isQ (gt l)) (h2 : ¬ isQ (gt (gt l))) : isQ (gt (gt (gt l))) := by
  have : ¬ (l.1 = 0 ∧ l.2 = 0) := fun z => h (Prod.ext z.1 z.2)
  unfold isQ gt at *
  simp only at *
  omega
/-- the loop ends with a map in its form -/
theorem mf_loop {f : Int} {m g a b c d x y z w : G} {n : Nat} {E : Ed} (hf : S4 n x y z w ∧ GC [x, y, z, w] (1, 0) ∧ dtm x y z w ≠ (0, 0)) (hg : g ≠ (0, 0)) (ha : a = gm g x) (hb : b = gm g y) (hc : c = gm g z) (hd : d = gm g w)
    (k : ∀ g x y z w : G, g ≠ (0, 0) → a = gm g x → b = gm g y → c = gm g z → d = gm g w → Fm n x y z w → ∀ h l : G, E.nx [some (.val (.int f)), some (.val (q4 x y z w)), some (.val (cd m)), some (.val (cd h)), some (.val (cd l)), none]) (h : G) :
    wWhile (dNotT (dTru (dFn 1 c_is_quarter (daC (dVar 4) daN)))) r_map_from_5 E [some (.val (.int f)), some (.val (q4 x y z w)), some (.val (cd m)), some (.val (cd h)), some (.val (cd (led x y))), none] := by
  have tn : ∀ {a g x : G}, a = gm g x → a = gm (gt (gt (gt g))) (gt x) := fun {a g x} e => by rw [gm_gt, gt_4]; exact e
  have tg : ∀ {g : G}, g ≠ (0, 0) → gt (gt (gt g)) ≠ (0, 0) := fun z => gt_ne (gt_ne (gt_ne z))
  have up : ∀ {x y z w : G}, S4 n x y z w ∧ GC [x, y, z, w] (1, 0) ∧ dtm x y z w ≠ (0, 0) → S4 n (gt x) (gt y) (gt z) (gt w) ∧ GC [gt x, gt y, gt z, gt w] (1, 0) ∧ dtm (gt x) (gt y) (gt z) (gt w) ≠ (0, 0) := fun e => ⟨e.1.gt, e.2.1.gt, by rw [dtm_gt]; exact gn_ne e.2.2⟩
  refine ⟨4, ?_⟩
  refine mf_step (s := x) (sd := .val .none) rfl (fun q => k g x y z w hg ha hb hc hd ⟨hf.1, hf.2.1, hf.2.2, q⟩ _ _) (fun q0 => ?_)
  have f1 := up hf
  refine mf_step (s := x) (sd := .val .none) rfl (fun q => k _ _ _ _ _ (tg hg) (tn ha) (tn hb) (tn hc) (tn hd) ⟨f1.1, f1.2.1, f1.2.2, by rw [led_gt]; exact q⟩ _ _) (fun q1 => ?_)
  have f2 := up f1
  refine mf_step (s := x) (sd := .val .none) rfl (fun q => k _ _ _ _ _ (tg (tg hg)) (tn (tn ha)) (tn (tn hb)) (tn (tn hc)) (tn (tn hd)) ⟨f2.1, f2.2.1, f2.2.2, by rw [led_gt, led_gt]; exact q⟩ _ _) (fun q2 => ?_)
  have f3 := up f2
  refine mf_step (s := x) (sd := .val .none) rfl (fun q => k _ _ _ _ _ (tg (tg (tg hg))) (tn (tn (tn ha))) (tn (tn (tn hb))) (tn (tn (tn hc))) (tn (tn (tn hd))) ⟨f3.1, f3.2.1, f3.2.2, by rw [led_gt, led_gt, led_gt]; exact q⟩ _ _) (fun q3 => ?_)
  exact absurd (qt_some (led_ne hf.2.2) q0 q1 q2) q3
theorem sem_map_from : ∀ ds R, c_map_from ds R → ds.length = 3 → w_map_from (edP R) (ev0 3 ds) := by
  intro ds R h _
  obtain ⟨f, a, b, c, d, m, n, rfl, s, ⟨m1, m2⟩, hn, hz, hm, q⟩ := h
  have cap : n ≤ 900 := hn
  refine ⟨Nat.le_of_ble_eq_true rfl, ?_⟩
  refine ⟨Nat.le_of_ble_eq_true rfl, ?_⟩
  refine ⟨rfl, [a, b, c, d, m], n, rfl, Nat.le_of_ble_eq_true rfl, hn, fun p hp => ?_, fun g gc gq g1 g2 => ?_⟩
  · rcases List.mem_cons.mp hp with e | hp
    · rw [e]; exact ⟨s.a1, s.a2⟩
    rcases List.mem_cons.mp hp with e | hp
    · rw [e]; exact ⟨s.b1, s.b2⟩
    rcases List.mem_cons.mp hp with e | hp
    · rw [e]; exact ⟨s.c1, s.c2⟩
    rcases List.mem_cons.mp hp with e | hp
    · rw [e]; exact ⟨s.d1, s.d2⟩
    · rw [List.mem_singleton.mp hp]; exact ⟨m1, m2⟩
  · have hg : g ≠ (0, 0) := gc.ne (by
      by_cases y : a = (0, 0)
      · refine ⟨b, by simp, fun z => led_ne hz ?_⟩
        unfold led
        rw [if_neg (fun n => n y)]
        exact z
      · exact ⟨a, by simp, y⟩)
    obtain ⟨x, hx⟩ := gc.dv a (by simp)
    obtain ⟨y, hy⟩ := gc.dv b (by simp)
    obtain ⟨z, hz'⟩ := gc.dv c (by simp)
    obtain ⟨w, hw⟩ := gc.dv d (by simp)
    show r_map_from_2 (edP R) [some (.val (.int f)), some (.val (q4 a b c d)), some (.val (cd m)), some (.val (cd g)), none, none]
    have S : ∀ {k : Nat} {i : Int}, Sz k i → k ≤ 2000 → Sz 2000 i := fun h l => szUp h l
    have one : ∀ {u v : G}, u = gm g v → Sz n u.1 → Sz n u.2 → ∀ R' : PyData → Ev → Prop, R' (cd v) [some (.val (.int f)), some (.val (q4 a b c d)), some (.val (cd m)), some (.val (cd g)), none, some (.val (cd u))] →
        dFn 2 c_exact_quotient (daC (dVar 5) (daC (dVar 3) daN)) [some (.val (.int f)), some (.val (q4 a b c d)), some (.val (cd m)), some (.val (cd g)), none, some (.val (cd u))] R' := fun {u v} e s1 s2 R' r => by
      refine ⟨rfl, u.1, u.2, g.1, g.2, rfl, ⟨szUp s1 (by omega), szUp s2 (by omega), szUp g1 (by omega), szUp g2 (by omega)⟩, ?_⟩
      rw [xq_gm (p := v) hg e]
      exact r
    refine lc_map (f := fun d => od (xq (toG d).1 (toG d).2 g.1 g.2)) rfl (Nat.le_of_ble_eq_true rfl) (fun u hu R' r => ?_) ?_
    · rcases List.mem_cons.mp hu with e | hu
      · subst e; exact one hx s.a1 s.a2 R' (by rw [show od (xq (toG (cd a)).1 (toG (cd a)).2 g.1 g.2) = cd x from congrArg od (xq_gm hg hx)] at r; exact r)
      rcases List.mem_cons.mp hu with e | hu
      · subst e; exact one hy s.b1 s.b2 R' (by rw [show od (xq (toG (cd b)).1 (toG (cd b)).2 g.1 g.2) = cd y from congrArg od (xq_gm hg hy)] at r; exact r)
      rcases List.mem_cons.mp hu with e | hu
      · subst e; exact one hz' s.c1 s.c2 R' (by rw [show od (xq (toG (cd c)).1 (toG (cd c)).2 g.1 g.2) = cd z from congrArg od (xq_gm hg hz')] at r; exact r)
      · rw [List.mem_singleton.mp hu] at r ⊢
        exact one hw s.d1 s.d2 R' (by rw [show od (xq (toG (cd d)).1 (toG (cd d)).2 g.1 g.2) = cd w from congrArg od (xq_gm hg hw)] at r; exact r)
    · rw [show [] ++ [cd a, cd b, cd c, cd d].map (fun d => od (xq (toG d).1 (toG d).2 g.1 g.2)) = [cd x, cd y, cd z, cd w] from by
        show [od (xq a.1 a.2 g.1 g.2), od (xq b.1 b.2 g.1 g.2), od (xq c.1 c.2 g.1 g.2), od (xq d.1 d.2 g.1 g.2)] = _
        rw [xq_gm (p := x) hg hx, xq_gm (p := y) hg hy, xq_gm (p := z) hg hz', xq_gm (p := w) hg hw]
        rfl]
      have dn : dtm x y z w ≠ (0, 0) := fun e => hz (by rw [hx, hy, hz', hw, dtm_gm, e, gm_zero])
      have sx := sz_fac hg hx s.a1 s.a2
      have sy := sz_fac hg hy s.b1 s.b2
      have sz := sz_fac hg hz' s.c1 s.c2
      have sw := sz_fac hg hw s.d1 s.d2
      have F : S4 (n + 1) x y z w ∧ GC [x, y, z, w] (1, 0) ∧ dtm x y z w ≠ (0, 0) := ⟨⟨sx.1, sx.2, sy.1, sy.2, sz.1, sz.2, sw.1, sw.2⟩, gc.quot hm hg hx hy hz' hw, dn⟩
      show r_map_from_3 (edP R) [some (.val (.int f)), some (.val (q4 x y z w)), some (.val (cd m)), some (.val (cd g)), none, none]
      have L : ∀ E : Ed, (∀ g x y z w : G, g ≠ (0, 0) → a = gm g x → b = gm g y → c = gm g z → d = gm g w → Fm (n + 1) x y z w → ∀ h l : G, E.nx [some (.val (.int f)), some (.val (q4 x y z w)), some (.val (cd m)), some (.val (cd h)), some (.val (cd l)), none]) →
          wWhile (dNotT (dTru (dFn 1 c_is_quarter (daC (dVar 4) daN)))) r_map_from_5 E [some (.val (.int f)), some (.val (q4 x y z w)), some (.val (cd m)), some (.val (cd g)), some (.val (cd (led x y))), none] := fun E k => mf_loop F hg hx hy hz' hw k g
      have T : ∀ l : G, l = led x y → r_map_from_4 (edP R) [some (.val (.int f)), some (.val (q4 x y z w)), some (.val (cd m)), some (.val (cd g)), some (.val (cd l)), none] := fun l e => by
        subst e
        exact L _ fun g' x' y' z' w' e0 e1 e2 e3 e4 fm h l => ⟨Nat.le_of_ble_eq_true rfl, Nat.le_of_ble_eq_true rfl, q g' x' y' z' w' e0 e1 e2 e3 e4 fm⟩
      refine ⟨Or.inr ⟨rfl, rfl⟩, trivial, ?_⟩
      rw [show PyData.eqv (cd x) (.tuple [.int 0, .int 0]) = decide (x = (0, 0)) from eqv_cd x (0, 0)]
      refine ite_b (fun e => ?_) (fun e => ?_)
      · refine T x ?_
        unfold led
        rw [if_pos (by
          intro z
          rw [decide_eq_true z] at e
          cases e)]
      · refine T y ?_
        unfold led
        rw [if_neg (by
          intro z
          apply z
          exact Classical.byContradiction fun n => by
            rw [decide_eq_false n] at e
            cases e)]
abbrev r_joined_2 : Ws := (wRet (dFn 3 c_map_from (daC (dOp fMod (dOp fCat (dOp fIx (dVar 0) (dLit (.int 0))) (dOp fIx (dVar 1) (dLit (.int 0)))) (dLit (.int 2))) (daC (dFn 2 c_matrix_product (daC (dSl (dVar 0) (doS (dLit (.int 1))) doN) (daC (dVar 2) daN))) (daC (dFn 1 c_determinant (daC (dVar 2) daN)) daN)))))
def w_joined : Ws := (wSeq (wAsg (dIf (dTru (dOp fIx (dVar 0) (dLit (.int 0)))) (dFn 1 c_conjugates (daC (dSl (dVar 1) (doS (dLit (.int 1))) doN) daN)) (dSl (dVar 1) (doS (dLit (.int 1))) doN)) (gN 2)) (wRet (dFn 3 c_map_from (daC (dOp fMod (dOp fCat (dOp fIx (dVar 0) (dLit (.int 0))) (dOp fIx (dVar 1) (dLit (.int 0)))) (dLit (.int 2))) (daC (dFn 2 c_matrix_product (daC (dSl (dVar 0) (doS (dLit (.int 1))) doN) (daC (dVar 2) daN))) (daC (dFn 1 c_determinant (daC (dVar 2) daN)) daN))))))
theorem sem_joined : ∀ ds R, c_joined ds R → ds.length = 2 → w_joined (edP R) (ev0 1 ds) := by
  intro ds R h _
  obtain ⟨f, i, a, b, c, d, e, g, h, k, n, rfl, hf, hi, F, F', hn, q⟩ := h
  have hm : modC (f + i) 2 := by show (0 : Int) < 2; decide
  have T : r_joined_2 (edP R) [some (.val (mp f a b c d)), some (.val (mp i e g h k)), some (.val (q4 (cj f e) (cj f g) (cj f h) (cj f k)))] := by
    have s' := F'.sz.cj (f := f)
    have dd : dtm (cj f e) (cj f g) (cj f h) (cj f k) ≠ (0, 0) := by rw [dtm_cj]; exact cj_ne F'.dt
    obtain ⟨z1, z2⟩ := dtm_sz s'
    refine ⟨hm, rfl, a, b, c, d, cj f e, cj f g, cj f h, cj f k, rfl, F.sz.up (by omega), s'.up (by omega), ?_⟩
    refine ⟨rfl, cj f e, cj f g, cj f h, cj f k, rfl, s'.up (by omega), ?_⟩
    refine ⟨rfl, (f + i) % 2, _, _, _, _, _, 2 * n + 2, rfl, F.sz.mul s', ⟨z1, z2⟩, by omega, ?_, fun u u1 u2 u3 u4 => gdv_det F u1 u2 u3 u4, fun D x y z w hD e1 e2 e3 e4 F2 => q D x y z w hD e1 e2 e3 e4 F2⟩
    rw [dtm_mul]
    exact gm_ne0 F.dt dd
  rcases hf with rfl | rfl
  · exact ⟨trivial, ite_f rfl T⟩
  · exact ⟨trivial, ite_t rfl ⟨rfl, e, g, h, k, rfl, F'.sz.up (by omega), T⟩⟩
theorem joined_ok {f i : Int} {A B : M4} {n : Nat} {R : PyData → Prop} (hf : f = 0 ∨ f = 1) (hi : i = 0 ∨ i = 1) (F : Fm4 n A) (F' : Fm4 n B) (hn : n ≤ 400) {g : Int} (eg : (f + i) % 2 = g) {U : M4} (eU : aft f A B = U) (q : R (mp4 g U)) : c_joined [mp4 f A, mp4 i B] R :=
  ⟨f, i, A.a, A.b, A.c, A.d, B.a, B.b, B.c, B.d, n, rfl, hf, hi, F, F', hn, fun D x y z w hD e1 e2 e3 e4 Fx => by
    have s : Sim ⟨x, y, z, w⟩ (A.mul (B.cj f)) := ⟨D, 1, hD, one_ne, by rw [sm_one]; exact m4_ext e1.symm e2.symm e3.symm e4.symm⟩
    have e : (⟨x, y, z, w⟩ : M4) = aft f A B := nrm_of (dtMul F.dt F'.dt) Fx s
    rw [← eU, ← e, ← eg] at q
    exact q⟩
abbrev r_back_of_2 : Ws := (wRet (dFnD 3 [(.tuple [(.int 0), (.int 0)])] c_map_from (daC (dOp fIx (dVar 0) (dLit (.int 0))) (daC (dIf (dTru (dOp fIx (dVar 0) (dLit (.int 0)))) (dFn 1 c_conjugates (daC (dVar 1) daN)) (dVar 1)) daN))))
def w_back_of : Ws := (wSeq (wAsg (dFn 1 c_adjugate (daC (dSl (dVar 0) (doS (dLit (.int 1))) doN) daN)) (gN 1)) (wRet (dFnD 3 [(.tuple [(.int 0), (.int 0)])] c_map_from (daC (dOp fIx (dVar 0) (dLit (.int 0))) (daC (dIf (dTru (dOp fIx (dVar 0) (dLit (.int 0)))) (dFn 1 c_conjugates (daC (dVar 1) daN)) (dVar 1)) daN)))))
theorem dtm_adj (a b c d : G) : dtm d (gn b) (gn c) a = dtm a b c d := Prod.ext (by simp only [dtm, gu, gm, gn]; grind) (by simp only [dtm, gu, gm, gn]; grind)
theorem sem_back_of : ∀ ds R, c_back_of ds R → ds.length = 1 → w_back_of (edP R) (ev0 1 ds) := by
  intro ds R h _
  obtain ⟨f, a, b, c, d, n, rfl, hf, F, hn, q⟩ := h
  refine ⟨rfl, a, b, c, d, rfl, F.sz.up (by omega), ?_⟩
  show r_back_of_2 (edP R) [some (.val (mp f a b c d)), some (.val (q4 d (gn b) (gn c) a))]
  have s' := F.sz.adj.cj (f := f)
  have dd : dtm (cj f d) (cj f (gn b)) (cj f (gn c)) (cj f a) ≠ (0, 0) := by rw [dtm_cj, dtm_adj]; exact cj_ne F.dt
  have M : c_map_from [.int f, q4 (cj f d) (cj f (gn b)) (cj f (gn c)) (cj f a), .tuple [.int 0, .int 0]] R := ⟨f, _, _, _, _, (0, 0), n, rfl, s', ⟨szUp (n := 0) ⟨by decide⟩ (Nat.zero_le _), szUp (n := 0) ⟨by decide⟩ (Nat.zero_le _)⟩, by omega, dd, fun k _ _ _ _ => gdv_zero k, q⟩
  rcases hf with rfl | rfl
  · exact ⟨trivial, ite_f rfl ⟨rfl, M⟩⟩
  · exact ⟨trivial, ite_t rfl ⟨rfl, d, gn b, gn c, a, rfl, F.sz.adj.up (by omega), rfl, M⟩⟩
theorem back_ok {f : Int} {A : M4} {n : Nat} {R : PyData → Prop} (hf : f = 0 ∨ f = 1) (F : Fm4 n A) (hn : n ≤ 800) {U : M4} (eU : bck f A = U) (q : R (mp4 f U)) : c_back_of [mp4 f A] R :=
  ⟨f, A.a, A.b, A.c, A.d, n, rfl, hf, F, hn, fun D x y z w hD e1 e2 e3 e4 Fx => by
    have s : Sim ⟨x, y, z, w⟩ (A.adj.cj f) := ⟨D, 1, hD, one_ne, by rw [sm_one]; exact m4_ext e1.symm e2.symm e3.symm e4.symm⟩
    have e : (⟨x, y, z, w⟩ : M4) = bck f A := nrm_of (dtAdj F.dt) Fx s
    rw [← eU, ← e] at q
    exact q⟩
abbrev r_place_led_3 : Ws := (wRet (dFn 2 c_quotient_place (daC (dVar 4) (daC (dVar 5) daN))))
abbrev r_place_led_2 : Ws := (wSeq (wAsg (dFn 3 c_led_parts (daC (dSl (dVar 0) (doS (dLit (.int 1))) doN) (daC (dIf (dTru (dOp fIx (dVar 0) (dLit (.int 0)))) (dFn 1 c_conjugate_of (daC (dVar 2) daN)) (dVar 2)) (daC (dVar 3) daN)))) (gT 2 (gsC (gN 4) (gsC (gN 5) gsN)))) r_place_led_3)
def w_place_led : Ws := (wSeq (wAsg (dFn 1 c_upper_and_lower (daC (dVar 1) daN)) (gT 2 (gsC (gN 2) (gsC (gN 3) gsN)))) (wSeq (wAsg (dFn 3 c_led_parts (daC (dSl (dVar 0) (doS (dLit (.int 1))) doN) (daC (dIf (dTru (dOp fIx (dVar 0) (dLit (.int 0)))) (dFn 1 c_conjugate_of (daC (dVar 2) daN)) (dVar 2)) (daC (dVar 3) daN)))) (gT 2 (gsC (gN 4) (gsC (gN 5) gsN)))) (wRet (dFn 2 c_quotient_place (daC (dVar 4) (daC (dVar 5) daN))))))
theorem sem_place_led : ∀ ds R, c_place_led ds R → ds.length = 2 → w_place_led (edP R) (ev0 4 ds) := by
  intro ds R h _
  obtain ⟨f, a, b, c, d, p, s, r, rfl, hf, S, ⟨hp, hs, hr⟩, q⟩ := h
  refine ⟨rfl, p, s, r, rfl, ?_⟩
  refine ⟨rfl, ?_⟩
  show r_place_led_2 (edP R) [some (.val (mp f a b c d)), some (.val (pl p s r)), some (.val (cp p s)), some (.val (.int r)), none, none]
  have T : c_led_parts [q4 a b c d, cd (cj f (p, s)), .int r] (fun v => gT 2 (gsC (gN 4) (gsC (gN 5) gsN)) v [some (.val (mp f a b c d)), some (.val (pl p s r)), some (.val (cp p s)), some (.val (.int r)), none, none] (fun e => r_place_led_3 (edP R) e)) := by
    obtain ⟨k1, k2⟩ := cj_sz (f := f) (p := (p, s)) hp hs
    refine ⟨a, b, c, d, cj f (p, s), r, rfl, S.up (by decide), ⟨szUp k1 (by decide), szUp k2 (by decide), szUp hr (by decide)⟩, ?_⟩
    refine ⟨rfl, ?_⟩
    obtain ⟨_, _, _, _, _, _, _, _⟩ := S
    have e1 : ∀ (u v : G), Sz 900 u.1 → Sz 900 u.2 → Sz 900 v.1 → Sz 900 v.2 → Sz 4000 (ga (gm u (cj f (p, s))) (v.1 * r, v.2 * r)).1 ∧ Sz 4000 (ga (gm u (cj f (p, s))) (v.1 * r, v.2 * r)).2 := fun u v h1 h2 h3 h4 =>
      ⟨szUp (inferInstance : Sz _ ((u.1 * (cj f (p, s)).1 - u.2 * (cj f (p, s)).2) + v.1 * r)) (by decide), szUp (inferInstance : Sz _ ((u.1 * (cj f (p, s)).2 + u.2 * (cj f (p, s)).1) + v.2 * r)) (by decide)⟩
    obtain ⟨x1, x2⟩ := e1 a b inferInstance inferInstance inferInstance inferInstance
    obtain ⟨y1, y2⟩ := e1 c d inferInstance inferInstance inferInstance inferInstance
    exact ⟨rfl, _, _, rfl, ⟨x1, x2, y1, y2⟩, q⟩
  rcases hf with rfl | rfl
  · exact ⟨trivial, ite_f rfl ⟨rfl, T⟩⟩
  · exact ⟨trivial, ite_t rfl ⟨rfl, p, s, rfl, ⟨szUp hp (by decide), szUp hs (by decide)⟩, rfl, T⟩⟩
def w_is_flag : Ws := (wRet (dAnd (dFn 1 c_is_whole (daC (dVar 0) daN)) (dChain fLe fLe (dLit (.int 0)) (dVar 0) (dLit (.int 1)))))
theorem sem_is_flag : ∀ ds R, c_is_flag ds R → ds.length = 1 → w_is_flag (edP R) (ev0 0 ds) := by
  intro ds R h _
  obtain ⟨f, rfl, hf, q⟩ := h
  have h0 : (0 : Int) ≤ f := by omega
  have h1 : f ≤ 1 := by omega
  refine ⟨rfl, .int f, rfl, rfl, ?_⟩
  refine (show dChain fLe fLe (dLit (.int 0)) (dVar 0) (dLit (.int 1)) [some (.val (.int f))] (fun d _ => R d) from ?_)
  refine ⟨trivial, ?_⟩
  refine ite_t (decide_eq_true h0) ⟨trivial, ?_⟩
  exact rB (R := R) q (decide_eq_true h1).symm
abbrev r_is_map_5 : Ws := (wRet (dLit (.bool false)))
abbrev r_is_map_6 : Ws := (wRet (dOp fEq (dVar 0) (dFnD 3 [(.tuple [(.int 0), (.int 0)])] c_map_from (daC (dOp fIx (dVar 0) (dLit (.int 0))) (daC (dVar 1) daN)))))
abbrev r_is_map_4 : Ws := (wSeq (wIf (dOrT (dNotT (dTru (dCal fAll (daC (dLc [2] (diT (dVar 1)) (gN 2) dYes (dFn 1 c_is_complex (daC (dVar 2) daN))) daN)))) (dTru (dOp fEq (dFn 1 c_determinant (daC (dVar 1) daN)) (dLit (.tuple [(.int 0), (.int 0)]))))) r_is_map_5 wNx) r_is_map_6)
abbrev r_is_map_3 : Ws := (wSeq (wAsg (dSl (dVar 0) (doS (dLit (.int 1))) doN) (gN 1)) r_is_map_4)
def w_is_map : Ws := (wSeq (wIf (dOrT (dNotT (dTru (dIsa isTuple (dVar 0)))) (dOrT (dTru (dOp fNe (dCal fLen (daC (dVar 0) daN)) (dLit (.int 5)))) (dNotT (dTru (dFn 1 c_is_flag (daC (dOp fIx (dVar 0) (dLit (.int 0))) daN)))))) (wRet (dLit (.bool false))) wNx) (wSeq (wAsg (dSl (dVar 0) (doS (dLit (.int 1))) doN) (gN 1)) (wSeq (wIf (dOrT (dNotT (dTru (dCal fAll (daC (dLc [2] (diT (dVar 1)) (gN 2) dYes (dFn 1 c_is_complex (daC (dVar 2) daN))) daN)))) (dTru (dOp fEq (dFn 1 c_determinant (daC (dVar 1) daN)) (dLit (.tuple [(.int 0), (.int 0)]))))) (wRet (dLit (.bool false))) wNx) (wRet (dOp fEq (dVar 0) (dFnD 3 [(.tuple [(.int 0), (.int 0)])] c_map_from (daC (dOp fIx (dVar 0) (dLit (.int 0))) (daC (dVar 1) daN))))))))
theorem sem_is_map : ∀ ds R, c_is_map ds R → ds.length = 1 → w_is_map (edP R) (ev0 2 ds) := by
  intro ds R h _
  obtain ⟨f, a, b, c, d, n, rfl, hf, F, hn, q⟩ := h
  refine ⟨trivial, ?_⟩
  refine ite_f rfl ?_
  refine ⟨Or.inr ⟨rfl, rfl⟩, trivial, ?_⟩
  refine ite_f rfl ?_
  refine ⟨rfl, f, rfl, hf, trivial, ?_⟩
  refine ite_f rfl ?_
  show r_is_map_3 (edP R) [some (.val (mp f a b c d)), none, none]
  show r_is_map_4 (edP R) [some (.val (mp f a b c d)), some (.val (q4 a b c d)), none]
  refine (show dCal fAll (daC (dLc [2] (diT (dVar 1)) (gN 2) dYes (dFn 1 c_is_complex (daC (dVar 2) daN))) daN) [some (.val (mp f a b c d)), some (.val (q4 a b c d)), none] _ from ?_)
  refine all_lc (f := fun d => areW d 2) (ds := [cd a, cd b, cd c, cd d]) (by decide) (fun R r => r) rfl (Nat.le_of_ble_eq_true rfl) (fun x hx R r => ⟨rfl, x, rfl, ?_, r⟩) ?_
  · have hx' : ∃ p : G, x = cd p := by
      simp only [List.mem_cons, List.not_mem_nil, or_false] at hx
      rcases hx with rfl | rfl | rfl | rfl <;> exact ⟨_, rfl⟩
    obtain ⟨p, rfl⟩ := hx'
    exact rfl
  refine ⟨trivial, ?_⟩
  refine ite_f rfl ?_
  refine ⟨rfl, a, b, c, d, rfl, F.sz.up (by omega), Or.inr ⟨rfl, rfl⟩, trivial, ?_⟩
  rw [show PyData.eqv (cd (dtm a b c d)) (.tuple [.int 0, .int 0]) = decide (dtm a b c d = (0, 0)) from eqv_cd _ (0, 0), decide_eq_false F.dt]
  refine ite_f rfl ?_
  refine ⟨rfl, f, a, b, c, d, (0, 0), n, rfl, F.sz, ⟨szUp (n := 0) ⟨by decide⟩ (Nat.zero_le _), szUp (n := 0) ⟨by decide⟩ (Nat.zero_le _)⟩, by omega, F.dt, fun k _ _ _ _ => gdv_zero k, fun g x y z w hg e1 e2 e3 e4 F' => ?_⟩
  obtain ⟨r1, r2, r3, r4⟩ := F.uniq (g := (1, 0)) (h := g) F' (by decide) hg (by rw [gm_comm, gm_one]; exact e1) (by rw [gm_comm, gm_one]; exact e2) (by rw [gm_comm, gm_one]; exact e3) (by rw [gm_comm, gm_one]; exact e4)
  rw [← r1, ← r2, ← r3, ← r4]
  refine ⟨Or.inr ⟨rfl, rfl⟩, ?_⟩
  rw [show PyData.eqv (mp f a b c d) (mp f a b c d) = true from by
    show (decide (f = f) && (PyData.eqv (cd a) (cd a) && (PyData.eqv (cd b) (cd b) && (PyData.eqv (cd c) (cd c) && (PyData.eqv (cd d) (cd d) && true))))) = true
    rw [eqv_cd, eqv_cd, eqv_cd, eqv_cd, decide_eq_true rfl, decide_eq_true rfl, decide_eq_true rfl, decide_eq_true rfl, decide_eq_true rfl]
    rfl]
  exact q
def w_require_map : Ws := (wIf (dNotT (dTru (dFn 1 c_is_map (daC (dVar 0) daN)))) wNever wNx)
theorem sem_require_map : ∀ ds R, c_require_map ds R → ds.length = 1 → w_require_map (edP R) (ev0 0 ds) := by
  intro ds R h _
  obtain ⟨f, a, b, c, d, n, rfl, hf, F, hn, q⟩ := h
  exact ⟨rfl, f, a, b, c, d, n, rfl, hf, F, hn, trivial, q⟩
def w_after : Ws := (wSeq (wDrop (dFn 1 c_require_map (daC (dVar 0) daN))) (wSeq (wDrop (dFn 1 c_require_map (daC (dVar 1) daN))) (wRet (dFn 2 c_joined (daC (dVar 0) (daC (dVar 1) daN))))))
theorem sem_after : ∀ ds R, c_after ds R → ds.length = 2 → w_after (edP R) (ev0 0 ds) := by
  intro ds R h _
  obtain ⟨f, i, a, b, c, d, e, g, h, k, n, rfl, hf, hi, F, F', hn, q⟩ := h
  exact ⟨rfl, f, a, b, c, d, n, rfl, hf, F, by omega, rfl, i, e, g, h, k, n, rfl, hi, F', by omega, rfl, f, i, a, b, c, d, e, g, h, k, n, rfl, hf, hi, F, F', hn, q⟩
def w_plain_trace_ratio : Ws := (wSeq (wAsg (dFn 2 c_plus (daC (dOp fIx (dVar 0) (dLit (.int 1))) (daC (dOp fIx (dVar 0) (dLit (.int 4))) daN))) (gN 1)) (wRet (dFn 2 c_quotient_place (daC (dFn 2 c_times (daC (dVar 1) (daC (dVar 1) daN))) (daC (dFn 1 c_determinant (daC (dSl (dVar 0) (doS (dLit (.int 1))) doN) daN)) daN)))))
@[irreducible] noncomputable def q_plain_trace_ratio_2 : Ws := hid (wRet (dFn 2 c_quotient_place (daC (dFn 2 c_times (daC (dVar 1) (daC (dVar 1) daN))) (daC (dFn 1 c_determinant (daC (dSl (dVar 0) (doS (dLit (.int 1))) doN) daN)) daN))))
@[irreducible] noncomputable def q_plain_trace_ratio_1 : Ws := hid (wSeq (wAsg (dFn 2 c_plus (daC (dOp fIx (dVar 0) (dLit (.int 1))) (daC (dOp fIx (dVar 0) (dLit (.int 4))) daN))) (gN 1)) q_plain_trace_ratio_2)
theorem e_plain_trace_ratio : w_plain_trace_ratio = q_plain_trace_ratio_1 := by delta q_plain_trace_ratio_1 q_plain_trace_ratio_2; simp only [hid_eq]; with_unfolding_all rfl
theorem sem_plain_trace_ratio : ∀ ds R, c_plain_trace_ratio ds R → ds.length = 1 → w_plain_trace_ratio (edP R) (ev0 1 ds) := by
  intro ds R h _
  obtain ⟨A, rfl, S, q⟩ := h
  obtain ⟨_, _, _, _, _, _, _, _⟩ := id S
  rw [e_plain_trace_ratio]; (show q_plain_trace_ratio_1 _ [_, _]; delta q_plain_trace_ratio_1; refine hid_of ?_)
  refine ⟨rfl, A.a.1, A.a.2, A.d.1, A.d.2, rfl, ⟨by walk_at "sz", by walk_at "sz", by walk_at "sz", by walk_at "sz"⟩, ?_⟩
  (show q_plain_trace_ratio_2 _ [_, _]; delta q_plain_trace_ratio_2; refine hid_of ?_)
  refine ⟨rfl, _, _, _, _, rfl, ⟨by walk_at "sz", by walk_at "sz", by walk_at "sz", by walk_at "sz"⟩, ?_⟩
  refine ⟨rfl, A.a, A.b, A.c, A.d, rfl, S.up (by decide), ?_⟩
  obtain ⟨z1, z2⟩ := dtm_sz S
  refine ⟨rfl, A.tr * A.tr, A.dt, rfl, ⟨szUp (n := 1803) (by rw [gmul]; simp only [M4.tr, gadd]; infer_instance) (by decide), szUp (n := 1803) (by rw [gmul]; simp only [M4.tr, gadd]; infer_instance) (by decide), szUp z1 (by decide), szUp z2 (by decide)⟩, ?_⟩
  rw [qp_qt]
  exact q
def w_plain_return : Ws := (wRet (dIf (dTru (dOp fEq (dVar 0) (dLit (.tuple [(.int 0), (.tuple [(.int 1), (.int 0)]), (.tuple [(.int 0), (.int 0)]), (.tuple [(.int 0), (.int 0)]), (.tuple [(.int 1), (.int 0)])])))) (dLit (.int 1)) (dGT kt_RETURNS (dFn 1 c_plain_trace_ratio (daC (dVar 0) daN)))))
@[irreducible] noncomputable def q_plain_return_1 : Ws := hid (wRet (dIf (dTru (dOp fEq (dVar 0) (dLit (.tuple [(.int 0), (.tuple [(.int 1), (.int 0)]), (.tuple [(.int 0), (.int 0)]), (.tuple [(.int 0), (.int 0)]), (.tuple [(.int 1), (.int 0)])])))) (dLit (.int 1)) (dGT kt_RETURNS (dFn 1 c_plain_trace_ratio (daC (dVar 0) daN)))))
theorem e_plain_return : w_plain_return = q_plain_return_1 := by delta q_plain_return_1; simp only [hid_eq]; with_unfolding_all rfl
theorem eqv_one (A : M4) : PyData.eqv (mp4 0 A) (.tuple [.int 0, .tuple [.int 1, .int 0], .tuple [.int 0, .int 0], .tuple [.int 0, .int 0], .tuple [.int 1, .int 0]]) = decide (A = M4.one) := by
  rw [show (PyData.tuple [.int 0, .tuple [.int 1, .int 0], .tuple [.int 0, .int 0], .tuple [.int 0, .int 0], .tuple [.int 1, .int 0]]) = mp4 0 M4.one from rfl, eqv_M, decide_eq_true rfl, Bool.true_and]
theorem lkD_oi (kvs : List (List Int × Int)) (k : List Int) : lkD kvs k = oi (kvs.lookup k) := by
  unfold lkD oi
  cases kvs.lookup k <;> rfl
theorem sem_plain_return : ∀ ds R, c_plain_return ds R → ds.length = 1 → w_plain_return (edP R) (ev0 0 ds) := by
  intro ds R h _
  obtain ⟨A, rfl, S, hA, q⟩ := h
  unfold rtP at q
  rw [e_plain_return]; (show q_plain_return_1 _ [_]; delta q_plain_return_1; refine hid_of ?_)
  refine ⟨Or.inr ⟨rfl, rfl⟩, trivial, ?_⟩
  rw [eqv_one]
  refine ite_b (fun z => ?_) (fun z => ?_)
  · rw [if_pos (of_decide_eq_true z)] at q
    exact q
  · rw [if_neg (of_decide_eq_false z)] at q
    refine ⟨rfl, A, rfl, S, [(rto A).1, (rto A).2.1, (rto A).2.2], rfl, ?_⟩
    rw [lkD_oi]
    exact q
def w_return_of : Ws := (wSeq (wDrop (dFn 1 c_require_map (daC (dVar 0) daN))) (wSeq (wIf (dTru (dOp fEq (dOp fIx (dVar 0) (dLit (.int 0))) (dLit (.int 0)))) (wRet (dFn 1 c_plain_return (daC (dVar 0) daN))) wNx) (wSeq (wAsg (dFn 1 c_plain_return (daC (dFn 2 c_joined (daC (dVar 0) (daC (dVar 0) daN))) daN)) (gN 1)) (wRet (dIf (dTru (dOp fIs (dVar 1) (dLit .none))) (dLit .none) (dOp fMul (dLit (.int 2)) (dVar 1)))))))
@[irreducible] noncomputable def q_return_of_3 : Ws := hid (wRet (dFn 1 c_plain_return (daC (dVar 0) daN)))
@[irreducible] noncomputable def q_return_of_5 : Ws := hid (wRet (dIf (dTru (dOp fIs (dVar 1) (dLit .none))) (dLit .none) (dOp fMul (dLit (.int 2)) (dVar 1))))
@[irreducible] noncomputable def q_return_of_4 : Ws := hid (wSeq (wAsg (dFn 1 c_plain_return (daC (dFn 2 c_joined (daC (dVar 0) (daC (dVar 0) daN))) daN)) (gN 1)) q_return_of_5)
@[irreducible] noncomputable def q_return_of_2 : Ws := hid (wSeq (wIf (dTru (dOp fEq (dOp fIx (dVar 0) (dLit (.int 0))) (dLit (.int 0)))) q_return_of_3 wNx) q_return_of_4)
@[irreducible] noncomputable def q_return_of_1 : Ws := hid (wSeq (wDrop (dFn 1 c_require_map (daC (dVar 0) daN))) q_return_of_2)
theorem e_return_of : w_return_of = q_return_of_1 := by delta q_return_of_1 q_return_of_2 q_return_of_4 q_return_of_5 q_return_of_3; simp only [hid_eq]; with_unfolding_all rfl
theorem lk_sz {k : List Int} {i : Int} (e : kt_RETURNS.lookup k = some i) : Sz 5 i := by
  simp only [kt_RETURNS, List.lookup_cons, List.lookup_nil] at e
  repeat' split at e
  all_goals first
    | (cases e; exact ⟨by decide⟩)
    | cases e
theorem sem_return_of : ∀ ds R, c_return_of ds R → ds.length = 1 → w_return_of (edP R) (ev0 1 ds) := by
  intro ds R h _
  obtain ⟨⟨f, A⟩, n, rfl, hf, F, hn, q⟩ := h
  have hf : f = 0 ∨ f = 1 := hf
  have F : Fm4 n A := F
  unfold rtn at q
  rw [e_return_of]; (show q_return_of_1 _ [_, _]; delta q_return_of_1; refine hid_of ?_)
  refine ⟨rfl, f, A.a, A.b, A.c, A.d, n, rfl, hf, F, by omega, ?_⟩
  (show q_return_of_2 _ [_, _]; delta q_return_of_2; refine hid_of ?_)
  refine ⟨Or.inr ⟨rfl, rfl⟩, trivial, ?_⟩
  rcases hf with rfl | rfl
  · refine ite_t rfl ?_
    (show q_return_of_3 _ [_, _]; delta q_return_of_3; refine hid_of ?_)
    exact ⟨rfl, A, rfl, F.sz.up (by omega), F.dt, q⟩
  · refine ite_f rfl ?_
    (show q_return_of_4 _ [_, _]; delta q_return_of_4; refine hid_of ?_)
    have F2 := aft_fm2 (f := 1) F F
    refine ⟨rfl, joined_ok (.inr rfl) (.inr rfl) F F (by omega) rfl rfl ⟨rfl, aft 1 A A, rfl, F2.sz.up (by omega), F2.dt, ?_⟩⟩
    (show q_return_of_5 _ [_, _]; delta q_return_of_5; refine hid_of ?_)
    have q : R (oi ((rtP (aft 1 A A)).map (2 * ·))) := q
    cases e : rtP (aft 1 A A) with
    | none =>
      rw [e] at q
      exact ⟨trivial, ite_t rfl q⟩
    | some i =>
      rw [e] at q
      have si : Sz 5 i := by
        unfold rtP at e
        by_cases z : aft 1 A A = M4.one
        · rw [if_pos z] at e
          cases e
          exact ⟨by decide⟩
        · rw [if_neg z] at e
          exact lk_sz e
      exact ⟨trivial, ite_f rfl ⟨by walk_at "sz", q⟩⟩
theorem ret_ok {P : MP} {n : Nat} {v : Option Int} {d : PyData} {R : PyData → Prop} (hf : P.1 = 0 ∨ P.1 = 1) (F : Fm4 n P.2) (hn : n ≤ 300) (e : rtn P = v) (ed : oi v = d) (q : R d) : c_return_of [mpP P] R := ⟨P, n, rfl, hf, F, hn, by rw [e, ed]; exact q⟩
def w_require_number : Ws := (wIf (dOrT (dNotT (dTru (dFn 1 c_is_whole (daC (dVar 0) daN)))) (dNotT (dTru (dChain fLe fLe (dU fNeg (dLit (.int 60))) (dVar 0) (dLit (.int 60)))))) wNever wNx)
theorem sem_require_number : ∀ ds R, c_require_number ds R → ds.length = 1 → w_require_number (edP R) (ev0 0 ds) := by
  intro ds R h _
  obtain ⟨m, rfl, h1, h2, q⟩ := h
  refine ⟨rfl, .int m, rfl, rfl, trivial, ?_⟩
  refine ite_f rfl ?_
  have e : decide (-60 ≤ m) = true := decide_eq_true (by omega)
  refine ⟨trivial, ?_⟩
  refine ite_t e ⟨trivial, trivial, ?_⟩
  have e2 : (!decide (m ≤ 60)) = false := by rw [decide_eq_true h2]; rfl
  exact ite_f e2 q
def w_power : Ws := (wSeq (wAsg (dIf (dTru (dOp fGt (dVar 1) (dLit (.int 0)))) (dVar 0) (dFn 1 c_back_of (daC (dVar 0) daN))) (gN 2)) (wSeq (wAsg (dLit (.tuple [(.int 0), (.tuple [(.int 1), (.int 0)]), (.tuple [(.int 0), (.int 0)]), (.tuple [(.int 0), (.int 0)]), (.tuple [(.int 1), (.int 0)])])) (gN 3)) (wSeq (wFor (diR1 (daC (dCal fAbs (daC (dVar 1) daN)) daN)) (gN 4) (wAsg (dFn 2 c_joined (daC (dVar 3) (daC (dVar 2) daN))) (gN 3))) (wRet (dVar 3)))))
@[irreducible] noncomputable def q_power_4 : Ws := hid (wAsg (dFn 2 c_joined (daC (dVar 3) (daC (dVar 2) daN))) (gN 3))
@[irreducible] noncomputable def q_power_5 : Ws := hid (wRet (dVar 3))
@[irreducible] noncomputable def q_power_3 : Ws := hid (wSeq (wFor (diR1 (daC (dCal fAbs (daC (dVar 1) daN)) daN)) (gN 4) q_power_4) q_power_5)
@[irreducible] noncomputable def q_power_2 : Ws := hid (wSeq (wAsg (dLit (.tuple [(.int 0), (.tuple [(.int 1), (.int 0)]), (.tuple [(.int 0), (.int 0)]), (.tuple [(.int 0), (.int 0)]), (.tuple [(.int 1), (.int 0)])])) (gN 3)) q_power_3)
@[irreducible] noncomputable def q_power_1 : Ws := hid (wSeq (wAsg (dIf (dTru (dOp fGt (dVar 1) (dLit (.int 0)))) (dVar 0) (dFn 1 c_back_of (daC (dVar 0) daN))) (gN 2)) q_power_2)
theorem e_power : w_power = q_power_1 := by delta q_power_1 q_power_2 q_power_3 q_power_5 q_power_4; simp only [hid_eq]; with_unfolding_all rfl
theorem pz_fm {P : MP} {m : Int} {n : Nat} (hk : ∀ k : Nat, k ≤ m.natAbs → Fm4 n (pw (if 0 < m then P else pb P) k).2) : Fm4 n (pz P m).2 := by
  unfold pz
  have := hk m.natAbs (Nat.le_refl _)
  by_cases z : 0 < m
  · rw [if_pos z] at this ⊢
    rw [show m.toNat = m.natAbs by omega]
    exact this
  · rw [if_neg z] at this ⊢
    rw [show (-m).toNat = m.natAbs by omega]
    exact this
theorem sem_power : ∀ ds R, c_power ds R → ds.length = 2 → w_power (edP R) (ev0 3 ds) := by
  intro ds R h _
  obtain ⟨P, m, rfl, ok, F, hm, hk, q⟩ := h
  have key : ∀ S : MP, MOk S → (∀ k : Nat, k ≤ m.natAbs → Fm4 400 (pw S k).2) → Fm4 400 S.2 → R (mpP (pw S m.natAbs)) → q_power_2 (edP R) [some (.val (mpP P)), some (.val (.int m)), some (.val (mpP S)), none, none] := by
    intro S okS hS FS q
    (show q_power_2 _ [_, _, _, _, _]; delta q_power_2; refine hid_of ?_)
    (show q_power_3 _ [_, _, _, _, _]; delta q_power_3; refine hid_of ?_)
    have em : (if m < 0 then -m else m).toNat = m.natAbs := by
      by_cases z : m < 0
      · rw [if_pos z]; omega
      · rw [if_neg z]; omega
    refine ⟨⟨by split <;> omega, by split <;> omega⟩, ?_⟩
    refine foD_at (rngD 0 (if m < 0 then -m else m).toNat) (fun pre ev => ∃ o, fr o ∧ ev = [some (.val (mpP P)), some (.val (.int m)), some (.val (mpP S)), some (.val (mpP (pw S pre.length))), o]) (fun pre d post ev E' e i nx _ _ _ => ?_) (pre := []) rfl ⟨none, fr_none, rfl⟩ (fun ev i => ?_)
    · obtain ⟨o, fo, rfl⟩ := i
      have hl : pre.length < m.natAbs := by
        have l := congrArg List.length e
        unfold rngD at l
        rw [List.length_map, List.length_range, em, List.length_append, List.length_cons] at l
        omega
      have okk := okS.pw pre.length
      refine gN_fr (s := o) rfl fo ?_
      (show q_power_4 _ [_, _, _, _, _]; delta q_power_4; refine hid_of ?_)
      refine ⟨rfl, joined_ok (f := (pw S pre.length).1) (i := S.1) okk.1 okS.1 (hS _ (by omega)) FS (by decide) rfl rfl ?_⟩
      refine nx _ ⟨some (.val d), fr_val, ?_⟩
      rw [List.length_append, List.length_singleton]
      rfl
    · obtain ⟨o, fo, rfl⟩ := i
      (show q_power_5 _ [_, _, _, _, _]; delta q_power_5; refine hid_of ?_)
      have l : (rngD 0 (if m < 0 then -m else m).toNat).length = m.natAbs := by
        unfold rngD
        rw [List.length_map, List.length_range, em]
      rw [l]
      exact q
  rw [e_power]; (show q_power_1 _ [_, _, _, _, _]; delta q_power_1; refine hid_of ?_)
  refine ⟨trivial, trivial, ?_⟩
  refine ite_b (fun z => ?_) (fun z => ?_)
  · have z : 0 < m := of_decide_eq_true z
    rw [if_pos z] at hk
    exact key P ok hk (F.up (by decide)) (by unfold pz at q; rw [if_pos z, show m.toNat = m.natAbs by omega] at q; exact q)
  · have z : ¬(0 < m) := of_decide_eq_false z
    rw [if_neg z] at hk
    refine ⟨rfl, back_ok ok.1 F (by decide) rfl ?_⟩
    exact key (pb P) ok.back hk ((bck_fm F).up (by decide)) (by unfold pz at q; rw [if_neg z, show (-m).toNat = m.natAbs by omega] at q; exact q)
def w_power_of : Ws := (wSeq (wDrop (dFn 1 c_require_map (daC (dVar 0) daN))) (wSeq (wDrop (dFn 1 c_require_number (daC (dVar 1) daN))) (wRet (dFn 2 c_power (daC (dVar 0) (daC (dVar 1) daN))))))
@[irreducible] noncomputable def q_power_of_3 : Ws := hid (wRet (dFn 2 c_power (daC (dVar 0) (daC (dVar 1) daN))))
@[irreducible] noncomputable def q_power_of_2 : Ws := hid (wSeq (wDrop (dFn 1 c_require_number (daC (dVar 1) daN))) q_power_of_3)
@[irreducible] noncomputable def q_power_of_1 : Ws := hid (wSeq (wDrop (dFn 1 c_require_map (daC (dVar 0) daN))) q_power_of_2)
theorem e_power_of : w_power_of = q_power_of_1 := by delta q_power_of_1 q_power_of_2 q_power_of_3; simp only [hid_eq]; with_unfolding_all rfl
theorem sem_power_of : ∀ ds R, c_power_of ds R → ds.length = 2 → w_power_of (edP R) (ev0 0 ds) := by
  intro ds R h _
  obtain ⟨P, m, rfl, ok, F, hm, hk, q⟩ := h
  rw [e_power_of]; (show q_power_of_1 _ [_, _]; delta q_power_of_1; refine hid_of ?_)
  refine ⟨rfl, P.1, P.2.a, P.2.b, P.2.c, P.2.d, 300, rfl, ok.1, F, by decide, ?_⟩
  (show q_power_of_2 _ [_, _]; delta q_power_of_2; refine hid_of ?_)
  refine ⟨rfl, m, rfl, by omega, by omega, ?_⟩
  (show q_power_of_3 _ [_, _]; delta q_power_of_3; refine hid_of ?_)
  exact ⟨rfl, P, m, rfl, ok, F, hm, hk, q⟩
theorem power_ok {P Q : MP} {m : Int} {R : PyData → Prop} (ok : MOk P) (F : Fm4 300 P.2) (hm : m.natAbs ≤ 60) (hk : ∀ k : Nat, k ≤ m.natAbs → Fm4 400 (pw (if 0 < m then P else pb P) k).2) (e : pz P m = Q) (q : R (mpP Q)) : c_power_of [mpP P, .int m] R := ⟨P, m, rfl, ok, F, hm, hk, by rw [e]; exact q⟩
theorem pone_ok {P : MP} {m : Int} {R : PyData → Prop} (ok : MOk P) (F : Fm4 300 P.2) (hm : m.natAbs ≤ 60) (hk : ∀ k : Nat, k ≤ m.natAbs → Fm4 400 (pw (if 0 < m then P else pb P) k).2) (e : pz P m = p1) (q : R (mp 0 (1, 0) (0, 0) (0, 0) (1, 0))) : c_power_of [mpP P, .int m] R := power_ok ok F hm hk e q
def w_place_after : Ws := (wSeq (wDrop (dFn 1 c_require_map (daC (dVar 0) daN))) (wSeq (wDrop (dFn 1 c_require_place (daC (dVar 1) daN))) (wSeq (wDrop (dFn 1 c_require_number (daC (dVar 2) daN))) (wRet (dFn 2 c_place_led (daC (dFn 2 c_power (daC (dVar 0) (daC (dVar 2) daN))) (daC (dVar 1) daN)))))))
@[irreducible] noncomputable def q_place_after_4 : Ws := hid (wRet (dFn 2 c_place_led (daC (dFn 2 c_power (daC (dVar 0) (daC (dVar 2) daN))) (daC (dVar 1) daN))))
@[irreducible] noncomputable def q_place_after_3 : Ws := hid (wSeq (wDrop (dFn 1 c_require_number (daC (dVar 2) daN))) q_place_after_4)
@[irreducible] noncomputable def q_place_after_2 : Ws := hid (wSeq (wDrop (dFn 1 c_require_place (daC (dVar 1) daN))) q_place_after_3)
@[irreducible] noncomputable def q_place_after_1 : Ws := hid (wSeq (wDrop (dFn 1 c_require_map (daC (dVar 0) daN))) q_place_after_2)
theorem e_place_after : w_place_after = q_place_after_1 := by delta q_place_after_1 q_place_after_2 q_place_after_3 q_place_after_4; simp only [hid_eq]; with_unfolding_all rfl
theorem sem_place_after : ∀ ds R, c_place_after ds R → ds.length = 3 → w_place_after (edP R) (ev0 0 ds) := by
  intro ds R h _
  obtain ⟨P, m, t, rfl, ok, F, hm, hk, T, S, q⟩ := h
  rw [e_place_after]; (show q_place_after_1 _ [_, _, _]; delta q_place_after_1; refine hid_of ?_)
  refine ⟨rfl, P.1, P.2.a, P.2.b, P.2.c, P.2.d, 300, rfl, ok.1, F, by decide, ?_⟩
  (show q_place_after_2 _ [_, _, _]; delta q_place_after_2; refine hid_of ?_)
  refine ⟨rfl, t.1, t.2.1, t.2.2, rfl, ?_⟩
  refine ⟨T.isPl, ?_⟩
  (show q_place_after_3 _ [_, _, _]; delta q_place_after_3; refine hid_of ?_)
  refine ⟨rfl, m, rfl, by omega, by omega, ?_⟩
  (show q_place_after_4 _ [_, _, _]; delta q_place_after_4; refine hid_of ?_)
  refine ⟨rfl, P, m, rfl, ok, F, hm, hk, ?_⟩
  have Fz := pz_fm hk
  exact ⟨rfl, (pz P m).1, (pz P m).2.a, (pz P m).2.b, (pz P m).2.c, (pz P m).2.d, t.1, t.2.1, t.2.2, rfl, (ok.pz m).1, Fz.sz.up (by decide), ⟨szUp S.p (by decide), szUp S.s (by decide), szUp S.r (by decide)⟩, by rw [ldp_lt]; exact q⟩
theorem after_ok {P : MP} {m : Int} {t u : T3} {R : PyData → Prop} (ok : MOk P) (F : Fm4 300 P.2) (hm : m.natAbs ≤ 60) (hk : ∀ k : Nat, k ≤ m.natAbs → Fm4 400 (pw (if 0 < m then P else pb P) k).2) (T : Pt t) (S : S3 800 t) (e : lt (pz P m).1 (pz P m).2 t = u) (q : R (pd u)) : c_place_after [mpP P, pd t, .int m] R := ⟨P, m, t, rfl, ok, F, hm, hk, T, S, by rw [e]; exact q⟩
def w_law_tank : Ws := (wSeq (wAsg (dOp fCat (dLit (.int 90011)) (dOp fMul (dLit (.int 2003)) (dVar 1))) (gN 2)) (wSeq (wFor (diL (dSl (dVar 0) doN (doS (dLit (.int 9))))) (gN 3) (wAsg (dOp fMod (dCal fInt (daC (dOp fCat (dOp fCat (dOp fMul (dVar 2) (dLit (.int 51977))) (dOp fMod (dCal fInt (daC (dVar 3) daN)) (dLit (.int 2147483629)))) (dLit (.int 37))) daN)) (dLit (.int 2147483629))) (gN 2))) (wSeq (wAsg (dIf (dTru (dOp fLt (dVar 1) (dCal fLen (daC (dVar 0) daN)))) (dCal fInt (daC (dOp fIx (dVar 0) (dVar 1)) daN)) (dVar 2)) (gN 4)) (wSeq (wAsg (dIf (dOrT (dTru (dOp fLt (dVar 4) (dLit (.int 0)))) (dTru (dOp fGe (dVar 4) (dOp fPow (dLit (.int 10)) (dLit (.int 18)))))) (dCal fAbs (daC (dVar 4) daN)) (dLit (.int 0))) (gN 5)) (wRetL (daC (dVar 5) (daC (dOp fMod (dCal fInt (daC (dOp fCat (dOp fCat (dOp fMul (dVar 2) (dLit (.int 33013))) (dOp fMul (dOp fMod (dCal fInt (daC (dVar 4) daN)) (dLit (.int 2147483629))) (dLit (.int 7001)))) (dLit (.int 3))) daN)) (dLit (.int 2147483629))) (daC (dLit (.int 0)) daN))))))))
theorem mod_lt (x : Int) : 0 ≤ x % 2147483629 ∧ x % 2147483629 < 2147483629 := ⟨Int.emod_nonneg _ (by decide), Int.emod_lt_of_pos _ (by decide)⟩
theorem cut_ints {ns : List Int} {lo hi : Option Int} {d : PyData} (h : d ∈ cutD (ns.map PyData.int) lo hi) : ∃ i, d = .int i := by
  have h2 := List.mem_of_mem_take h
  have h3 := List.mem_of_mem_drop h2
  obtain ⟨i, _, e⟩ := List.mem_map.mp h3
  exact ⟨i, e.symm⟩
theorem sem_law_tank : ∀ ds R, c_law_tank ds R → ds.length = 2 → w_law_tank (edF R) (ev0 4 ds) := by
  intro ds R h _
  obtain ⟨ns, k, rfl, hl, h0, h2, q⟩ := h
  have sk : Sz 2 k := sz_lt h0 (by omega)
  refine ⟨by walk_at "sz", ?_⟩
  refine foD_inv (fun ev => ∃ (st : Int) (s : Option Sl), ev = [some (.val (.list (ns.map .int))), some (.val (.int k)), some (.val (.int st)), s, none, none] ∧ (0 ≤ st ∧ st < 2147483629) ∧ ∀ t, s ≠ some (.own t)) (fun d hd ev E' i nx ct rt rl bk => ?_) ⟨90011 + 2003 * k, none, rfl, by omega, fun _ => by simp⟩ (fun ev i => ?_)
  · obtain ⟨st, s, rfl, hst, hs⟩ := i
    obtain ⟨j, rfl⟩ := cut_ints hd
    have e : gN 3 (.int j) [some (.val (.list (ns.map .int))), some (.val (.int k)), some (.val (.int st)), s, none, none] = fun Q => Q [some (.val (.list (ns.map .int))), some (.val (.int k)), some (.val (.int st)), some (.val (.int j)), none, none] := by
      cases s with
      | none => rfl
      | some s => cases s with
        | val _ => rfl
        | own t => exact absurd rfl (hs t)
    rw [e]
    have ss : Sz 31 st := sz_lt hst.1 (by omega)
    refine ⟨by walk_at "sz", show (0 : Int) < 2147483629 by decide, show (0 : Int) < 2147483629 by decide, ?_⟩
    exact nx _ ⟨_, _, rfl, mod_lt _, fun _ => by simp⟩
  · obtain ⟨st, s, rfl, hst, hs⟩ := i
    have ss : Sz 31 st := sz_lt hst.1 (by omega)
    have tail : ∀ (o : Int) (s : Option Sl), wSeq (wAsg (dIf (dOrT (dTru (dOp fLt (dVar 4) (dLit (.int 0)))) (dTru (dOp fGe (dVar 4) (dOp fPow (dLit (.int 10)) (dLit (.int 18)))))) (dCal fAbs (daC (dVar 4) daN)) (dLit (.int 0))) (gN 5)) (wRetL (daC (dVar 5) (daC (dOp fMod (dCal fInt (daC (dOp fCat (dOp fCat (dOp fMul (dVar 2) (dLit (.int 33013))) (dOp fMul (dOp fMod (dCal fInt (daC (dVar 4) daN)) (dLit (.int 2147483629))) (dLit (.int 7001)))) (dLit (.int 3))) daN)) (dLit (.int 2147483629))) (daC (dLit (.int 0)) daN)))) (edF R)
        [some (.val (.list (ns.map .int))), some (.val (.int k)), some (.val (.int st)), s, some (.val (.int o)), none] := by
      intro o s
      have so : Sz 31 (o % 2147483629) := sz_lt (mod_lt o).1 (by have := (mod_lt o).2; omega)
      have fin : ∀ r : Int, 0 ≤ r → wRetL (daC (dVar 5) (daC (dOp fMod (dCal fInt (daC (dOp fCat (dOp fCat (dOp fMul (dVar 2) (dLit (.int 33013))) (dOp fMul (dOp fMod (dCal fInt (daC (dVar 4) daN)) (dLit (.int 2147483629))) (dLit (.int 7001)))) (dLit (.int 3))) daN)) (dLit (.int 2147483629))) (daC (dLit (.int 0)) daN))) (edF R)
          [some (.val (.list (ns.map .int))), some (.val (.int k)), some (.val (.int st)), s, some (.val (.int o)), some (.val (.int r))] := fun r hr =>
        ⟨by walk_at "sz", show (0 : Int) < 2147483629 by decide, by walk_at "sz", show (0 : Int) < 2147483629 by decide, Nat.le_of_ble_eq_true rfl, q r _ hr (mod_lt _).1 (mod_lt _).2⟩
      have ab : 0 ≤ (if o < 0 then -o else o) := by split <;> omega
      refine ⟨trivial, trivial, ?_⟩
      refine ite_b (fun z => ?_) (fun z => ?_)
      · exact fin _ ab
      · refine ⟨⟨by decide, by decide, by decide⟩, trivial, trivial, ?_⟩
        refine ite_b (fun z => ?_) (fun z => ?_)
        · exact fin _ ab
        · exact fin 0 (Int.le_refl 0)
    refine ⟨trivial, trivial, ?_⟩
    refine ite_b (fun z => ?_) (fun z => ?_)
    · have z0 : k < ((ns.map PyData.int).length : Int) := of_decide_eq_true z
      obtain ⟨x, hx, ha⟩ := atI_lt (xs := ns.map PyData.int) h0 z0
      obtain ⟨i, _, rfl⟩ := List.mem_map.mp hx
      refine fIx_lst ha ?_
      exact tail i s
    · exact tail st s
def w_law_draw : Ws := (wSeq (wIf (dTru (dOp fGt (dOwnIx 0 (dLit (.int 0))) (dLit (.int 0)))) (wSeq (wAsg (dCal fDivmod (daC (dOwnIx 0 (dLit (.int 0))) (daC (dVar 1) daN))) (gT 2 (gsC (gSb 0 (dLit (.int 0))) (gsC (gN 2) gsN)))) (wRet (dVar 2))) wNx) (wSeq (wAsg (dOp fCat (dOwnIx 0 (dLit (.int 2))) (dLit (.int 1))) (gSb 0 (dLit (.int 2)))) (wSeq (wAsg (dOp fCat (dOp fMod (dCal fInt (daC (dOwnIx 0 (dLit (.int 1))) daN)) (dLit (.int 9001))) (dLit (.int 30011))) (gN 3)) (wSeq (wAsg (dOp fMod (dCal fInt (daC (dOp fCat (dOp fCat (dOp fMul (dOwnIx 0 (dLit (.int 1))) (dVar 3)) (dOp fMul (dLit (.int 70001)) (dOwnIx 0 (dLit (.int 2))))) (dLit (.int 19))) daN)) (dLit (.int 2147483629))) (gSb 0 (dLit (.int 1)))) (wRet (dOp fMod (dCal fInt (daC (dOp fDiv (dOwnIx 0 (dLit (.int 1))) (dLit (.int 53))) daN)) (dVar 1)))))))
theorem sem_law_draw : ∀ ts ds R, c_law_draw ts ds R → ds.length = 1 → w_law_draw (edT R) (some (.own ts) :: ev0 2 ds) := by
  intro ts ds R h _
  obtain ⟨b, m, ⟨r, s, n, rfl, hr, ⟨hs, hs'⟩, hn, hb⟩, hb', rfl, hm, hm', q⟩ := h
  refine ⟨trivial, trivial, ?_⟩
  refine ite_b (fun z => ?_) (fun z => ?_)
  · have z0 : 0 < r := of_decide_eq_true z
    have sm : Sz 30 m := sz_lt (by omega) (by omega)
    refine ⟨⟨hm, by omega⟩, rfl, ?_⟩
    exact q (r % m) _ (Int.emod_nonneg _ (Int.ne_of_gt hm)) (Int.emod_lt_of_pos _ hm) ⟨r / m, s, n, rfl, Int.ediv_nonneg hr (Int.le_of_lt hm), ⟨hs, hs'⟩, hn, by omega⟩
  · have ss : Sz 31 s := sz_lt hs (by omega)
    have sn : Sz 50 (n + 1) := sz_lt (by omega) (by omega)
    have p0 := Int.emod_nonneg s (show (9001 : Int) ≠ 0 by decide)
    have p1 := Int.emod_lt_of_pos s (show (0 : Int) < 9001 by decide)
    have sp : Sz 20 (s % 9001 + 30011) := sz_lt (by omega) (by omega)
    refine ⟨show (0 : Int) < 9001 by decide, ?_⟩
    refine ⟨by walk_at "sz", by walk_at "sz", show (0 : Int) < 2147483629 by decide, ?_⟩
    refine ⟨divC_of (m := 6) ⟨by decide⟩ (by decide) (by decide), hm, ?_⟩
    refine q _ _ (Int.emod_nonneg _ (Int.ne_of_gt hm)) (Int.emod_lt_of_pos _ hm) ⟨r, _, n + 1, rfl, hr, ⟨Int.emod_nonneg _ (by decide), Int.emod_lt_of_pos _ (by decide)⟩, by omega, by omega⟩
def w_law_pick : Ws := (wRet (dOp fIx (dVar 1) (dFnT 0 2 c_law_draw (daC (dCal fLen (daC (dVar 1) daN)) daN))))
theorem sem_law_pick : ∀ ts ds R, c_law_pick ts ds R → ds.length = 1 → w_law_pick (edT R) (some (.own ts) :: ev0 0 ds) := by
  intro ts ds R h _
  obtain ⟨b, xs, tk, hb, e, h0, h1, q⟩ := h
  rcases e with rfl | rfl
  · refine ⟨rfl, b, xs.length, tk, hb, rfl, by omega, by omega, fun k ts' k0 k1 tk' => ?_⟩
    obtain ⟨x, hx, ha⟩ := atI_lt (xs := xs) k0 k1
    exact fIx_tup ha (q x ts' hx tk')
  · refine ⟨rfl, b, xs.length, tk, hb, rfl, by omega, by omega, fun k ts' k0 k1 tk' => ?_⟩
    obtain ⟨x, hx, ha⟩ := atI_lt (xs := xs) k0 k1
    exact fIx_lst ha (q x ts' hx tk')
def w_law_rounds : Ws := (wRet (dCal fMax2 (daC (dLit (.int 2)) (daC (dCal fMin2 (daC (dCal fLen (daC (dVar 0) daN)) (daC (dLit (.int 3)) daN))) daN))))
theorem sem_law_rounds : ∀ ds R, c_law_rounds ds R → ds.length = 1 → w_law_rounds (edP R) (ev0 0 ds) := by
  intro ds R h _
  obtain ⟨ns, rfl, hl, q⟩ := h
  have goal : R (.int (if (if (3 : Int) < ((ns.map PyData.int).length : Int) then 3 else ((ns.map PyData.int).length : Int)) > 2 then (if (3 : Int) < ((ns.map PyData.int).length : Int) then 3 else ((ns.map PyData.int).length : Int)) else 2)) := q _ (by split <;> omega) (by split <;> split <;> omega)
  exact goal
def w_law_small : Ws := (wSeq (wAsg (dFnT 0 2 c_law_pick (daC (dTup (daC (dLit (.int 1)) (daC (dLit (.int 2)) (daC (dLit (.int 3)) (daC (dLit (.int 5)) (daC (dLit (.int 9)) daN)))))) daN)) (gN 1)) (wRet (dOp fSub (dFnT 0 2 c_law_draw (daC (dOp fCat (dOp fMul (dLit (.int 2)) (dVar 1)) (dLit (.int 1))) daN)) (dVar 1))))
theorem sem_law_small : ∀ ts ds R, c_law_small ts ds R → ds.length = 0 → w_law_small (edT R) (some (.own ts) :: ev0 1 ds) := by
  intro ts ds R h _
  obtain ⟨b, tk, hb, rfl, q⟩ := h
  refine ⟨Nat.le_of_ble_eq_true rfl, rfl, b, _, tk, by omega, Or.inl rfl, by decide, by decide, fun x ts' hx tk' => ?_⟩
  have hi : ∃ i : Int, x = .int i ∧ 1 ≤ i ∧ i ≤ 9 := by
    simp only [List.mem_cons, List.not_mem_nil, or_false] at hx
    rcases hx with rfl | rfl | rfl | rfl | rfl <;> exact ⟨_, rfl, by decide, by decide⟩
  obtain ⟨i, rfl, i0, i1⟩ := hi
  have si : Sz 4 i := sz_lt (by omega) (by omega)
  refine ⟨by walk_at "sz", rfl, b + 1, _, tk', by omega, rfl, by omega, by omega, fun k ts2 k0 k1 tk2 => ⟨trivial, ?_⟩⟩
  exact q _ _ (by omega) (by omega) ⟨by omega⟩ (tk2.up (by omega))
def w_law_least : Ws := (wSeq (wAsg (dLit (.int 0)) (gN 1)) (wSeq (wFor (diT (dVar 0)) (gN 2) (wSeq (wPar 3 4 (daC (dVar 1) (daC (dCal fAbs (daC (dVar 2) daN)) daN))) (wSeq (wWhile (dTru (dOp fGt (dVar 4) (dLit (.int 0)))) (wPar 3 4 (daC (dVar 4) (daC (dOp fMod (dCal fInt (daC (dVar 3) daN)) (dVar 4)) daN)))) (wAsg (dVar 3) (gN 1))))) (wRet (dCal fTuple (daC (dLc [2] (diT (dVar 0)) (gN 2) dYes (dOp fDiv (dVar 2) (dVar 1))) daN)))))
abbrev T_eucl : Wt := dTru (dOp fGt (dVar 4) (dLit (.int 0)))
abbrev B_eucl : Ws := wPar 3 4 (daC (dVar 4) (daC (dOp fMod (dCal fInt (daC (dVar 3) daN)) (dVar 4)) daN))
theorem eucl {X Y W : Option Sl} {E : Ed} : ∀ (b a : Nat), E.nx [X, Y, W, some (.val (.int (Nat.gcd a b : Nat))), some (.val (.int (0 : Nat)))] → ∃ n, whD T_eucl B_eucl n E [X, Y, W, some (.val (.int (a : Nat))), some (.val (.int (b : Nat)))] := by
  intro b
  induction b using Nat.strongRecOn with
  | _ b ih =>
    intro a h
    by_cases z : b = 0
    · subst z
      rw [Nat.gcd_zero_right] at h
      exact ⟨1, trivial, trivial, h⟩
    · have l : a % b < b := Nat.mod_lt _ (Nat.pos_of_ne_zero z)
      have e : Nat.gcd a b = Nat.gcd b (a % b) := by rw [Nat.gcd_comm a b, Nat.gcd_rec, Nat.gcd_comm]
      rw [e] at h
      obtain ⟨n, hn⟩ := ih (a % b) l b h
      refine ⟨n + 1, trivial, trivial, ?_⟩
      refine ite_t (decide_eq_true (by show (0 : Int) < (b : Nat); omega)) ?_
      exact ⟨show (0 : Int) < (b : Nat) by omega, hn⟩
def ovl (g : Int) : PyData → PyData
  | .int i => .int (i / g)
  | d => d
theorem ovl_map (us : List Int) : (us.map PyData.int).map (ovl (gcI us)) = (rd us).map .int := by
  unfold rd
  rw [List.map_map, List.map_map]
  rfl
def I_least (us : List Int) (s : Int) (ev : Ev) : Prop := 0 ≤ s ∧ (ev = [some (.val (tup us)), some (.val (.int s)), none, none, none] ∨ ∃ x y z, ev = [some (.val (tup us)), some (.val (.int s)), some (.val x), some (.val y), some (.val z)])
theorem sem_law_least : ∀ ds R, c_law_least ds R → ds.length = 1 → w_law_least (edP R) (ev0 4 ds) := by
  intro ds R h _
  obtain ⟨us, rfl, hl, hs, hz, q⟩ := h
  refine foD_fold (I_least us) (fun g u => (Int.gcd g u : Int)) (fun u s ev E' i nx => ?_) ⟨Int.le_refl 0, .inl rfl⟩ (fun ev i => ?_)
  · obtain ⟨s0, i⟩ := i
    have es : s = ((s.natAbs : Nat) : Int) := by omega
    have eu : (if u < 0 then -u else u) = ((u.natAbs : Nat) : Int) := by split <;> omega
    have fin : ∃ n, whD T_eucl B_eucl n { nx := wAsg (dVar 3) (gN 1) E', rt := E'.rt, bk := E'.bk, ct := E'.ct, rl := E'.rl } [some (.val (tup us)), some (.val (.int s)), some (.val (.int u)), some (.val (.int (s.natAbs : Nat))), some (.val (.int (u.natAbs : Nat)))] := by
      refine eucl _ _ ?_
      exact nx _ ⟨Int.natCast_nonneg _, .inr ⟨_, _, _, rfl⟩⟩
    rw [← es, ← eu] at fin
    rcases i with rfl | ⟨x, y, z, rfl⟩
    · exact fin
    · exact fin
  · obtain ⟨s0, i⟩ := i
    have el : ∀ (d : PyData), d ∈ us.map PyData.int → ∀ (o3 o4 : Option Sl) (R' : PyData → Ev → Prop), R' (ovl (gcI us) d) [some (.val (tup us)), some (.val (.int (gcI us))), some (.val d), o3, o4] → (dOp fDiv (dVar 2) (dVar 1)) [some (.val (tup us)), some (.val (.int (gcI us))), some (.val d), o3, o4] R' := fun d hd o3 o4 R' r => by
      obtain ⟨i, _, rfl⟩ := List.mem_map.mp hd
      exact ⟨gc_divC hs (by decide) hz i, r⟩
    rcases i with rfl | ⟨x, y, z, rfl⟩
    · refine lc_map (f := ovl (gcI us)) rfl (by rw [List.length_nil, Nat.zero_add, List.length_map]; exact hl) (fun d hd R r => el d hd _ _ _ r) ?_
      rw [ovl_map]
      exact q
    · refine lc_map (f := ovl (gcI us)) rfl (by rw [List.length_nil, Nat.zero_add, List.length_map]; exact hl) (fun d hd R r => el d hd _ _ _ r) ?_
      rw [ovl_map]
      exact q
def w_law_plus : Ws := (wRet (dTup (daC (dOp fCat (dOp fIx (dVar 0) (dLit (.int 0))) (dOp fIx (dVar 1) (dLit (.int 0)))) (daC (dOp fCat (dOp fIx (dVar 0) (dLit (.int 1))) (dOp fIx (dVar 1) (dLit (.int 1)))) daN))))
theorem sem_law_plus : ∀ ds R, c_law_plus ds R → ds.length = 2 → w_law_plus (edP R) (ev0 0 ds) := by
  intro ds R h _
  obtain ⟨a, b, c, d, rfl, ⟨ha, hb, hc, hd⟩, q⟩ := h
  walk_at "go"
def w_law_less : Ws := (wRet (dTup (daC (dOp fSub (dOp fIx (dVar 0) (dLit (.int 0))) (dOp fIx (dVar 1) (dLit (.int 0)))) (daC (dOp fSub (dOp fIx (dVar 0) (dLit (.int 1))) (dOp fIx (dVar 1) (dLit (.int 1)))) daN))))
theorem sem_law_less : ∀ ds R, c_law_less ds R → ds.length = 2 → w_law_less (edP R) (ev0 0 ds) := by
  intro ds R h _
  obtain ⟨a, b, c, d, rfl, ⟨ha, hb, hc, hd⟩, q⟩ := h
  walk_at "go"
def w_law_times : Ws := (wRet (dTup (daC (dOp fSub (dOp fMul (dOp fIx (dVar 0) (dLit (.int 0))) (dOp fIx (dVar 1) (dLit (.int 0)))) (dOp fMul (dOp fIx (dVar 0) (dLit (.int 1))) (dOp fIx (dVar 1) (dLit (.int 1))))) (daC (dOp fCat (dOp fMul (dOp fIx (dVar 0) (dLit (.int 0))) (dOp fIx (dVar 1) (dLit (.int 1)))) (dOp fMul (dOp fIx (dVar 0) (dLit (.int 1))) (dOp fIx (dVar 1) (dLit (.int 0))))) daN))))
theorem sem_law_times : ∀ ds R, c_law_times ds R → ds.length = 2 → w_law_times (edP R) (ev0 0 ds) := by
  intro ds R h _
  obtain ⟨a, b, c, d, rfl, ⟨ha, hb, hc, hd⟩, q⟩ := h
  walk_at "go"
theorem ltimes_ok {p q : G} {n m : Nat} {R : PyData → Prop} [a : GS n p] [b : GS m q] (hn : n ≤ 20000) (hm : m ≤ 20000) (r : R (cd (gm p q))) : c_law_times [cd p, cd q] R := ⟨p.1, p.2, q.1, q.2, rfl, ⟨szUp a.a hn, szUp a.b hn, szUp b.a hm, szUp b.b hm⟩, r⟩
def w_law_star : Ws := (wRet (dTup (daC (dOp fIx (dVar 0) (dLit (.int 0))) (daC (dOp fSub (dLit (.int 0)) (dOp fIx (dVar 0) (dLit (.int 1)))) daN))))
theorem sem_law_star : ∀ ds R, c_law_star ds R → ds.length = 1 → w_law_star (edP R) (ev0 0 ds) := by
  intro ds R h _
  obtain ⟨a, b, rfl, q⟩ := h
  rw [← Int.zero_sub] at q
  walk_at "go"
def w_law_size : Ws := (wRet (dOp fCat (dOp fMul (dOp fIx (dVar 0) (dLit (.int 0))) (dOp fIx (dVar 0) (dLit (.int 0)))) (dOp fMul (dOp fIx (dVar 0) (dLit (.int 1))) (dOp fIx (dVar 0) (dLit (.int 1))))))
theorem sem_law_size : ∀ ds R, c_law_size ds R → ds.length = 1 → w_law_size (edP R) (ev0 0 ds) := by
  intro ds R h _
  obtain ⟨a, b, rfl, ⟨ha, hb⟩, q⟩ := h
  walk_at "go"
def w_law_quarter : Ws := (wSeq (wAsg (dVar 0) (gT 2 (gsC (gN 1) (gsC (gN 2) gsN)))) (wSeq (wFor (diR1 (daC (dLit (.int 4)) daN)) (gN 3) (wSeq (wIf (dAndT (dTru (dOp fGt (dVar 1) (dLit (.int 0)))) (dTru (dOp fGe (dVar 2) (dLit (.int 0))))) (wRet (dTup (daC (dVar 1) (daC (dVar 2) daN)))) wNx) (wPar 1 2 (daC (dOp fSub (dLit (.int 0)) (dVar 2)) (daC (dVar 1) daN))))) (wRet (dTup (daC (dLit (.int 0)) (daC (dLit (.int 0)) daN))))))
abbrev B_quarter : Ws := wSeq (wIf (dAndT (dTru (dOp fGt (dVar 1) (dLit (.int 0)))) (dTru (dOp fGe (dVar 2) (dLit (.int 0))))) (wRet (dTup (daC (dVar 1) (daC (dVar 2) daN)))) wNx) (wPar 1 2 (daC (dOp fSub (dLit (.int 0)) (dVar 2)) (daC (dVar 1) daN)))
theorem lq_step {x : PyData} {a b j : Int} {ds : List PyData} {s : Option Sl} {E : Ed} (hs : s = none ∨ ∃ v, s = some (.val v)) (h1 : 0 < a → 0 ≤ b → ∀ ev, E.rt (cp a b) ev) (h2 : ¬(0 < a ∧ 0 ≤ b) → foD (gN 3) B_quarter ds E [some (.val x), some (.val (.int (0 - b))), some (.val (.int a)), some (.val (.int j))]) :
    foD (gN 3) B_quarter (.int j :: ds) E [some (.val x), some (.val (.int a)), some (.val (.int b)), s] := by
  have goal : ∀ (E' : Ed), E'.rt = E.rt → E'.nx = foD (gN 3) B_quarter ds E → B_quarter E' [some (.val x), some (.val (.int a)), some (.val (.int b)), some (.val (.int j))] := fun E' e1 e2 => by
    refine ⟨trivial, trivial, ?_⟩
    by_cases z : 0 < a
    · refine ite_t (decide_eq_true z) ⟨trivial, trivial, ?_⟩
      by_cases y : 0 ≤ b
      · refine ite_t (decide_eq_true y) ⟨Nat.le_of_ble_eq_true rfl, ?_⟩
        show E'.rt (cp a b) _
        rw [e1]
        exact h1 z y _
      · refine ite_f (decide_eq_false y) ⟨trivial, ?_⟩
        show E'.nx _
        rw [e2]
        exact h2 fun n => y n.2
    · refine ite_f (decide_eq_false z) ?_
      refine ite_f rfl ⟨trivial, ?_⟩
      show E'.nx _
      rw [e2]
      exact h2 fun n => z n.1
  rcases hs with rfl | ⟨v, rfl⟩ <;> exact goal _ rfl rfl
theorem sem_law_quarter : ∀ ds R, c_law_quarter ds R → ds.length = 1 → w_law_quarter (edP R) (ev0 3 ds) := by
  intro ds R h _
  obtain ⟨a, b, rfl, q⟩ := h
  have qq : ∀ a b : Int, 0 < a → 0 ≤ b → qf a b = (a, b) := fun a b h1 h2 => by
    unfold qf
    rw [if_neg (by omega), if_pos ⟨h1, h2⟩]
  have tn : ∀ a b : Int, qf (0 - b) a = qf a b := fun a b => by rw [Int.zero_sub]; exact qf_turn a b
  refine ⟨rfl, ⟨by decide, by decide⟩, ?_⟩
  have e : rngD 0 (4 : Int).toNat = [.int 0, .int 1, .int 2, .int 3] := rfl
  rw [e]
  refine lq_step (.inl rfl) (fun h1 h2 _ => ?_) fun n1 => lq_step (.inr ⟨_, rfl⟩) (fun h1 h2 _ => ?_) fun n2 => lq_step (.inr ⟨_, rfl⟩) (fun h1 h2 _ => ?_) fun n3 => lq_step (.inr ⟨_, rfl⟩) (fun h1 h2 _ => ?_) fun n4 => ?_
  · rw [qq _ _ h1 h2] at q
    exact q
  · have g := qq _ _ h1 h2
    rw [tn] at g
    rw [g] at q
    exact q
  · have g := qq _ _ h1 h2
    rw [tn, tn] at g
    rw [g] at q
    exact q
  · have g := qq _ _ h1 h2
    rw [tn, tn, tn] at g
    rw [g] at q
    exact q
  · have za : a = 0 := by omega
    have zb : b = 0 := by omega
    subst za zb
    exact ⟨Nat.le_of_ble_eq_true rfl, q⟩
def w_law_over : Ws := (wSeq (wAsg (dFn 1 c_law_size (daC (dVar 1) daN)) (gN 2)) (wSeq (wIf (dTru (dOp fEq (dVar 2) (dLit (.int 0)))) (wRet (dLit .none)) wNx) (wSeq (wAsg (dFn 2 c_law_times (daC (dVar 0) (daC (dFn 1 c_law_star (daC (dVar 1) daN)) daN))) (gT 2 (gsC (gN 3) (gsC (gN 4) gsN)))) (wRet (dIf (dAndT (dTru (dOp fEq (dOp fMod (dCal fInt (daC (dVar 3) daN)) (dVar 2)) (dLit (.int 0)))) (dTru (dOp fEq (dOp fMod (dCal fInt (daC (dVar 4) daN)) (dVar 2)) (dLit (.int 0))))) (dTup (daC (dOp fDiv (dVar 3) (dVar 2)) (daC (dOp fDiv (dVar 4) (dVar 2)) daN))) (dLit .none))))))
theorem sem_law_over : ∀ ds R, c_law_over ds R → ds.length = 2 → w_law_over (edP R) (ev0 3 ds) := by
  intro ds R h _
  obtain ⟨a, b, c, d, rfl, ⟨ha, hb, hc, hd⟩, q⟩ := h
  refine ⟨rfl, c, d, rfl, ⟨by walk_at "sz", by walk_at "sz"⟩, Or.inr ⟨rfl, rfl⟩, trivial, ?_⟩
  rw [eqv_int]
  unfold xq at q
  refine ite_b (fun z => ?_) (fun z => ?_)
  · rw [if_pos (of_decide_eq_true z)] at q
    exact q
  have z0 := of_decide_eq_false z
  have z1 := nrmP z0
  rw [if_neg z0] at q
  refine ⟨rfl, c, d, rfl, rfl, a, b, c, -d, rfl, ⟨by walk_at "sz", by walk_at "sz", by walk_at "sz", by walk_at "sz"⟩, ?_⟩
  have dv : ∀ x : Int, divC x (c * c + d * d) := fun x => divC_of (m := max (2000 + 2000) (2000 + 2000) + 1) inferInstance z1 (by decide)
  refine ⟨rfl, z1, Or.inr ⟨rfl, rfl⟩, trivial, ?_⟩
  rw [eqv_int]
  by_cases y : (a * c - b * -d) % (c * c + d * d) = 0
  · refine ite_t (decide_eq_true y) ?_
    refine ⟨z1, Or.inr ⟨rfl, rfl⟩, trivial, ?_⟩
    rw [eqv_int]
    by_cases x : (a * -d + b * c) % (c * c + d * d) = 0
    · refine ite_t (decide_eq_true x) ?_
      rw [if_pos ⟨y, x⟩] at q
      exact ⟨dv _, dv _, Nat.le_of_ble_eq_true rfl, q⟩
    · refine ite_f (decide_eq_false x) ?_
      rw [if_neg (fun n => x n.2)] at q
      exact q
  · refine ite_f (decide_eq_false y) ?_
    refine ite_f rfl ?_
    rw [if_neg (fun n => y n.1)] at q
    exact q
def w_law_common : Ws := (wSeq (wAsg (dTup (daC (dLit (.int 0)) (daC (dLit (.int 0)) daN))) (gN 1)) (wSeq (wFor (diL (dVar 0)) (gN 2) (wSeq (wPar 3 4 (daC (dVar 1) (daC (dVar 2) daN))) (wSeq (wFor (diR1 (daC (dLit (.int 2000)) daN)) (gN 5) (wSeq (wAsg (dFn 1 c_law_size (daC (dVar 4) daN)) (gN 6)) (wSeq (wIf (dTru (dOp fEq (dVar 6) (dLit (.int 0)))) (fun E ev => E.bk ev) wNx) (wSeq (wAsg (dFn 2 c_law_times (daC (dVar 3) (daC (dFn 1 c_law_star (daC (dVar 4) daN)) daN))) (gT 2 (gsC (gN 7) (gsC (gN 8) gsN)))) (wSeq (wAsg (dTup (daC (dOp fDiv (dOp fCat (dOp fMul (dLit (.int 2)) (dVar 7)) (dVar 6)) (dOp fMul (dLit (.int 2)) (dVar 6))) (daC (dOp fDiv (dOp fCat (dOp fMul (dLit (.int 2)) (dVar 8)) (dVar 6)) (dOp fMul (dLit (.int 2)) (dVar 6))) daN))) (gN 9)) (wPar 3 4 (daC (dVar 4) (daC (dFn 2 c_law_less (daC (dVar 3) (daC (dFn 2 c_law_times (daC (dVar 9) (daC (dVar 4) daN))) daN))) daN)))))))) (wAsg (dVar 3) (gN 1))))) (wRet (dVar 1))))
abbrev B_common : Ws := (wSeq (wAsg (dFn 1 c_law_size (daC (dVar 4) daN)) (gN 6)) (wSeq (wIf (dTru (dOp fEq (dVar 6) (dLit (.int 0)))) (fun E ev => E.bk ev) wNx) (wSeq (wAsg (dFn 2 c_law_times (daC (dVar 3) (daC (dFn 1 c_law_star (daC (dVar 4) daN)) daN))) (gT 2 (gsC (gN 7) (gsC (gN 8) gsN)))) (wSeq (wAsg (dTup (daC (dOp fDiv (dOp fCat (dOp fMul (dLit (.int 2)) (dVar 7)) (dVar 6)) (dOp fMul (dLit (.int 2)) (dVar 6))) (daC (dOp fDiv (dOp fCat (dOp fMul (dLit (.int 2)) (dVar 8)) (dVar 6)) (dOp fMul (dLit (.int 2)) (dVar 6))) daN))) (gN 9)) (wPar 3 4 (daC (dVar 4) (daC (dFn 2 c_law_less (daC (dVar 3) (daC (dFn 2 c_law_times (daC (dVar 9) (daC (dVar 4) daN))) daN))) daN)))))))
theorem common_run {x0 x1 x2 : Option Sl} {n : Nat} {E : Ed} (hn : n ≤ 900) : ∀ (ds : List PyData) (o t : G) (s5 s6 s7 s8 s9 : Option Sl), nm t < 2 ^ ds.length → Sz n o.1 → Sz n o.2 → Sz n t.1 → Sz n t.2 → fr s5 → fr s6 → fr s7 → fr s8 → fr s9 →
    (∀ (h t' : G) (s5 s6 s7 s8 s9 : Option Sl), GC [o, t] h → Sz n h.1 → Sz n h.2 → fr s5 → fr s6 → fr s7 → fr s8 → fr s9 → E.nx [x0, x1, x2, some (.val (cd h)), some (.val (cd t')), s5, s6, s7, s8, s9]) →
    foD (gN 5) B_common ds E [x0, x1, x2, some (.val (cd o)), some (.val (cd t)), s5, s6, s7, s8, s9]
  | [], o, t, s5, s6, s7, s8, s9, h, ho1, ho2, ht1, ht2, f5, f6, f7, f8, f9, q => by
    have h0 := nm_nn t
    have e : t = (0, 0) := nm_zero (by
      rw [List.length_nil] at h
      have : (2 : Int) ^ 0 = 1 := rfl
      omega)
    subst e
    exact q o (0, 0) s5 s6 s7 s8 s9 (GC.zero o) ho1 ho2 f5 f6 f7 f8 f9
  | d :: ds, o, t, s5, s6, s7, s8, s9, h, ho1, ho2, ht1, ht2, f5, f6, f7, f8, f9, q => by
    obtain ⟨a, b⟩ := o
    obtain ⟨c, e⟩ := t
    have ha : Sz 900 a := szUp ho1 hn
    have hb : Sz 900 b := szUp ho2 hn
    have hc : Sz 900 c := szUp ht1 hn
    have he : Sz 900 e := szUp ht2 hn
    refine gN_fr (s := s5) rfl f5 ?_
    refine ⟨rfl, c, e, rfl, ⟨by walk_at "sz", by walk_at "sz"⟩, ?_⟩
    refine gN_fr (s := s6) rfl f6 ?_
    refine ⟨Or.inr ⟨rfl, rfl⟩, trivial, ?_⟩
    rw [eqv_int]
    refine ite_b (fun z => ?_) (fun z => ?_)
    · have z0 : (c, e) = ((0, 0) : G) := nm_zero (of_decide_eq_true z)
      cases z0
      exact q (a, b) (0, 0) _ _ _ _ _ (GC.zero _) ho1 ho2 fr_val fr_val f7 f8 f9
    · have z0 : c * c + e * e ≠ 0 := of_decide_eq_false z
      have z1 := nrmP z0
      refine ⟨rfl, c, e, rfl, rfl, a, b, c, -e, rfl, ⟨by walk_at "sz", by walk_at "sz", by walk_at "sz", by walk_at "sz"⟩, rfl, ?_⟩
      refine gs_fr (s := s7) rfl f7 (gs_fr (s := s8) rfl f8 ?_)
      have dv : ∀ x : Int, divC x (2 * (c * c + e * e)) := fun x => divC_of (m := 2 + (max (900 + 900) (900 + 900) + 1)) inferInstance (by omega) (by decide)
      have s1 : Sz 2000 ((2 * (a * c - b * -e) + (c * c + e * e)) / (2 * (c * c + e * e))) := szUp inferInstance (by decide)
      have s2 : Sz 2000 ((2 * (a * -e + b * c) + (c * c + e * e)) / (2 * (c * c + e * e))) := szUp inferInstance (by decide)
      have rn := rest_nm (a := a) (b := b) z1
      refine ⟨by walk_at "sz", by walk_at "sz", dv _, by walk_at "sz", by walk_at "sz", dv _, Nat.le_of_ble_eq_true rfl, ?_⟩
      refine gN_fr (s := s9) rfl f9 ?_
      refine ⟨rfl, _, _, c, e, rfl, ⟨szUp s1 (by decide), szUp s2 (by decide), by walk_at "sz", by walk_at "sz"⟩, ?_⟩
      refine ⟨rfl, a, b, _, _, rfl, ⟨by walk_at "sz", by walk_at "sz", szUp inferInstance (by decide), szUp inferInstance (by decide)⟩, ?_⟩
      have key : ∀ u v : Int, 2 * nm (les (a, b) (u, v) (c, e)) ≤ c * c + e * e → foD (gN 5) B_common ds E [x0, x1, x2, some (.val (cd (c, e))), some (.val (cd (les (a, b) (u, v) (c, e)))), some (.val d), some (.val (.int (c * c + e * e))), some (.val (.int (a * c - b * -e))), some (.val (.int (a * -e + b * c))), some (.val (cp u v))] := fun u v rn => by
        obtain ⟨sx, sy⟩ := sz_nm (x := (les (a, b) (u, v) (c, e)).1) (y := (les (a, b) (u, v) (c, e)).2) rn ht1 ht2
        refine common_run hn ds (c, e) (les (a, b) (u, v) (c, e)) _ _ _ _ _ ?_ ht1 ht2 sx sy fr_val fr_val fr_val fr_val fr_val fun h t' s5 s6 s7 s8 s9 g => q h t' s5 s6 s7 s8 s9 (GC.step g)
        rw [List.length_cons, Int.pow_succ] at h
        have : nm (c, e) = c * c + e * e := rfl
        omega
      exact key _ _ rn
theorem sem_law_common : ∀ ds R, c_law_common ds R → ds.length = 1 → w_law_common (edP R) (ev0 9 ds) := by
  intro ds R h _
  obtain ⟨ps, n, rfl, hn, hs, q⟩ := h
  refine ⟨Nat.le_of_ble_eq_true rfl, ?_⟩
  refine foD_pre (fun pre ev => ∃ (done : List G) (g : G) (s2 s3 s4 s5 s6 s7 s8 s9 : Option Sl), pre = done.map cd ∧ ev = [some (.val (.list (ps.map cd))), some (.val (cd g)), s2, s3, s4, s5, s6, s7, s8, s9] ∧ (fr s2 ∧ fr s3 ∧ fr s4 ∧ fr s5 ∧ fr s6 ∧ fr s7 ∧ fr s8 ∧ fr s9) ∧ GC done g ∧ Sz n g.1 ∧ Sz n g.2) (pre := []) (fun pre d ev E' hd i nx _ _ _ _ => ?_) ⟨[], (0, 0), none, none, none, none, none, none, none, none, rfl, rfl, ⟨fr_none, fr_none, fr_none, fr_none, fr_none, fr_none, fr_none, fr_none⟩, GC.nil, szUp (n := 0) ⟨by decide⟩ (Nat.zero_le _), szUp (n := 0) ⟨by decide⟩ (Nat.zero_le _)⟩ (fun ev i => ?_)
  · obtain ⟨done, g, s2, s3, s4, s5, s6, s7, s8, s9, rfl, rfl, ⟨f2, f3, f4, f5, f6, f7, f8, f9⟩, hg, s1, s1'⟩ := i
    obtain ⟨p, hp, rfl⟩ := List.mem_map.mp hd
    obtain ⟨t1, t2⟩ := hs p hp
    refine gN_fr (s := s2) rfl f2 ?_
    have tail : (wSeq (wFor (diR1 (daC (dLit (.int 2000)) daN)) (gN 5) B_common) (wAsg (dVar 3) (gN 1))) E' [some (.val (.list (ps.map cd))), some (.val (cd g)), some (.val (cd p)), some (.val (cd g)), some (.val (cd p)), s5, s6, s7, s8, s9] := ?_
    · rcases f3 with rfl | ⟨_, rfl⟩ <;> rcases f4 with rfl | ⟨_, rfl⟩ <;> exact tail
    refine ⟨⟨by decide, by decide⟩, ?_⟩
    have l : (rngD 0 (2000 : Int).toNat).length = 2000 := by unfold rngD; rw [List.length_map, List.length_range]; rfl
    refine common_run hn _ g p s5 s6 s7 s8 s9 ?_ s1 s1' t1 t2 f5 f6 f7 f8 f9 fun h t' u5 u6 u7 u8 u9 gc z1 z2 g5 g6 g7 g8 g9 => ?_
    · rw [l]
      have h1 : Sz (max (n + n) (n + n) + 1) (nm p) := (inferInstance : Sz (max (n + n) (n + n) + 1) (p.1 * p.1 + p.2 * p.2))
      have h2 : Sz 2000 (nm p) := szUp h1 (by omega)
      have h3 := h2.lt
      have h4 := nm_nn p
      have h5 : ((2 ^ 2000 : Nat) : Int) = (2 : Int) ^ 2000 := Int.natCast_pow 2 2000
      rw [← h5]
      generalize 2 ^ 2000 = N at *
      omega
    · exact nx _ ⟨done ++ [p], h, _, _, _, _, _, _, _, _, by rw [List.map_append]; rfl, rfl, ⟨fr_val, fr_val, fr_val, g5, g6, g7, g8, g9⟩, GC.snoc hg gc, z1, z2⟩
  · obtain ⟨done, g, s2, s3, s4, s5, s6, s7, s8, s9, e, rfl, _, hg, s1, s1'⟩ := i
    rw [List.nil_append] at e
    have e' := cd_inj e
    subst e'
    exact q g hg s1 s1'
def w_law_near : Ws := (wRet (dFn 1 c_law_least (daC (dTup (daC (dFnT 0 1 c_law_small daN) (daC (dFnT 0 1 c_law_small daN) (daC (dOp fCat (dLit (.int 1)) (dFnT 0 2 c_law_draw (daC (dFnT 0 2 c_law_pick (daC (dTup (daC (dLit (.int 1)) (daC (dLit (.int 1)) (daC (dLit (.int 2)) (daC (dLit (.int 4)) daN))))) daN)) daN))) daN)))) daN)))
theorem sem_law_near : ∀ ts ds R, c_law_near ts ds R → ds.length = 0 → w_law_near (edT R) (some (.own ts) :: ev0 0 ds) := by
  intro ts ds R h _
  obtain ⟨b, tk, hb, rfl, q⟩ := h
  refine ⟨rfl, b, tk, by omega, rfl, fun x ts1 _ _ sx tk1 => ⟨rfl, b + 2, tk1, by omega, rfl, fun y ts2 _ _ sy tk2 => ?_⟩⟩
  refine ⟨Nat.le_of_ble_eq_true rfl, rfl, b + 2 + 2, _, tk2, by omega, Or.inl rfl, by decide, by decide, fun d ts3 hx tk3 => ?_⟩
  have hi : ∃ i : Int, d = .int i ∧ 1 ≤ i ∧ i ≤ 4 := by
    simp only [List.mem_cons, List.not_mem_nil, or_false] at hx
    rcases hx with rfl | rfl | rfl | rfl <;> exact ⟨_, rfl, by decide, by decide⟩
  obtain ⟨i, rfl, i0, i1⟩ := hi
  refine ⟨rfl, b + 2 + 2 + 1, i, tk3, by omega, rfl, by omega, by omega, fun k ts4 k0 k1 tk4 => ?_⟩
  have sk : Sz 4 (1 + k) := sz_lt (by omega) (by omega)
  obtain ⟨x', y', z', g, e, rt, _⟩ := rd3 sx sy sk (by omega)
  have q' : R (tup (rd [x, y, 1 + k])) ts4 := by rw [e]; exact q x' y' z' ts4 rt (tk4.up (by omega))
  exact ⟨Nat.le_of_ble_eq_true rfl, rfl, [x, y, 1 + k], rfl, Nat.le_of_ble_eq_true rfl, all3 (by walk_at "sz") (by walk_at "sz") (by walk_at "sz"), gc3_ne (by omega), q'⟩
def w_law_any_place : Ws := (wRet (dIf (dTru (dOp fEq (dFnT 0 2 c_law_draw (daC (dLit (.int 8)) daN)) (dLit (.int 0)))) (dTup (daC (dLit (.int 1)) (daC (dLit (.int 0)) (daC (dLit (.int 0)) daN)))) (dFnT 0 1 c_law_near daN)))
theorem sem_law_any_place : ∀ ts ds R, c_law_any_place ts ds R → ds.length = 0 → w_law_any_place (edT R) (some (.own ts) :: ev0 0 ds) := by
  intro ts ds R h _
  obtain ⟨b, tk, hb, rfl, q1, q2⟩ := h
  refine ⟨rfl, b, 8, tk, by omega, rfl, by decide, by decide, fun k ts1 k0 k1 tk1 => ?_⟩
  refine ⟨Or.inr ⟨rfl, rfl⟩, trivial, ?_⟩
  refine ite_b (fun z => ?_) (fun z => ?_)
  · exact ⟨Nat.le_of_ble_eq_true rfl, q1 ts1 (tk1.up (by omega))⟩
  · exact ⟨rfl, b + 1, tk1, by omega, rfl, fun x y z ts2 rt tk2 => q2 x y z ts2 rt (tk2.up (by omega))⟩
abbrev r_law_place_of_4 : Ws := (wRet (dFn 1 c_law_least (daC (dTup (daC (dVar 2) (daC (dVar 3) (daC (dFn 1 c_law_size (daC (dVar 1) daN)) daN)))) daN)))
def w_law_place_of : Ws := (wSeq (wIf (dTru (dOp fEq (dVar 1) (dTup (daC (dLit (.int 0)) (daC (dLit (.int 0)) daN))))) (wRet (dTup (daC (dLit (.int 1)) (daC (dLit (.int 0)) (daC (dLit (.int 0)) daN))))) wNx) (wSeq (wAsg (dFn 2 c_law_times (daC (dVar 0) (daC (dFn 1 c_law_star (daC (dVar 1) daN)) daN))) (gT 2 (gsC (gN 2) (gsC (gN 3) gsN)))) (wRet (dFn 1 c_law_least (daC (dTup (daC (dVar 2) (daC (dVar 3) (daC (dFn 1 c_law_size (daC (dVar 1) daN)) daN)))) daN)))))
theorem sem_law_place_of : ∀ ds R, c_law_place_of ds R → ds.length = 2 → w_law_place_of (edP R) (ev0 2 ds) := by
  intro ds R h _
  obtain ⟨p, q, rfl, ⟨h1, h2, h3, h4⟩, r⟩ := h
  refine ⟨Nat.le_of_ble_eq_true rfl, Or.inr ⟨rfl, rfl⟩, trivial, ?_⟩
  rw [show PyData.eqv (cd q) (.tuple [.int 0, .int 0]) = decide (q = (0, 0)) from eqv_cd q (0, 0)]
  unfold qp at r
  refine ite_b (fun z => ?_) (fun z => ?_)
  · rw [if_pos (of_decide_eq_true z)] at r
    exact ⟨Nat.le_of_ble_eq_true rfl, r⟩
  have z0 := of_decide_eq_false z
  rw [if_neg z0] at r
  have np : 0 < q.1 * q.1 + q.2 * q.2 := nm_pos z0
  refine ⟨rfl, q.1, q.2, rfl, ?_⟩
  refine ⟨rfl, p.1, p.2, q.1, -q.2, rfl, ⟨by walk_at "sz", by walk_at "sz", by walk_at "sz", by walk_at "sz"⟩, ?_⟩
  refine ⟨rfl, ?_⟩
  show r_law_place_of_4 (edP R) [some (.val (cd p)), some (.val (cd q)), some (.val (.int (p.1 * q.1 - p.2 * -q.2))), some (.val (.int (p.1 * -q.2 + p.2 * q.1)))]
  refine ⟨rfl, q.1, q.2, rfl, ⟨by walk_at "sz", by walk_at "sz"⟩, ?_⟩
  refine ⟨Nat.le_of_ble_eq_true rfl, rfl, [p.1 * q.1 - p.2 * -q.2, p.1 * -q.2 + p.2 * q.1, q.1 * q.1 + q.2 * q.2], rfl, Nat.le_of_ble_eq_true rfl, fun u hu => ?_, fun z => ?_, r⟩
  · rcases List.mem_cons.mp hu with e | hu
    · rw [e]; exact szUp inferInstance (by decide +kernel)
    rcases List.mem_cons.mp hu with e | hu
    · rw [e]; exact szUp inferInstance (by decide +kernel)
    · rw [List.mem_singleton.mp hu]; exact szUp inferInstance (by decide +kernel)
  · exact gc_ne (u := q.1 * q.1 + q.2 * q.2) (by simp) (by omega) z
def w_law_little : Ws := (wRet (dTup (daC (dFnT 0 1 c_law_small daN) (daC (dFnT 0 1 c_law_small daN) daN))))
theorem sem_law_little : ∀ ts ds R, c_law_little ts ds R → ds.length = 0 → w_law_little (edT R) (some (.own ts) :: ev0 0 ds) := by
  intro ts ds R h _
  obtain ⟨b, tk, hb, rfl, q⟩ := h
  exact ⟨rfl, b, tk, by omega, rfl, fun x ts1 _ _ sx tk1 => ⟨rfl, b + 2, tk1, by omega, rfl, fun y ts2 _ _ sy tk2 => ⟨Nat.le_of_ble_eq_true rfl, q (x, y) ts2 sx sy (tk2.up (by omega))⟩⟩⟩
abbrev r_law_map_6 : Ws := (wRet (dTup (daC (dVar 0) (daC (dOp fIx (dVar 3) (dLit (.int 0))) (daC (dOp fIx (dVar 3) (dLit (.int 1))) (daC (dOp fIx (dVar 3) (dLit (.int 2))) (daC (dOp fIx (dVar 3) (dLit (.int 3))) daN)))))))
abbrev r_law_map_5 : Ws := (wSeq (wAsg (dLc [6] (diL (dVar 3)) (gN 6) dYes (dFn 2 c_law_times (daC (dVar 6) (daC (dVar 5) daN)))) (gN 3)) r_law_map_6)
abbrev r_law_map_4 : Ws := (wSeq (wAsg (dFn 2 c_law_over (daC (dFn 1 c_law_quarter (daC (dVar 4) daN)) (daC (dVar 4) daN))) (gN 5)) r_law_map_5)
abbrev r_law_map_3 : Ws := (wSeq (wAsg (dOp fIx (dLc [6] (diL (dVar 3)) (gN 6) (dTru (dOp fNe (dVar 6) (dTup (daC (dLit (.int 0)) (daC (dLit (.int 0)) daN))))) (dVar 6)) (dLit (.int 0))) (gN 4)) r_law_map_4)
abbrev r_law_map_2 : Ws := (wSeq (wAsg (dLc [6] (diL (dVar 1)) (gN 6) dYes (dFn 2 c_law_over (daC (dVar 6) (daC (dVar 2) daN)))) (gN 3)) r_law_map_3)
def w_law_map : Ws := (wSeq (wAsg (dFn 1 c_law_common (daC (dVar 1) daN)) (gN 2)) (wSeq (wAsg (dLc [6] (diL (dVar 1)) (gN 6) dYes (dFn 2 c_law_over (daC (dVar 6) (daC (dVar 2) daN)))) (gN 3)) (wSeq (wAsg (dOp fIx (dLc [6] (diL (dVar 3)) (gN 6) (dTru (dOp fNe (dVar 6) (dTup (daC (dLit (.int 0)) (daC (dLit (.int 0)) daN))))) (dVar 6)) (dLit (.int 0))) (gN 4)) (wSeq (wAsg (dFn 2 c_law_over (daC (dFn 1 c_law_quarter (daC (dVar 4) daN)) (daC (dVar 4) daN))) (gN 5)) (wSeq (wAsg (dLc [6] (diL (dVar 3)) (gN 6) dYes (dFn 2 c_law_times (daC (dVar 6) (daC (dVar 5) daN)))) (gN 3)) (wRet (dTup (daC (dVar 0) (daC (dOp fIx (dVar 3) (dLit (.int 0))) (daC (dOp fIx (dVar 3) (dLit (.int 1))) (daC (dOp fIx (dVar 3) (dLit (.int 2))) (daC (dOp fIx (dVar 3) (dLit (.int 3))) daN))))))))))))
theorem sem_law_map : ∀ ds R, c_law_map ds R → ds.length = 2 → w_law_map (edP R) (ev0 5 ds) := by
  intro ds R h _
  obtain ⟨f, a, b, c, d, n, rfl, s, hn, hz, q⟩ := h
  refine ⟨rfl, [a, b, c, d], n, rfl, hn, fun p hp => ?_, fun g gc g1 g2 => ?_⟩
  · rcases List.mem_cons.mp hp with e | hp
    · rw [e]; exact ⟨s.a1, s.a2⟩
    rcases List.mem_cons.mp hp with e | hp
    · rw [e]; exact ⟨s.b1, s.b2⟩
    rcases List.mem_cons.mp hp with e | hp
    · rw [e]; exact ⟨s.c1, s.c2⟩
    · rw [List.mem_singleton.mp hp]; exact ⟨s.d1, s.d2⟩
  have hg : g ≠ (0, 0) := gc.ne (by
    by_cases y : a = (0, 0)
    · refine ⟨b, by simp, fun z => led_nz hz ?_⟩
      unfold led
      rw [if_neg (fun n => n y)]
      exact z
    · exact ⟨a, by simp, y⟩)
  obtain ⟨x, hx⟩ := gc.dv a (by simp)
  obtain ⟨y, hy⟩ := gc.dv b (by simp)
  obtain ⟨z, hz'⟩ := gc.dv c (by simp)
  obtain ⟨w, hw⟩ := gc.dv d (by simp)
  show r_law_map_2 (edP R) [some (.val (.int f)), some (.val (.list [cd a, cd b, cd c, cd d])), some (.val (cd g)), none, none, none, none]
  have one : ∀ {u v : G}, u = gm g v → Sz n u.1 → Sz n u.2 → ∀ R' : PyData → Ev → Prop, R' (cd v) [some (.val (.int f)), some (.val (.list [cd a, cd b, cd c, cd d])), some (.val (cd g)), none, none, none, some (.val (cd u))] →
      dFn 2 c_law_over (daC (dVar 6) (daC (dVar 2) daN)) [some (.val (.int f)), some (.val (.list [cd a, cd b, cd c, cd d])), some (.val (cd g)), none, none, none, some (.val (cd u))] R' := fun {u v} e s1 s2 R' r => by
    refine ⟨rfl, u.1, u.2, g.1, g.2, rfl, ⟨szUp s1 (by omega), szUp s2 (by omega), szUp g1 (by omega), szUp g2 (by omega)⟩, ?_⟩
    rw [xq_gm (p := v) hg e]
    exact r
  refine lc_map (f := fun d => od (xq (toG d).1 (toG d).2 g.1 g.2)) rfl (Nat.le_of_ble_eq_true rfl) (fun u hu R' r => ?_) ?_
  · rcases List.mem_cons.mp hu with e | hu
    · subst e; exact one hx s.a1 s.a2 R' (by rw [show od (xq (toG (cd a)).1 (toG (cd a)).2 g.1 g.2) = cd x from congrArg od (xq_gm hg hx)] at r; exact r)
    rcases List.mem_cons.mp hu with e | hu
    · subst e; exact one hy s.b1 s.b2 R' (by rw [show od (xq (toG (cd b)).1 (toG (cd b)).2 g.1 g.2) = cd y from congrArg od (xq_gm hg hy)] at r; exact r)
    rcases List.mem_cons.mp hu with e | hu
    · subst e; exact one hz' s.c1 s.c2 R' (by rw [show od (xq (toG (cd c)).1 (toG (cd c)).2 g.1 g.2) = cd z from congrArg od (xq_gm hg hz')] at r; exact r)
    · rw [List.mem_singleton.mp hu] at r ⊢
      exact one hw s.d1 s.d2 R' (by rw [show od (xq (toG (cd d)).1 (toG (cd d)).2 g.1 g.2) = cd w from congrArg od (xq_gm hg hw)] at r; exact r)
  rw [show [] ++ [cd a, cd b, cd c, cd d].map (fun d => od (xq (toG d).1 (toG d).2 g.1 g.2)) = [cd x, cd y, cd z, cd w] from by
    show [od (xq a.1 a.2 g.1 g.2), od (xq b.1 b.2 g.1 g.2), od (xq c.1 c.2 g.1 g.2), od (xq d.1 d.2 g.1 g.2)] = _
    rw [xq_gm (p := x) hg hx, xq_gm (p := y) hg hy, xq_gm (p := z) hg hz', xq_gm (p := w) hg hw]
    rfl]
  have dn : dtm x y z w ≠ (0, 0) := fun e => hz (by rw [hx, hy, hz', hw, dtm_gm, e, gm_zero])
  have sx := sz_fac hg hx s.a1 s.a2
  have sy := sz_fac hg hy s.b1 s.b2
  have sz := sz_fac hg hz' s.c1 s.c2
  have sw := sz_fac hg hw s.d1 s.d2
  have S : S4 (n + 1) x y z w := ⟨sx.1, sx.2, sy.1, sy.2, sz.1, sz.2, sw.1, sw.2⟩
  have gc1 : GC [x, y, z, w] (1, 0) := by
    have g0 : GC [a, b, c, d, (0, 0)] g := gc.snoc (GC.zero g)
    exact g0.quot (fun k _ _ _ _ => gdv_zero k) hg hx hy hz' hw
  have ln := led_nz dn
  obtain ⟨k, hk, ek⟩ := qf_tk (led x y)
  obtain ⟨u, hu, u1, u2⟩ := tk_unit k hk
  have F := Fm.turn S gc1 dn ln ek
  obtain ⟨D, hD, fD⟩ := tk_fac g hg k
  have sl : Sz (n + 1) (led x y).1 ∧ Sz (n + 1) (led x y).2 := by
    unfold led
    by_cases e : x = (0, 0)
    · rw [if_neg (fun n => n e)]; exact sy
    · rw [if_pos e]; exact sx
  have sq := qf_sz sl.1 sl.2
  show r_law_map_3 (edP R) [some (.val (.int f)), some (.val (.list [cd a, cd b, cd c, cd d])), some (.val (cd g)), some (.val (.list [cd x, cd y, cd z, cd w])), none, none, none]
  refine lc_keep (p := fun d => !PyData.eqv d (cd (0, 0))) (f := id) rfl (Nat.le_of_ble_eq_true rfl) (fun d hd R r => ?_) (fun d hd hp R r => r) ?_
  · have hx' : ∃ p : G, d = cd p := by
      simp only [List.mem_cons, List.not_mem_nil, or_false] at hd
      rcases hd with rfl | rfl | rfl | rfl <;> exact ⟨_, rfl⟩
    obtain ⟨p, rfl⟩ := hx'
    exact ⟨Nat.le_of_ble_eq_true rfl, Or.inr ⟨rfl, rfl⟩, trivial, r⟩
  obtain ⟨rest, er⟩ := first_led (z := z) (w := w) ln
  rw [List.map_id, List.nil_append, er]
  refine fIx_hd ?_
  show r_law_map_4 (edP R) [some (.val (.int f)), some (.val (.list [cd a, cd b, cd c, cd d])), some (.val (cd g)), some (.val (.list [cd x, cd y, cd z, cd w])), some (.val (cd (led x y))), none, none]
  refine ⟨rfl, (led x y).1, (led x y).2, rfl, ?_⟩
  refine ⟨rfl, (qf (led x y).1 (led x y).2).1, (qf (led x y).1 (led x y).2).2, (led x y).1, (led x y).2, rfl, ⟨szUp sq.1 (by omega), szUp sq.2 (by omega), szUp sl.1 (by omega), szUp sl.2 (by omega)⟩, ?_⟩
  have ex : xq (qf (led x y).1 (led x y).2).1 (qf (led x y).1 (led x y).2).2 (led x y).1 (led x y).2 = some u := xq_gm (c := (led x y).1) (d := (led x y).2) ln (by rw [hu]; exact ek)
  rw [ex]
  show r_law_map_5 (edP R) [some (.val (.int f)), some (.val (.list [cd a, cd b, cd c, cd d])), some (.val (cd g)), some (.val (.list [cd x, cd y, cd z, cd w])), some (.val (cd (led x y))), some (.val (cd u)), none]
  refine lc_map (f := fun d => cd (gm (toG d) u)) rfl (Nat.le_of_ble_eq_true rfl) (fun v hv R' r => ?_) ?_
  · have hx' : ∃ p : G, v = cd p ∧ Sz (n + 1) p.1 ∧ Sz (n + 1) p.2 := by
      simp only [List.mem_cons, List.not_mem_nil, or_false] at hv
      rcases hv with rfl | rfl | rfl | rfl
      · exact ⟨_, rfl, sx⟩
      · exact ⟨_, rfl, sy⟩
      · exact ⟨_, rfl, sz⟩
      · exact ⟨_, rfl, sw⟩
    obtain ⟨p, rfl, p1, p2⟩ := hx'
    have cp' : ∀ {k : Nat} {i : Int}, Sz k i → k ≤ 20000 → Sm i := fun h l => szUp h l
    exact ⟨rfl, p.1, p.2, u.1, u.2, rfl, ⟨szUp p1 (by show n + 1 ≤ cap; unfold cap; omega), szUp p2 (by show n + 1 ≤ cap; unfold cap; omega), szUp u1 (by decide), szUp u2 (by decide)⟩, r⟩
  rw [show [] ++ [cd x, cd y, cd z, cd w].map (fun d => cd (gm (toG d) u)) = [cd (tk k x), cd (tk k y), cd (tk k z), cd (tk k w)] from by
    show [cd (gm x u), cd (gm y u), cd (gm z u), cd (gm w u)] = _
    rw [hu, hu, hu, hu]]
  exact ⟨Nat.le_of_ble_eq_true rfl, q D _ _ _ _ hD (hx.trans (fD x)) (hy.trans (fD y)) (hz'.trans (fD z)) (hw.trans (fD w)) F⟩
theorem law_map_ok {f : Int} {A : M4} {n : Nat} {R : PyData → Prop} (S : S44 n A) (hn : n ≤ 900) (h : A.dt ≠ 0) {U : M4} (eU : nrm A = U) (q : R (mp4 f U)) : c_law_map [.int f, .list [cd A.a, cd A.b, cd A.c, cd A.d]] R :=
  ⟨f, A.a, A.b, A.c, A.d, n, rfl, S, hn, h, fun g x y z w hg e1 e2 e3 e4 Fx => by
    have s : Sim ⟨x, y, z, w⟩ A := ⟨g, 1, hg, one_ne, by rw [sm_one]; exact m4_ext e1.symm e2.symm e3.symm e4.symm⟩
    have e : (⟨x, y, z, w⟩ : M4) = nrm A := nrm_of h Fx s
    rw [← eU, ← e] at q
    exact q⟩
def w_law_det : Ws := (wRet (dFn 2 c_law_less (daC (dFn 2 c_law_times (daC (dOp fIx (dVar 0) (dLit (.int 0))) (daC (dOp fIx (dVar 0) (dLit (.int 3))) daN))) (daC (dFn 2 c_law_times (daC (dOp fIx (dVar 0) (dLit (.int 1))) (daC (dOp fIx (dVar 0) (dLit (.int 2))) daN))) daN))))
theorem sem_law_det : ∀ ds R, c_law_det ds R → ds.length = 1 → w_law_det (edP R) (ev0 0 ds) := by
  intro ds R h _
  obtain ⟨a, b, c, d, e, ⟨_, _, _, _, _, _, _, _⟩, q⟩ := h
  rcases e with rfl | rfl
  all_goals
    refine ⟨rfl, a.1, a.2, d.1, d.2, rfl, ⟨by walk_at "sz", by walk_at "sz", by walk_at "sz", by walk_at "sz"⟩, ?_⟩
    refine ⟨rfl, b.1, b.2, c.1, c.2, rfl, ⟨by walk_at "sz", by walk_at "sz", by walk_at "sz", by walk_at "sz"⟩, ?_⟩
    exact ⟨rfl, _, _, _, _, rfl, ⟨by walk_at "sz", by walk_at "sz", by walk_at "sz", by walk_at "sz"⟩, q⟩
abbrev r_law_four_5 : Ws := (wAsg (dTup (daC (dTup (daC (dLit (.int 1)) (daC (dLit (.int 0)) daN))) (daC (dTup (daC (dLit (.int 0)) (daC (dLit (.int 0)) daN))) (daC (dTup (daC (dLit (.int 1)) (daC (dLit (.int 0)) daN))) daN)))) (gT 3 (gsC (gSb 3 (dLit (.int 0))) (gsC (gSb 3 (dLit (.int 2))) (gsC (gSb 3 (dLit (.int 3))) gsN)))))
abbrev r_law_four_7 : Ws := (wAsg (dTup (daC (dTup (daC (dLit (.int 0)) (daC (dLit (.int 0)) daN))) (daC (dTup (daC (dLit (.int 0)) (daC (dLit (.int 0)) daN))) daN))) (gT 2 (gsC (gSb 3 (dLit (.int 1))) (gsC (gSb 3 (dLit (.int 2))) gsN))))
abbrev r_law_four_9 : Ws := (wAsg (dTup (daC (dTup (daC (dLit (.int 0)) (daC (dLit (.int 0)) daN))) (daC (dTup (daC (dLit (.int 0)) (daC (dLit (.int 0)) daN))) daN))) (gT 2 (gsC (gSb 3 (dLit (.int 0))) (gsC (gSb 3 (dLit (.int 3))) gsN))))
abbrev r_law_four_11 : Ws := (wRetO 3)
abbrev r_law_four_10 : Ws := (wIf (dViewT 3 (dTru (dOp fNe (dFn 1 c_law_det (daC (dVar 3) daN)) (dTup (daC (dLit (.int 0)) (daC (dLit (.int 0)) daN)))))) r_law_four_11 wNx)
abbrev r_law_four_8 : Ws := (wSeq (wIf (dTru (dOp fEq (dVar 1) (dLit (.int 2)))) r_law_four_9 wNx) r_law_four_10)
abbrev r_law_four_6 : Ws := (wSeq (wIf (dTru (dOp fEq (dVar 1) (dLit (.int 1)))) r_law_four_7 wNx) r_law_four_8)
abbrev r_law_four_4 : Ws := (wSeq (wIf (dTru (dOp fEq (dVar 1) (dLit (.int 0)))) r_law_four_5 wNx) r_law_four_6)
abbrev r_law_four_3 : Ws := (wSeq (wOwnR 3 (daC (dFnT 0 1 c_law_little daN) (daC (dFnT 0 1 c_law_little daN) (daC (dFnT 0 1 c_law_little daN) (daC (dFnT 0 1 c_law_little daN) daN))))) r_law_four_4)
abbrev r_law_four_12 : Ws := (wRet (dLst (daC (dTup (daC (dLit (.int 1)) (daC (dLit (.int 0)) daN))) (daC (dTup (daC (dLit (.int 2)) (daC (dLit (.int 1)) daN))) (daC (dTup (daC (dLit (.int 0)) (daC (dLit (.int 0)) daN))) (daC (dTup (daC (dLit (.int 1)) (daC (dLit (.int 0)) daN))) daN))))))
abbrev r_law_four_2 : Ws := (wSeq (wFor (diR1 (daC (dLit (.int 3)) daN)) (gN 2) r_law_four_3) r_law_four_12)
def w_law_four : Ws := (wSeq (wAsg (dFnT 0 2 c_law_draw (daC (dLit (.int 8)) daN)) (gN 1)) (wSeq (wFor (diR1 (daC (dLit (.int 3)) daN)) (gN 2) (wSeq (wOwnR 3 (daC (dFnT 0 1 c_law_little daN) (daC (dFnT 0 1 c_law_little daN) (daC (dFnT 0 1 c_law_little daN) (daC (dFnT 0 1 c_law_little daN) daN))))) (wSeq (wIf (dTru (dOp fEq (dVar 1) (dLit (.int 0)))) (wAsg (dTup (daC (dTup (daC (dLit (.int 1)) (daC (dLit (.int 0)) daN))) (daC (dTup (daC (dLit (.int 0)) (daC (dLit (.int 0)) daN))) (daC (dTup (daC (dLit (.int 1)) (daC (dLit (.int 0)) daN))) daN)))) (gT 3 (gsC (gSb 3 (dLit (.int 0))) (gsC (gSb 3 (dLit (.int 2))) (gsC (gSb 3 (dLit (.int 3))) gsN))))) wNx) (wSeq (wIf (dTru (dOp fEq (dVar 1) (dLit (.int 1)))) (wAsg (dTup (daC (dTup (daC (dLit (.int 0)) (daC (dLit (.int 0)) daN))) (daC (dTup (daC (dLit (.int 0)) (daC (dLit (.int 0)) daN))) daN))) (gT 2 (gsC (gSb 3 (dLit (.int 1))) (gsC (gSb 3 (dLit (.int 2))) gsN)))) wNx) (wSeq (wIf (dTru (dOp fEq (dVar 1) (dLit (.int 2)))) (wAsg (dTup (daC (dTup (daC (dLit (.int 0)) (daC (dLit (.int 0)) daN))) (daC (dTup (daC (dLit (.int 0)) (daC (dLit (.int 0)) daN))) daN))) (gT 2 (gsC (gSb 3 (dLit (.int 0))) (gsC (gSb 3 (dLit (.int 3))) gsN)))) wNx) (wIf (dViewT 3 (dTru (dOp fNe (dFn 1 c_law_det (daC (dVar 3) daN)) (dTup (daC (dLit (.int 0)) (daC (dLit (.int 0)) daN)))))) (wRetO 3) wNx)))))) (wRet (dLst (daC (dTup (daC (dLit (.int 1)) (daC (dLit (.int 0)) daN))) (daC (dTup (daC (dLit (.int 2)) (daC (dLit (.int 1)) daN))) (daC (dTup (daC (dLit (.int 0)) (daC (dLit (.int 0)) daN))) (daC (dTup (daC (dLit (.int 1)) (daC (dLit (.int 0)) daN))) daN))))))))
/-- a turn behind what it changes in its four numbers -/
theorem l4_end {ts : List PyData} {b k j : Int} {x y z w : G} {E : Ed} (tk : Tk b ts) (S : S4 4 x y z w) (q : dtm x y z w ≠ (0, 0) → E.rt (.list [cd x, cd y, cd z, cd w]) [some (.own ts), some (.val (.int k)), some (.val (.int j)), some (.val (.list [cd x, cd y, cd z, cd w]))])
    (n : E.nx [some (.own ts), some (.val (.int k)), some (.val (.int j)), some (.own [cd x, cd y, cd z, cd w])]) : r_law_four_10 E [some (.own ts), some (.val (.int k)), some (.val (.int j)), some (.own [cd x, cd y, cd z, cd w])] := by
  refine ⟨by decide, ?_⟩
  refine ⟨rfl, x, y, z, w, .inl rfl, S.up (by decide), ?_⟩
  refine ⟨Nat.le_of_ble_eq_true rfl, Or.inr ⟨rfl, rfl⟩, trivial, ?_⟩
  rw [show PyData.eqv (cd (dtm x y z w)) (.tuple [.int 0, .int 0]) = decide (dtm x y z w = (0, 0)) from eqv_cd _ (0, 0)]
  by_cases e : dtm x y z w = (0, 0)
  · refine ⟨⟨tk.noLst, rfl, rfl, rfl, trivial⟩, ?_⟩
    rw [decide_eq_true e]
    exact n
  · refine ⟨⟨tk.noLst, rfl, rfl, rfl, trivial⟩, ?_⟩
    rw [decide_eq_false e]
    exact ⟨by decide, q e⟩
theorem s4_set {n : Nat} {a b c d : G} (a1 : Sz n a.1 ∧ Sz n a.2) (b1 : Sz n b.1 ∧ Sz n b.2) (c1 : Sz n c.1 ∧ Sz n c.2) (d1 : Sz n d.1 ∧ Sz n d.2) : S4 n a b c d := ⟨a1.1, a1.2, b1.1, b1.2, c1.1, c1.2, d1.1, d1.2⟩
theorem l4_ways {ts : List PyData} {b k j : Int} {x y z w : G} {E : Ed} (tk : Tk b ts) (S : S4 4 x y z w) (q : ∀ x y z w : G, S4 4 x y z w → dtm x y z w ≠ (0, 0) → E.rt (.list [cd x, cd y, cd z, cd w]) [some (.own ts), some (.val (.int k)), some (.val (.int j)), some (.val (.list [cd x, cd y, cd z, cd w]))])
    (n : ∀ x y z w : G, E.nx [some (.own ts), some (.val (.int k)), some (.val (.int j)), some (.own [cd x, cd y, cd z, cd w])]) : r_law_four_4 E [some (.own ts), some (.val (.int k)), some (.val (.int j)), some (.own [cd x, cd y, cd z, cd w])] := by
  have o : Sz 4 ((0, 0) : G).1 ∧ Sz 4 ((0, 0) : G).2 := ⟨⟨by decide⟩, ⟨by decide⟩⟩
  have e : Sz 4 ((1, 0) : G).1 ∧ Sz 4 ((1, 0) : G).2 := ⟨⟨by decide⟩, ⟨by decide⟩⟩
  have fin : ∀ x y z w : G, S4 4 x y z w → r_law_four_10 E [some (.own ts), some (.val (.int k)), some (.val (.int j)), some (.own [cd x, cd y, cd z, cd w])] := fun x y z w S => l4_end tk S (q x y z w S) (n x y z w)
  refine ⟨Or.inr ⟨rfl, rfl⟩, trivial, ?_⟩
  rw [eqv_int]
  refine ite_b (fun z0 => ?_) (fun z0 => ?_)
  · obtain rfl : k = 0 := of_decide_eq_true z0
    refine ⟨Nat.le_of_ble_eq_true rfl, Nat.le_of_ble_eq_true rfl, Nat.le_of_ble_eq_true rfl, Nat.le_of_ble_eq_true rfl, rfl, ?_⟩
    show r_law_four_6 E [some (.own ts), some (.val (.int 0)), some (.val (.int j)), some (.own [cd (1, 0), cd y, cd (0, 0), cd (1, 0)])]
    refine ⟨Or.inr ⟨rfl, rfl⟩, trivial, ite_f rfl ?_⟩
    refine ⟨Or.inr ⟨rfl, rfl⟩, trivial, ite_f rfl ?_⟩
    exact fin _ _ _ _ (s4_set e ⟨S.b1, S.b2⟩ o e)
  refine (show r_law_four_6 E [some (.own ts), some (.val (.int k)), some (.val (.int j)), some (.own [cd x, cd y, cd z, cd w])] from ?_)
  refine ⟨Or.inr ⟨rfl, rfl⟩, trivial, ?_⟩
  rw [eqv_int]
  refine ite_b (fun z1 => ?_) (fun z1 => ?_)
  · obtain rfl : k = 1 := of_decide_eq_true z1
    refine ⟨Nat.le_of_ble_eq_true rfl, Nat.le_of_ble_eq_true rfl, Nat.le_of_ble_eq_true rfl, rfl, ?_⟩
    show r_law_four_8 E [some (.own ts), some (.val (.int 1)), some (.val (.int j)), some (.own [cd x, cd (0, 0), cd (0, 0), cd w])]
    refine ⟨Or.inr ⟨rfl, rfl⟩, trivial, ite_f rfl ?_⟩
    exact fin _ _ _ _ (s4_set ⟨S.a1, S.a2⟩ o o ⟨S.d1, S.d2⟩)
  refine (show r_law_four_8 E [some (.own ts), some (.val (.int k)), some (.val (.int j)), some (.own [cd x, cd y, cd z, cd w])] from ?_)
  refine ⟨Or.inr ⟨rfl, rfl⟩, trivial, ?_⟩
  rw [eqv_int]
  refine ite_b (fun z2 => ?_) (fun z2 => ?_)
  · refine ⟨Nat.le_of_ble_eq_true rfl, Nat.le_of_ble_eq_true rfl, Nat.le_of_ble_eq_true rfl, rfl, ?_⟩
    show r_law_four_10 E [some (.own ts), some (.val (.int k)), some (.val (.int j)), some (.own [cd (0, 0), cd y, cd z, cd (0, 0)])]
    exact fin _ _ _ _ (s4_set o ⟨S.b1, S.b2⟩ ⟨S.c1, S.c2⟩ o)
  · exact fin _ _ _ _ S
theorem sem_law_four : ∀ ts ds R, c_law_four ts ds R → ds.length = 0 → w_law_four (edT R) (some (.own ts) :: ev0 3 ds) := by
  intro ts ds R h _
  obtain ⟨b, tk, hb, rfl, q⟩ := h
  refine ⟨rfl, b, 8, tk, by omega, rfl, by decide, by decide, fun k ts1 k0 k1 tk1 => ?_⟩
  show r_law_four_2 (edT R) [some (.own ts1), some (.val (.int k)), none, none]
  refine ⟨⟨by decide, by decide⟩, ?_⟩
  have turn : ∀ (bb : Int) (ts' : List PyData) (s2 s3 : Option Sl) (j : Int) (E : Ed), Tk bb ts' → bb ≤ b + 33 → fr s2 →
      (∀ (ts2 : List PyData) (x y z w : G), Tk (bb + 16) ts2 → E.nx [some (.own ts2), some (.val (.int k)), some (.val (.int j)), some (.own [cd x, cd y, cd z, cd w])]) → E.rt = (edT R).rt →
      gN 2 (.int j) [some (.own ts'), some (.val (.int k)), s2, s3] fun e => r_law_four_3 E e := fun bb ts' s2 s3 j E tk' hbb f2 n er => by
    refine gN_fr rfl f2 ?_
    refine ⟨rfl, bb, tk', by omega, rfl, fun p t1 p1 p2 k1 => ⟨rfl, bb + 4, k1, by omega, rfl, fun p' t2 p1' p2' k2 => ⟨rfl, bb + 4 + 4, k2, by omega, rfl, fun r t3 r1 r2 k3 => ⟨rfl, bb + 4 + 4 + 4, k3, by omega, rfl, fun s t4 s1 s2 k4 => ?_⟩⟩⟩⟩
    refine ⟨Nat.le_of_ble_eq_true rfl, by decide, Nat.le_of_ble_eq_true rfl, ?_⟩
    show r_law_four_4 E [some (.own t4), some (.val (.int k)), some (.val (.int j)), some (.own [cd p, cd p', cd r, cd s])]
    refine l4_ways k4 (s4_set ⟨p1, p2⟩ ⟨p1', p2'⟩ ⟨r1, r2⟩ ⟨s1, s2⟩) (fun x y z w S d => ?_) (fun x y z w => n t4 x y z w (k4.up (by omega)))
    rw [er]
    exact q x y z w t4 S d (k4.up (by omega))
  refine turn (b + 1) ts1 none none 0 _ tk1 (by omega) fr_none (fun t2 x y z w k2 => ?_) rfl
  refine turn (b + 1 + 16) t2 _ _ 1 _ k2 (by omega) (fr_val) (fun t3 x y z w k3 => ?_) rfl
  refine turn (b + 1 + 16 + 16) t3 _ _ 2 _ k3 (by omega) (fr_val) (fun t4 x y z w k4 => ?_) rfl
  refine ⟨Nat.le_of_ble_eq_true rfl, Nat.le_of_ble_eq_true rfl, Nat.le_of_ble_eq_true rfl, Nat.le_of_ble_eq_true rfl, Nat.le_of_ble_eq_true rfl, ?_⟩
  exact q (1, 0) (2, 1) (0, 0) (1, 0) t4 ⟨⟨by decide⟩, ⟨by decide⟩, ⟨by decide⟩, ⟨by decide⟩, ⟨by decide⟩, ⟨by decide⟩, ⟨by decide⟩, ⟨by decide⟩⟩ (by decide) (k4.up (by omega))
def w_law_drawn_map : Ws := (wRet (dFn 2 c_law_map (daC (dFnT 0 2 c_law_draw (daC (dLit (.int 2)) daN)) (daC (dFnT 0 1 c_law_four daN) daN))))
theorem sem_law_drawn_map : ∀ ts ds R, c_law_drawn_map ts ds R → ds.length = 0 → w_law_drawn_map (edT R) (some (.own ts) :: ev0 0 ds) := by
  intro ts ds R h _
  obtain ⟨b, tk, hb, rfl, q⟩ := h
  refine ⟨rfl, b, 2, tk, by omega, rfl, by decide, by decide, fun k ts1 k0 k1 tk1 => ?_⟩
  refine ⟨rfl, b + 1, tk1, by omega, rfl, fun x y z w ts2 s d tk2 => ?_⟩
  refine ⟨rfl, k, x, y, z, w, 4, rfl, s, by decide, d, fun g x y z w _ _ _ _ _ F => ?_⟩
  exact q k x y z w ts2 (by omega) F (tk2.up (by omega))
theorem drawn_ok {b : Int} {ts : List PyData} {R : PyData → List PyData → Prop} (tk : Tk b ts) (hb : b < 500000000000) (q : ∀ (f : Int) (A : M4) ts', (f = 0 ∨ f = 1) → Fm4 5 A → Tk (b + 60) ts' → R (mp4 f A) ts') : c_law_drawn_map ts [] R := ⟨b, tk, hb, rfl, fun f x y z w ts' hf F k => q f ⟨x, y, z, w⟩ ts' hf F k⟩
abbrev r_law_led_5 : Ws := (wRet (dFn 2 c_law_place_of (daC (dVar 11) (daC (dFn 2 c_law_plus (daC (dFn 2 c_law_times (daC (dVar 5) (daC (dVar 10) daN))) (daC (dTup (daC (dOp fMul (dOp fIx (dVar 6) (dLit (.int 0))) (dVar 9)) (daC (dOp fMul (dOp fIx (dVar 6) (dLit (.int 1))) (dVar 9)) daN))) daN))) daN))))
abbrev r_law_led_4 : Ws := (wSeq (wAsg (dFn 2 c_law_plus (daC (dFn 2 c_law_times (daC (dVar 3) (daC (dVar 10) daN))) (daC (dTup (daC (dOp fMul (dOp fIx (dVar 4) (dLit (.int 0))) (dVar 9)) (daC (dOp fMul (dOp fIx (dVar 4) (dLit (.int 1))) (dVar 9)) daN))) daN))) (gN 11)) r_law_led_5)
abbrev r_law_led_3 : Ws := (wSeq (wAsg (dIf (dTru (dOp fEq (dVar 2) (dLit (.int 1)))) (dTup (daC (dVar 7) (daC (dOp fSub (dLit (.int 0)) (dVar 8)) daN))) (dTup (daC (dVar 7) (daC (dVar 8) daN)))) (gN 10)) r_law_led_4)
abbrev r_law_led_2 : Ws := (wSeq (wAsg (dVar 1) (gT 3 (gsC (gN 7) (gsC (gN 8) (gsC (gN 9) gsN))))) r_law_led_3)
def w_law_led : Ws := (wSeq (wAsg (dVar 0) (gT 5 (gsC (gN 2) (gsC (gN 3) (gsC (gN 4) (gsC (gN 5) (gsC (gN 6) gsN))))))) (wSeq (wAsg (dVar 1) (gT 3 (gsC (gN 7) (gsC (gN 8) (gsC (gN 9) gsN))))) (wSeq (wAsg (dIf (dTru (dOp fEq (dVar 2) (dLit (.int 1)))) (dTup (daC (dVar 7) (daC (dOp fSub (dLit (.int 0)) (dVar 8)) daN))) (dTup (daC (dVar 7) (daC (dVar 8) daN)))) (gN 10)) (wSeq (wAsg (dFn 2 c_law_plus (daC (dFn 2 c_law_times (daC (dVar 3) (daC (dVar 10) daN))) (daC (dTup (daC (dOp fMul (dOp fIx (dVar 4) (dLit (.int 0))) (dVar 9)) (daC (dOp fMul (dOp fIx (dVar 4) (dLit (.int 1))) (dVar 9)) daN))) daN))) (gN 11)) (wRet (dFn 2 c_law_place_of (daC (dVar 11) (daC (dFn 2 c_law_plus (daC (dFn 2 c_law_times (daC (dVar 5) (daC (dVar 10) daN))) (daC (dTup (daC (dOp fMul (dOp fIx (dVar 6) (dLit (.int 0))) (dVar 9)) (daC (dOp fMul (dOp fIx (dVar 6) (dLit (.int 1))) (dVar 9)) daN))) daN))) daN))))))))
theorem sem_law_led : ∀ ds R, c_law_led ds R → ds.length = 2 → w_law_led (edP R) (ev0 10 ds) := by
  intro ds R h _
  obtain ⟨f, a, b, c, d, p, s, r, rfl, hf, ⟨_, _, _, _, _, _, _, _⟩, ⟨hp, hs, hr⟩, q⟩ := h
  refine ⟨rfl, ?_⟩
  show r_law_led_2 (edP R) [some (.val (mp f a b c d)), some (.val (pl p s r)), some (.val (.int f)), some (.val (cd a)), some (.val (cd b)), some (.val (cd c)), some (.val (cd d)), none, none, none, none, none]
  refine ⟨rfl, ?_⟩
  show r_law_led_3 (edP R) [some (.val (mp f a b c d)), some (.val (pl p s r)), some (.val (.int f)), some (.val (cd a)), some (.val (cd b)), some (.val (cd c)), some (.val (cd d)), some (.val (.int p)), some (.val (.int s)), some (.val (.int r)), none, none]
  obtain ⟨k1, k2⟩ := cj_sz (f := f) (p := (p, s)) hp hs
  have T : ∀ z : G, z = cj f (p, s) → r_law_led_4 (edP R) [some (.val (mp f a b c d)), some (.val (pl p s r)), some (.val (.int f)), some (.val (cd a)), some (.val (cd b)), some (.val (cd c)), some (.val (cd d)), some (.val (.int p)), some (.val (.int s)), some (.val (.int r)), some (.val (cd z)), none] := by
    intro z ez
    subst ez
    refine ⟨rfl, a.1, a.2, (cj f (p, s)).1, (cj f (p, s)).2, rfl, ⟨by walk_at "sz", by walk_at "sz", by walk_at "sz", by walk_at "sz"⟩, ?_⟩
    refine ⟨by walk_at "sz", by walk_at "sz", Nat.le_of_ble_eq_true rfl, ?_⟩
    refine ⟨rfl, _, _, _, _, rfl, ⟨by walk_at "sz", by walk_at "sz", by walk_at "sz", by walk_at "sz"⟩, ?_⟩
    show r_law_led_5 (edP R) [some (.val (mp f a b c d)), some (.val (pl p s r)), some (.val (.int f)), some (.val (cd a)), some (.val (cd b)), some (.val (cd c)), some (.val (cd d)), some (.val (.int p)), some (.val (.int s)), some (.val (.int r)), some (.val (cd (cj f (p, s)))), some (.val (cd (ga (gm a (cj f (p, s))) (b.1 * r, b.2 * r))))]
    refine ⟨rfl, c.1, c.2, (cj f (p, s)).1, (cj f (p, s)).2, rfl, ⟨by walk_at "sz", by walk_at "sz", by walk_at "sz", by walk_at "sz"⟩, ?_⟩
    refine ⟨by walk_at "sz", by walk_at "sz", Nat.le_of_ble_eq_true rfl, ?_⟩
    refine ⟨rfl, _, _, _, _, rfl, ⟨by walk_at "sz", by walk_at "sz", by walk_at "sz", by walk_at "sz"⟩, ?_⟩
    have e1 : ∀ (u v : G), Sz 900 u.1 → Sz 900 u.2 → Sz 900 v.1 → Sz 900 v.2 → Sz 4000 (ga (gm u (cj f (p, s))) (v.1 * r, v.2 * r)).1 ∧ Sz 4000 (ga (gm u (cj f (p, s))) (v.1 * r, v.2 * r)).2 := fun u v h1 h2 h3 h4 =>
      ⟨szUp (inferInstance : Sz _ ((u.1 * (cj f (p, s)).1 - u.2 * (cj f (p, s)).2) + v.1 * r)) (by decide), szUp (inferInstance : Sz _ ((u.1 * (cj f (p, s)).2 + u.2 * (cj f (p, s)).1) + v.2 * r)) (by decide)⟩
    obtain ⟨x1, x2⟩ := e1 a b inferInstance inferInstance inferInstance inferInstance
    obtain ⟨y1, y2⟩ := e1 c d inferInstance inferInstance inferInstance inferInstance
    exact ⟨rfl, _, _, rfl, ⟨x1, x2, y1, y2⟩, q⟩
  refine ⟨Or.inr ⟨rfl, rfl⟩, trivial, ?_⟩
  rw [eqv_int]
  rcases hf with rfl | rfl
  · refine ite_f rfl ⟨Nat.le_of_ble_eq_true rfl, ?_⟩
    exact T (p, s) rfl
  · refine ite_t rfl ⟨trivial, Nat.le_of_ble_eq_true rfl, ?_⟩
    exact T (p, 0 - s) (by show (p, 0 - s) = gj (p, s); exact Prod.ext rfl (by simp only [gj]; omega))
theorem law_led_ok {f : Int} {A : M4} {t : T3} {R : PyData → Prop} (hf : f = 0 ∨ f = 1) (F : S44 900 A) (S : S3 900 t) {u : T3} (eu : lt f A t = u) (q : R (pd u)) : c_law_led [mp4 f A, pd t] R :=
  ⟨f, A.a, A.b, A.c, A.d, t.1, t.2.1, t.2.2, rfl, hf, F, ⟨S.p, S.s, S.r⟩, by rw [ldp_lt, eu]; exact q⟩
abbrev r_law_after_4 : Ws := (wRet (dFn 2 c_law_map (daC (dIf (dTru (dOp fEq (dOp fIx (dVar 0) (dLit (.int 0))) (dOp fIx (dVar 1) (dLit (.int 0))))) (dLit (.int 0)) (dLit (.int 1))) (daC (dVar 10) daN))))
abbrev r_law_after_3 : Ws := (wSeq (wAsg (dLst (daC (dFn 2 c_law_plus (daC (dFn 2 c_law_times (daC (dVar 2) (daC (dVar 6) daN))) (daC (dFn 2 c_law_times (daC (dVar 3) (daC (dVar 8) daN))) daN))) (daC (dFn 2 c_law_plus (daC (dFn 2 c_law_times (daC (dVar 2) (daC (dVar 7) daN))) (daC (dFn 2 c_law_times (daC (dVar 3) (daC (dVar 9) daN))) daN))) (daC (dFn 2 c_law_plus (daC (dFn 2 c_law_times (daC (dVar 4) (daC (dVar 6) daN))) (daC (dFn 2 c_law_times (daC (dVar 5) (daC (dVar 8) daN))) daN))) (daC (dFn 2 c_law_plus (daC (dFn 2 c_law_times (daC (dVar 4) (daC (dVar 7) daN))) (daC (dFn 2 c_law_times (daC (dVar 5) (daC (dVar 9) daN))) daN))) daN))))) (gN 10)) r_law_after_4)
abbrev r_law_after_2 : Ws := (wSeq (wAsg (dIf (dTru (dOp fEq (dOp fIx (dVar 0) (dLit (.int 0))) (dLit (.int 1)))) (dLc [11] (diT (dSl (dVar 1) (doS (dLit (.int 1))) doN)) (gN 11) dYes (dFn 1 c_law_star (daC (dVar 11) daN))) (dSl (dVar 1) (doS (dLit (.int 1))) doN)) (gA 4 (gsC (gN 6) (gsC (gN 7) (gsC (gN 8) (gsC (gN 9) gsN)))))) r_law_after_3)
def w_law_after : Ws := (wSeq (wAsg (dSl (dVar 0) (doS (dLit (.int 1))) doN) (gT 4 (gsC (gN 2) (gsC (gN 3) (gsC (gN 4) (gsC (gN 5) gsN)))))) (wSeq (wAsg (dIf (dTru (dOp fEq (dOp fIx (dVar 0) (dLit (.int 0))) (dLit (.int 1)))) (dLc [11] (diT (dSl (dVar 1) (doS (dLit (.int 1))) doN)) (gN 11) dYes (dFn 1 c_law_star (daC (dVar 11) daN))) (dSl (dVar 1) (doS (dLit (.int 1))) doN)) (gA 4 (gsC (gN 6) (gsC (gN 7) (gsC (gN 8) (gsC (gN 9) gsN)))))) (wSeq (wAsg (dLst (daC (dFn 2 c_law_plus (daC (dFn 2 c_law_times (daC (dVar 2) (daC (dVar 6) daN))) (daC (dFn 2 c_law_times (daC (dVar 3) (daC (dVar 8) daN))) daN))) (daC (dFn 2 c_law_plus (daC (dFn 2 c_law_times (daC (dVar 2) (daC (dVar 7) daN))) (daC (dFn 2 c_law_times (daC (dVar 3) (daC (dVar 9) daN))) daN))) (daC (dFn 2 c_law_plus (daC (dFn 2 c_law_times (daC (dVar 4) (daC (dVar 6) daN))) (daC (dFn 2 c_law_times (daC (dVar 5) (daC (dVar 8) daN))) daN))) (daC (dFn 2 c_law_plus (daC (dFn 2 c_law_times (daC (dVar 4) (daC (dVar 7) daN))) (daC (dFn 2 c_law_times (daC (dVar 5) (daC (dVar 9) daN))) daN))) daN))))) (gN 10)) (wRet (dFn 2 c_law_map (daC (dIf (dTru (dOp fEq (dOp fIx (dVar 0) (dLit (.int 0))) (dOp fIx (dVar 1) (dLit (.int 0))))) (dLit (.int 0)) (dLit (.int 1))) (daC (dVar 10) daN)))))))
theorem laf_run {f i : Int} {a b c d e g h k : G} {V U : PyData} {n : Nat} {R : PyData → Prop} (hV : V = mp f a b c d) (hU : ∃ es, U = .tuple (.int i :: es) ∧ es.length = 4) (hf : f = 0 ∨ f = 1) (hi : i = 0 ∨ i = 1) (F : Fm n a b c d) (s : S4 n e g h k) (hn : n ≤ 400) (hd : dtm e g h k ≠ (0, 0))
    (q : ∀ D x y z w : G, D ≠ (0, 0) → m1 a b e h = gm D x → m1 a b g k = gm D y → m1 c d e h = gm D z → m1 c d g k = gm D w → Fm (2 * n + 3) x y z w → R (mp ((f + i) % 2) x y z w)) :
    r_law_after_3 (edP R) [some (.val V), some (.val U), some (.val (cd a)), some (.val (cd b)), some (.val (cd c)), some (.val (cd d)), some (.val (cd e)), some (.val (cd g)), some (.val (cd h)), some (.val (cd k)), none, none] := by
  subst hV
  obtain ⟨es, rfl, le⟩ := hU
  obtain ⟨e0, e1, e2, e3, rfl⟩ : ∃ e0 e1 e2 e3, es = [e0, e1, e2, e3] := by
    match es, le with
    | [e0, e1, e2, e3], _ => exact ⟨_, _, _, _, rfl⟩
  have S := F.sz
  have P := S.mul s
  obtain ⟨_, _, _, _, _, _, _, _⟩ := S.up (show n ≤ 5000 by omega)
  obtain ⟨_, _, _, _, _, _, _, _⟩ := s.up (show n ≤ 5000 by omega)
  refine ⟨rfl, a.1, a.2, e.1, e.2, rfl, ⟨by walk_at "sz", by walk_at "sz", by walk_at "sz", by walk_at "sz"⟩, ?_⟩
  refine ⟨rfl, b.1, b.2, h.1, h.2, rfl, ⟨by walk_at "sz", by walk_at "sz", by walk_at "sz", by walk_at "sz"⟩, ?_⟩
  refine ⟨rfl, _, _, _, _, rfl, ⟨by walk_at "sz", by walk_at "sz", by walk_at "sz", by walk_at "sz"⟩, ?_⟩
  refine ⟨rfl, a.1, a.2, g.1, g.2, rfl, ⟨by walk_at "sz", by walk_at "sz", by walk_at "sz", by walk_at "sz"⟩, ?_⟩
  refine ⟨rfl, b.1, b.2, k.1, k.2, rfl, ⟨by walk_at "sz", by walk_at "sz", by walk_at "sz", by walk_at "sz"⟩, ?_⟩
  refine ⟨rfl, _, _, _, _, rfl, ⟨by walk_at "sz", by walk_at "sz", by walk_at "sz", by walk_at "sz"⟩, ?_⟩
  refine ⟨rfl, c.1, c.2, e.1, e.2, rfl, ⟨by walk_at "sz", by walk_at "sz", by walk_at "sz", by walk_at "sz"⟩, ?_⟩
  refine ⟨rfl, d.1, d.2, h.1, h.2, rfl, ⟨by walk_at "sz", by walk_at "sz", by walk_at "sz", by walk_at "sz"⟩, ?_⟩
  refine ⟨rfl, _, _, _, _, rfl, ⟨by walk_at "sz", by walk_at "sz", by walk_at "sz", by walk_at "sz"⟩, ?_⟩
  refine ⟨rfl, c.1, c.2, g.1, g.2, rfl, ⟨by walk_at "sz", by walk_at "sz", by walk_at "sz", by walk_at "sz"⟩, ?_⟩
  refine ⟨rfl, d.1, d.2, k.1, k.2, rfl, ⟨by walk_at "sz", by walk_at "sz", by walk_at "sz", by walk_at "sz"⟩, ?_⟩
  refine ⟨rfl, _, _, _, _, rfl, ⟨by walk_at "sz", by walk_at "sz", by walk_at "sz", by walk_at "sz"⟩, ?_⟩
  refine ⟨Nat.le_of_ble_eq_true rfl, ?_⟩
  have fin : ∀ t : Int, t = (f + i) % 2 → c_law_map [.int t, .list [cd (m1 a b e h), cd (m1 a b g k), cd (m1 c d e h), cd (m1 c d g k)]] R := fun t et => by
    subst et
    exact ⟨_, _, _, _, _, 2 * n + 2, rfl, P, by omega, by rw [dtm_mul]; exact gm_ne0 F.dt hd, q⟩
  refine ⟨Or.inr ⟨rfl, rfl⟩, trivial, ?_⟩
  rw [eqv_int]
  rcases hf with rfl | rfl <;> rcases hi with rfl | rfl
  · exact ite_t rfl ⟨rfl, fin 0 rfl⟩
  · exact ite_f rfl ⟨rfl, fin 1 rfl⟩
  · exact ite_f rfl ⟨rfl, fin 1 rfl⟩
  · exact ite_t rfl ⟨rfl, fin 0 rfl⟩
theorem sem_law_after : ∀ ds R, c_law_after ds R → ds.length = 2 → w_law_after (edP R) (ev0 10 ds) := by
  intro ds R hh _
  obtain ⟨f, i, a, b, c, d, e, g, h, k, n, rfl, hf, hi, F, F', hn, q⟩ := hh
  refine ⟨rfl, ?_⟩
  show r_law_after_2 (edP R) [some (.val (mp f a b c d)), some (.val (mp i e g h k)), some (.val (cd a)), some (.val (cd b)), some (.val (cd c)), some (.val (cd d)), none, none, none, none, none, none]
  refine ⟨Or.inr ⟨rfl, rfl⟩, trivial, ?_⟩
  rw [eqv_int]
  rcases hf with rfl | rfl
  · refine ite_f rfl (Or.inr ⟨rfl, ?_⟩)
    exact laf_run rfl ⟨_, rfl, rfl⟩ (.inl rfl) hi F F'.sz hn F'.dt q
  · refine ite_t rfl ?_
    refine lc_map (f := fun d => cd (gj (toG d))) rfl (Nat.le_of_ble_eq_true rfl) (fun v hv R' r => ?_) ?_
    · have hx' : ∃ p : G, v = cd p := by
        have hv : v ∈ [cd e, cd g, cd h, cd k] := hv
        simp only [List.mem_cons, List.not_mem_nil, or_false] at hv
        rcases hv with rfl | rfl | rfl | rfl <;> exact ⟨_, rfl⟩
      obtain ⟨p, rfl⟩ := hx'
      exact ⟨rfl, p.1, p.2, rfl, r⟩
    · refine Or.inl ⟨rfl, ?_⟩
      exact laf_run rfl ⟨_, rfl, rfl⟩ (.inr rfl) hi F (F'.sz.cj (f := 1)) hn (by show dtm (cj 1 e) (cj 1 g) (cj 1 h) (cj 1 k) ≠ _; rw [dtm_cj]; exact cj_ne F'.dt) q
abbrev r_law_backward_2 : Ws := (wRet (dFn 2 c_law_map (daC (dOp fIx (dVar 0) (dLit (.int 0))) (daC (dLst (daC (dVar 4) (daC (dTup (daC (dOp fSub (dLit (.int 0)) (dOp fIx (dVar 2) (dLit (.int 0)))) (daC (dOp fSub (dLit (.int 0)) (dOp fIx (dVar 2) (dLit (.int 1)))) daN))) (daC (dTup (daC (dOp fSub (dLit (.int 0)) (dOp fIx (dVar 3) (dLit (.int 0)))) (daC (dOp fSub (dLit (.int 0)) (dOp fIx (dVar 3) (dLit (.int 1)))) daN))) (daC (dVar 1) daN))))) daN))))
def w_law_backward : Ws := (wSeq (wAsg (dIf (dTru (dOp fEq (dOp fIx (dVar 0) (dLit (.int 0))) (dLit (.int 1)))) (dLc [5] (diT (dSl (dVar 0) (doS (dLit (.int 1))) doN)) (gN 5) dYes (dFn 1 c_law_star (daC (dVar 5) daN))) (dSl (dVar 0) (doS (dLit (.int 1))) doN)) (gA 4 (gsC (gN 1) (gsC (gN 2) (gsC (gN 3) (gsC (gN 4) gsN)))))) (wRet (dFn 2 c_law_map (daC (dOp fIx (dVar 0) (dLit (.int 0))) (daC (dLst (daC (dVar 4) (daC (dTup (daC (dOp fSub (dLit (.int 0)) (dOp fIx (dVar 2) (dLit (.int 0)))) (daC (dOp fSub (dLit (.int 0)) (dOp fIx (dVar 2) (dLit (.int 1)))) daN))) (daC (dTup (daC (dOp fSub (dLit (.int 0)) (dOp fIx (dVar 3) (dLit (.int 0)))) (daC (dOp fSub (dLit (.int 0)) (dOp fIx (dVar 3) (dLit (.int 1)))) daN))) (daC (dVar 1) daN))))) daN)))))
theorem lbw_run {f : Int} {a b c d e g h k : G} {n : Nat} {R : PyData → Prop} (hf : f = 0 ∨ f = 1) (s : S4 n e g h k) (hn : n ≤ 800) (hd : dtm e g h k ≠ (0, 0))
    (q : ∀ D x y z w : G, D ≠ (0, 0) → k = gm D x → gn g = gm D y → gn h = gm D z → e = gm D w → Fm (n + 1) x y z w → R (mp f x y z w)) :
    r_law_backward_2 (edP R) [some (.val (mp f a b c d)), some (.val (cd e)), some (.val (cd g)), some (.val (cd h)), some (.val (cd k)), none] := by
  refine ⟨trivial, trivial, Nat.le_of_ble_eq_true rfl, trivial, trivial, Nat.le_of_ble_eq_true rfl, Nat.le_of_ble_eq_true rfl, ?_⟩
  have eg : ∀ p : G, (.tuple [.int (0 - p.1), .int (0 - p.2)] : PyData) = cd (gn p) := fun p => by
    rw [Int.zero_sub, Int.zero_sub]
    rfl
  refine ⟨rfl, f, k, gn g, gn h, e, n, ?_, s.adj, by omega, ?_, q⟩
  · rw [← eg, ← eg]
  · have : dtm k (gn g) (gn h) e = dtm e g h k := Prod.ext (by simp only [dtm, gu, gm, gn]; grind) (by simp only [dtm, gu, gm, gn]; grind)
    rw [this]
    exact hd
theorem sem_law_backward : ∀ ds R, c_law_backward ds R → ds.length = 1 → w_law_backward (edP R) (ev0 5 ds) := by
  intro ds R h _
  obtain ⟨f, a, b, c, d, n, rfl, hf, F, hn, q⟩ := h
  refine ⟨Or.inr ⟨rfl, rfl⟩, trivial, ?_⟩
  rw [eqv_int]
  rcases hf with rfl | rfl
  · refine ite_f rfl (Or.inr ⟨rfl, ?_⟩)
    exact lbw_run (.inl rfl) F.sz hn F.dt q
  · refine ite_t rfl ?_
    refine lc_map (f := fun d => cd (gj (toG d))) rfl (Nat.le_of_ble_eq_true rfl) (fun v hv R' r => ?_) ?_
    · have hx' : ∃ p : G, v = cd p := by
        have hv : v ∈ [cd a, cd b, cd c, cd d] := hv
        simp only [List.mem_cons, List.not_mem_nil, or_false] at hv
        rcases hv with rfl | rfl | rfl | rfl <;> exact ⟨_, rfl⟩
      obtain ⟨p, rfl⟩ := hx'
      exact ⟨rfl, p.1, p.2, rfl, r⟩
    · refine Or.inl ⟨rfl, ?_⟩
      exact lbw_run (.inr rfl) (F.sz.cj (f := 1)) hn (by show dtm (cj 1 a) (cj 1 b) (cj 1 c) (cj 1 d) ≠ _; rw [dtm_cj]; exact cj_ne F.dt) q
def w_law_stays : Ws := (wRet (dTup (daC (dLit (.int 0)) (daC (dTup (daC (dLit (.int 1)) (daC (dLit (.int 0)) daN))) (daC (dTup (daC (dLit (.int 0)) (daC (dLit (.int 0)) daN))) (daC (dTup (daC (dLit (.int 0)) (daC (dLit (.int 0)) daN))) (daC (dTup (daC (dLit (.int 1)) (daC (dLit (.int 0)) daN))) daN)))))))
theorem sem_law_stays : ∀ ds R, c_law_stays ds R → ds.length = 0 → w_law_stays (edP R) (ev0 0 ds) := by
  intro ds R h _
  obtain ⟨rfl, q⟩ := h
  exact ⟨Nat.le_of_ble_eq_true rfl, Nat.le_of_ble_eq_true rfl, Nat.le_of_ble_eq_true rfl, Nat.le_of_ble_eq_true rfl, Nat.le_of_ble_eq_true rfl, q⟩
def w_law_power : Ws := (wSeq (wPar 2 3 (daC (dFn 0 c_law_stays daN) (daC (dIf (dTru (dOp fGt (dVar 1) (dLit (.int 0)))) (dVar 0) (dFn 1 c_law_backward (daC (dVar 0) daN))) daN))) (wSeq (wFor (diR1 (daC (dCal fAbs (daC (dVar 1) daN)) daN)) (gN 4) (wAsg (dFn 2 c_law_after (daC (dVar 3) (daC (dVar 2) daN))) (gN 2))) (wRet (dVar 2))))
@[irreducible] noncomputable def q_law_power_3 : Ws := hid (wAsg (dFn 2 c_law_after (daC (dVar 3) (daC (dVar 2) daN))) (gN 2))
@[irreducible] noncomputable def q_law_power_4 : Ws := hid (wRet (dVar 2))
@[irreducible] noncomputable def q_law_power_2 : Ws := hid (wSeq (wFor (diR1 (daC (dCal fAbs (daC (dVar 1) daN)) daN)) (gN 4) q_law_power_3) q_law_power_4)
@[irreducible] noncomputable def q_law_power_1 : Ws := hid (wSeq (wPar 2 3 (daC (dFn 0 c_law_stays daN) (daC (dIf (dTru (dOp fGt (dVar 1) (dLit (.int 0)))) (dVar 0) (dFn 1 c_law_backward (daC (dVar 0) daN))) daN))) q_law_power_2)
theorem e_law_power : w_law_power = q_law_power_1 := by delta q_law_power_1 q_law_power_2 q_law_power_4 q_law_power_3; simp only [hid_eq]; with_unfolding_all rfl
theorem sem_law_power : ∀ ds R, c_law_power ds R → ds.length = 2 → w_law_power (edP R) (ev0 3 ds) := by
  intro ds R h _
  obtain ⟨P, m, rfl, ok, F, hm, hk, q⟩ := h
  have key : ∀ S : MP, MOk S → (∀ k : Nat, k ≤ m.natAbs → Fm4 400 (pw S k).2) → Fm4 400 S.2 → R (mpP (pw S m.natAbs)) → q_law_power_2 (edP R) [some (.val (mpP P)), some (.val (.int m)), some (.val (mpP p1)), some (.val (mpP S)), none] := by
    intro S okS hS FS q
    (show q_law_power_2 _ [_, _, _, _, _]; delta q_law_power_2; refine hid_of ?_)
    have em : (if m < 0 then -m else m).toNat = m.natAbs := by
      by_cases z : m < 0
      · rw [if_pos z]; omega
      · rw [if_neg z]; omega
    refine ⟨⟨by split <;> omega, by split <;> omega⟩, ?_⟩
    refine foD_at (rngD 0 (if m < 0 then -m else m).toNat) (fun pre ev => ∃ o, fr o ∧ ev = [some (.val (mpP P)), some (.val (.int m)), some (.val (mpP (pw S pre.length))), some (.val (mpP S)), o]) (fun pre d post ev E' e i nx _ _ _ => ?_) (pre := []) rfl ⟨none, fr_none, rfl⟩ (fun ev i => ?_)
    · obtain ⟨o, fo, rfl⟩ := i
      have hl : pre.length < m.natAbs := by
        have l := congrArg List.length e
        unfold rngD at l
        rw [List.length_map, List.length_range, em, List.length_append, List.length_cons] at l
        omega
      have okk := okS.pw pre.length
      refine gN_fr (s := o) rfl fo ?_
      (show q_law_power_3 _ [_, _, _, _, _]; delta q_law_power_3; refine hid_of ?_)
      refine ⟨rfl, joined_ok (f := S.1) (i := (pw S pre.length).1) okS.1 okk.1 FS (hS _ (by omega)) (by decide) rfl rfl ?_⟩
      refine nx _ ⟨some (.val d), fr_val, ?_⟩
      rw [List.length_append, List.length_singleton, pw_succ okS]
      rfl
    · obtain ⟨o, fo, rfl⟩ := i
      (show q_law_power_4 _ [_, _, _, _, _]; delta q_law_power_4; refine hid_of ?_)
      have l : (rngD 0 (if m < 0 then -m else m).toNat).length = m.natAbs := by
        unfold rngD
        rw [List.length_map, List.length_range, em]
      rw [l]
      exact q
  rw [e_law_power]; (show q_law_power_1 _ [_, _, _, _, _]; delta q_law_power_1; refine hid_of ?_)
  refine ⟨rfl, rfl, ?_⟩
  refine ⟨trivial, trivial, ?_⟩
  refine ite_b (fun z => ?_) (fun z => ?_)
  · have z : 0 < m := of_decide_eq_true z
    rw [if_pos z] at hk
    exact key P ok hk (F.up (by decide)) (by unfold pz at q; rw [if_pos z, show m.toNat = m.natAbs by omega] at q; exact q)
  · have z : ¬(0 < m) := of_decide_eq_false z
    rw [if_neg z] at hk
    refine ⟨rfl, back_ok ok.1 F (by decide) rfl ?_⟩
    exact key (pb P) ok.back hk ((bck_fm F).up (by decide)) (by unfold pz at q; rw [if_neg z, show (-m).toNat = m.natAbs by omega] at q; exact q)
theorem lpower_ok {P Q : MP} {m : Int} {R : PyData → Prop} (ok : MOk P) (F : Fm4 300 P.2) (hm : m.natAbs ≤ 60) (hk : ∀ k : Nat, k ≤ m.natAbs → Fm4 400 (pw (if 0 < m then P else pb P) k).2) (e : pz P m = Q) (q : R (mpP Q)) : c_law_power [mpP P, .int m] R := ⟨P, m, rfl, ok, F, hm, hk, by rw [e]; exact q⟩
theorem hk_ok {P : MP} {n N : Nat} {m : Int} (h : P.1 = 0 ∨ P.1 = 1) (F : Fm4 n P.2) (l : m.natAbs * (n + 4) + 1 ≤ N) : ∀ k : Nat, k ≤ m.natAbs → Fm4 N (pw (if 0 < m then P else pb P) k).2 := fun k hk => by
  have lk : k * (n + 4) ≤ m.natAbs * (n + 4) := Nat.mul_le_mul_right _ hk
  by_cases z : 0 < m
  · rw [if_pos z]
    refine (pw_fm h F k).up ?_
    have : k * (n + 3) ≤ k * (n + 4) := Nat.mul_le_mul_left _ (by omega)
    omega
  · rw [if_neg z]
    refine (pw_fm (P := pb P) (n := n + 1) h (bck_fm F) k).up ?_
    have : n + 1 + 3 = n + 4 := by omega
    rw [this]
    omega
theorem joinP {P Q U : MP} {n : Nat} {R : PyData → Prop} (hP : MOk P) (hQ : MOk Q) (F : Fm4 n P.2) (F' : Fm4 n Q.2) (hn : n ≤ 400) (e : pm P Q = U) (q : R (mpP U)) : c_joined [mpP P, mpP Q] R := joined_ok (f := P.1) (i := Q.1) hP.1 hQ.1 F F' hn (g := U.1) (congrArg Prod.fst e) (U := U.2) (congrArg Prod.snd e) q
def w_law_powers_right : Ws := (wSeq (wPar 4 5 (daC (dFn 2 c_law_power (daC (dVar 0) (daC (dVar 1) daN))) (daC (dFn 2 c_law_power (daC (dVar 0) (daC (dVar 2) daN))) daN))) (wSeq (wIf (dTru (dOp fNe (dCal fRepr (daC (dLst (daC (dFn 2 c_power_of (daC (dVar 0) (daC (dVar 1) daN))) (daC (dFn 2 c_power_of (daC (dVar 0) (daC (dVar 2) daN))) daN))) daN)) (dCal fRepr (daC (dLst (daC (dVar 4) (daC (dVar 5) daN))) daN)))) (wRet (dLit (.bool false))) wNx) (wSeq (wIf (dTru (dOp fNe (dCal fRepr (daC (dLst (daC (dFn 2 c_power_of (daC (dVar 0) (daC (dOp fCat (dVar 1) (dVar 2)) daN))) (daC (dFn 2 c_power_of (daC (dVar 0) (daC (dLit (.int 0)) daN))) daN))) daN)) (dCal fRepr (daC (dLst (daC (dFn 2 c_law_after (daC (dVar 4) (daC (dVar 5) daN))) (daC (dFn 0 c_law_stays daN) daN))) daN)))) (wRet (dLit (.bool false))) wNx) (wSeq (wAsg (dLst (daC (dFn 2 c_law_led (daC (dVar 4) (daC (dVar 3) daN))) (daC (dFn 2 c_law_led (daC (dVar 5) (daC (dVar 3) daN))) daN))) (gN 6)) (wSeq (wAsg (dLst (daC (dFn 3 c_place_after (daC (dVar 0) (daC (dVar 3) (daC (dVar 1) daN)))) (daC (dFn 3 c_place_after (daC (dVar 0) (daC (dVar 3) (daC (dVar 2) daN)))) daN))) (gN 7)) (wRet (dAnd (dOp fEq (dCal fRepr (daC (dVar 7) daN)) (dCal fRepr (daC (dVar 6) daN))) (dOp fEq (dCal fRepr (daC (dFn 2 c_after (daC (dFn 2 c_power_of (daC (dVar 0) (daC (dVar 1) daN))) (daC (dFn 2 c_power_of (daC (dVar 0) (daC (dVar 2) daN))) daN))) daN)) (dCal fRepr (daC (dFn 2 c_law_after (daC (dVar 4) (daC (dVar 5) daN))) daN))))))))))
@[irreducible] noncomputable def q_law_powers_right_3 : Ws := hid (wRet (dLit (.bool false)))
@[irreducible] noncomputable def q_law_powers_right_5 : Ws := hid (wRet (dLit (.bool false)))
@[irreducible] noncomputable def q_law_powers_right_8 : Ws := hid (wRet (dAnd (dOp fEq (dCal fRepr (daC (dVar 7) daN)) (dCal fRepr (daC (dVar 6) daN))) (dOp fEq (dCal fRepr (daC (dFn 2 c_after (daC (dFn 2 c_power_of (daC (dVar 0) (daC (dVar 1) daN))) (daC (dFn 2 c_power_of (daC (dVar 0) (daC (dVar 2) daN))) daN))) daN)) (dCal fRepr (daC (dFn 2 c_law_after (daC (dVar 4) (daC (dVar 5) daN))) daN)))))
@[irreducible] noncomputable def q_law_powers_right_7 : Ws := hid (wSeq (wAsg (dLst (daC (dFn 3 c_place_after (daC (dVar 0) (daC (dVar 3) (daC (dVar 1) daN)))) (daC (dFn 3 c_place_after (daC (dVar 0) (daC (dVar 3) (daC (dVar 2) daN)))) daN))) (gN 7)) q_law_powers_right_8)
@[irreducible] noncomputable def q_law_powers_right_6 : Ws := hid (wSeq (wAsg (dLst (daC (dFn 2 c_law_led (daC (dVar 4) (daC (dVar 3) daN))) (daC (dFn 2 c_law_led (daC (dVar 5) (daC (dVar 3) daN))) daN))) (gN 6)) q_law_powers_right_7)
@[irreducible] noncomputable def q_law_powers_right_4 : Ws := hid (wSeq (wIf (dTru (dOp fNe (dCal fRepr (daC (dLst (daC (dFn 2 c_power_of (daC (dVar 0) (daC (dOp fCat (dVar 1) (dVar 2)) daN))) (daC (dFn 2 c_power_of (daC (dVar 0) (daC (dLit (.int 0)) daN))) daN))) daN)) (dCal fRepr (daC (dLst (daC (dFn 2 c_law_after (daC (dVar 4) (daC (dVar 5) daN))) (daC (dFn 0 c_law_stays daN) daN))) daN)))) q_law_powers_right_5 wNx) q_law_powers_right_6)
@[irreducible] noncomputable def q_law_powers_right_2 : Ws := hid (wSeq (wIf (dTru (dOp fNe (dCal fRepr (daC (dLst (daC (dFn 2 c_power_of (daC (dVar 0) (daC (dVar 1) daN))) (daC (dFn 2 c_power_of (daC (dVar 0) (daC (dVar 2) daN))) daN))) daN)) (dCal fRepr (daC (dLst (daC (dVar 4) (daC (dVar 5) daN))) daN)))) q_law_powers_right_3 wNx) q_law_powers_right_4)
@[irreducible] noncomputable def q_law_powers_right_1 : Ws := hid (wSeq (wPar 4 5 (daC (dFn 2 c_law_power (daC (dVar 0) (daC (dVar 1) daN))) (daC (dFn 2 c_law_power (daC (dVar 0) (daC (dVar 2) daN))) daN))) q_law_powers_right_2)
theorem e_law_powers_right : w_law_powers_right = q_law_powers_right_1 := by delta q_law_powers_right_1 q_law_powers_right_2 q_law_powers_right_4 q_law_powers_right_6 q_law_powers_right_7 q_law_powers_right_8 q_law_powers_right_5 q_law_powers_right_3; simp only [hid_eq]; with_unfolding_all rfl
theorem sem_law_powers_right : ∀ ds R, c_law_powers_right ds R → ds.length = 4 → w_law_powers_right (edP R) (ev0 4 ds) := by
  intro ds R h _
  obtain ⟨P, i, j, t, rfl, hf, F, ⟨i0, i1⟩, ⟨j0, j1⟩, T, S, q⟩ := h
  have ok : MOk P := ⟨hf, 5, F⟩
  have F3 : Fm4 300 P.2 := F.up (by decide)
  have F1 : Fm4 91 (pz P i).2 := pz_fm (hk_ok hf F (by omega))
  have F2 : Fm4 91 (pz P j).2 := pz_fm (hk_ok hf F (by omega))
  have F4 : Fm4 91 (pz P (i + j)).2 := pz_fm (hk_ok hf F (by omega))
  have hi : ∀ k : Nat, k ≤ i.natAbs → Fm4 400 (pw (if 0 < i then P else pb P) k).2 := hk_ok hf F (by omega)
  have hj : ∀ k : Nat, k ≤ j.natAbs → Fm4 400 (pw (if 0 < j then P else pb P) k).2 := hk_ok hf F (by omega)
  have hs : ∀ k : Nat, k ≤ (i + j).natAbs → Fm4 400 (pw (if 0 < i + j then P else pb P) k).2 := hk_ok hf F (by omega)
  have h0 : ∀ k : Nat, k ≤ (0 : Int).natAbs → Fm4 400 (pw (if 0 < (0 : Int) then P else pb P) k).2 := hk_ok hf F (by decide)
  have e4 := pz_add ok i j
  have e0 : pz P 0 = p1 := pz_pos (P := P) 0
  have o1 := ok.pz i
  have o2 := ok.pz j
  have o4 := ok.pz (i + j)
  obtain ⟨Q1, e1⟩ : ∃ Q, pz P i = Q := ⟨_, rfl⟩
  obtain ⟨Q2, e2⟩ : ∃ Q, pz P j = Q := ⟨_, rfl⟩
  obtain ⟨Q4, e3⟩ : ∃ Q, pz P (i + j) = Q := ⟨_, rfl⟩
  rw [e1] at F1 o1 e4
  rw [e2] at F2 o2 e4
  rw [e3] at F4 o4 e4
  have g1 := sz01 o1.1
  have g2 := sz01 o2.1
  have g4 := sz01 o4.1
  obtain ⟨_, _, _, _, _, _, _, _⟩ := id F1.sz
  obtain ⟨_, _, _, _, _, _, _, _⟩ := id F2.sz
  obtain ⟨_, _, _, _, _, _, _, _⟩ := id F4.sz
  rw [e_law_powers_right]; (show q_law_powers_right_1 _ [_, _, _, _, _, _, _, _]; delta q_law_powers_right_1; refine hid_of ?_)
  refine ⟨rfl, lpower_ok ok F3 (by omega) hi e1 ⟨rfl, lpower_ok ok F3 (by omega) hj e2 ?_⟩⟩
  (show q_law_powers_right_2 _ [_, _, _, _, _, _, _, _]; delta q_law_powers_right_2; refine hid_of ?_)
  refine ⟨rfl, power_ok ok F3 (by omega) hi e1 ⟨rfl, power_ok ok F3 (by omega) hj e2 ?_⟩⟩
  refine ⟨Nat.le_of_ble_eq_true rfl, ?_⟩
  refine (show RP (.list [mpP Q1, mpP Q2]) _ from ?_)
  walk_at "rp"
  refine ⟨Nat.le_of_ble_eq_true rfl, ?_⟩
  refine (show RP (.list [mpP Q1, mpP Q2]) _ from ?_)
  walk_at "rp"
  refine ⟨Or.inl rfl, trivial, ?_⟩
  walk_at "ne"
  (show q_law_powers_right_4 _ [_, _, _, _, _, _, _, _]; delta q_law_powers_right_4; refine hid_of ?_)
  refine ⟨rfl, power_ok ok F3 (by omega) hs e3 ⟨rfl, pone_ok ok F3 (by decide) h0 e0 ?_⟩⟩
  refine ⟨Nat.le_of_ble_eq_true rfl, ?_⟩
  refine (show RP (.list [mpP Q4, mp 0 (1, 0) (0, 0) (0, 0) (1, 0)]) _ from ?_)
  walk_at "rp"
  refine ⟨rfl, joinP o1 o2 F1 F2 (by decide) e4 ⟨rfl, rfl, ?_⟩⟩
  refine ⟨Nat.le_of_ble_eq_true rfl, ?_⟩
  refine (show RP (.list [mpP Q4, mp 0 (1, 0) (0, 0) (0, 0) (1, 0)]) _ from ?_)
  walk_at "rp"
  refine ⟨Or.inl rfl, trivial, ?_⟩
  walk_at "ne"
  obtain ⟨u1, v1, _⟩ := lt_ok (f := Q1.1) F1.sz F1.dt T S
  obtain ⟨u2, v2, _⟩ := lt_ok (f := Q2.1) F2.sz F2.dt T S
  have e5 : lt (pz P i).1 (pz P i).2 t = lt Q1.1 Q1.2 t := by rw [e1]
  have e6 : lt (pz P j).1 (pz P j).2 t = lt Q2.1 Q2.2 t := by rw [e2]
  have S8 : S3 800 t := S.up (by decide)
  obtain ⟨w1, ew1⟩ : ∃ w, lt Q1.1 Q1.2 t = w := ⟨_, rfl⟩
  obtain ⟨w2, ew2⟩ : ∃ w, lt Q2.1 Q2.2 t = w := ⟨_, rfl⟩
  rw [ew1] at u1 v1 e5
  rw [ew2] at u2 v2 e6
  have v1 : S3 200 w1 := v1.up (by decide)
  have v2 : S3 200 w2 := v2.up (by decide)
  have a1 := v1.p
  have a2 := v1.s
  have a3 := v1.r
  have b1 := v2.p
  have b2 := v2.s
  have b3 := v2.r
  (show q_law_powers_right_6 _ [_, _, _, _, _, _, _, _]; delta q_law_powers_right_6; refine hid_of ?_)
  refine ⟨rfl, law_led_ok o1.1 (F1.sz.up (by decide)) (S8.up (by decide)) ew1 ⟨rfl, law_led_ok o2.1 (F2.sz.up (by decide)) (S8.up (by decide)) ew2 ?_⟩⟩
  refine ⟨Nat.le_of_ble_eq_true rfl, ?_⟩
  (show q_law_powers_right_7 _ [_, _, _, _, _, _, _, _]; delta q_law_powers_right_7; refine hid_of ?_)
  refine ⟨rfl, after_ok ok F3 (by omega) hi T S8 e5 ⟨rfl, after_ok ok F3 (by omega) hj T S8 e6 ?_⟩⟩
  refine ⟨Nat.le_of_ble_eq_true rfl, ?_⟩
  (show q_law_powers_right_8 _ [_, _, _, _, _, _, _, _]; delta q_law_powers_right_8; refine hid_of ?_)
  refine (show RP (.list [pd w1, pd w2]) _ from ?_)
  walk_at "rp"
  refine (show RP (.list [pd w1, pd w2]) _ from ?_)
  walk_at "rp"
  refine ⟨Or.inl rfl, ?_⟩
  rw [eqv_str, decide_eq_true (p := _ = _) rfl]
  refine ite_t rfl ?_
  refine ⟨rfl, power_ok ok F3 (by omega) hi e1 ⟨rfl, power_ok ok F3 (by omega) hj e2 ⟨rfl, joinP o1 o2 F1 F2 (by decide) e4 ?_⟩⟩⟩
  refine (show RP (mpP Q4) _ from ?_)
  walk_at "rp"
  refine ⟨rfl, joinP o1 o2 F1 F2 (by decide) e4 ?_⟩
  refine (show RP (mpP Q4) _ from ?_)
  walk_at "rp"
  refine ⟨Or.inl rfl, ?_⟩
  rw [eqv_str, decide_eq_true (p := _ = _) rfl]
  exact q
theorem pright_ok {P : MP} {i j : Int} {t : T3} {R : PyData → Prop} (hf : P.1 = 0 ∨ P.1 = 1) (F : Fm4 5 P.2) (hi : -5 ≤ i ∧ i ≤ 5) (hj : -5 ≤ j ∧ j ≤ 5) (T : Pt t) (S : S3 4 t) (q : R (.bool true)) : c_law_powers_right [mpP P, .int i, .int j, pd t] R := ⟨P, i, j, t, rfl, hf, F, hi, hj, T, S, q⟩
def w_law_far_right : Ws := (wSeq (wPar3 1 2 3 (daC (dFnT 0 1 c_law_little daN) (daC (dFnT 0 2 c_law_pick (daC (dTup (daC (dTup (daC (dLit (.int 1)) (daC (dLit (.int 0)) daN))) (daC (dTup (daC (dLit (.int 0)) (daC (dLit (.int 1)) daN))) (daC (dTup (daC (dU fNeg (dLit (.int 1))) (daC (dLit (.int 0)) daN))) (daC (dTup (daC (dLit (.int 0)) (daC (dU fNeg (dLit (.int 1))) daN))) daN))))) daN)) (daC (dOp fSub (dFnT 0 2 c_law_draw (daC (dLit (.int 121)) daN)) (dLit (.int 60))) daN)))) (wSeq (wAsg (dFn 2 c_law_map (daC (dLit (.int 0)) (daC (dLst (daC (dTup (daC (dLit (.int 1)) (daC (dLit (.int 0)) daN))) (daC (dVar 1) (daC (dTup (daC (dLit (.int 0)) (daC (dLit (.int 0)) daN))) (daC (dTup (daC (dLit (.int 1)) (daC (dLit (.int 0)) daN))) daN))))) daN))) (gN 4)) (wSeq (wAsg (dFn 2 c_law_map (daC (dLit (.int 0)) (daC (dLst (daC (dTup (daC (dLit (.int 1)) (daC (dLit (.int 0)) daN))) (daC (dTup (daC (dOp fMul (dVar 3) (dOp fIx (dVar 1) (dLit (.int 0)))) (daC (dOp fMul (dVar 3) (dOp fIx (dVar 1) (dLit (.int 1)))) daN))) (daC (dTup (daC (dLit (.int 0)) (daC (dLit (.int 0)) daN))) (daC (dTup (daC (dLit (.int 1)) (daC (dLit (.int 0)) daN))) daN))))) daN))) (gN 5)) (wSeq (wIf (dTru (dOp fNe (dCal fRepr (daC (dFn 2 c_power_of (daC (dVar 4) (daC (dVar 3) daN))) daN)) (dCal fRepr (daC (dVar 5) daN)))) (wRet (dLit (.bool false))) wNx) (wSeq (wPar 6 7 (daC (dFn 2 c_law_map (daC (dLit (.int 0)) (daC (dLst (daC (dVar 2) (daC (dTup (daC (dLit (.int 0)) (daC (dLit (.int 0)) daN))) (daC (dTup (daC (dLit (.int 0)) (daC (dLit (.int 0)) daN))) (daC (dTup (daC (dLit (.int 1)) (daC (dLit (.int 0)) daN))) daN))))) daN))) (daC (dTup (daC (dLit (.int 1)) (daC (dLit (.int 0)) daN))) daN))) (wSeq (wFor (diR1 (daC (dOp fMod (dCal fInt (daC (dVar 3) daN)) (dLit (.int 4))) daN)) (gN 8) (wAsg (dFn 2 c_law_times (daC (dVar 7) (daC (dVar 2) daN))) (gN 7))) (wRet (dOp fEq (dCal fRepr (daC (dFn 2 c_power_of (daC (dVar 6) (daC (dVar 3) daN))) daN)) (dCal fRepr (daC (dFn 2 c_law_map (daC (dLit (.int 0)) (daC (dLst (daC (dVar 7) (daC (dTup (daC (dLit (.int 0)) (daC (dLit (.int 0)) daN))) (daC (dTup (daC (dLit (.int 0)) (daC (dLit (.int 0)) daN))) (daC (dTup (daC (dLit (.int 1)) (daC (dLit (.int 0)) daN))) daN))))) daN))) daN))))))))))
@[irreducible] noncomputable def q_law_far_right_5 : Ws := hid (wRet (dLit (.bool false)))
@[irreducible] noncomputable def q_law_far_right_8 : Ws := hid (wAsg (dFn 2 c_law_times (daC (dVar 7) (daC (dVar 2) daN))) (gN 7))
@[irreducible] noncomputable def q_law_far_right_9 : Ws := hid (wRet (dOp fEq (dCal fRepr (daC (dFn 2 c_power_of (daC (dVar 6) (daC (dVar 3) daN))) daN)) (dCal fRepr (daC (dFn 2 c_law_map (daC (dLit (.int 0)) (daC (dLst (daC (dVar 7) (daC (dTup (daC (dLit (.int 0)) (daC (dLit (.int 0)) daN))) (daC (dTup (daC (dLit (.int 0)) (daC (dLit (.int 0)) daN))) (daC (dTup (daC (dLit (.int 1)) (daC (dLit (.int 0)) daN))) daN))))) daN))) daN))))
@[irreducible] noncomputable def q_law_far_right_7 : Ws := hid (wSeq (wFor (diR1 (daC (dOp fMod (dCal fInt (daC (dVar 3) daN)) (dLit (.int 4))) daN)) (gN 8) q_law_far_right_8) q_law_far_right_9)
@[irreducible] noncomputable def q_law_far_right_6 : Ws := hid (wSeq (wPar 6 7 (daC (dFn 2 c_law_map (daC (dLit (.int 0)) (daC (dLst (daC (dVar 2) (daC (dTup (daC (dLit (.int 0)) (daC (dLit (.int 0)) daN))) (daC (dTup (daC (dLit (.int 0)) (daC (dLit (.int 0)) daN))) (daC (dTup (daC (dLit (.int 1)) (daC (dLit (.int 0)) daN))) daN))))) daN))) (daC (dTup (daC (dLit (.int 1)) (daC (dLit (.int 0)) daN))) daN))) q_law_far_right_7)
@[irreducible] noncomputable def q_law_far_right_4 : Ws := hid (wSeq (wIf (dTru (dOp fNe (dCal fRepr (daC (dFn 2 c_power_of (daC (dVar 4) (daC (dVar 3) daN))) daN)) (dCal fRepr (daC (dVar 5) daN)))) q_law_far_right_5 wNx) q_law_far_right_6)
@[irreducible] noncomputable def q_law_far_right_3 : Ws := hid (wSeq (wAsg (dFn 2 c_law_map (daC (dLit (.int 0)) (daC (dLst (daC (dTup (daC (dLit (.int 1)) (daC (dLit (.int 0)) daN))) (daC (dTup (daC (dOp fMul (dVar 3) (dOp fIx (dVar 1) (dLit (.int 0)))) (daC (dOp fMul (dVar 3) (dOp fIx (dVar 1) (dLit (.int 1)))) daN))) (daC (dTup (daC (dLit (.int 0)) (daC (dLit (.int 0)) daN))) (daC (dTup (daC (dLit (.int 1)) (daC (dLit (.int 0)) daN))) daN))))) daN))) (gN 5)) q_law_far_right_4)
@[irreducible] noncomputable def q_law_far_right_2 : Ws := hid (wSeq (wAsg (dFn 2 c_law_map (daC (dLit (.int 0)) (daC (dLst (daC (dTup (daC (dLit (.int 1)) (daC (dLit (.int 0)) daN))) (daC (dVar 1) (daC (dTup (daC (dLit (.int 0)) (daC (dLit (.int 0)) daN))) (daC (dTup (daC (dLit (.int 1)) (daC (dLit (.int 0)) daN))) daN))))) daN))) (gN 4)) q_law_far_right_3)
@[irreducible] noncomputable def q_law_far_right_1 : Ws := hid (wSeq (wPar3 1 2 3 (daC (dFnT 0 1 c_law_little daN) (daC (dFnT 0 2 c_law_pick (daC (dTup (daC (dTup (daC (dLit (.int 1)) (daC (dLit (.int 0)) daN))) (daC (dTup (daC (dLit (.int 0)) (daC (dLit (.int 1)) daN))) (daC (dTup (daC (dU fNeg (dLit (.int 1))) (daC (dLit (.int 0)) daN))) (daC (dTup (daC (dLit (.int 0)) (daC (dU fNeg (dLit (.int 1))) daN))) daN))))) daN)) (daC (dOp fSub (dFnT 0 2 c_law_draw (daC (dLit (.int 121)) daN)) (dLit (.int 60))) daN)))) q_law_far_right_2)
theorem e_law_far_right : w_law_far_right = q_law_far_right_1 := by delta q_law_far_right_1 q_law_far_right_2 q_law_far_right_3 q_law_far_right_4 q_law_far_right_6 q_law_far_right_7 q_law_far_right_9 q_law_far_right_8 q_law_far_right_5; simp only [hid_eq]; with_unfolding_all rfl
theorem nr_mul {f i : Int} {A B : M4} (hA : A.dt ≠ 0) (hB : B.dt ≠ 0) : pm (f, nrm A) (i, nrm B) = ((f + i) % 2, nrm (A.mul (B.cj f))) :=
  Prod.ext rfl (nrm_eq (dtMul hA hB) ((nrm_sim hA).mul ((nrm_sim hB).cj f)))
theorem nr_pb {f : Int} {A : M4} (hA : A.dt ≠ 0) : pb (f, nrm A) = (f, nrm (A.adj.cj f)) :=
  Prod.ext rfl (nrm_eq (dtAdj hA) ((nrm_sim hA).adj.cj f))
theorem nr_one : nrm M4.one = M4.one := nrm_self Fm4.one
def shf (p : G) : M4 := ⟨1, p, 0, 1⟩
def trn (u : G) : M4 := ⟨u, 0, 0, 1⟩
theorem shf_dt (p : G) : (shf p).dt ≠ 0 := by
  have : (shf p).dt = 1 := by simp only [shf, M4.dt]; grind
  rw [this]; exact one_ne
theorem trn_dt {u : G} (h : u ≠ 0) : (trn u).dt ≠ 0 := by
  have : (trn u).dt = u := by simp only [trn, M4.dt]; grind
  rw [this]; exact h
theorem shf_mul (p r : G) : (shf p).mul ((shf r).cj 0) = shf (p + r) := by
  rw [cjm0]
  exact m4_ext (by simp only [shf, M4.mul]; grind) (by simp only [shf, M4.mul]; grind) (by simp only [shf, M4.mul]; grind) (by simp only [shf, M4.mul]; grind)
theorem trn_mul (p r : G) : (trn p).mul ((trn r).cj 0) = trn (p * r) := by
  rw [cjm0]
  exact m4_ext (by simp only [trn, M4.mul]; grind) (by simp only [trn, M4.mul]; grind) (by simp only [trn, M4.mul]; grind) (by simp only [trn, M4.mul]; grind)
def sc (k : Int) (p : G) : G := (k * p.1, k * p.2)
theorem shf_pw (p : G) : ∀ k : Nat, pw (0, nrm (shf p)) k = (0, nrm (shf (sc k p)))
  | 0 => by
    have e : shf (sc (0 : Nat) p) = M4.one := m4_ext rfl (Prod.ext (Int.zero_mul _) (Int.zero_mul _)) rfl rfl
    rw [e, nr_one]
    rfl
  | k + 1 => by
    show pm (pw (0, nrm (shf p)) k) (0, nrm (shf p)) = _
    rw [shf_pw p k, nr_mul (shf_dt _) (shf_dt _), shf_mul]
    refine Prod.ext rfl (congrArg (fun z => nrm (shf z)) (Prod.ext ?_ ?_))
    · show (k : Int) * p.1 + p.1 = ((k + 1 : Nat) : Int) * p.1
      rw [Int.natCast_succ, Int.add_mul, Int.one_mul]
    · show (k : Int) * p.2 + p.2 = ((k + 1 : Nat) : Int) * p.2
      rw [Int.natCast_succ, Int.add_mul, Int.one_mul]
theorem shf_pb (p : G) : pb (0, nrm (shf p)) = (0, nrm (shf (sc (-1) p))) := by
  rw [nr_pb (shf_dt p)]
  refine Prod.ext rfl (congrArg nrm ?_)
  rw [cjm0]
  refine m4_ext rfl ?_ ?_ rfl
  · show -p = sc (-1) p
    exact Prod.ext (by show -p.1 = -1 * p.1; omega) (by show -p.2 = -1 * p.2; omega)
  · show -(0 : G) = 0
    rfl
theorem shf_pz (p : G) (m : Int) : pz (0, nrm (shf p)) m = (0, nrm (shf (sc m p))) := by
  unfold pz
  by_cases z : 0 < m
  · rw [if_pos z, shf_pw]
    have : ((m.toNat : Nat) : Int) = m := by omega
    rw [this]
  · rw [if_neg z, shf_pb, shf_pw]
    refine Prod.ext rfl (congrArg (fun z => nrm (shf z)) (Prod.ext ?_ ?_))
    · show (((-m).toNat : Nat) : Int) * (-1 * p.1) = m * p.1
      rw [show (((-m).toNat : Nat) : Int) = -m by omega]
      grind
    · show (((-m).toNat : Nat) : Int) * (-1 * p.2) = m * p.2
      rw [show (((-m).toNat : Nat) : Int) = -m by omega]
      grind
theorem shf_sz {p : G} {n : Nat} (h1 : Sz n p.1) (h2 : Sz n p.2) (hn : 1 ≤ n) : S44 n (shf p) :=
  have o : Sz n (1 : Int) := szUp (n := 1) ⟨by decide⟩ hn
  have z : Sz n (0 : Int) := szUp (n := 1) ⟨by decide⟩ hn
  ⟨o, z, h1, h2, z, z, o, z⟩
theorem sc_sz {k : Int} {p : G} (hk : k.natAbs ≤ 60) (h1 : Sz 4 p.1) (h2 : Sz 4 p.2) : Sz 10 (sc k p).1 ∧ Sz 10 (sc k p).2 := by
  have sk : Sz 6 k := ⟨by omega⟩
  exact ⟨szUp (inferInstance : Sz _ (k * p.1)) (by decide), szUp (inferInstance : Sz _ (k * p.2)) (by decide)⟩
theorem shf_hk {p : G} {m : Int} (hm : m.natAbs ≤ 60) (h1 : Sz 4 p.1) (h2 : Sz 4 p.2) : ∀ k : Nat, k ≤ m.natAbs → Fm4 400 (pw (if 0 < m then (0, nrm (shf p)) else pb (0, nrm (shf p))) k).2 := fun k hk => by
  by_cases z : 0 < m
  · rw [if_pos z, shf_pw]
    obtain ⟨a, b⟩ := sc_sz (k := (k : Int)) (p := p) (by omega) h1 h2
    exact (nrm_fm (shf_sz a b (by decide)) (shf_dt _)).up (by decide)
  · rw [if_neg z, shf_pb, shf_pw]
    have g1 : Sz 4 (sc (-1) p).1 := ⟨by have := h1.lt; show (-1 * p.1).natAbs < _; omega⟩
    have g2 : Sz 4 (sc (-1) p).2 := ⟨by have := h2.lt; show (-1 * p.2).natAbs < _; omega⟩
    obtain ⟨a, b⟩ := sc_sz (k := (k : Int)) (p := sc (-1) p) (by omega) g1 g2
    exact (nrm_fm (shf_sz a b (by decide)) (shf_dt _)).up (by decide)
def upw (u : G) : Nat → G
  | 0 => 1
  | k + 1 => upw u k * u
theorem upw_add (u : G) (a : Nat) : ∀ b, upw u (a + b) = upw u a * upw u b
  | 0 => by show upw u a = upw u a * 1; grind
  | b + 1 => by
    show upw u (a + b) * u = upw u a * (upw u b * u)
    rw [upw_add u a b]
    grind
theorem upw_mul (u : G) (a : Nat) : ∀ b, upw (upw u a) b = upw u (a * b)
  | 0 => rfl
  | b + 1 => by
    show upw (upw u a) b * upw u a = upw u (a * b + a)
    rw [upw_mul u a b, upw_add]
theorem upw_4 {u : G} (h : upw u 4 = 1) (r : Nat) : ∀ q : Nat, upw u (4 * q + r) = upw u r
  | 0 => by rw [Nat.mul_zero, Nat.zero_add]
  | q + 1 => by
    rw [show 4 * (q + 1) + r = 4 + (4 * q + r) by omega, upw_add, h, upw_4 h r q]
    grind
theorem upw_mod {u : G} (h : upw u 4 = 1) (k : Nat) : upw u k = upw u (k % 4) := by
  have := upw_4 h (k % 4) (k / 4)
  rw [Nat.div_add_mod] at this
  exact this
def isU (u : G) : Prop := u = (1, 0) ∨ u = (0, 1) ∨ u = (-1, 0) ∨ u = (0, -1)
theorem isU.four {u : G} (h : isU u) : upw u 4 = 1 := by rcases h with rfl | rfl | rfl | rfl <;> decide
theorem isU.pw {u : G} (h : isU u) (k : Nat) : isU (upw u k) := by
  rw [upw_mod h.four]
  have l : k % 4 < 4 := Nat.mod_lt _ (by decide)
  generalize k % 4 = r at *
  have : r = 0 ∨ r = 1 ∨ r = 2 ∨ r = 3 := by omega
  rcases this with rfl | rfl | rfl | rfl <;> rcases h with rfl | rfl | rfl | rfl <;> unfold isU <;> decide
theorem isU.nz {u : G} (h : isU u) : u ≠ 0 := by rcases h with rfl | rfl | rfl | rfl <;> decide
theorem isU.sz {u : G} (h : isU u) : Sz 1 u.1 ∧ Sz 1 u.2 := by rcases h with rfl | rfl | rfl | rfl <;> exact ⟨⟨by decide⟩, ⟨by decide⟩⟩
theorem trn_pw {u : G} (h : isU u) : ∀ k : Nat, pw (0, nrm (trn u)) k = (0, nrm (trn (upw u k)))
  | 0 => by
    show p1 = (0, nrm M4.one)
    rw [nr_one]
    rfl
  | k + 1 => by
    show pm (pw (0, nrm (trn u)) k) (0, nrm (trn u)) = _
    rw [trn_pw h k, nr_mul (trn_dt (h.pw k).nz) (trn_dt h.nz), trn_mul]
    rfl
theorem trn_pb {u : G} (h : isU u) : pb (0, nrm (trn u)) = (0, nrm (trn (upw u 3))) := by
  rw [nr_pb (trn_dt h.nz)]
  refine Prod.ext rfl ?_
  refine nrm_eq (trn_dt (h.pw 3).nz) ⟨upw u 3, 1, (h.pw 3).nz, one_ne, ?_⟩
  rw [cjm0, sm_one]
  have e : upw u 3 * u = 1 := h.four
  refine m4_ext ?_ ?_ ?_ ?_
  · show upw u 3 * 1 = upw u 3
    grind
  · show upw u 3 * -0 = 0
    grind
  · show upw u 3 * -0 = 0
    grind
  · show upw u 3 * u = 1
    exact e
theorem trn_pz {u : G} (h : isU u) (m : Int) : pz (0, nrm (trn u)) m = (0, nrm (trn (upw u (m % 4).toNat))) := by
  unfold pz
  by_cases z : 0 < m
  · rw [if_pos z, trn_pw h, upw_mod h.four m.toNat, show m.toNat % 4 = (m % 4).toNat by omega]
  · rw [if_neg z, trn_pb h, trn_pw (h.pw 3), upw_mul, upw_mod h.four, show 3 * (-m).toNat % 4 = (m % 4).toNat by omega]
theorem trn_sz {u : G} (h : isU u) : S44 1 (trn u) :=
  have o : Sz 1 (1 : Int) := ⟨by decide⟩
  have z : Sz 1 (0 : Int) := ⟨by decide⟩
  ⟨h.sz.1, h.sz.2, z, z, z, z, o, z⟩
theorem trn_hk {u : G} {m : Int} (h : isU u) : ∀ k : Nat, k ≤ m.natAbs → Fm4 400 (pw (if 0 < m then (0, nrm (trn u)) else pb (0, nrm (trn u))) k).2 := fun k hk => by
  by_cases z : 0 < m
  · rw [if_pos z, trn_pw h]
    exact (nrm_fm (trn_sz (h.pw k)) (trn_dt (h.pw k).nz)).up (by decide)
  · rw [if_neg z, trn_pb h, trn_pw (h.pw 3)]
    exact (nrm_fm (trn_sz ((h.pw 3).pw k)) (trn_dt ((h.pw 3).pw k).nz)).up (by decide)
theorem sem_law_far_right : ∀ ts ds R, c_law_far_right ts ds R → ds.length = 0 → w_law_far_right (edT R) (some (.own ts) :: ev0 8 ds) := by
  intro ts ds R h _
  obtain ⟨b, tk, hb, rfl, q⟩ := h
  rw [e_law_far_right]; (show q_law_far_right_1 _ [_, _, _, _, _, _, _, _, _]; delta q_law_far_right_1; refine hid_of ?_)
  refine ⟨rfl, b, tk, by omega, rfl, fun p t1 h1 h2 k1 => ?_⟩
  refine ⟨Nat.le_of_ble_eq_true rfl, Nat.le_of_ble_eq_true rfl, Nat.le_of_ble_eq_true rfl, Nat.le_of_ble_eq_true rfl, Nat.le_of_ble_eq_true rfl, rfl, b + 4, _, k1, by omega, Or.inl rfl, by decide, by decide, fun x t2 hx k2 => ?_⟩
  have hu : ∃ u : G, x = cd u ∧ isU u := by
    simp only [List.mem_cons, List.not_mem_nil, or_false] at hx
    rcases hx with rfl | rfl | rfl | rfl
    · exact ⟨(1, 0), rfl, .inl rfl⟩
    · exact ⟨(0, 1), rfl, .inr (.inl rfl)⟩
    · exact ⟨(-1, 0), rfl, .inr (.inr (.inl rfl))⟩
    · exact ⟨(0, -1), rfl, .inr (.inr (.inr rfl))⟩
  obtain ⟨u, rfl, hu⟩ := hu
  refine ⟨rfl, b + 4 + 1, 121, k2, by omega, rfl, by decide, by decide, fun k t3 z0 z1 k3 => ?_⟩
  refine ⟨trivial, ?_⟩
  obtain ⟨m, em⟩ : ∃ m, k - 60 = m := ⟨_, rfl⟩
  have hm : m.natAbs ≤ 60 := by omega
  have sm : Sz 6 m := ⟨by omega⟩
  have hk := shf_hk (m := m) hm h1 h2
  have hp := shf_pz p m
  have ok1 : MOk (0, nrm (shf p)) := ⟨.inl rfl, _, nrm_fm (shf_sz h1 h2 (by decide)) (shf_dt p)⟩
  have F1 : Fm4 300 (nrm (shf p)) := (nrm_fm (shf_sz h1 h2 (by decide)) (shf_dt p)).up (by decide)
  obtain ⟨c1, c2⟩ := sc_sz (k := m) (p := p) hm h1 h2
  have F2 : Fm4 11 (nrm (shf (sc m p))) := nrm_fm (shf_sz c1 c2 (by decide)) (shf_dt _)
  obtain ⟨X, eX⟩ : ∃ X, nrm (shf p) = X := ⟨_, rfl⟩
  obtain ⟨Y, eY⟩ : ∃ Y, nrm (shf (sc m p)) = Y := ⟨_, rfl⟩
  rw [eX] at hk hp ok1 F1
  rw [eY] at hp F2
  obtain ⟨_, _, _, _, _, _, _, _⟩ := id F2.sz
  have hkt := trn_hk (m := m) hu
  have hpt := trn_pz hu m
  have ok2 : MOk (0, nrm (trn u)) := ⟨.inl rfl, _, nrm_fm (trn_sz hu) (trn_dt hu.nz)⟩
  have F3 : Fm4 300 (nrm (trn u)) := (nrm_fm (trn_sz hu) (trn_dt hu.nz)).up (by decide)
  have ul := hu.pw (m % 4).toNat
  have F4 : Fm4 2 (nrm (trn (upw u (m % 4).toNat))) := nrm_fm (trn_sz ul) (trn_dt ul.nz)
  obtain ⟨V, eV⟩ : ∃ V, nrm (trn u) = V := ⟨_, rfl⟩
  obtain ⟨W, eW⟩ : ∃ W, nrm (trn (upw u (m % 4).toNat)) = W := ⟨_, rfl⟩
  rw [eV] at hkt hpt ok2 F3
  rw [eW] at hpt F4
  obtain ⟨_, _, _, _, _, _, _, _⟩ := id F4.sz
  refine (show q_law_far_right_2 (edT R) [some (.own t3), some (.val (cd p)), some (.val (cd u)), some (.val (.int (k - 60))), none, none, none, none, none] from ?_)
  rw [em]
  (show q_law_far_right_2 _ [_, _, _, _, _, _, _, _, _]; delta q_law_far_right_2; refine hid_of ?_)
  refine ⟨Nat.le_of_ble_eq_true rfl, Nat.le_of_ble_eq_true rfl, Nat.le_of_ble_eq_true rfl, Nat.le_of_ble_eq_true rfl, rfl, law_map_ok (f := 0) (A := shf p) (shf_sz h1 h2 (by decide)) (by decide) (shf_dt p) eX ?_⟩
  (show q_law_far_right_3 _ [_, _, _, _, _, _, _, _, _]; delta q_law_far_right_3; refine hid_of ?_)
  refine ⟨Nat.le_of_ble_eq_true rfl, by walk_at "sz", by walk_at "sz", Nat.le_of_ble_eq_true rfl, Nat.le_of_ble_eq_true rfl, Nat.le_of_ble_eq_true rfl, Nat.le_of_ble_eq_true rfl, rfl, law_map_ok (f := 0) (A := shf (sc m p)) (shf_sz c1 c2 (by decide)) (by decide) (shf_dt _) eY ?_⟩
  (show q_law_far_right_4 _ [_, _, _, _, _, _, _, _, _]; delta q_law_far_right_4; refine hid_of ?_)
  refine ⟨rfl, power_ok (P := (0, X)) (Q := (0, Y)) ok1 F1 hm hk hp ?_⟩
  refine (show RP (mp4 0 Y) _ from ?_)
  walk_at "rp"
  refine (show RP (mp4 0 Y) _ from ?_)
  walk_at "rp"
  refine ⟨Or.inl rfl, trivial, ?_⟩
  walk_at "ne"
  (show q_law_far_right_6 _ [_, _, _, _, _, _, _, _, _]; delta q_law_far_right_6; refine hid_of ?_)
  refine ⟨Nat.le_of_ble_eq_true rfl, Nat.le_of_ble_eq_true rfl, Nat.le_of_ble_eq_true rfl, Nat.le_of_ble_eq_true rfl, rfl, law_map_ok (f := 0) (A := trn u) (trn_sz hu) (by decide) (trn_dt hu.nz) eV ?_⟩
  refine ⟨Nat.le_of_ble_eq_true rfl, ?_⟩
  (show q_law_far_right_7 _ [_, _, _, _, _, _, _, _, _]; delta q_law_far_right_7; refine hid_of ?_)
  refine ⟨(show (0 : Int) < 4 by decide), ⟨by omega, by omega⟩, ?_⟩
  refine foD_at (rngD 0 (m % 4).toNat) (fun pre ev => ∃ o, fr o ∧ ev = [some (.own t3), some (.val (cd p)), some (.val (cd u)), some (.val (.int m)), some (.val (mp4 0 X)), some (.val (mp4 0 Y)), some (.val (mp4 0 V)), some (.val (cd (upw u pre.length))), o]) (fun pre d post ev E' e i nx _ _ _ => ?_) (pre := []) rfl ⟨none, fr_none, rfl⟩ (fun ev i => ?_)
  · obtain ⟨o, fo, rfl⟩ := i
    have g1 : GS 1 (upw u pre.length) := ⟨(hu.pw _).sz.1, (hu.pw _).sz.2⟩
    have g2 : GS 1 u := ⟨hu.sz.1, hu.sz.2⟩
    refine gN_fr (s := o) rfl fo ?_
    (show q_law_far_right_8 _ [_, _, _, _, _, _, _, _, _]; delta q_law_far_right_8; refine hid_of ?_)
    refine ⟨rfl, ltimes_ok (n := 1) (m := 1) (by decide) (by decide) ?_⟩
    refine nx _ ⟨some (.val d), fr_val, ?_⟩
    rw [List.length_append, List.length_singleton]
    rfl
  · obtain ⟨o, fo, rfl⟩ := i
    have l : (rngD 0 (m % 4).toNat).length = (m % 4).toNat := by
      unfold rngD
      rw [List.length_map, List.length_range]
    rw [l]
    (show q_law_far_right_9 _ [_, _, _, _, _, _, _, _, _]; delta q_law_far_right_9; refine hid_of ?_)
    refine ⟨rfl, power_ok (P := (0, V)) (Q := (0, W)) ok2 F3 hm hkt hpt ?_⟩
    refine (show RP (mp4 0 W) _ from ?_)
    walk_at "rp"
    refine ⟨Nat.le_of_ble_eq_true rfl, Nat.le_of_ble_eq_true rfl, Nat.le_of_ble_eq_true rfl, Nat.le_of_ble_eq_true rfl, rfl, law_map_ok (f := 0) (A := trn (upw u (m % 4).toNat)) (trn_sz ul) (by decide) (trn_dt ul.nz) eW ?_⟩
    refine (show RP (mp4 0 W) _ from ?_)
    walk_at "rp"
    refine ⟨Or.inl rfl, ?_⟩
    rw [eqv_str, decide_eq_true (p := _ = _) rfl]
    exact q t3 (k3.up (by omega))
theorem far_ok {b : Int} {ts : List PyData} {R : PyData → List PyData → Prop} (tk : Tk b ts) (hb : b < 400000000000) (q : ∀ ts', Tk (b + 10) ts' → R (.bool true) ts') : c_law_far_right ts [] R := ⟨b, tk, hb, rfl, q⟩
def w_law_laid : Ws := (wSeq (wPar 1 2 (daC (dFnT 0 2 c_law_draw (daC (dLit (.int 8)) daN)) (daC (dFnT 0 2 c_law_pick (daC (dTup (daC (dTup (daC (dLit (.int 0)) (daC (dLit (.int 1)) daN))) (daC (dTup (daC (dLit (.int 0)) (daC (dU fNeg (dLit (.int 1))) daN))) daN))) daN)) daN))) (wSeq (wIf (dTru (dOp fEq (dVar 1) (dLit (.int 0)))) (wRet (dTup (daC (dFn 0 c_law_stays daN) (daC (dLit (.int 1)) daN)))) wNx) (wSeq (wIf (dTru (dOp fEq (dVar 1) (dLit (.int 1)))) (wRet (dTup (daC (dFn 2 c_law_map (daC (dLit (.int 0)) (daC (dLst (daC (dTup (daC (dU fNeg (dLit (.int 1))) (daC (dLit (.int 0)) daN))) (daC (dTup (daC (dLit (.int 0)) (daC (dLit (.int 0)) daN))) (daC (dTup (daC (dLit (.int 0)) (daC (dLit (.int 0)) daN))) (daC (dTup (daC (dLit (.int 1)) (daC (dLit (.int 0)) daN))) daN))))) daN))) (daC (dLit (.int 2)) daN)))) wNx) (wSeq (wIf (dTru (dOp fEq (dVar 1) (dLit (.int 2)))) (wRet (dTup (daC (dFn 2 c_law_map (daC (dLit (.int 0)) (daC (dLst (daC (dTup (daC (dLit (.int 0)) (daC (dLit (.int 0)) daN))) (daC (dTup (daC (dU fNeg (dLit (.int 1))) (daC (dLit (.int 0)) daN))) (daC (dTup (daC (dLit (.int 1)) (daC (dLit (.int 0)) daN))) (daC (dTup (daC (dLit (.int 1)) (daC (dLit (.int 0)) daN))) daN))))) daN))) (daC (dLit (.int 3)) daN)))) wNx) (wSeq (wIf (dTru (dOp fEq (dVar 1) (dLit (.int 3)))) (wRet (dTup (daC (dFn 2 c_law_map (daC (dLit (.int 0)) (daC (dLst (daC (dVar 2) (daC (dTup (daC (dLit (.int 0)) (daC (dLit (.int 0)) daN))) (daC (dTup (daC (dLit (.int 0)) (daC (dLit (.int 0)) daN))) (daC (dTup (daC (dLit (.int 1)) (daC (dLit (.int 0)) daN))) daN))))) daN))) (daC (dLit (.int 4)) daN)))) wNx) (wSeq (wIf (dTru (dOp fEq (dVar 1) (dLit (.int 4)))) (wRet (dTup (daC (dFn 2 c_law_map (daC (dLit (.int 0)) (daC (dLst (daC (dTup (daC (dLit (.int 1)) (daC (dLit (.int 0)) daN))) (daC (dTup (daC (dU fNeg (dLit (.int 1))) (daC (dLit (.int 0)) daN))) (daC (dTup (daC (dLit (.int 1)) (daC (dLit (.int 0)) daN))) (daC (dTup (daC (dLit (.int 2)) (daC (dLit (.int 0)) daN))) daN))))) daN))) (daC (dLit (.int 6)) daN)))) wNx) (wSeq (wIf (dTru (dOp fEq (dVar 1) (dLit (.int 5)))) (wRet (dTup (daC (dFn 2 c_law_map (daC (dLit (.int 1)) (daC (dLst (daC (dTup (daC (dLit (.int 0)) (daC (dLit (.int 0)) daN))) (daC (dFnT 0 2 c_law_pick (daC (dTup (daC (dTup (daC (dLit (.int 3)) (daC (dLit (.int 0)) daN))) (daC (dTup (daC (dU fNeg (dLit (.int 2))) (daC (dLit (.int 0)) daN))) daN))) daN)) (daC (dTup (daC (dLit (.int 1)) (daC (dLit (.int 0)) daN))) (daC (dTup (daC (dLit (.int 0)) (daC (dLit (.int 0)) daN))) daN))))) daN))) (daC (dLit (.int 2)) daN)))) wNx) (wSeq (wIf (dTru (dOp fEq (dVar 1) (dLit (.int 6)))) (wRet (dTup (daC (dFn 2 c_law_map (daC (dLit (.int 1)) (daC (dLst (daC (dTup (daC (dLit (.int 1)) (daC (dLit (.int 0)) daN))) (daC (dTup (daC (dLit (.int 1)) (daC (dLit (.int 0)) daN))) (daC (dTup (daC (dU fNeg (dLit (.int 1))) (daC (dLit (.int 0)) daN))) (daC (dTup (daC (dLit (.int 0)) (daC (dLit (.int 0)) daN))) daN))))) daN))) (daC (dLit (.int 6)) daN)))) wNx) (wSeq (wAsg (dFnT 0 2 c_law_pick (daC (dTup (daC (dTup (daC (dLit (.int 0)) (daC (dLit (.int 1)) daN))) (daC (dTup (daC (dLit (.int 1)) (daC (dLit (.int 1)) daN))) daN))) daN)) (gN 3)) (wRet (dTup (daC (dFn 2 c_law_map (daC (dLit (.int 1)) (daC (dLst (daC (dTup (daC (dLit (.int 0)) (daC (dLit (.int 0)) daN))) (daC (dVar 3) (daC (dTup (daC (dLit (.int 1)) (daC (dLit (.int 0)) daN))) (daC (dTup (daC (dLit (.int 0)) (daC (dLit (.int 0)) daN))) daN))))) daN))) (daC (dIf (dTru (dOp fEq (dVar 3) (dTup (daC (dLit (.int 0)) (daC (dLit (.int 1)) daN))))) (dLit (.int 4)) (dLit (.int 8))) daN)))))))))))))
@[irreducible] noncomputable def q_law_laid_3 : Ws := hid (wRet (dTup (daC (dFn 0 c_law_stays daN) (daC (dLit (.int 1)) daN))))
@[irreducible] noncomputable def q_law_laid_5 : Ws := hid (wRet (dTup (daC (dFn 2 c_law_map (daC (dLit (.int 0)) (daC (dLst (daC (dTup (daC (dU fNeg (dLit (.int 1))) (daC (dLit (.int 0)) daN))) (daC (dTup (daC (dLit (.int 0)) (daC (dLit (.int 0)) daN))) (daC (dTup (daC (dLit (.int 0)) (daC (dLit (.int 0)) daN))) (daC (dTup (daC (dLit (.int 1)) (daC (dLit (.int 0)) daN))) daN))))) daN))) (daC (dLit (.int 2)) daN))))
@[irreducible] noncomputable def q_law_laid_7 : Ws := hid (wRet (dTup (daC (dFn 2 c_law_map (daC (dLit (.int 0)) (daC (dLst (daC (dTup (daC (dLit (.int 0)) (daC (dLit (.int 0)) daN))) (daC (dTup (daC (dU fNeg (dLit (.int 1))) (daC (dLit (.int 0)) daN))) (daC (dTup (daC (dLit (.int 1)) (daC (dLit (.int 0)) daN))) (daC (dTup (daC (dLit (.int 1)) (daC (dLit (.int 0)) daN))) daN))))) daN))) (daC (dLit (.int 3)) daN))))
@[irreducible] noncomputable def q_law_laid_9 : Ws := hid (wRet (dTup (daC (dFn 2 c_law_map (daC (dLit (.int 0)) (daC (dLst (daC (dVar 2) (daC (dTup (daC (dLit (.int 0)) (daC (dLit (.int 0)) daN))) (daC (dTup (daC (dLit (.int 0)) (daC (dLit (.int 0)) daN))) (daC (dTup (daC (dLit (.int 1)) (daC (dLit (.int 0)) daN))) daN))))) daN))) (daC (dLit (.int 4)) daN))))
@[irreducible] noncomputable def q_law_laid_11 : Ws := hid (wRet (dTup (daC (dFn 2 c_law_map (daC (dLit (.int 0)) (daC (dLst (daC (dTup (daC (dLit (.int 1)) (daC (dLit (.int 0)) daN))) (daC (dTup (daC (dU fNeg (dLit (.int 1))) (daC (dLit (.int 0)) daN))) (daC (dTup (daC (dLit (.int 1)) (daC (dLit (.int 0)) daN))) (daC (dTup (daC (dLit (.int 2)) (daC (dLit (.int 0)) daN))) daN))))) daN))) (daC (dLit (.int 6)) daN))))
@[irreducible] noncomputable def q_law_laid_13 : Ws := hid (wRet (dTup (daC (dFn 2 c_law_map (daC (dLit (.int 1)) (daC (dLst (daC (dTup (daC (dLit (.int 0)) (daC (dLit (.int 0)) daN))) (daC (dFnT 0 2 c_law_pick (daC (dTup (daC (dTup (daC (dLit (.int 3)) (daC (dLit (.int 0)) daN))) (daC (dTup (daC (dU fNeg (dLit (.int 2))) (daC (dLit (.int 0)) daN))) daN))) daN)) (daC (dTup (daC (dLit (.int 1)) (daC (dLit (.int 0)) daN))) (daC (dTup (daC (dLit (.int 0)) (daC (dLit (.int 0)) daN))) daN))))) daN))) (daC (dLit (.int 2)) daN))))
@[irreducible] noncomputable def q_law_laid_15 : Ws := hid (wRet (dTup (daC (dFn 2 c_law_map (daC (dLit (.int 1)) (daC (dLst (daC (dTup (daC (dLit (.int 1)) (daC (dLit (.int 0)) daN))) (daC (dTup (daC (dLit (.int 1)) (daC (dLit (.int 0)) daN))) (daC (dTup (daC (dU fNeg (dLit (.int 1))) (daC (dLit (.int 0)) daN))) (daC (dTup (daC (dLit (.int 0)) (daC (dLit (.int 0)) daN))) daN))))) daN))) (daC (dLit (.int 6)) daN))))
@[irreducible] noncomputable def q_law_laid_17 : Ws := hid (wRet (dTup (daC (dFn 2 c_law_map (daC (dLit (.int 1)) (daC (dLst (daC (dTup (daC (dLit (.int 0)) (daC (dLit (.int 0)) daN))) (daC (dVar 3) (daC (dTup (daC (dLit (.int 1)) (daC (dLit (.int 0)) daN))) (daC (dTup (daC (dLit (.int 0)) (daC (dLit (.int 0)) daN))) daN))))) daN))) (daC (dIf (dTru (dOp fEq (dVar 3) (dTup (daC (dLit (.int 0)) (daC (dLit (.int 1)) daN))))) (dLit (.int 4)) (dLit (.int 8))) daN))))
@[irreducible] noncomputable def q_law_laid_16 : Ws := hid (wSeq (wAsg (dFnT 0 2 c_law_pick (daC (dTup (daC (dTup (daC (dLit (.int 0)) (daC (dLit (.int 1)) daN))) (daC (dTup (daC (dLit (.int 1)) (daC (dLit (.int 1)) daN))) daN))) daN)) (gN 3)) q_law_laid_17)
@[irreducible] noncomputable def q_law_laid_14 : Ws := hid (wSeq (wIf (dTru (dOp fEq (dVar 1) (dLit (.int 6)))) q_law_laid_15 wNx) q_law_laid_16)
@[irreducible] noncomputable def q_law_laid_12 : Ws := hid (wSeq (wIf (dTru (dOp fEq (dVar 1) (dLit (.int 5)))) q_law_laid_13 wNx) q_law_laid_14)
@[irreducible] noncomputable def q_law_laid_10 : Ws := hid (wSeq (wIf (dTru (dOp fEq (dVar 1) (dLit (.int 4)))) q_law_laid_11 wNx) q_law_laid_12)
@[irreducible] noncomputable def q_law_laid_8 : Ws := hid (wSeq (wIf (dTru (dOp fEq (dVar 1) (dLit (.int 3)))) q_law_laid_9 wNx) q_law_laid_10)
@[irreducible] noncomputable def q_law_laid_6 : Ws := hid (wSeq (wIf (dTru (dOp fEq (dVar 1) (dLit (.int 2)))) q_law_laid_7 wNx) q_law_laid_8)
@[irreducible] noncomputable def q_law_laid_4 : Ws := hid (wSeq (wIf (dTru (dOp fEq (dVar 1) (dLit (.int 1)))) q_law_laid_5 wNx) q_law_laid_6)
@[irreducible] noncomputable def q_law_laid_2 : Ws := hid (wSeq (wIf (dTru (dOp fEq (dVar 1) (dLit (.int 0)))) q_law_laid_3 wNx) q_law_laid_4)
@[irreducible] noncomputable def q_law_laid_1 : Ws := hid (wSeq (wPar 1 2 (daC (dFnT 0 2 c_law_draw (daC (dLit (.int 8)) daN)) (daC (dFnT 0 2 c_law_pick (daC (dTup (daC (dTup (daC (dLit (.int 0)) (daC (dLit (.int 1)) daN))) (daC (dTup (daC (dLit (.int 0)) (daC (dU fNeg (dLit (.int 1))) daN))) daN))) daN)) daN))) q_law_laid_2)
theorem e_law_laid : w_law_laid = q_law_laid_1 := by delta q_law_laid_1 q_law_laid_2 q_law_laid_4 q_law_laid_6 q_law_laid_8 q_law_laid_10 q_law_laid_12 q_law_laid_14 q_law_laid_16 q_law_laid_17 q_law_laid_15 q_law_laid_13 q_law_laid_11 q_law_laid_9 q_law_laid_7 q_law_laid_5 q_law_laid_3; simp only [hid_eq]; with_unfolding_all rfl
def isS (X : M4) : Bool := decide (X.b = 0) && decide (X.c = 0) && decide (X.a = X.d)
theorem nrm_one {X : M4} (h : X.dt ≠ 0) : nrm X = M4.one ↔ isS X = true := by
  unfold isS
  simp only [Bool.and_eq_true, decide_eq_true_eq]
  constructor
  · intro e
    obtain ⟨g, k, hg, hk, e2⟩ := nrm_sim h
    rw [e] at e2
    have e_a : g * 1 = k * X.a := congrArg M4.a e2
    have e_b : g * 0 = k * X.b := congrArg M4.b e2
    have e_c : g * 0 = k * X.c := congrArg M4.c e2
    have e_d : g * 1 = k * X.d := congrArg M4.d e2
    refine ⟨⟨gmc hk ?_, gmc hk ?_⟩, gmc hk ?_⟩
    · rw [← e_b]; grind
    · rw [← e_c]; grind
    · rw [← e_a, ← e_d]
  · intro ⟨⟨h1, h2⟩, h3⟩
    have ha : X.a ≠ 0 := fun z => h (by simp only [M4.dt, h1, z]; grind)
    have s : Sim X M4.one := ⟨1, X.a, one_ne, ha, by
      rw [sm_one]
      exact m4_ext (by show X.a = X.a * 1; grind) (by show X.b = X.a * 0; rw [h1]; grind) (by show X.c = X.a * 0; rw [h2]; grind) (by show X.d = X.a * 1; rw [← h3]; grind)⟩
    exact (nrm_eq Fm4.one.dt s).trans nr_one
def rtR (X : M4) : Option Int := if isS X = true then some 1 else kt_RETURNS.lookup [(rto X).1, (rto X).2.1, (rto X).2.2]
theorem rtP_raw {X : M4} (h : X.dt ≠ 0) : rtP (nrm X) = rtR X := by
  unfold rtP rtR
  rw [rto_sim (nrm_sim h) (nrm_dt h) h]
  by_cases z : isS X = true
  · rw [if_pos z, if_pos ((nrm_one h).mpr z)]
  · rw [if_neg z, if_neg (fun y => z ((nrm_one h).mp y))]
def rtB (P : MP) : Option Int := if P.1 = 0 then rtR P.2 else (rtR (P.2.mul (P.2.cj 1))).map (2 * ·)
theorem rtn_raw {f : Int} {A : M4} (hf : f = 0 ∨ f = 1) (h : A.dt ≠ 0) : rtn (f, nrm A) = rtB (f, A) := by
  rcases hf with rfl | rfl
  · exact rtP_raw h
  · show (rtP (pm (1, nrm A) (1, nrm A)).2).map (2 * ·) = (rtR (A.mul (A.cj 1))).map (2 * ·)
    rw [nr_mul h h]
    show (rtP (nrm (A.mul (A.cj 1)))).map (2 * ·) = _
    rw [rtP_raw (dtMul h h)]
def rwp (P : MP) : Nat → MP
  | 0 => p1
  | k + 1 => (((rwp P k).1 + P.1) % 2, (rwp P k).2.mul (P.2.cj (rwp P k).1))
theorem rwp_dt {P : MP} (h : P.2.dt ≠ 0) : ∀ k, (rwp P k).2.dt ≠ 0
  | 0 => Fm4.one.dt
  | k + 1 => dtMul (rwp_dt h k) h
theorem pw_raw {P : MP} (h : P.2.dt ≠ 0) : ∀ k, pw (P.1, nrm P.2) k = ((rwp P k).1, nrm (rwp P k).2)
  | 0 => Prod.ext rfl nr_one.symm
  | k + 1 => by
    show pm (pw (P.1, nrm P.2) k) (P.1, nrm P.2) = _
    rw [pw_raw h k, nr_mul (rwp_dt h k) h]
    rfl
theorem pw_one_iff {P : MP} (h : P.2.dt ≠ 0) (k : Nat) : pw (P.1, nrm P.2) k = p1 ↔ ((rwp P k).1 = 0 ∧ isS (rwp P k).2 = true) := by
  rw [pw_raw h k]
  constructor
  · intro e
    exact ⟨congrArg Prod.fst e, (nrm_one (rwp_dt h k)).mp (congrArg Prod.snd e)⟩
  · intro ⟨e1, e2⟩
    exact Prod.ext e1 ((nrm_one (rwp_dt h k)).mpr e2)
def laidB (P : MP) (m : Nat) : Bool := (P.1 == 0 || P.1 == 1) && decide (P.2.dt ≠ 0) && decide (0 < m) && decide (m ≤ 8) && (rtB P == some (m : Int)) && ((rwp P m).1 == 0) && isS (rwp P m).2 && (List.range m).all fun k => k == 0 || !((rwp P k).1 == 0 && isS (rwp P k).2)
theorem laid_of {f : Int} {A : M4} {m : Nat} (S : S44 3 A) (h : laidB (f, A) m = true) : Laid (f, nrm A) m := by
  unfold laidB at h
  simp only [Bool.and_eq_true, Bool.or_eq_true, decide_eq_true_eq, beq_iff_eq, List.all_eq_true, List.mem_range, Bool.not_eq_true'] at h
  obtain ⟨⟨⟨⟨⟨⟨⟨h1, h2⟩, h3⟩, h4⟩, h5⟩, h6⟩, h7⟩, h8⟩ := h
  refine ⟨h1, nrm_fm S h2, h3, h4, (rtn_raw h1 h2).trans h5, (pw_one_iff (P := (f, A)) h2 m).mpr ⟨h6, h7⟩, fun k k0 km e => ?_⟩
  obtain ⟨y1, y2⟩ := (pw_one_iff (P := (f, A)) h2 k).mp e
  rcases h8 k km with z | z
  · omega
  · have t : ((rwp (f, A) k).1 == 0 && isS (rwp (f, A) k).2) = true := by rw [y1, y2]; rfl
    rw [t] at z
    cases z
theorem sem_law_laid : ∀ ts ds R, c_law_laid ts ds R → ds.length = 0 → w_law_laid (edT R) (some (.own ts) :: ev0 3 ds) := by
  intro ts ds R h _
  obtain ⟨b, tk, hb, rfl, q⟩ := h
  rw [e_law_laid]; (show q_law_laid_1 _ [_, _, _, _]; delta q_law_laid_1; refine hid_of ?_)
  refine ⟨rfl, b, 8, tk, by omega, rfl, by decide, by decide, fun j t1 j0 j1 k1 => ?_⟩
  refine ⟨Nat.le_of_ble_eq_true rfl, Nat.le_of_ble_eq_true rfl, Nat.le_of_ble_eq_true rfl, rfl, b + 1, _, k1, by omega, Or.inl rfl, by decide, by decide, fun x t2 hx k2 => ?_⟩
  have hu : ∃ u : G, x = cd u ∧ (u = (0, 1) ∨ u = (0, -1)) := by
    simp only [List.mem_cons, List.not_mem_nil, or_false] at hx
    rcases hx with rfl | rfl
    · exact ⟨(0, 1), rfl, .inl rfl⟩
    · exact ⟨(0, -1), rfl, .inr rfl⟩
  obtain ⟨u, rfl, hu⟩ := hu
  have fin : ∀ (f : Int) (A : M4) (m : Nat) ts', S44 3 A → laidB (f, A) m = true → Tk (b + 5) ts' → R (.tuple [mp4 f (nrm A), .int m]) ts' := fun f A m ts' S h k => q (f, nrm A) m ts' (laid_of S h) k
  refine (show q_law_laid_2 (edT R) [some (.own t2), some (.val (.int j)), some (.val (cd u)), none] from ?_)
  (show q_law_laid_2 _ [_, _, _, _]; delta q_law_laid_2; refine hid_of ?_)
  refine ⟨Or.inr ⟨rfl, rfl⟩, trivial, ?_⟩
  rw [eqv_int]
  refine ite_b (fun z => ?_) (fun z => ?_)
  · (show q_law_laid_3 _ [_, _, _, _]; delta q_law_laid_3; refine hid_of ?_)
    refine ⟨rfl, rfl, ?_⟩
    have g := fin 0 M4.one 1 t2 (by refine ⟨⟨?_⟩, ⟨?_⟩, ⟨?_⟩, ⟨?_⟩, ⟨?_⟩, ⟨?_⟩, ⟨?_⟩, ⟨?_⟩⟩ <;> decide) (by decide +kernel) (k2.up (by omega))
    rw [nr_one] at g
    exact ⟨Nat.le_of_ble_eq_true rfl, g⟩
  (show q_law_laid_4 _ [_, _, _, _]; delta q_law_laid_4; refine hid_of ?_)
  refine ⟨Or.inr ⟨rfl, rfl⟩, trivial, ?_⟩
  rw [eqv_int]
  refine ite_b (fun z => ?_) (fun z => ?_)
  · (show q_law_laid_5 _ [_, _, _, _]; delta q_law_laid_5; refine hid_of ?_)
    refine ⟨Nat.le_of_ble_eq_true rfl, Nat.le_of_ble_eq_true rfl, Nat.le_of_ble_eq_true rfl, Nat.le_of_ble_eq_true rfl, Nat.le_of_ble_eq_true rfl, rfl, law_map_ok (f := 0) (n := 3) (A := ⟨(-1, 0), (0, 0), (0, 0), (1, 0)⟩) (by refine ⟨⟨?_⟩, ⟨?_⟩, ⟨?_⟩, ⟨?_⟩, ⟨?_⟩, ⟨?_⟩, ⟨?_⟩, ⟨?_⟩⟩ <;> decide) (by decide) (by decide) rfl ⟨Nat.le_of_ble_eq_true rfl, fin 0 _ 2 t2 (by refine ⟨⟨?_⟩, ⟨?_⟩, ⟨?_⟩, ⟨?_⟩, ⟨?_⟩, ⟨?_⟩, ⟨?_⟩, ⟨?_⟩⟩ <;> decide) (by decide +kernel) (k2.up (by omega))⟩⟩
  (show q_law_laid_6 _ [_, _, _, _]; delta q_law_laid_6; refine hid_of ?_)
  refine ⟨Or.inr ⟨rfl, rfl⟩, trivial, ?_⟩
  rw [eqv_int]
  refine ite_b (fun z => ?_) (fun z => ?_)
  · (show q_law_laid_7 _ [_, _, _, _]; delta q_law_laid_7; refine hid_of ?_)
    refine ⟨Nat.le_of_ble_eq_true rfl, Nat.le_of_ble_eq_true rfl, Nat.le_of_ble_eq_true rfl, Nat.le_of_ble_eq_true rfl, Nat.le_of_ble_eq_true rfl, rfl, law_map_ok (f := 0) (n := 3) (A := ⟨(0, 0), (-1, 0), (1, 0), (1, 0)⟩) (by refine ⟨⟨?_⟩, ⟨?_⟩, ⟨?_⟩, ⟨?_⟩, ⟨?_⟩, ⟨?_⟩, ⟨?_⟩, ⟨?_⟩⟩ <;> decide) (by decide) (by decide) rfl ⟨Nat.le_of_ble_eq_true rfl, fin 0 _ 3 t2 (by refine ⟨⟨?_⟩, ⟨?_⟩, ⟨?_⟩, ⟨?_⟩, ⟨?_⟩, ⟨?_⟩, ⟨?_⟩, ⟨?_⟩⟩ <;> decide) (by decide +kernel) (k2.up (by omega))⟩⟩
  (show q_law_laid_8 _ [_, _, _, _]; delta q_law_laid_8; refine hid_of ?_)
  refine ⟨Or.inr ⟨rfl, rfl⟩, trivial, ?_⟩
  rw [eqv_int]
  refine ite_b (fun z => ?_) (fun z => ?_)
  · (show q_law_laid_9 _ [_, _, _, _]; delta q_law_laid_9; refine hid_of ?_)
    rcases hu with rfl | rfl
    · refine ⟨Nat.le_of_ble_eq_true rfl, Nat.le_of_ble_eq_true rfl, Nat.le_of_ble_eq_true rfl, Nat.le_of_ble_eq_true rfl, rfl, law_map_ok (f := 0) (n := 3) (A := ⟨(0, 1), (0, 0), (0, 0), (1, 0)⟩) (by refine ⟨⟨?_⟩, ⟨?_⟩, ⟨?_⟩, ⟨?_⟩, ⟨?_⟩, ⟨?_⟩, ⟨?_⟩, ⟨?_⟩⟩ <;> decide) (by decide) (by decide) rfl ⟨Nat.le_of_ble_eq_true rfl, fin 0 _ 4 t2 (by refine ⟨⟨?_⟩, ⟨?_⟩, ⟨?_⟩, ⟨?_⟩, ⟨?_⟩, ⟨?_⟩, ⟨?_⟩, ⟨?_⟩⟩ <;> decide) (by decide +kernel) (k2.up (by omega))⟩⟩
    · refine ⟨Nat.le_of_ble_eq_true rfl, Nat.le_of_ble_eq_true rfl, Nat.le_of_ble_eq_true rfl, Nat.le_of_ble_eq_true rfl, rfl, law_map_ok (f := 0) (n := 3) (A := ⟨(0, -1), (0, 0), (0, 0), (1, 0)⟩) (by refine ⟨⟨?_⟩, ⟨?_⟩, ⟨?_⟩, ⟨?_⟩, ⟨?_⟩, ⟨?_⟩, ⟨?_⟩, ⟨?_⟩⟩ <;> decide) (by decide) (by decide) rfl ⟨Nat.le_of_ble_eq_true rfl, fin 0 _ 4 t2 (by refine ⟨⟨?_⟩, ⟨?_⟩, ⟨?_⟩, ⟨?_⟩, ⟨?_⟩, ⟨?_⟩, ⟨?_⟩, ⟨?_⟩⟩ <;> decide) (by decide +kernel) (k2.up (by omega))⟩⟩
  (show q_law_laid_10 _ [_, _, _, _]; delta q_law_laid_10; refine hid_of ?_)
  refine ⟨Or.inr ⟨rfl, rfl⟩, trivial, ?_⟩
  rw [eqv_int]
  refine ite_b (fun z => ?_) (fun z => ?_)
  · (show q_law_laid_11 _ [_, _, _, _]; delta q_law_laid_11; refine hid_of ?_)
    refine ⟨Nat.le_of_ble_eq_true rfl, Nat.le_of_ble_eq_true rfl, Nat.le_of_ble_eq_true rfl, Nat.le_of_ble_eq_true rfl, Nat.le_of_ble_eq_true rfl, rfl, law_map_ok (f := 0) (n := 3) (A := ⟨(1, 0), (-1, 0), (1, 0), (2, 0)⟩) (by refine ⟨⟨?_⟩, ⟨?_⟩, ⟨?_⟩, ⟨?_⟩, ⟨?_⟩, ⟨?_⟩, ⟨?_⟩, ⟨?_⟩⟩ <;> decide) (by decide) (by decide) rfl ⟨Nat.le_of_ble_eq_true rfl, fin 0 _ 6 t2 (by refine ⟨⟨?_⟩, ⟨?_⟩, ⟨?_⟩, ⟨?_⟩, ⟨?_⟩, ⟨?_⟩, ⟨?_⟩, ⟨?_⟩⟩ <;> decide) (by decide +kernel) (k2.up (by omega))⟩⟩
  (show q_law_laid_12 _ [_, _, _, _]; delta q_law_laid_12; refine hid_of ?_)
  refine ⟨Or.inr ⟨rfl, rfl⟩, trivial, ?_⟩
  rw [eqv_int]
  refine ite_b (fun z => ?_) (fun z => ?_)
  · (show q_law_laid_13 _ [_, _, _, _]; delta q_law_laid_13; refine hid_of ?_)
    refine ⟨Nat.le_of_ble_eq_true rfl, Nat.le_of_ble_eq_true rfl, Nat.le_of_ble_eq_true rfl, Nat.le_of_ble_eq_true rfl, rfl, b + 1 + 1, _, k2, by omega, Or.inl rfl, by decide, by decide, fun x t3 hx k3 => ?_⟩
    simp only [List.mem_cons, List.not_mem_nil, or_false] at hx
    rcases hx with rfl | rfl
    · refine ⟨Nat.le_of_ble_eq_true rfl, Nat.le_of_ble_eq_true rfl, Nat.le_of_ble_eq_true rfl, rfl, law_map_ok (f := 1) (n := 3) (A := ⟨(0, 0), (3, 0), (1, 0), (0, 0)⟩) (by refine ⟨⟨?_⟩, ⟨?_⟩, ⟨?_⟩, ⟨?_⟩, ⟨?_⟩, ⟨?_⟩, ⟨?_⟩, ⟨?_⟩⟩ <;> decide) (by decide) (by decide) rfl ⟨Nat.le_of_ble_eq_true rfl, fin 1 _ 2 t3 (by refine ⟨⟨?_⟩, ⟨?_⟩, ⟨?_⟩, ⟨?_⟩, ⟨?_⟩, ⟨?_⟩, ⟨?_⟩, ⟨?_⟩⟩ <;> decide) (by decide +kernel) (k3.up (by omega))⟩⟩
    · refine ⟨Nat.le_of_ble_eq_true rfl, Nat.le_of_ble_eq_true rfl, Nat.le_of_ble_eq_true rfl, rfl, law_map_ok (f := 1) (n := 3) (A := ⟨(0, 0), (-2, 0), (1, 0), (0, 0)⟩) (by refine ⟨⟨?_⟩, ⟨?_⟩, ⟨?_⟩, ⟨?_⟩, ⟨?_⟩, ⟨?_⟩, ⟨?_⟩, ⟨?_⟩⟩ <;> decide) (by decide) (by decide) rfl ⟨Nat.le_of_ble_eq_true rfl, fin 1 _ 2 t3 (by refine ⟨⟨?_⟩, ⟨?_⟩, ⟨?_⟩, ⟨?_⟩, ⟨?_⟩, ⟨?_⟩, ⟨?_⟩, ⟨?_⟩⟩ <;> decide) (by decide +kernel) (k3.up (by omega))⟩⟩
  (show q_law_laid_14 _ [_, _, _, _]; delta q_law_laid_14; refine hid_of ?_)
  refine ⟨Or.inr ⟨rfl, rfl⟩, trivial, ?_⟩
  rw [eqv_int]
  refine ite_b (fun z => ?_) (fun z => ?_)
  · (show q_law_laid_15 _ [_, _, _, _]; delta q_law_laid_15; refine hid_of ?_)
    refine ⟨Nat.le_of_ble_eq_true rfl, Nat.le_of_ble_eq_true rfl, Nat.le_of_ble_eq_true rfl, Nat.le_of_ble_eq_true rfl, Nat.le_of_ble_eq_true rfl, rfl, law_map_ok (f := 1) (n := 3) (A := ⟨(1, 0), (1, 0), (-1, 0), (0, 0)⟩) (by refine ⟨⟨?_⟩, ⟨?_⟩, ⟨?_⟩, ⟨?_⟩, ⟨?_⟩, ⟨?_⟩, ⟨?_⟩, ⟨?_⟩⟩ <;> decide) (by decide) (by decide) rfl ⟨Nat.le_of_ble_eq_true rfl, fin 1 _ 6 t2 (by refine ⟨⟨?_⟩, ⟨?_⟩, ⟨?_⟩, ⟨?_⟩, ⟨?_⟩, ⟨?_⟩, ⟨?_⟩, ⟨?_⟩⟩ <;> decide) (by decide +kernel) (k2.up (by omega))⟩⟩
  (show q_law_laid_16 _ [_, _, _, _]; delta q_law_laid_16; refine hid_of ?_)
  refine ⟨Nat.le_of_ble_eq_true rfl, Nat.le_of_ble_eq_true rfl, Nat.le_of_ble_eq_true rfl, rfl, b + 1 + 1, _, k2, by omega, Or.inl rfl, by decide, by decide, fun x t3 hx k3 => ?_⟩
  simp only [List.mem_cons, List.not_mem_nil, or_false] at hx
  rcases hx with rfl | rfl
  · (show q_law_laid_17 _ [_, _, _, _]; delta q_law_laid_17; refine hid_of ?_)
    refine ⟨Nat.le_of_ble_eq_true rfl, Nat.le_of_ble_eq_true rfl, Nat.le_of_ble_eq_true rfl, Nat.le_of_ble_eq_true rfl, rfl, law_map_ok (f := 1) (n := 3) (A := ⟨(0, 0), (0, 1), (1, 0), (0, 0)⟩) (by refine ⟨⟨?_⟩, ⟨?_⟩, ⟨?_⟩, ⟨?_⟩, ⟨?_⟩, ⟨?_⟩, ⟨?_⟩, ⟨?_⟩⟩ <;> decide) (by decide) (by decide) rfl ⟨Nat.le_of_ble_eq_true rfl, Or.inr ⟨rfl, rfl⟩, trivial, ?_⟩⟩
    refine ite_t rfl ?_
    exact ⟨Nat.le_of_ble_eq_true rfl, fin 1 _ 4 t3 (by refine ⟨⟨?_⟩, ⟨?_⟩, ⟨?_⟩, ⟨?_⟩, ⟨?_⟩, ⟨?_⟩, ⟨?_⟩, ⟨?_⟩⟩ <;> decide) (by decide +kernel) (k3.up (by omega))⟩
  · (show q_law_laid_17 _ [_, _, _, _]; delta q_law_laid_17; refine hid_of ?_)
    refine ⟨Nat.le_of_ble_eq_true rfl, Nat.le_of_ble_eq_true rfl, Nat.le_of_ble_eq_true rfl, Nat.le_of_ble_eq_true rfl, rfl, law_map_ok (f := 1) (n := 3) (A := ⟨(0, 0), (1, 1), (1, 0), (0, 0)⟩) (by refine ⟨⟨?_⟩, ⟨?_⟩, ⟨?_⟩, ⟨?_⟩, ⟨?_⟩, ⟨?_⟩, ⟨?_⟩, ⟨?_⟩⟩ <;> decide) (by decide) (by decide) rfl ⟨Nat.le_of_ble_eq_true rfl, Or.inr ⟨rfl, rfl⟩, trivial, ?_⟩⟩
    refine ite_f rfl ?_
    exact ⟨Nat.le_of_ble_eq_true rfl, fin 1 _ 8 t3 (by refine ⟨⟨?_⟩, ⟨?_⟩, ⟨?_⟩, ⟨?_⟩, ⟨?_⟩, ⟨?_⟩, ⟨?_⟩, ⟨?_⟩⟩ <;> decide) (by decide +kernel) (k3.up (by omega))⟩
def w_law_return_right : Ws := (wSeq (wIf (dTru (dOp fNe (dCal fRepr (daC (dLst (daC (dFn 1 c_return_of (daC (dVar 0) daN)) (daC (dFn 1 c_return_of (daC (dVar 0) daN)) (daC (dFn 2 c_power_of (daC (dVar 0) (daC (dVar 1) daN))) daN)))) daN)) (dCal fRepr (daC (dLst (daC (dVar 1) (daC (dVar 1) (daC (dFn 0 c_law_stays daN) daN)))) daN)))) (wRet (dLit (.bool false))) wNx) (wRet (dOp fEq (dLc [2] (diR2 (daC (dLit (.int 1)) (daC (dVar 1) daN))) (gN 2) (dTru (dOp fEq (dFn 2 c_power_of (daC (dVar 0) (daC (dVar 2) daN))) (dFn 0 c_law_stays daN))) (dVar 2)) (dLst daN))))
@[irreducible] noncomputable def q_law_return_right_2 : Ws := hid (wRet (dLit (.bool false)))
@[irreducible] noncomputable def q_law_return_right_3 : Ws := hid (wRet (dOp fEq (dLc [2] (diR2 (daC (dLit (.int 1)) (daC (dVar 1) daN))) (gN 2) (dTru (dOp fEq (dFn 2 c_power_of (daC (dVar 0) (daC (dVar 2) daN))) (dFn 0 c_law_stays daN))) (dVar 2)) (dLst daN)))
@[irreducible] noncomputable def q_law_return_right_1 : Ws := hid (wSeq (wIf (dTru (dOp fNe (dCal fRepr (daC (dLst (daC (dFn 1 c_return_of (daC (dVar 0) daN)) (daC (dFn 1 c_return_of (daC (dVar 0) daN)) (daC (dFn 2 c_power_of (daC (dVar 0) (daC (dVar 1) daN))) daN)))) daN)) (dCal fRepr (daC (dLst (daC (dVar 1) (daC (dVar 1) (daC (dFn 0 c_law_stays daN) daN)))) daN)))) q_law_return_right_2 wNx) q_law_return_right_3)
theorem e_law_return_right : w_law_return_right = q_law_return_right_1 := by delta q_law_return_right_1 q_law_return_right_3 q_law_return_right_2; simp only [hid_eq]; with_unfolding_all rfl
theorem sem_law_return_right : ∀ ds R, c_law_return_right ds R → ds.length = 2 → w_law_return_right (edP R) (ev0 1 ds) := by
  intro ds R h _
  obtain ⟨P, m, rfl, hf, F, m0, m1, hr, hm, hn, q⟩ := h
  have ok : MOk P := ⟨hf, 30, F⟩
  have F3 : Fm4 300 P.2 := F.up (by decide)
  have bd : ∀ j : Int, j.natAbs ≤ 8 → ∀ k : Nat, k ≤ j.natAbs → Fm4 400 (pw (if 0 < j then P else pb P) k).2 := fun j hj => hk_ok hf F (by omega)
  have sm : Sz 5 (m : Int) := ⟨by omega⟩
  have em : pz P m = p1 := by rw [pz_pos, hm]
  rw [e_law_return_right]; (show q_law_return_right_1 _ [_, _, _]; delta q_law_return_right_1; refine hid_of ?_)
  refine ⟨rfl, ret_ok (d := .int m) hf F (by decide) hr rfl ⟨rfl, ret_ok (d := .int m) hf F (by decide) hr rfl ⟨rfl, pone_ok ok F3 (by omega) (bd m (by omega)) em ?_⟩⟩⟩
  refine ⟨Nat.le_of_ble_eq_true rfl, ?_⟩
  refine (show RP (.list [.int m, .int m, mp 0 (1, 0) (0, 0) (0, 0) (1, 0)]) _ from ?_)
  walk_at "rp"
  refine ⟨rfl, rfl, ?_⟩
  refine ⟨Nat.le_of_ble_eq_true rfl, ?_⟩
  refine (show RP (.list [.int m, .int m, mp 0 (1, 0) (0, 0) (0, 0) (1, 0)]) _ from ?_)
  walk_at "rp"
  refine ⟨Or.inl rfl, trivial, ?_⟩
  walk_at "ne"
  (show q_law_return_right_3 _ [_, _, _]; delta q_law_return_right_3; refine hid_of ?_)
  refine ⟨⟨by decide, by decide, by omega, by omega⟩, ?_⟩
  refine lc_keepA (xs := List.range ((m : Int) - 1).toNat) (d := fun i => .int (1 + (i : Nat))) (p := fun _ => false) (f := fun _ => .none) rfl rfl ?_ (fun i hi R r => ?_) (fun i hi h R r => by cases h) ?_
  · rw [List.length_range, List.length_nil]
    omega
  · have hi : i < ((m : Int) - 1).toNat := List.mem_range.mp hi
    have ne : pw P (1 + i) ≠ p1 := hn (1 + i) (by omega) (by omega)
    have ez : pz P (1 + (i : Nat)) = pw P (1 + i) := by
      rw [show (1 : Int) + (i : Nat) = ((1 + i : Nat) : Int) by omega, pz_pos]
    refine ⟨rfl, power_ok ok F3 (by omega) (bd _ (by omega)) ez ⟨rfl, rfl, Or.inr ⟨rfl, rfl⟩, trivial, ?_⟩⟩
    have e : PyData.eqv (mpP (pw P (1 + i))) (mp4 0 M4.one) = false := by
      rw [eqv_M]
      by_cases z1 : (pw P (1 + i)).1 = 0
      · by_cases z2 : (pw P (1 + i)).2 = M4.one
        · exact absurd (Prod.ext z1 z2) ne
        · rw [decide_eq_false z2, Bool.and_false]
      · rw [decide_eq_false z1, Bool.false_and]
    rw [show PyData.eqv (mpP (pw P (1 + i))) (mp 0 (1, 0) (0, 0) (0, 0) (1, 0)) = false from e]
    exact r
  · have ef : List.filter (fun _ => false) (List.range ((m : Int) - 1).toNat) = [] := List.filter_eq_nil_iff.mpr fun _ _ => by decide
    rw [ef]
    exact ⟨Nat.le_of_ble_eq_true rfl, Or.inr ⟨rfl, rfl⟩, q⟩
theorem rright_ok {P : MP} {m : Nat} {R : PyData → Prop} (hf : P.1 = 0 ∨ P.1 = 1) (F : Fm4 30 P.2) (m0 : 0 < m) (m1 : m ≤ 8) (hr : rtn P = some (m : Int)) (hm : pw P m = p1) (hn : ∀ k : Nat, 0 < k → k < m → pw P k ≠ p1) (q : R (.bool true)) : c_law_return_right [mpP P, .int m] R := ⟨P, m, rfl, hf, F, m0, m1, hr, hm, hn, q⟩
def w_law_any_right : Ws := (wSeq (wAsg (dIf (dTru (dOp fEq (dOp fIx (dVar 0) (dLit (.int 0))) (dLit (.int 1)))) (dFn 2 c_law_after (daC (dVar 0) (daC (dVar 0) daN))) (dVar 0)) (gN 1)) (wSeq (wAsg (dIf (dTru (dOp fEq (dOp fIx (dVar 0) (dLit (.int 0))) (dLit (.int 1)))) (dLit (.int 2)) (dLit (.int 1))) (gN 2)) (wSeq (wAsg (dFn 2 c_law_plus (daC (dOp fIx (dVar 1) (dLit (.int 1))) (daC (dOp fIx (dVar 1) (dLit (.int 4))) daN))) (gN 3)) (wSeq (wAsg (dFn 2 c_law_place_of (daC (dFn 2 c_law_times (daC (dVar 3) (daC (dVar 3) daN))) (daC (dFn 1 c_law_det (daC (dSl (dVar 1) (doS (dLit (.int 1))) doN) daN)) daN))) (gN 4)) (wSeq (wAsg (dTup (daC (dTupF (daC (dTup (daC (dLit (.int 0)) (daC (dLit (.int 0)) (daC (dLit (.int 1)) daN)))) (daC (dTup (daC (dLit (.int 1)) (daC (dLit (.int 0)) (daC (dLit (.int 1)) daN)))) (daC (dTup (daC (dLit (.int 2)) (daC (dLit (.int 0)) (daC (dLit (.int 1)) daN)))) (daC (dTup (daC (dLit (.int 3)) (daC (dLit (.int 0)) (daC (dLit (.int 1)) daN)))) daN))))) (daC (dLit .none) daN))) (gT 2 (gsC (gN 5) (gsC (gN 6) gsN)))) (wSeq (wIf (dTru (dOp fIn (dVar 4) (dUnf (dVar 5)))) (wAsg (dOp fMul (dVar 2) (dOp fIx (dTup (daC (dLit (.int 2)) (daC (dLit (.int 3)) (daC (dLit (.int 4)) (daC (dLit (.int 6)) daN))))) (dMetT (dVar 5) (dVar 4)))) (gN 6)) wNx) (wSeq (wIf (dTru (dOp fEq (dVar 1) (dFn 0 c_law_stays daN))) (wAsg (dVar 2) (gN 6)) wNx) (wRet (dOp fEq (dCal fRepr (daC (dFn 1 c_return_of (daC (dVar 0) daN)) daN)) (dCal fRepr (daC (dVar 6) daN)))))))))))
@[irreducible] noncomputable def q_law_any_right_7 : Ws := hid (wAsg (dOp fMul (dVar 2) (dOp fIx (dTup (daC (dLit (.int 2)) (daC (dLit (.int 3)) (daC (dLit (.int 4)) (daC (dLit (.int 6)) daN))))) (dMetT (dVar 5) (dVar 4)))) (gN 6))
@[irreducible] noncomputable def q_law_any_right_9 : Ws := hid (wAsg (dVar 2) (gN 6))
@[irreducible] noncomputable def q_law_any_right_10 : Ws := hid (wRet (dOp fEq (dCal fRepr (daC (dFn 1 c_return_of (daC (dVar 0) daN)) daN)) (dCal fRepr (daC (dVar 6) daN))))
@[irreducible] noncomputable def q_law_any_right_8 : Ws := hid (wSeq (wIf (dTru (dOp fEq (dVar 1) (dFn 0 c_law_stays daN))) q_law_any_right_9 wNx) q_law_any_right_10)
@[irreducible] noncomputable def q_law_any_right_6 : Ws := hid (wSeq (wIf (dTru (dOp fIn (dVar 4) (dUnf (dVar 5)))) q_law_any_right_7 wNx) q_law_any_right_8)
@[irreducible] noncomputable def q_law_any_right_5 : Ws := hid (wSeq (wAsg (dTup (daC (dTupF (daC (dTup (daC (dLit (.int 0)) (daC (dLit (.int 0)) (daC (dLit (.int 1)) daN)))) (daC (dTup (daC (dLit (.int 1)) (daC (dLit (.int 0)) (daC (dLit (.int 1)) daN)))) (daC (dTup (daC (dLit (.int 2)) (daC (dLit (.int 0)) (daC (dLit (.int 1)) daN)))) (daC (dTup (daC (dLit (.int 3)) (daC (dLit (.int 0)) (daC (dLit (.int 1)) daN)))) daN))))) (daC (dLit .none) daN))) (gT 2 (gsC (gN 5) (gsC (gN 6) gsN)))) q_law_any_right_6)
@[irreducible] noncomputable def q_law_any_right_4 : Ws := hid (wSeq (wAsg (dFn 2 c_law_place_of (daC (dFn 2 c_law_times (daC (dVar 3) (daC (dVar 3) daN))) (daC (dFn 1 c_law_det (daC (dSl (dVar 1) (doS (dLit (.int 1))) doN) daN)) daN))) (gN 4)) q_law_any_right_5)
@[irreducible] noncomputable def q_law_any_right_3 : Ws := hid (wSeq (wAsg (dFn 2 c_law_plus (daC (dOp fIx (dVar 1) (dLit (.int 1))) (daC (dOp fIx (dVar 1) (dLit (.int 4))) daN))) (gN 3)) q_law_any_right_4)
@[irreducible] noncomputable def q_law_any_right_2 : Ws := hid (wSeq (wAsg (dIf (dTru (dOp fEq (dOp fIx (dVar 0) (dLit (.int 0))) (dLit (.int 1)))) (dLit (.int 2)) (dLit (.int 1))) (gN 2)) q_law_any_right_3)
@[irreducible] noncomputable def q_law_any_right_1 : Ws := hid (wSeq (wAsg (dIf (dTru (dOp fEq (dOp fIx (dVar 0) (dLit (.int 0))) (dLit (.int 1)))) (dFn 2 c_law_after (daC (dVar 0) (daC (dVar 0) daN))) (dVar 0)) (gN 1)) q_law_any_right_2)
theorem e_law_any_right : w_law_any_right = q_law_any_right_1 := by delta q_law_any_right_1 q_law_any_right_2 q_law_any_right_3 q_law_any_right_4 q_law_any_right_5 q_law_any_right_6 q_law_any_right_8 q_law_any_right_10 q_law_any_right_9 q_law_any_right_7; simp only [hid_eq]; with_unfolding_all rfl
def qps : List T3 := [(0, 0, 1), (1, 0, 1), (2, 0, 1), (3, 0, 1)]
theorem lk_none {t : T3} (h : t ∉ qps) : kt_RETURNS.lookup [t.1, t.2.1, t.2.2] = none := by
  obtain ⟨a, b, c⟩ := t
  simp only [qps, List.mem_cons, List.not_mem_nil, or_false, not_or, Prod.mk.injEq] at h
  simp only [kt_RETURNS, List.lookup_cons, List.lookup_nil]
  obtain ⟨h1, h2, h3, h4⟩ := h
  have ne : ∀ x : Int, ¬(a = x ∧ b = 0 ∧ c = 1) → (([a, b, c] : List Int) == [x, 0, 1]) = false := fun x n => by
    refine beq_eq_false_iff_ne.mpr fun e => n ?_
    injection e with e1 e
    injection e with e2 e
    injection e with e3 e
    exact ⟨e1, e2, e3⟩
  rw [ne 0 h1, ne 1 h2, ne 2 h3, ne 3 h4]
theorem sem_law_any_right : ∀ ds R, c_law_any_right ds R → ds.length = 1 → w_law_any_right (edP R) (ev0 6 ds) := by
  intro ds R h _
  obtain ⟨⟨f, A⟩, rfl, hf, F, q⟩ := h
  have hf : f = 0 ∨ f = 1 := hf
  have F : Fm4 30 A := F
  have key : ∀ (B : M4) (e : Int), (e = 1 ∨ e = 2) → Fm4 65 B → rtn (f, A) = (rtP B).map (e * ·) → q_law_any_right_3 (edP R) [some (.val (mp4 f A)), some (.val (mp4 0 B)), some (.val (.int e)), none, none, none, none] := by
    intro B e he FB hr
    have se : Sz 3 e := ⟨by omega⟩
    obtain ⟨_, _, _, _, _, _, _, _⟩ := id FB.sz
    have t1 : Sz 66 B.tr.1 := (inferInstance : Sz _ (B.a.1 + B.d.1))
    have t2 : Sz 66 B.tr.2 := (inferInstance : Sz _ (B.a.2 + B.d.2))
    obtain ⟨z1, z2⟩ := dtm_sz FB.sz
    (show q_law_any_right_3 _ [_, _, _, _, _, _, _]; delta q_law_any_right_3; refine hid_of ?_)
    refine ⟨rfl, B.a.1, B.a.2, B.d.1, B.d.2, rfl, ⟨by walk_at "sz", by walk_at "sz", by walk_at "sz", by walk_at "sz"⟩, ?_⟩
    refine (show q_law_any_right_4 (edP R) [some (.val (mp4 f A)), some (.val (mp4 0 B)), some (.val (.int e)), some (.val (cd B.tr)), none, none, none] from ?_)
    (show q_law_any_right_4 _ [_, _, _, _, _, _, _]; delta q_law_any_right_4; refine hid_of ?_)
    refine ⟨rfl, B.tr.1, B.tr.2, B.tr.1, B.tr.2, rfl, ⟨by walk_at "sz", by walk_at "sz", by walk_at "sz", by walk_at "sz"⟩, ?_⟩
    refine ⟨rfl, B.a, B.b, B.c, B.d, .inr rfl, FB.sz.up (by decide), ?_⟩
    refine ⟨rfl, B.tr * B.tr, B.dt, rfl, ⟨szUp (inferInstance : Sz _ (B.tr.1 * B.tr.1 - B.tr.2 * B.tr.2)) (by decide), szUp (inferInstance : Sz _ (B.tr.1 * B.tr.2 + B.tr.2 * B.tr.1)) (by decide), szUp z1 (by decide), szUp z2 (by decide)⟩, ?_⟩
    rw [qp_qt]
    refine (show q_law_any_right_5 (edP R) [some (.val (mp4 f A)), some (.val (mp4 0 B)), some (.val (.int e)), some (.val (cd B.tr)), some (.val (pd (rto B))), none, none] from ?_)
    obtain ⟨t, et⟩ : ∃ t, rto B = t := ⟨_, rfl⟩
    have hr : rtn (f, A) = (if B = M4.one then some 1 else kt_RETURNS.lookup [t.1, t.2.1, t.2.2]).map (e * ·) := by rw [hr, ← et]; rfl
    rw [et]
    (show q_law_any_right_5 _ [_, _, _, _, _, _, _]; delta q_law_any_right_5; refine hid_of ?_)
    refine ⟨Nat.le_of_ble_eq_true rfl, Nat.le_of_ble_eq_true rfl, Nat.le_of_ble_eq_true rfl, Nat.le_of_ble_eq_true rfl, Nat.le_of_ble_eq_true rfl, fun ad => ?_⟩
    have fin : ∀ d : PyData, oi (rtn (f, A)) = d → (∀ Q : Prop, Q → RP d Q) → q_law_any_right_10 (edP R) [some (.val (mp4 f A)), some (.val (mp4 0 B)), some (.val (.int e)), some (.val (cd B.tr)), some (.val (pd t)), some (.val (frD ad (qps.map pd))), some (.val d)] := by
      intro d hd rp
      (show q_law_any_right_10 _ [_, _, _, _, _, _, _]; delta q_law_any_right_10; refine hid_of ?_)
      refine ⟨rfl, ret_ok (P := (f, A)) (d := d) hf F (by decide) rfl hd ?_⟩
      refine rp _ ?_
      refine rp _ ?_
      refine ⟨Or.inl rfl, ?_⟩
      rw [eqv_str, decide_eq_true (p := _ = _) rfl]
      exact q
    have st : ∀ d : PyData, (B ≠ M4.one → oi (rtn (f, A)) = d ∧ (∀ Q : Prop, Q → RP d Q)) → q_law_any_right_8 (edP R) [some (.val (mp4 f A)), some (.val (mp4 0 B)), some (.val (.int e)), some (.val (cd B.tr)), some (.val (pd t)), some (.val (frD ad (qps.map pd))), some (.val d)] := by
      intro d hd
      (show q_law_any_right_8 _ [_, _, _, _, _, _, _]; delta q_law_any_right_8; refine hid_of ?_)
      refine ⟨rfl, rfl, Or.inr ⟨rfl, rfl⟩, trivial, ?_⟩
      rw [eqv_one]
      refine ite_b (fun z => ?_) (fun z => ?_)
      · have z : B = M4.one := of_decide_eq_true z
        (show q_law_any_right_9 _ [_, _, _, _, _, _, _]; delta q_law_any_right_9; refine hid_of ?_)
        show gN 6 (.int e) [some (.val (mp4 f A)), some (.val (mp4 0 B)), some (.val (.int e)), some (.val (cd B.tr)), some (.val (pd t)), some (.val (frD ad (qps.map pd))), some (.val d)] (q_law_any_right_10 (edP R))
        refine gN_fr (s := some (.val d)) rfl fr_val ?_
        refine fin (.int e) ?_ fun Q g => ?_
        · rw [hr, if_pos z]
          show PyData.int (e * 1) = _
          rw [Int.mul_one]
        · refine (show RP (.int e) _ from ?_)
          walk_at "rp"
          exact g
      · exact fin d (hd (of_decide_eq_false z)).1 (hd (of_decide_eq_false z)).2
    refine ⟨Nat.le_of_ble_eq_true rfl, rfl, ?_⟩
    refine (show q_law_any_right_6 (edP R) [some (.val (mp4 f A)), some (.val (mp4 0 B)), some (.val (.int e)), some (.val (cd B.tr)), some (.val (pd t)), some (.val (frD ad (qps.map pd))), some (.val .none)] from ?_)
    (show q_law_any_right_6 _ [_, _, _, _, _, _, _]; delta q_law_any_right_6; refine hid_of ?_)
    refine ⟨qps.map pd, rfl, ⟨rfl, rfl⟩, trivial, ?_⟩
    rw [inD_pds]
    refine ite_b (fun z => ?_) (fun z => ?_)
    · have z : t ∈ qps := of_decide_eq_true z
      have go : ∀ (v : Int) (j : Nat), Sz 4 v → kt_RETURNS.lookup [t.1, t.2.1, t.2.2] = some v → ixD (pd t) (qps.map pd) = some j → atI [PyData.int 2, PyData.int 3, PyData.int 4, PyData.int 6] (j : Int) = some (.int v) → q_law_any_right_7 { nx := q_law_any_right_8 (edP R), rt := (edP R).rt, bk := (edP R).bk, ct := (edP R).ct, rl := (edP R).rl } [some (.val (mp4 f A)), some (.val (mp4 0 B)), some (.val (.int e)), some (.val (cd B.tr)), some (.val (pd t)), some (.val (frD ad (qps.map pd))), some (.val .none)] := by
        intro v j sv hv hx ha
        have hm : oi (rtn (f, A)) = .int (e * v) ∨ B = M4.one := by
          by_cases z : B = M4.one
          · exact .inr z
          · refine .inl ?_
            rw [hr, if_neg z, hv]
            rfl
        (show q_law_any_right_7 _ [_, _, _, _, _, _, _]; delta q_law_any_right_7; refine hid_of ?_)
        refine ⟨Nat.le_of_ble_eq_true rfl, qps.map pd, rfl, rfl, rfl, ?_⟩
        rw [hx]
        refine fIx_tup ha ?_
        refine ⟨by walk_at "sz", ?_⟩
        show gN 6 (.int (e * v)) [some (.val (mp4 f A)), some (.val (mp4 0 B)), some (.val (.int e)), some (.val (cd B.tr)), some (.val (pd t)), some (.val (frD ad (qps.map pd))), some (.val .none)] (q_law_any_right_8 (edP R))
        refine gN_fr (s := some (.val .none)) rfl fr_val ?_
        refine st (.int (e * v)) fun nb => ⟨hm.resolve_right nb, fun Q g => ?_⟩
        refine (show RP (.int (e * v)) _ from ?_)
        walk_at "rp"
        exact g
      simp only [qps, List.mem_cons, List.not_mem_nil, or_false] at z
      rcases z with rfl | rfl | rfl | rfl
      · exact go 2 0 ⟨by decide⟩ rfl rfl rfl
      · exact go 3 1 ⟨by decide⟩ rfl rfl rfl
      · exact go 4 2 ⟨by decide⟩ rfl rfl rfl
      · exact go 6 3 ⟨by decide⟩ rfl rfl rfl
    · refine st .none fun nb => ⟨?_, fun Q g => ?_⟩
      · have z : t ∉ qps := of_decide_eq_false z
        rw [hr, if_neg nb, lk_none z]
        rfl
      · refine (show RP .none _ from ?_)
        walk_at "rp"
        exact g
  rw [e_law_any_right]; (show q_law_any_right_1 _ [_, _, _, _, _, _, _]; delta q_law_any_right_1; refine hid_of ?_)
  rcases hf with rfl | rfl
  · refine ⟨Or.inr ⟨rfl, rfl⟩, trivial, ite_f rfl ?_⟩
    (show q_law_any_right_2 _ [_, _, _, _, _, _, _]; delta q_law_any_right_2; refine hid_of ?_)
    refine ⟨Or.inr ⟨rfl, rfl⟩, trivial, ite_f rfl ?_⟩
    refine key A 1 (.inl rfl) (F.up (by decide)) ?_
    show rtP A = _
    cases rtP A with
    | none => rfl
    | some i => exact congrArg some (Int.one_mul i).symm
  · refine ⟨Or.inr ⟨rfl, rfl⟩, trivial, ite_t rfl ?_⟩
    refine ⟨rfl, joinP (P := (1, A)) (Q := (1, A)) ⟨.inr rfl, 30, F⟩ ⟨.inr rfl, 30, F⟩ F F (by decide) rfl ?_⟩
    (show q_law_any_right_2 _ [_, _, _, _, _, _, _]; delta q_law_any_right_2; refine hid_of ?_)
    refine ⟨Or.inr ⟨rfl, rfl⟩, trivial, ite_t rfl ?_⟩
    exact key (aft 1 A A) 2 (.inr rfl) ((aft_fm2 F F).up (by decide)) rfl
theorem anyr_ok {P : MP} {R : PyData → Prop} (hf : P.1 = 0 ∨ P.1 = 1) (F : Fm4 30 P.2) (q : R (.bool true)) : c_law_any_right [mpP P] R := ⟨P, rfl, hf, F, q⟩
def w_law_right : Ws := (wSeq (wPar3 1 2 3 (daC (dFnT 0 1 c_law_drawn_map daN) (daC (dFnT 0 1 c_law_any_place daN) (daC (dFnT 0 1 c_law_drawn_map daN) daN)))) (wSeq (wPar 4 5 (daC (dOp fSub (dFnT 0 2 c_law_draw (daC (dLit (.int 11)) daN)) (dLit (.int 5))) (daC (dOp fSub (dFnT 0 2 c_law_draw (daC (dLit (.int 11)) daN)) (dLit (.int 5))) daN))) (wSeq (wIf (dOrT (dNotT (dTru (dFn 4 c_law_powers_right (daC (dVar 1) (daC (dVar 4) (daC (dVar 5) (daC (dVar 2) daN))))))) (dNotT (dTru (dFnT 0 1 c_law_far_right daN)))) (wRet (dLit (.bool false))) wNx) (wSeq (wAsg (dFnT 0 1 c_law_laid daN) (gT 2 (gsC (gN 6) (gsC (gN 7) gsN)))) (wSeq (wAsg (dFn 2 c_law_after (daC (dFn 2 c_law_after (daC (dVar 3) (daC (dVar 6) daN))) (daC (dFn 1 c_law_backward (daC (dVar 3) daN)) daN))) (gN 8)) (wSeq (wIf (dOrT (dNotT (dTru (dFn 2 c_law_return_right (daC (dVar 6) (daC (dVar 7) daN))))) (dNotT (dTru (dFn 2 c_law_return_right (daC (dVar 8) (daC (dVar 7) daN)))))) (wRet (dLit (.bool false))) wNx) (wRet (dAnd (dFn 1 c_law_any_right (daC (dVar 1) daN)) (dAnd (dFn 1 c_law_any_right (daC (dVar 3) daN)) (dFn 1 c_law_any_right (daC (dFn 2 c_law_after (daC (dVar 1) (daC (dVar 3) daN))) daN)))))))))))
@[irreducible] noncomputable def q_law_right_4 : Ws := hid (wRet (dLit (.bool false)))
@[irreducible] noncomputable def q_law_right_8 : Ws := hid (wRet (dLit (.bool false)))
@[irreducible] noncomputable def q_law_right_9 : Ws := hid (wRet (dAnd (dFn 1 c_law_any_right (daC (dVar 1) daN)) (dAnd (dFn 1 c_law_any_right (daC (dVar 3) daN)) (dFn 1 c_law_any_right (daC (dFn 2 c_law_after (daC (dVar 1) (daC (dVar 3) daN))) daN)))))
@[irreducible] noncomputable def q_law_right_7 : Ws := hid (wSeq (wIf (dOrT (dNotT (dTru (dFn 2 c_law_return_right (daC (dVar 6) (daC (dVar 7) daN))))) (dNotT (dTru (dFn 2 c_law_return_right (daC (dVar 8) (daC (dVar 7) daN)))))) q_law_right_8 wNx) q_law_right_9)
@[irreducible] noncomputable def q_law_right_6 : Ws := hid (wSeq (wAsg (dFn 2 c_law_after (daC (dFn 2 c_law_after (daC (dVar 3) (daC (dVar 6) daN))) (daC (dFn 1 c_law_backward (daC (dVar 3) daN)) daN))) (gN 8)) q_law_right_7)
@[irreducible] noncomputable def q_law_right_5 : Ws := hid (wSeq (wAsg (dFnT 0 1 c_law_laid daN) (gT 2 (gsC (gN 6) (gsC (gN 7) gsN)))) q_law_right_6)
@[irreducible] noncomputable def q_law_right_3 : Ws := hid (wSeq (wIf (dOrT (dNotT (dTru (dFn 4 c_law_powers_right (daC (dVar 1) (daC (dVar 4) (daC (dVar 5) (daC (dVar 2) daN))))))) (dNotT (dTru (dFnT 0 1 c_law_far_right daN)))) q_law_right_4 wNx) q_law_right_5)
@[irreducible] noncomputable def q_law_right_2 : Ws := hid (wSeq (wPar 4 5 (daC (dOp fSub (dFnT 0 2 c_law_draw (daC (dLit (.int 11)) daN)) (dLit (.int 5))) (daC (dOp fSub (dFnT 0 2 c_law_draw (daC (dLit (.int 11)) daN)) (dLit (.int 5))) daN))) q_law_right_3)
@[irreducible] noncomputable def q_law_right_1 : Ws := hid (wSeq (wPar3 1 2 3 (daC (dFnT 0 1 c_law_drawn_map daN) (daC (dFnT 0 1 c_law_any_place daN) (daC (dFnT 0 1 c_law_drawn_map daN) daN)))) q_law_right_2)
theorem e_law_right : w_law_right = q_law_right_1 := by delta q_law_right_1 q_law_right_2 q_law_right_3 q_law_right_5 q_law_right_6 q_law_right_7 q_law_right_9 q_law_right_8 q_law_right_4; simp only [hid_eq]; with_unfolding_all rfl
theorem rto_cj1 {A : M4} : rto (A.cj 1) = tj (rto A) := by
  unfold rto
  rw [dt_cj]
  have e : (A.cj 1).tr * (A.cj 1).tr = gj (A.tr * A.tr) := by
    have h : (A.cj 1).tr = gj A.tr := by
      show gj A.a + gj A.d = gj (A.a + A.d)
      exact Prod.ext rfl (by show -A.a.2 + -A.d.2 = -(A.a.2 + A.d.2); omega)
    rw [h]
    exact Prod.ext (by simp only [gmul, gj]; grind) (by simp only [gmul, gj]; grind)
  rw [e]
  exact qt_gj
theorem lk_tj (t : T3) : kt_RETURNS.lookup [(tj t).1, (tj t).2.1, (tj t).2.2] = kt_RETURNS.lookup [t.1, t.2.1, t.2.2] := by
  by_cases h : t ∈ qps
  · simp only [qps, List.mem_cons, List.not_mem_nil, or_false] at h
    rcases h with rfl | rfl | rfl | rfl <;> rfl
  · have h2 : tj t ∉ qps := fun z => h (by
      have e : tj (tj t) = t := Prod.ext rfl (Prod.ext (by show - -t.2.1 = t.2.1; omega) rfl)
      generalize tj t = u at *
      simp only [qps, List.mem_cons, List.not_mem_nil, or_false] at z
      rcases z with rfl | rfl | rfl | rfl <;> (rw [← e]; decide))
    rw [lk_none h, lk_none h2]
theorem rtP_seen {T : MP} {A : M4} {n : Nat} (h : MOk T) (F : Fm4 n A) : rtP (seen T (0, A)).2 = rtP A := by
  have hA := F.dt
  have hT := h.dt
  have okA : MOk (0, A) := ⟨.inl rfl, n, F⟩
  have e1 : (seen T (0, A)).1 = 0 := by
    show ((T.1 + 0) % 2 + T.1) % 2 = 0
    rcases h.1 with z | z <;> rw [z] <;> rfl
  have e2 : Sim (seen T (0, A)).2 (T.2.con (A.cj T.1)) := by
    have f : (T.1 + 0) % 2 = T.1 := by rcases h.1 with z | z <;> rw [z] <;> rfl
    have s1 : Sim (aft T.1 T.2 A) (T.2.mul (A.cj T.1)) := nrm_sim (dtMul hT hA)
    have s2 : Sim (bck T.1 T.2) (T.2.adj.cj T.1) := nrm_sim (dtAdj hT)
    have s3 := s1.mul (s2.cj ((T.1 + 0) % 2))
    have s4 : Sim (aft ((T.1 + 0) % 2) (aft T.1 T.2 A) (bck T.1 T.2)) ((aft T.1 T.2 A).mul ((bck T.1 T.2).cj ((T.1 + 0) % 2))) := nrm_sim (dtMul (aft_dt hT hA) (bck_dt hT))
    have s5 := s4.trans s3
    rw [f, cjm_self] at s5
    have s6 : (seen T (0, A)).2 = aft ((T.1 + 0) % 2) (aft T.1 T.2 A) (bck T.1 T.2) := rfl
    rw [s6, f]
    exact s5
  have e3 : rto (seen T (0, A)).2 = rto (A.cj T.1) := by
    have hc : (A.cj T.1).dt ≠ 0 := by rw [dt_cj]; exact cj_nz hA
    rw [rto_sim e2 (h.seen okA).dt (con_nz hT hc), rto_con hT hc]
  have e4 : kt_RETURNS.lookup [(rto (seen T (0, A)).2).1, (rto (seen T (0, A)).2).2.1, (rto (seen T (0, A)).2).2.2] = kt_RETURNS.lookup [(rto A).1, (rto A).2.1, (rto A).2.2] := by
    rw [e3]
    rcases h.1 with z | z
    · rw [z]; rfl
    · rw [z, rto_cj1, lk_tj]
  unfold rtP
  rw [e4]
  by_cases z : A = M4.one
  · have : (seen T (0, A)).2 = M4.one := by
      rw [z]
      exact congrArg Prod.snd (seen_one h)
    rw [if_pos z, if_pos this]
  · have : (seen T (0, A)).2 ≠ M4.one := fun y => z (congrArg Prod.snd (seen_inj h okA (Prod.ext e1 y)))
    rw [if_neg z, if_neg this]
theorem rtn_seen {T L : MP} (h : MOk T) (g : MOk L) : rtn (seen T L) = rtn L := by
  obtain ⟨i, A⟩ := L
  obtain ⟨hi, n, F⟩ := g
  have hi : i = 0 ∨ i = 1 := hi
  have okA : MOk (i, A) := ⟨hi, n, F⟩
  have e1 : (seen T (i, A)).1 = i := by
    show ((T.1 + i) % 2 + T.1) % 2 = i
    rcases h.1 with z | z <;> rw [z] <;> rcases hi with rfl | rfl <;> rfl
  unfold rtn
  rw [e1]
  rcases hi with rfl | rfl
  · exact rtP_seen h F
  · show (rtP (pm (seen T (1, A)) (seen T (1, A))).2).map (2 * ·) = (rtP (pm (1, A) (1, A)).2).map (2 * ·)
    rw [seen_mul h okA okA]
    have e2 : pm (1, A) (1, A) = (0, aft 1 A A) := rfl
    rw [e2, rtP_seen h (aft_fm2 F F)]
theorem seen_laid {T L : MP} {m : Nat} (h : MOk T) (g : Laid L m) : rtn (seen T L) = some (m : Int) ∧ pw (seen T L) m = p1 ∧ ∀ k : Nat, 0 < k → k < m → pw (seen T L) k ≠ p1 := by
  have ok : MOk L := ⟨g.fl, 4, g.fm⟩
  refine ⟨(rtn_seen h ok).trans g.rt, ?_, fun k k0 km e => ?_⟩
  · rw [seen_pw h ok, g.on, seen_one h]
  · rw [seen_pw h ok] at e
    exact g.no k k0 km (seen_inj h (ok.pw k) e)
theorem sem_law_right : ∀ ts ds R, c_law_right ts ds R → ds.length = 0 → w_law_right (edT R) (some (.own ts) :: ev0 8 ds) := by
  intro ts ds R h _
  obtain ⟨b, tk, hb, rfl, q⟩ := h
  rw [e_law_right]; (show q_law_right_1 _ [_, _, _, _, _, _, _, _, _]; delta q_law_right_1; refine hid_of ?_)
  refine ⟨rfl, drawn_ok tk (by omega) fun f A t1 hf F k1 => ?_⟩
  have key : ∀ (t : T3) t2, Pt t → S3 4 t → Tk (b + 67) t2 → dFnT 0 1 c_law_drawn_map daN [some (.own t2), none, none, none, none, none, none, none, none] fun d e => gN 1 (mp4 f A) e fun e1 => gN 2 (pd t) e1 fun e2 => gN 3 d e2 (q_law_right_2 (edT R)) := by
    intro t t2 T S k2
    refine ⟨rfl, drawn_ok k2 (by omega) fun g B t3 hg G k3 => ?_⟩
    refine (show q_law_right_2 (edT R) [some (.own t3), some (.val (mp4 f A)), some (.val (pd t)), some (.val (mp4 g B)), none, none, none, none, none] from ?_)
    (show q_law_right_2 _ [_, _, _, _, _, _, _, _, _]; delta q_law_right_2; refine hid_of ?_)
    refine ⟨rfl, b + 67 + 60, 11, k3, by omega, rfl, by decide, by decide, fun i t4 i0 i1 k4 => ⟨trivial, rfl, b + 67 + 60 + 1, 11, k4, by omega, rfl, by decide, by decide, fun j t5 j0 j1 k5 => ⟨trivial, ?_⟩⟩⟩
    refine (show q_law_right_3 (edT R) [some (.own t5), some (.val (mp4 f A)), some (.val (pd t)), some (.val (mp4 g B)), some (.val (.int (i - 5))), some (.val (.int (j - 5))), none, none, none] from ?_)
    have okA : MOk (f, A) := ⟨hf, 5, F⟩
    have okB : MOk (g, B) := ⟨hg, 5, G⟩
    (show q_law_right_3 _ [_, _, _, _, _, _, _, _, _]; delta q_law_right_3; refine hid_of ?_)
    refine ⟨rfl, pright_ok (P := (f, A)) hf F ⟨by omega, by omega⟩ ⟨by omega, by omega⟩ T S ⟨trivial, ?_⟩⟩
    refine ⟨rfl, far_ok k5 (by omega) fun t6 k6 => ⟨trivial, ite_f rfl ?_⟩⟩
    (show q_law_right_5 _ [_, _, _, _, _, _, _, _, _]; delta q_law_right_5; refine hid_of ?_)
    refine ⟨rfl, _, k6, by omega, rfl, fun L m t7 hL k7 => ⟨rfl, ?_⟩⟩
    have okL : MOk L := ⟨hL.fl, 4, hL.fm⟩
    obtain ⟨sr, so, sn⟩ := seen_laid okB hL
    have G1 : Fm4 12 (pm (g, B) L).2 := aft_fm2 (f := g) G hL.fm
    have G2 : Fm4 12 (pb (g, B)).2 := (bck_fm (f := g) G).up (by decide)
    have G3 : Fm4 30 (seen (g, B) L).2 := (aft_fm2 (f := (pm (g, B) L).1) G1 G2).up (by decide)
    (show q_law_right_6 _ [_, _, _, _, _, _, _, _, _]; delta q_law_right_6; refine hid_of ?_)
    refine ⟨rfl, joinP (P := (g, B)) (Q := L) okB okL (G.up (show 5 ≤ 12 by decide)) (hL.fm.up (by decide)) (by decide) rfl ⟨rfl, back_ok hg G (by decide) rfl ⟨rfl, joinP (P := pm (g, B) L) (Q := pb (g, B)) (okB.mul okL) okB.back G1 G2 (by decide) rfl ?_⟩⟩⟩
    (show q_law_right_7 _ [_, _, _, _, _, _, _, _, _]; delta q_law_right_7; refine hid_of ?_)
    refine ⟨rfl, rright_ok hL.fl (hL.fm.up (by decide)) hL.m0 hL.m8 hL.rt hL.on hL.no ⟨trivial, ?_⟩⟩
    refine ⟨rfl, rright_ok (P := seen (g, B) L) (okB.seen okL).1 G3 hL.m0 hL.m8 sr so sn ⟨trivial, ?_⟩⟩
    refine ite_f rfl ?_
    (show q_law_right_9 _ [_, _, _, _, _, _, _, _, _]; delta q_law_right_9; refine hid_of ?_)
    refine ⟨rfl, anyr_ok (P := (f, A)) hf (F.up (by decide)) ?_⟩
    refine ⟨rfl, anyr_ok (P := (g, B)) hg (G.up (by decide)) ?_⟩
    refine ⟨rfl, joinP (P := (f, A)) (Q := (g, B)) okA okB F G (by decide) rfl ⟨rfl, anyr_ok (P := pm (f, A) (g, B)) (okA.mul okB).1 ((aft_fm2 (f := f) F G).up (by decide)) ?_⟩⟩
    exact q t7
  refine ⟨rfl, b + 60, k1, by omega, rfl, fun t2 k2 => key (1, 0, 0) t2 Pt.far (S3.far (by decide)) (k2.up (by omega)), fun x y z t2 rt k2 => ?_⟩
  obtain ⟨T, S⟩ := Pt.of_rt rt
  exact key (x, y, z) t2 T S (k2.up (by omega))
def w_law : Ws := (wSeq (wFor (diR1 (daC (dFn 1 c_law_rounds (daC (dVar 0) daN)) daN)) (gN 1) (wIf (dNotT (dTru (dFnF 2 c_law_tank c_law_right (daC (dVar 0) (daC (dVar 1) daN))))) (wRet (dLit (.bool false))) wNx)) (wRet (dLit (.bool true))))
theorem sem_law : ∀ ds R, c_law ds R → ds.length = 1 → w_law (edP R) (ev0 1 ds) := by
  intro ds R h _
  obtain ⟨ns, rfl, hl, q⟩ := h
  refine ⟨rfl, ns, rfl, hl, fun k k0 k1 => ?_⟩
  refine ⟨⟨by omega, by omega⟩, ?_⟩
  refine foD_inv (fun ev => ∃ s, ev = [some (.val (.list (ns.map .int))), s] ∧ ∀ t, s ≠ some (.own t)) (fun d hd ev E' i nx ct rt rl bk => ?_) ⟨none, rfl, fun _ => by simp⟩ (fun ev i => ?_)
  · obtain ⟨s, rfl, hs⟩ := i
    obtain ⟨j, hj⟩ := List.mem_iff_getElem?.mp hd
    obtain ⟨j1, rfl⟩ := rng_get hj
    have e : gN 1 (.int (0 + (j : Int))) [some (.val (.list (ns.map .int))), s] = fun Q => Q [some (.val (.list (ns.map .int))), some (.val (.int (0 + (j : Int))))] := by
      cases s with
      | none => rfl
      | some s => cases s with
        | val _ => rfl
        | own t => exact absurd rfl (hs t)
    rw [e]
    refine ⟨rfl, ns, _, rfl, hl, by omega, by omega, fun r s r0 s0 s1 => ⟨rfl, 0, ⟨r, s, 0, rfl, r0, ⟨s0, s1⟩, by decide, by decide⟩, by decide, rfl, fun _ => ⟨trivial, ?_⟩⟩⟩
    exact nx _ ⟨_, rfl, fun _ => by simp⟩
  · obtain ⟨s, rfl, hs⟩ := i
    exact q
theorem law_all : ∀ ns : List Int, ns.length ≤ 63 → c_law [.list (ns.map .int)] (fun d => d = .bool true) := fun ns h => ⟨ns, rfl, h, rfl⟩
end Lk22
set_option Elab.async false
set_option linter.all false
set_option maxRecDepth 100000
set_option maxHeartbeats 4000000
namespace Lk22
open PySem L2 Z
def topS (i : Nat) : Stmt := PySem.Challenge.pw_drawarms_k22_whole_powers_and_returns.main.body.getD i (.Pass ⟨0, 0, 0, 0⟩)
abbrev s_is_whole : Stmt := topS 7
theorem sc_is_whole : FnScope ["value"] ["value"] (defScope s_is_whole) := ⟨rfl, rfl, rfl, by decide +kernel, rfl, by decide +kernel, by decide +kernel⟩
abbrev s_are_wholes : Stmt := topS 8
theorem sc_are_wholes : FnScope ["value", "many", "part"] ["value", "many"] (defScope s_are_wholes) := ⟨rfl, rfl, rfl, by decide +kernel, rfl, by decide +kernel, by decide +kernel⟩
abbrev s_common_of : Stmt := topS 9
theorem sc_common_of : FnScope ["numbers", "common", "number"] ["numbers"] (defScope s_common_of) := ⟨rfl, rfl, rfl, by decide +kernel, rfl, by decide +kernel, by decide +kernel⟩
abbrev s_reduced : Stmt := topS 10
theorem sc_reduced : FnScope ["numbers", "common", "number"] ["numbers"] (defScope s_reduced) := ⟨rfl, rfl, rfl, by decide +kernel, rfl, by decide +kernel, by decide +kernel⟩
abbrev s_plus : Stmt := topS 13
theorem sc_plus : FnScope ["number", "other"] ["number", "other"] (defScope s_plus) := ⟨rfl, rfl, rfl, by decide +kernel, rfl, by decide +kernel, by decide +kernel⟩
abbrev s_minus : Stmt := topS 14
theorem sc_minus : FnScope ["number", "other"] ["number", "other"] (defScope s_minus) := ⟨rfl, rfl, rfl, by decide +kernel, rfl, by decide +kernel, by decide +kernel⟩
abbrev s_negative : Stmt := topS 15
theorem sc_negative : FnScope ["number"] ["number"] (defScope s_negative) := ⟨rfl, rfl, rfl, by decide +kernel, rfl, by decide +kernel, by decide +kernel⟩
abbrev s_times : Stmt := topS 16
theorem sc_times : FnScope ["number", "other", "a", "b", "c", "d"] ["number", "other"] (defScope s_times) := ⟨rfl, rfl, rfl, by decide +kernel, rfl, by decide +kernel, by decide +kernel⟩
abbrev s_scaled : Stmt := topS 17
theorem sc_scaled : FnScope ["number", "whole"] ["number", "whole"] (defScope s_scaled) := ⟨rfl, rfl, rfl, by decide +kernel, rfl, by decide +kernel, by decide +kernel⟩
abbrev s_conjugate_of : Stmt := topS 18
theorem sc_conjugate_of : FnScope ["number"] ["number"] (defScope s_conjugate_of) := ⟨rfl, rfl, rfl, by decide +kernel, rfl, by decide +kernel, by decide +kernel⟩
abbrev s_norm_of : Stmt := topS 19
theorem sc_norm_of : FnScope ["number"] ["number"] (defScope s_norm_of) := ⟨rfl, rfl, rfl, by decide +kernel, rfl, by decide +kernel, by decide +kernel⟩
abbrev s_is_quarter : Stmt := topS 20
theorem sc_is_quarter : FnScope ["number"] ["number"] (defScope s_is_quarter) := ⟨rfl, rfl, rfl, by decide +kernel, rfl, by decide +kernel, by decide +kernel⟩
abbrev s_turned : Stmt := topS 21
theorem sc_turned : FnScope ["number"] ["number"] (defScope s_turned) := ⟨rfl, rfl, rfl, by decide +kernel, rfl, by decide +kernel, by decide +kernel⟩
abbrev s_quarter_of : Stmt := topS 22
theorem sc_quarter_of : FnScope ["number"] ["number"] (defScope s_quarter_of) := ⟨rfl, rfl, rfl, by decide +kernel, rfl, by decide +kernel, by decide +kernel⟩
abbrev s_exact_quotient : Stmt := topS 23
theorem sc_exact_quotient : FnScope ["number", "other", "size", "first", "second"] ["number", "other"] (defScope s_exact_quotient) := ⟨rfl, rfl, rfl, by decide +kernel, rfl, by decide +kernel, by decide +kernel⟩
abbrev s_rest_of : Stmt := topS 24
theorem sc_rest_of : FnScope ["number", "other", "size", "first", "second", "nearest"] ["number", "other"] (defScope s_rest_of) := ⟨rfl, rfl, rfl, by decide +kernel, rfl, by decide +kernel, by decide +kernel⟩
abbrev s_divisor_of : Stmt := topS 25
theorem sc_divisor_of : FnScope ["numbers", "divisor", "number"] ["numbers"] (defScope s_divisor_of) := ⟨rfl, rfl, rfl, by decide +kernel, rfl, by decide +kernel, by decide +kernel⟩
abbrev s_divisor_of_two : Stmt := topS 26
theorem sc_divisor_of_two : FnScope ["number", "other", "first", "second", "size"] ["number", "other"] (defScope s_divisor_of_two) := ⟨rfl, rfl, rfl, by decide +kernel, rfl, by decide +kernel, by decide +kernel⟩
abbrev s_divisor_by_steps : Stmt := topS 27
theorem sc_divisor_by_steps : FnScope ["number", "other"] ["number", "other"] (defScope s_divisor_by_steps) := ⟨rfl, rfl, rfl, by decide +kernel, rfl, by decide +kernel, by decide +kernel⟩
abbrev s_is_complex : Stmt := topS 29
theorem sc_is_complex : FnScope ["value"] ["value"] (defScope s_is_complex) := ⟨rfl, rfl, rfl, by decide +kernel, rfl, by decide +kernel, by decide +kernel⟩
abbrev s_determinant : Stmt := topS 31
theorem sc_determinant : FnScope ["numbers", "a", "b", "c", "d"] ["numbers"] (defScope s_determinant) := ⟨rfl, rfl, rfl, by decide +kernel, rfl, by decide +kernel, by decide +kernel⟩
abbrev s_matrix_product : Stmt := topS 32
theorem sc_matrix_product : FnScope ["numbers", "others", "a", "b", "c", "d", "e", "f", "g", "h"] ["numbers", "others"] (defScope s_matrix_product) := ⟨rfl, rfl, rfl, by decide +kernel, rfl, by decide +kernel, by decide +kernel⟩
abbrev s_adjugate : Stmt := topS 33
theorem sc_adjugate : FnScope ["numbers", "a", "b", "c", "d"] ["numbers"] (defScope s_adjugate) := ⟨rfl, rfl, rfl, by decide +kernel, rfl, by decide +kernel, by decide +kernel⟩
abbrev s_conjugates : Stmt := topS 34
theorem sc_conjugates : FnScope ["numbers", "number"] ["numbers"] (defScope s_conjugates) := ⟨rfl, rfl, rfl, by decide +kernel, rfl, by decide +kernel, by decide +kernel⟩
abbrev s_led_parts : Stmt := topS 35
theorem sc_led_parts : FnScope ["numbers", "number", "under", "a", "b", "c", "d"] ["numbers", "number", "under"] (defScope s_led_parts) := ⟨rfl, rfl, rfl, by decide +kernel, rfl, by decide +kernel, by decide +kernel⟩
abbrev s_is_place : Stmt := topS 38
theorem sc_is_place : FnScope ["value"] ["value"] (defScope s_is_place) := ⟨rfl, rfl, rfl, by decide +kernel, rfl, by decide +kernel, by decide +kernel⟩
abbrev s_require_place : Stmt := topS 39
theorem sc_require_place : FnScope ["place"] ["place"] (defScope s_require_place) := ⟨rfl, rfl, rfl, by decide +kernel, rfl, by decide +kernel, by decide +kernel⟩
abbrev s_upper_and_lower : Stmt := topS 40
theorem sc_upper_and_lower : FnScope ["place", "p", "s", "r"] ["place"] (defScope s_upper_and_lower) := ⟨rfl, rfl, rfl, by decide +kernel, rfl, by decide +kernel, by decide +kernel⟩
abbrev s_quotient_place : Stmt := topS 41
theorem sc_quotient_place : FnScope ["number", "other", "first", "second"] ["number", "other"] (defScope s_quotient_place) := ⟨rfl, rfl, rfl, by decide +kernel, rfl, by decide +kernel, by decide +kernel⟩
abbrev s_map_from : Stmt := topS 44
theorem sc_map_from : FnScope ["flag", "numbers", "multiple", "divisor", "leader", "number"] ["flag", "numbers", "multiple"] (defScope s_map_from) := ⟨rfl, rfl, rfl, by decide +kernel, rfl, by decide +kernel, by decide +kernel⟩
abbrev s_joined : Stmt := topS 45
theorem sc_joined : FnScope ["chart", "other", "numbers"] ["chart", "other"] (defScope s_joined) := ⟨rfl, rfl, rfl, by decide +kernel, rfl, by decide +kernel, by decide +kernel⟩
abbrev s_back_of : Stmt := topS 46
theorem sc_back_of : FnScope ["chart", "numbers"] ["chart"] (defScope s_back_of) := ⟨rfl, rfl, rfl, by decide +kernel, rfl, by decide +kernel, by decide +kernel⟩
abbrev s_place_led : Stmt := topS 47
theorem sc_place_led : FnScope ["chart", "place", "number", "under", "upper", "lower"] ["chart", "place"] (defScope s_place_led) := ⟨rfl, rfl, rfl, by decide +kernel, rfl, by decide +kernel, by decide +kernel⟩
abbrev s_is_flag : Stmt := topS 48
theorem sc_is_flag : FnScope ["value"] ["value"] (defScope s_is_flag) := ⟨rfl, rfl, rfl, by decide +kernel, rfl, by decide +kernel, by decide +kernel⟩
abbrev s_is_map : Stmt := topS 49
theorem sc_is_map : FnScope ["value", "numbers", "number"] ["value"] (defScope s_is_map) := ⟨rfl, rfl, rfl, by decide +kernel, rfl, by decide +kernel, by decide +kernel⟩
abbrev s_require_map : Stmt := topS 50
theorem sc_require_map : FnScope ["chart"] ["chart"] (defScope s_require_map) := ⟨rfl, rfl, rfl, by decide +kernel, rfl, by decide +kernel, by decide +kernel⟩
abbrev s_after : Stmt := topS 51
theorem sc_after : FnScope ["chart", "other"] ["chart", "other"] (defScope s_after) := ⟨rfl, rfl, rfl, by decide +kernel, rfl, by decide +kernel, by decide +kernel⟩
abbrev s_plain_trace_ratio : Stmt := topS 55
theorem sc_plain_trace_ratio : FnScope ["chart", "trace"] ["chart"] (defScope s_plain_trace_ratio) := ⟨rfl, rfl, rfl, by decide +kernel, rfl, by decide +kernel, by decide +kernel⟩
abbrev s_plain_return : Stmt := topS 56
theorem sc_plain_return : FnScope ["chart"] ["chart"] (defScope s_plain_return) := ⟨rfl, rfl, rfl, by decide +kernel, rfl, by decide +kernel, by decide +kernel⟩
abbrev s_return_of : Stmt := topS 57
theorem sc_return_of : FnScope ["chart", "many"] ["chart"] (defScope s_return_of) := ⟨rfl, rfl, rfl, by decide +kernel, rfl, by decide +kernel, by decide +kernel⟩
abbrev s_require_number : Stmt := topS 58
theorem sc_require_number : FnScope ["many"] ["many"] (defScope s_require_number) := ⟨rfl, rfl, rfl, by decide +kernel, rfl, by decide +kernel, by decide +kernel⟩
abbrev s_power : Stmt := topS 59
theorem sc_power : FnScope ["chart", "many", "step", "reached", "_"] ["chart", "many"] (defScope s_power) := ⟨rfl, rfl, rfl, by decide +kernel, rfl, by decide +kernel, by decide +kernel⟩
abbrev s_power_of : Stmt := topS 60
theorem sc_power_of : FnScope ["chart", "many"] ["chart", "many"] (defScope s_power_of) := ⟨rfl, rfl, rfl, by decide +kernel, rfl, by decide +kernel, by decide +kernel⟩
abbrev s_place_after : Stmt := topS 61
theorem sc_place_after : FnScope ["chart", "place", "many"] ["chart", "place", "many"] (defScope s_place_after) := ⟨rfl, rfl, rfl, by decide +kernel, rfl, by decide +kernel, by decide +kernel⟩
abbrev s_law_tank : Stmt := topS 63
theorem sc_law_tank : FnScope ["_law_script", "_law_spot", "_law_stir", "_law_cell", "_law_own", "_law_rest"] ["_law_script", "_law_spot"] (defScope s_law_tank) := ⟨rfl, rfl, rfl, by decide +kernel, rfl, by decide +kernel, by decide +kernel⟩
abbrev s_law_draw : Stmt := topS 64
theorem sc_law_draw : FnScope ["_law_tank_here", "_law_many", "_law_figure", "_law_pace"] ["_law_tank_here", "_law_many"] (defScope s_law_draw) := ⟨rfl, rfl, rfl, by decide +kernel, rfl, by decide +kernel, by decide +kernel⟩
abbrev s_law_pick : Stmt := topS 65
theorem sc_law_pick : FnScope ["_law_tank_here", "_law_some"] ["_law_tank_here", "_law_some"] (defScope s_law_pick) := ⟨rfl, rfl, rfl, by decide +kernel, rfl, by decide +kernel, by decide +kernel⟩
abbrev s_law_rounds : Stmt := topS 66
theorem sc_law_rounds : FnScope ["_law_script"] ["_law_script"] (defScope s_law_rounds) := ⟨rfl, rfl, rfl, by decide +kernel, rfl, by decide +kernel, by decide +kernel⟩
abbrev s_law_small : Stmt := topS 67
theorem sc_law_small : FnScope ["_law_tank_here", "_law_size_here"] ["_law_tank_here"] (defScope s_law_small) := ⟨rfl, rfl, rfl, by decide +kernel, rfl, by decide +kernel, by decide +kernel⟩
abbrev s_law_least : Stmt := topS 68
theorem sc_law_least : FnScope ["_law_numbers", "_law_part", "_law_number", "_law_left", "_law_right_here"] ["_law_numbers"] (defScope s_law_least) := ⟨rfl, rfl, rfl, by decide +kernel, rfl, by decide +kernel, by decide +kernel⟩
abbrev s_law_plus : Stmt := topS 69
theorem sc_law_plus : FnScope ["_law_one", "_law_two"] ["_law_one", "_law_two"] (defScope s_law_plus) := ⟨rfl, rfl, rfl, by decide +kernel, rfl, by decide +kernel, by decide +kernel⟩
abbrev s_law_less : Stmt := topS 70
theorem sc_law_less : FnScope ["_law_one", "_law_two"] ["_law_one", "_law_two"] (defScope s_law_less) := ⟨rfl, rfl, rfl, by decide +kernel, rfl, by decide +kernel, by decide +kernel⟩
abbrev s_law_times : Stmt := topS 71
theorem sc_law_times : FnScope ["_law_one", "_law_two"] ["_law_one", "_law_two"] (defScope s_law_times) := ⟨rfl, rfl, rfl, by decide +kernel, rfl, by decide +kernel, by decide +kernel⟩
abbrev s_law_star : Stmt := topS 72
theorem sc_law_star : FnScope ["_law_one"] ["_law_one"] (defScope s_law_star) := ⟨rfl, rfl, rfl, by decide +kernel, rfl, by decide +kernel, by decide +kernel⟩
abbrev s_law_size : Stmt := topS 73
theorem sc_law_size : FnScope ["_law_one"] ["_law_one"] (defScope s_law_size) := ⟨rfl, rfl, rfl, by decide +kernel, rfl, by decide +kernel, by decide +kernel⟩
abbrev s_law_quarter : Stmt := topS 74
theorem sc_law_quarter : FnScope ["_law_one", "_law_a", "_law_b", "_law_turn"] ["_law_one"] (defScope s_law_quarter) := ⟨rfl, rfl, rfl, by decide +kernel, rfl, by decide +kernel, by decide +kernel⟩
abbrev s_law_over : Stmt := topS 75
theorem sc_law_over : FnScope ["_law_one", "_law_two", "_law_size_here", "_law_a", "_law_b"] ["_law_one", "_law_two"] (defScope s_law_over) := ⟨rfl, rfl, rfl, by decide +kernel, rfl, by decide +kernel, by decide +kernel⟩
abbrev s_law_common : Stmt := topS 76
theorem sc_law_common : FnScope ["_law_numbers", "_law_found", "_law_number", "_law_one", "_law_two", "_law_turn", "_law_size_here", "_law_a", "_law_b", "_law_near_here"] ["_law_numbers"] (defScope s_law_common) := ⟨rfl, rfl, rfl, by decide +kernel, rfl, by decide +kernel, by decide +kernel⟩
abbrev s_law_near : Stmt := topS 77
theorem sc_law_near : FnScope ["_law_tank_here"] ["_law_tank_here"] (defScope s_law_near) := ⟨rfl, rfl, rfl, by decide +kernel, rfl, by decide +kernel, by decide +kernel⟩
abbrev s_law_any_place : Stmt := topS 78
theorem sc_law_any_place : FnScope ["_law_tank_here"] ["_law_tank_here"] (defScope s_law_any_place) := ⟨rfl, rfl, rfl, by decide +kernel, rfl, by decide +kernel, by decide +kernel⟩
abbrev s_law_place_of : Stmt := topS 79
theorem sc_law_place_of : FnScope ["_law_one", "_law_two", "_law_p", "_law_s"] ["_law_one", "_law_two"] (defScope s_law_place_of) := ⟨rfl, rfl, rfl, by decide +kernel, rfl, by decide +kernel, by decide +kernel⟩
abbrev s_law_little : Stmt := topS 80
theorem sc_law_little : FnScope ["_law_tank_here"] ["_law_tank_here"] (defScope s_law_little) := ⟨rfl, rfl, rfl, by decide +kernel, rfl, by decide +kernel, by decide +kernel⟩
abbrev s_law_map : Stmt := topS 81
theorem sc_law_map : FnScope ["_law_flag", "_law_numbers", "_law_part", "_law_rest", "_law_first", "_law_unit", "_law_each"] ["_law_flag", "_law_numbers"] (defScope s_law_map) := ⟨rfl, rfl, rfl, by decide +kernel, rfl, by decide +kernel, by decide +kernel⟩
abbrev s_law_det : Stmt := topS 82
theorem sc_law_det : FnScope ["_law_numbers"] ["_law_numbers"] (defScope s_law_det) := ⟨rfl, rfl, rfl, by decide +kernel, rfl, by decide +kernel, by decide +kernel⟩
abbrev s_law_four : Stmt := topS 83
theorem sc_law_four : FnScope ["_law_tank_here", "_law_way", "_law_turn", "_law_found"] ["_law_tank_here"] (defScope s_law_four) := ⟨rfl, rfl, rfl, by decide +kernel, rfl, by decide +kernel, by decide +kernel⟩
abbrev s_law_drawn_map : Stmt := topS 84
theorem sc_law_drawn_map : FnScope ["_law_tank_here"] ["_law_tank_here"] (defScope s_law_drawn_map) := ⟨rfl, rfl, rfl, by decide +kernel, rfl, by decide +kernel, by decide +kernel⟩
abbrev s_law_led : Stmt := topS 85
theorem sc_law_led : FnScope ["_law_chart", "_law_place", "_law_mirrored", "_law_a", "_law_b", "_law_c", "_law_d", "_law_p", "_law_s", "_law_r", "_law_z", "_law_above"] ["_law_chart", "_law_place"] (defScope s_law_led) := ⟨rfl, rfl, rfl, by decide +kernel, rfl, by decide +kernel, by decide +kernel⟩
abbrev s_law_after : Stmt := topS 86
theorem sc_law_after : FnScope ["_law_one", "_law_two", "_law_a", "_law_b", "_law_c", "_law_d", "_law_p", "_law_q", "_law_r", "_law_s", "_law_numbers", "_law_each"] ["_law_one", "_law_two"] (defScope s_law_after) := ⟨rfl, rfl, rfl, by decide +kernel, rfl, by decide +kernel, by decide +kernel⟩
abbrev s_law_backward : Stmt := topS 87
theorem sc_law_backward : FnScope ["_law_one", "_law_a", "_law_b", "_law_c", "_law_d", "_law_each"] ["_law_one"] (defScope s_law_backward) := ⟨rfl, rfl, rfl, by decide +kernel, rfl, by decide +kernel, by decide +kernel⟩
abbrev s_law_stays : Stmt := topS 88
theorem sc_law_stays : FnScope [] [] (defScope s_law_stays) := ⟨rfl, rfl, rfl, by decide +kernel, rfl, by decide +kernel, by decide +kernel⟩
abbrev s_law_power : Stmt := topS 89
theorem sc_law_power : FnScope ["_law_chart", "_law_many", "_law_found", "_law_step", "_law_turn"] ["_law_chart", "_law_many"] (defScope s_law_power) := ⟨rfl, rfl, rfl, by decide +kernel, rfl, by decide +kernel, by decide +kernel⟩
abbrev s_law_powers_right : Stmt := topS 90
theorem sc_law_powers_right : FnScope ["_law_chart", "_law_one", "_law_two", "_law_place", "_law_first", "_law_second", "_law_due", "_law_told"] ["_law_chart", "_law_one", "_law_two", "_law_place"] (defScope s_law_powers_right) := ⟨rfl, rfl, rfl, by decide +kernel, rfl, by decide +kernel, by decide +kernel⟩
abbrev s_law_far_right : Stmt := topS 91
theorem sc_law_far_right : FnScope ["_law_tank_here", "_law_step", "_law_unit", "_law_many", "_law_shift", "_law_due", "_law_turn", "_law_found", "_law_lap"] ["_law_tank_here"] (defScope s_law_far_right) := ⟨rfl, rfl, rfl, by decide +kernel, rfl, by decide +kernel, by decide +kernel⟩
abbrev s_law_laid : Stmt := topS 92
theorem sc_law_laid : FnScope ["_law_tank_here", "_law_way", "_law_unit", "_law_found"] ["_law_tank_here"] (defScope s_law_laid) := ⟨rfl, rfl, rfl, by decide +kernel, rfl, by decide +kernel, by decide +kernel⟩
abbrev s_law_return_right : Stmt := topS 93
theorem sc_law_return_right : FnScope ["_law_chart", "_law_many", "_law_k"] ["_law_chart", "_law_many"] (defScope s_law_return_right) := ⟨rfl, rfl, rfl, by decide +kernel, rfl, by decide +kernel, by decide +kernel⟩
abbrev s_law_any_right : Stmt := topS 94
theorem sc_law_any_right : FnScope ["_law_chart", "_law_square", "_law_times_here", "_law_both", "_law_ratio", "_law_some", "_law_due"] ["_law_chart"] (defScope s_law_any_right) := ⟨rfl, rfl, rfl, by decide +kernel, rfl, by decide +kernel, by decide +kernel⟩
abbrev s_law_right : Stmt := topS 95
theorem sc_law_right : FnScope ["_law_tank_here", "_law_chart", "_law_place", "_law_through", "_law_one", "_law_two", "_law_laid_here", "_law_many", "_law_seen"] ["_law_tank_here"] (defScope s_law_right) := ⟨rfl, rfl, rfl, by decide +kernel, rfl, by decide +kernel, by decide +kernel⟩
abbrev s_law : Stmt := topS 96
theorem sc_law : FnScope ["_law_script", "_law_spot"] ["_law_script"] (defScope s_law) := ⟨rfl, rfl, rfl, by decide +kernel, rfl, by decide +kernel, by decide +kernel⟩
section
variable {P : Program} {wd : World} {K : PySem.W.Frag} {mg : Str → Option Value} {base : Heap}
theorem ok_is_whole {f : Addr} {fd : FuncData} (F : Fun K "is_whole" "is_whole" s_is_whole f fd) (z_isinstance : mg "isinstance" = none) (z_int : mg "int" = none) (z_bool : mg "bool" = none) : FnG P wd K mg base CX0 1 f fd ["value"] (spP K 1 c_is_whole) := by
  refine okP (k := 0) (m := 0) (w := w_is_whole) F sc_is_whole rfl rfl (fun c cdv A outer s H E hG hr => ?_) sem_is_whole
  exact (dss_one (ds_ret (de_and (de_isa "int" (by decide +kernel) isA_int kits_int (by rfl) z_isinstance (by rfl) z_int (de_pv (pv 0))) (de_one (de_not (de_isa "bool" (by decide +kernel) isA_bool kits_bool (by rfl) z_isinstance (by rfl) z_bool (de_pv (pv 0))))))))
theorem ok_are_wholes {f : Addr} {fd : FuncData} (F : Fun K "are_wholes" "are_wholes" s_are_wholes f fd) (h_is_whole : Cl P wd K mg base 1 "is_whole" ["value"] (spP K 1 c_is_whole)) (z_isinstance : mg "isinstance" = none) (z_tuple : mg "tuple" = none) (z_len : mg "len" = none) (z_all : mg "all" = none) : FnG P wd K mg base CX0 2 f fd ["value", "many"] (spP K 2 c_are_wholes) := by
  refine okP (k := 1) (m := 1) (w := w_are_wholes) F sc_are_wholes rfl rfl (fun c cdv A outer s H E hG hr => ?_) sem_are_wholes
  exact (dss_cons (ds_if (dt_w (dw_or (dt_not (dt_val (de_isa "tuple" (by decide +kernel) isA_tuple kits_tuple (by rfl) z_isinstance (by rfl) z_tuple (de_pv (pv 0))))) (dw_or1 (dt_ne hr (de_len (by rfl) z_len (da_cons (de_pv (pv 0)) da_nil)) (de_pv (pv 1)))))) (dss_one (ds_ret de_bl)) dss_nil) (dss_one (ds_ret (de_all rfl (by rfl) z_all (da_cons (de_lc (own := [("part", 2)]) rfl sc_are_wholes.nd (di_tup (de_pv (pv 0))) (blkOk_by (N := ["value", "many", "part"]) (sc := defScope s_are_wholes) (by decide +kernel)) (fun _ _ _ _ _ => (dg_name (pg_name (i := 2) sc_are_wholes.nd rfl (by first | exact Or.inl rfl | exact Or.inr rfl)) (by decide))) (fun _ _ _ _ _ => dts_nil) (fun _ _ _ _ _ => (de_fn h_is_whole (by decide) hr hG (by rfl) (da_cons (de_pv (pv 2)) da_nil)))) da_nil)))))
theorem ok_common_of {f : Addr} {fd : FuncData} (F : Fun K "common_of" "common_of" s_common_of f fd) (m_gcd : mg "gcd" = some (.builtin "math.gcd")) : FnG P wd K mg base CX0 1 f fd ["numbers"] (spP K 1 c_common_of) := by
  refine okP (k := 0) (m := 2) (w := w_common_of) F sc_common_of rfl rfl (fun c cdv A outer s H E hG hr => ?_) sem_common_of
  exact (dss_cons (ds_set (i := 1) sc_common_of.nd rfl (by first | exact Or.inl rfl | exact Or.inr rfl) de_int) (dss_cons (ds_for (vs := [2]) PassesOwn.never rfl (di_tup (de_pv (pv 0))) (dg_name (pg_name (i := 2) sc_common_of.nd rfl (by first | exact Or.inl rfl | exact Or.inr rfl)) (by decide)) (dss_one (ds_set (i := 1) sc_common_of.nd rfl (by first | exact Or.inl rfl | exact Or.inr rfl) (de_gcd (by rfl) m_gcd (da_cons (de_pv (pv 1)) (da_cons (de_pv (pv 2)) da_nil)))))) (dss_one (ds_ret (de_pv (pv 1))))))
theorem ok_reduced {f : Addr} {fd : FuncData} (F : Fun K "reduced" "reduced" s_reduced f fd) (h_common_of : Cl P wd K mg base 1 "common_of" ["numbers"] (spP K 1 c_common_of)) (z_tuple : mg "tuple" = none) : FnG P wd K mg base CX0 2 f fd ["numbers"] (spP K 1 c_reduced) := by
  refine okP (k := 1) (m := 2) (w := w_reduced) F sc_reduced rfl rfl (fun c cdv A outer s H E hG hr => ?_) sem_reduced
  exact (dss_cons (ds_set (i := 1) sc_reduced.nd rfl (by first | exact Or.inl rfl | exact Or.inr rfl) (de_fn h_common_of (by decide) hr hG (by rfl) (da_cons (de_pv (pv 0)) da_nil))) (dss_one (ds_ret (de_tuple (by rfl) z_tuple (da_cons (de_lc (own := [("number", 2)]) rfl sc_reduced.nd (di_tup (de_pv (pv 0))) (blkOk_by (N := ["numbers", "common", "number"]) (sc := defScope s_reduced) (by decide +kernel)) (fun _ _ _ _ _ => (dg_name (pg_name (i := 2) sc_reduced.nd rfl (by first | exact Or.inl rfl | exact Or.inr rfl)) (by decide))) (fun _ _ _ _ _ => dts_nil) (fun _ _ _ _ _ => (de_div (de_pv (pv 2)) (de_pv (pv 1))))) da_nil)))))
theorem ok_plus {f : Addr} {fd : FuncData} (F : Fun K "plus" "plus" s_plus f fd)  : FnG P wd K mg base CX0 1 f fd ["number", "other"] (spP K 2 c_plus) := by
  refine okP (k := 0) (m := 0) (w := w_plus) F sc_plus rfl rfl (fun c cdv A outer s H E hG hr => ?_) sem_plus
  exact (dss_one (ds_ret (de_tup (da_cons (de_cat (de_item (de_pv (pv 0)) de_int) (de_item (de_pv (pv 1)) de_int)) (da_cons (de_cat (de_item (de_pv (pv 0)) de_int) (de_item (de_pv (pv 1)) de_int)) da_nil)))))
theorem ok_minus {f : Addr} {fd : FuncData} (F : Fun K "minus" "minus" s_minus f fd)  : FnG P wd K mg base CX0 1 f fd ["number", "other"] (spP K 2 c_minus) := by
  refine okP (k := 0) (m := 0) (w := w_minus) F sc_minus rfl rfl (fun c cdv A outer s H E hG hr => ?_) sem_minus
  exact (dss_one (ds_ret (de_tup (da_cons (de_sub (de_item (de_pv (pv 0)) de_int) (de_item (de_pv (pv 1)) de_int)) (da_cons (de_sub (de_item (de_pv (pv 0)) de_int) (de_item (de_pv (pv 1)) de_int)) da_nil)))))
theorem ok_negative {f : Addr} {fd : FuncData} (F : Fun K "negative" "negative" s_negative f fd)  : FnG P wd K mg base CX0 1 f fd ["number"] (spP K 1 c_negative) := by
  refine okP (k := 0) (m := 0) (w := w_negative) F sc_negative rfl rfl (fun c cdv A outer s H E hG hr => ?_) sem_negative
  exact (dss_one (ds_ret (de_tup (da_cons (de_neg (de_item (de_pv (pv 0)) de_int)) (da_cons (de_neg (de_item (de_pv (pv 0)) de_int)) da_nil)))))
theorem ok_times {f : Addr} {fd : FuncData} (F : Fun K "times" "times" s_times f fd)  : FnG P wd K mg base CX0 1 f fd ["number", "other"] (spP K 2 c_times) := by
  refine okP (k := 0) (m := 4) (w := w_times) F sc_times rfl rfl (fun c cdv A outer s H E hG hr => ?_) sem_times
  exact (dss_cons (ds_asg (vs := [2, 3]) (de_pv (pv 0)) (dg_tup rfl (dgs_cons (dg_name (pg_name (i := 2) sc_times.nd rfl (by first | exact Or.inl rfl | exact Or.inr rfl)) (by decide)) (dgs_cons (dg_name (pg_name (i := 3) sc_times.nd rfl (by first | exact Or.inl rfl | exact Or.inr rfl)) (by decide)) dgs_nil)))) (dss_cons (ds_asg (vs := [4, 5]) (de_pv (pv 1)) (dg_tup rfl (dgs_cons (dg_name (pg_name (i := 4) sc_times.nd rfl (by first | exact Or.inl rfl | exact Or.inr rfl)) (by decide)) (dgs_cons (dg_name (pg_name (i := 5) sc_times.nd rfl (by first | exact Or.inl rfl | exact Or.inr rfl)) (by decide)) dgs_nil)))) (dss_one (ds_ret (de_tup (da_cons (de_sub (de_mul (de_pv (pv 2)) (de_pv (pv 4))) (de_mul (de_pv (pv 3)) (de_pv (pv 5)))) (da_cons (de_cat (de_mul (de_pv (pv 2)) (de_pv (pv 5))) (de_mul (de_pv (pv 3)) (de_pv (pv 4)))) da_nil)))))))
theorem ok_scaled {f : Addr} {fd : FuncData} (F : Fun K "scaled" "scaled" s_scaled f fd)  : FnG P wd K mg base CX0 1 f fd ["number", "whole"] (spP K 2 c_scaled) := by
  refine okP (k := 0) (m := 0) (w := w_scaled) F sc_scaled rfl rfl (fun c cdv A outer s H E hG hr => ?_) sem_scaled
  exact (dss_one (ds_ret (de_tup (da_cons (de_mul (de_item (de_pv (pv 0)) de_int) (de_pv (pv 1))) (da_cons (de_mul (de_item (de_pv (pv 0)) de_int) (de_pv (pv 1))) da_nil)))))
theorem ok_conjugate_of {f : Addr} {fd : FuncData} (F : Fun K "conjugate_of" "conjugate_of" s_conjugate_of f fd)  : FnG P wd K mg base CX0 1 f fd ["number"] (spP K 1 c_conjugate_of) := by
  refine okP (k := 0) (m := 0) (w := w_conjugate_of) F sc_conjugate_of rfl rfl (fun c cdv A outer s H E hG hr => ?_) sem_conjugate_of
  exact (dss_one (ds_ret (de_tup (da_cons (de_item (de_pv (pv 0)) de_int) (da_cons (de_neg (de_item (de_pv (pv 0)) de_int)) da_nil)))))
theorem ok_norm_of {f : Addr} {fd : FuncData} (F : Fun K "norm_of" "norm_of" s_norm_of f fd)  : FnG P wd K mg base CX0 1 f fd ["number"] (spP K 1 c_norm_of) := by
  refine okP (k := 0) (m := 0) (w := w_norm_of) F sc_norm_of rfl rfl (fun c cdv A outer s H E hG hr => ?_) sem_norm_of
  exact (dss_one (ds_ret (de_cat (de_mul (de_item (de_pv (pv 0)) de_int) (de_item (de_pv (pv 0)) de_int)) (de_mul (de_item (de_pv (pv 0)) de_int) (de_item (de_pv (pv 0)) de_int)))))
theorem ok_is_quarter {f : Addr} {fd : FuncData} (F : Fun K "is_quarter" "is_quarter" s_is_quarter f fd)  : FnG P wd K mg base CX0 1 f fd ["number"] (spP K 1 c_is_quarter) := by
  refine okP (k := 0) (m := 0) (w := w_is_quarter) F sc_is_quarter rfl rfl (fun c cdv A outer s H E hG hr => ?_) sem_is_quarter
  exact (dss_one (ds_ret (de_and (de_gt (de_item (de_pv (pv 0)) de_int) de_int) (de_one (de_ge (de_item (de_pv (pv 0)) de_int) de_int)))))
theorem ok_turned {f : Addr} {fd : FuncData} (F : Fun K "turned" "turned" s_turned f fd)  : FnG P wd K mg base CX0 1 f fd ["number"] (spP K 1 c_turned) := by
  refine okP (k := 0) (m := 0) (w := w_turned) F sc_turned rfl rfl (fun c cdv A outer s H E hG hr => ?_) sem_turned
  exact (dss_one (ds_ret (de_tup (da_cons (de_neg (de_item (de_pv (pv 0)) de_int)) (da_cons (de_item (de_pv (pv 0)) de_int) da_nil)))))
theorem ok_quarter_of {f : Addr} {fd : FuncData} (F : Fun K "quarter_of" "quarter_of" s_quarter_of f fd) (h_is_quarter : Cl P wd K mg base 1 "is_quarter" ["number"] (spP K 1 c_is_quarter)) (h_turned : Cl P wd K mg base 1 "turned" ["number"] (spP K 1 c_turned)) (g_NOUGHT : Gc K mg "NOUGHT" (.tuple [(.int 0), (.int 0)])) : FnG P wd K mg base CX0 2 f fd ["number"] (spP K 1 c_quarter_of) := by
  refine okP (k := 1) (m := 0) (w := w_quarter_of) F sc_quarter_of rfl rfl (fun c cdv A outer s H E hG hr => ?_) sem_quarter_of
  exact (dss_cons (ds_if (dt_eq hr (de_pv (pv 0)) (de_gc g_NOUGHT (by rfl))) (dss_one (ds_ret (de_pv (pv 0)))) dss_nil) (dss_cons (ds_while PassesOwn.never (dt_not (dt_val (de_fn h_is_quarter (by decide) hr hG (by rfl) (da_cons (de_pv (pv 0)) da_nil)))) (dss_one (ds_set (i := 0) sc_quarter_of.nd rfl (by first | exact Or.inl rfl | exact Or.inr rfl) (de_fn h_turned (by decide) hr hG (by rfl) (da_cons (de_pv (pv 0)) da_nil))))) (dss_one (ds_ret (de_pv (pv 0))))))
theorem ok_exact_quotient {f : Addr} {fd : FuncData} (F : Fun K "exact_quotient" "exact_quotient" s_exact_quotient f fd) (h_norm_of : Cl P wd K mg base 1 "norm_of" ["number"] (spP K 1 c_norm_of)) (h_times : Cl P wd K mg base 1 "times" ["number", "other"] (spP K 2 c_times)) (h_conjugate_of : Cl P wd K mg base 1 "conjugate_of" ["number"] (spP K 1 c_conjugate_of)) : FnG P wd K mg base CX0 2 f fd ["number", "other"] (spP K 2 c_exact_quotient) := by
  refine okP (k := 1) (m := 3) (w := w_exact_quotient) F sc_exact_quotient rfl rfl (fun c cdv A outer s H E hG hr => ?_) sem_exact_quotient
  exact (dss_cons (ds_set (i := 2) sc_exact_quotient.nd rfl (by first | exact Or.inl rfl | exact Or.inr rfl) (de_fn h_norm_of (by decide) hr hG (by rfl) (da_cons (de_pv (pv 1)) da_nil))) (dss_cons (ds_if (dt_eq hr (de_pv (pv 2)) de_int) (dss_one (ds_ret de_non)) dss_nil) (dss_cons (ds_asg (vs := [3, 4]) (de_fn h_times (by decide) hr hG (by rfl) (da_cons (de_pv (pv 0)) (da_cons (de_fn h_conjugate_of (by decide) hr hG (by rfl) (da_cons (de_pv (pv 1)) da_nil)) da_nil))) (dg_tup rfl (dgs_cons (dg_name (pg_name (i := 3) sc_exact_quotient.nd rfl (by first | exact Or.inl rfl | exact Or.inr rfl)) (by decide)) (dgs_cons (dg_name (pg_name (i := 4) sc_exact_quotient.nd rfl (by first | exact Or.inl rfl | exact Or.inr rfl)) (by decide)) dgs_nil)))) (dss_cons (ds_if (dt_w (dw_or (dt_val (de_mod (de_pv (pv 3)) (de_pv (pv 2)))) (dw_or1 (dt_val (de_mod (de_pv (pv 4)) (de_pv (pv 2))))))) (dss_one (ds_ret de_non)) dss_nil) (dss_one (ds_ret (de_tup (da_cons (de_div (de_pv (pv 3)) (de_pv (pv 2))) (da_cons (de_div (de_pv (pv 4)) (de_pv (pv 2))) da_nil)))))))))
theorem ok_rest_of {f : Addr} {fd : FuncData} (F : Fun K "rest_of" "rest_of" s_rest_of f fd) (h_norm_of : Cl P wd K mg base 1 "norm_of" ["number"] (spP K 1 c_norm_of)) (h_times : Cl P wd K mg base 1 "times" ["number", "other"] (spP K 2 c_times)) (h_conjugate_of : Cl P wd K mg base 1 "conjugate_of" ["number"] (spP K 1 c_conjugate_of)) (h_minus : Cl P wd K mg base 1 "minus" ["number", "other"] (spP K 2 c_minus)) : FnG P wd K mg base CX0 2 f fd ["number", "other"] (spP K 2 c_rest_of) := by
  refine okP (k := 1) (m := 4) (w := w_rest_of) F sc_rest_of rfl rfl (fun c cdv A outer s H E hG hr => ?_) sem_rest_of
  exact (dss_cons (ds_set (i := 2) sc_rest_of.nd rfl (by first | exact Or.inl rfl | exact Or.inr rfl) (de_fn h_norm_of (by decide) hr hG (by rfl) (da_cons (de_pv (pv 1)) da_nil))) (dss_cons (ds_asg (vs := [3, 4]) (de_fn h_times (by decide) hr hG (by rfl) (da_cons (de_pv (pv 0)) (da_cons (de_fn h_conjugate_of (by decide) hr hG (by rfl) (da_cons (de_pv (pv 1)) da_nil)) da_nil))) (dg_tup rfl (dgs_cons (dg_name (pg_name (i := 3) sc_rest_of.nd rfl (by first | exact Or.inl rfl | exact Or.inr rfl)) (by decide)) (dgs_cons (dg_name (pg_name (i := 4) sc_rest_of.nd rfl (by first | exact Or.inl rfl | exact Or.inr rfl)) (by decide)) dgs_nil)))) (dss_cons (ds_set (i := 5) sc_rest_of.nd rfl (by first | exact Or.inl rfl | exact Or.inr rfl) (de_tup (da_cons (de_div (de_cat (de_mul de_int (de_pv (pv 3))) (de_pv (pv 2))) (de_mul de_int (de_pv (pv 2)))) (da_cons (de_div (de_cat (de_mul de_int (de_pv (pv 4))) (de_pv (pv 2))) (de_mul de_int (de_pv (pv 2)))) da_nil)))) (dss_one (ds_ret (de_fn h_minus (by decide) hr hG (by rfl) (da_cons (de_pv (pv 0)) (da_cons (de_fn h_times (by decide) hr hG (by rfl) (da_cons (de_pv (pv 5)) (da_cons (de_pv (pv 1)) da_nil))) da_nil))))))))
theorem ok_divisor_of {f : Addr} {fd : FuncData} (F : Fun K "divisor_of" "divisor_of" s_divisor_of f fd) (h_norm_of : Cl P wd K mg base 1 "norm_of" ["number"] (spP K 1 c_norm_of)) (h_divisor_of_two : Cl P wd K mg base 4 "_divisor_of_two" ["number", "other"] (spP K 2 c_divisor_of_two)) (h_quarter_of : Cl P wd K mg base 2 "quarter_of" ["number"] (spP K 1 c_quarter_of)) (z_sorted : mg "sorted" = none) (g_NOUGHT : Gc K mg "NOUGHT" (.tuple [(.int 0), (.int 0)])) : FnG P wd K mg base CX0 5 f fd ["numbers"] (spP K 1 c_divisor_of) := by
  refine okP (k := 4) (m := 2) (w := w_divisor_of) F sc_divisor_of rfl rfl (fun c cdv A outer s H E hG hr => ?_) sem_divisor_of
  exact (dss_cons (ds_set (i := 1) sc_divisor_of.nd rfl (by first | exact Or.inl rfl | exact Or.inr rfl) (de_gc g_NOUGHT (by rfl))) (dss_cons (ds_for (vs := [2]) PassesOwn.never rfl (di_list (de_sortK h_norm_of (by decide) hr hG (by rfl) z_sorted (by rfl) (da_cons (de_pv (pv 0)) da_nil))) (dg_name (pg_name (i := 2) sc_divisor_of.nd rfl (by first | exact Or.inl rfl | exact Or.inr rfl)) (by decide)) (dss_one (ds_set (i := 1) sc_divisor_of.nd rfl (by first | exact Or.inl rfl | exact Or.inr rfl) (de_fn h_divisor_of_two (by decide) hr hG (by rfl) (da_cons (de_pv (pv 1)) (da_cons (de_pv (pv 2)) da_nil)))))) (dss_one (ds_ret (de_fn h_quarter_of (by decide) hr hG (by rfl) (da_cons (de_pv (pv 1)) da_nil))))))
theorem ok_divisor_of_two {f : Addr} {fd : FuncData} (F : Fun K "_divisor_of_two" "_divisor_of_two" s_divisor_of_two f fd) (h_rest_of : Cl P wd K mg base 2 "rest_of" ["number", "other"] (spP K 2 c_rest_of)) (h_times : Cl P wd K mg base 1 "times" ["number", "other"] (spP K 2 c_times)) (h_conjugate_of : Cl P wd K mg base 1 "conjugate_of" ["number"] (spP K 1 c_conjugate_of)) (h_common_of : Cl P wd K mg base 1 "common_of" ["numbers"] (spP K 1 c_common_of)) (h_norm_of : Cl P wd K mg base 1 "norm_of" ["number"] (spP K 1 c_norm_of)) (h_divisor_by_steps : Cl P wd K mg base 3 "_divisor_by_steps" ["number", "other"] (spP K 2 c_divisor_by_steps)) (g_NOUGHT : Gc K mg "NOUGHT" (.tuple [(.int 0), (.int 0)])) : FnG P wd K mg base CX0 4 f fd ["number", "other"] (spP K 2 c_divisor_of_two) := by
  refine okP (k := 3) (m := 3) (w := w_divisor_of_two) F sc_divisor_of_two rfl rfl (fun c cdv A outer s H E hG hr => ?_) sem_divisor_of_two
  exact (dss_cons (ds_if (dt_eq hr (de_pv (pv 0)) (de_gc g_NOUGHT (by rfl))) (dss_one (ds_ret (de_pv (pv 1)))) dss_nil) (dss_cons (ds_set (i := 1) sc_divisor_of_two.nd rfl (by first | exact Or.inl rfl | exact Or.inr rfl) (de_fn h_rest_of (by decide) hr hG (by rfl) (da_cons (de_pv (pv 1)) (da_cons (de_pv (pv 0)) da_nil)))) (dss_cons (ds_asg (vs := [2, 3]) (de_fn h_times (by decide) hr hG (by rfl) (da_cons (de_pv (pv 0)) (da_cons (de_fn h_conjugate_of (by decide) hr hG (by rfl) (da_cons (de_pv (pv 1)) da_nil)) da_nil))) (dg_tup rfl (dgs_cons (dg_name (pg_name (i := 2) sc_divisor_of_two.nd rfl (by first | exact Or.inl rfl | exact Or.inr rfl)) (by decide)) (dgs_cons (dg_name (pg_name (i := 3) sc_divisor_of_two.nd rfl (by first | exact Or.inl rfl | exact Or.inr rfl)) (by decide)) dgs_nil)))) (dss_cons (ds_set (i := 4) sc_divisor_of_two.nd rfl (by first | exact Or.inl rfl | exact Or.inr rfl) (de_fn h_common_of (by decide) hr hG (by rfl) (da_cons (de_tup (da_cons (de_fn h_norm_of (by decide) hr hG (by rfl) (da_cons (de_pv (pv 0)) da_nil)) (da_cons (de_fn h_norm_of (by decide) hr hG (by rfl) (da_cons (de_pv (pv 1)) da_nil)) (da_cons (de_pv (pv 2)) (da_cons (de_pv (pv 3)) da_nil))))) da_nil))) (dss_one (ds_ret (de_fn h_divisor_by_steps (by decide) hr hG (by rfl) (da_cons (de_fn h_divisor_by_steps (by decide) hr hG (by rfl) (da_cons (de_tup (da_cons (de_pv (pv 4)) (da_cons de_int da_nil))) (da_cons (de_pv (pv 0)) da_nil))) (da_cons (de_pv (pv 1)) da_nil)))))))))
theorem ok_divisor_by_steps {f : Addr} {fd : FuncData} (F : Fun K "_divisor_by_steps" "_divisor_by_steps" s_divisor_by_steps f fd) (h_rest_of : Cl P wd K mg base 2 "rest_of" ["number", "other"] (spP K 2 c_rest_of)) (g_NOUGHT : Gc K mg "NOUGHT" (.tuple [(.int 0), (.int 0)])) : FnG P wd K mg base CX0 3 f fd ["number", "other"] (spP K 2 c_divisor_by_steps) := by
  refine okP (k := 2) (m := 0) (w := w_divisor_by_steps) F sc_divisor_by_steps rfl rfl (fun c cdv A outer s H E hG hr => ?_) sem_divisor_by_steps
  exact (dss_cons (ds_while PassesOwn.never (dt_ne hr (de_pv (pv 1)) (de_gc g_NOUGHT (by rfl))) (dss_one (ds_par (i := 0) (j := 1) rfl sc_divisor_by_steps.nd rfl rfl (by decide) rfl rfl (da_cons (de_pv (pv 1)) (da_cons (de_fn h_rest_of (by decide) hr hG (by rfl) (da_cons (de_pv (pv 0)) (da_cons (de_pv (pv 1)) da_nil))) da_nil)) rfl))) (dss_one (ds_ret (de_pv (pv 0)))))
theorem ok_is_complex {f : Addr} {fd : FuncData} (F : Fun K "is_complex" "is_complex" s_is_complex f fd) (h_are_wholes : Cl P wd K mg base 2 "are_wholes" ["value", "many"] (spP K 2 c_are_wholes)) : FnG P wd K mg base CX0 3 f fd ["value"] (spP K 1 c_is_complex) := by
  refine okP (k := 2) (m := 0) (w := w_is_complex) F sc_is_complex rfl rfl (fun c cdv A outer s H E hG hr => ?_) sem_is_complex
  exact (dss_one (ds_ret (de_fn h_are_wholes (by decide) hr hG (by rfl) (da_cons (de_pv (pv 0)) (da_cons de_int da_nil)))))
theorem ok_determinant {f : Addr} {fd : FuncData} (F : Fun K "determinant" "determinant" s_determinant f fd) (h_minus : Cl P wd K mg base 1 "minus" ["number", "other"] (spP K 2 c_minus)) (h_times : Cl P wd K mg base 1 "times" ["number", "other"] (spP K 2 c_times)) : FnG P wd K mg base CX0 2 f fd ["numbers"] (spP K 1 c_determinant) := by
  refine okP (k := 1) (m := 4) (w := w_determinant) F sc_determinant rfl rfl (fun c cdv A outer s H E hG hr => ?_) sem_determinant
  exact (dss_cons (ds_asg (vs := [1, 2, 3, 4]) (de_pv (pv 0)) (dg_tup rfl (dgs_cons (dg_name (pg_name (i := 1) sc_determinant.nd rfl (by first | exact Or.inl rfl | exact Or.inr rfl)) (by decide)) (dgs_cons (dg_name (pg_name (i := 2) sc_determinant.nd rfl (by first | exact Or.inl rfl | exact Or.inr rfl)) (by decide)) (dgs_cons (dg_name (pg_name (i := 3) sc_determinant.nd rfl (by first | exact Or.inl rfl | exact Or.inr rfl)) (by decide)) (dgs_cons (dg_name (pg_name (i := 4) sc_determinant.nd rfl (by first | exact Or.inl rfl | exact Or.inr rfl)) (by decide)) dgs_nil)))))) (dss_one (ds_ret (de_fn h_minus (by decide) hr hG (by rfl) (da_cons (de_fn h_times (by decide) hr hG (by rfl) (da_cons (de_pv (pv 1)) (da_cons (de_pv (pv 4)) da_nil))) (da_cons (de_fn h_times (by decide) hr hG (by rfl) (da_cons (de_pv (pv 2)) (da_cons (de_pv (pv 3)) da_nil))) da_nil))))))
theorem ok_matrix_product {f : Addr} {fd : FuncData} (F : Fun K "matrix_product" "matrix_product" s_matrix_product f fd) (h_plus : Cl P wd K mg base 1 "plus" ["number", "other"] (spP K 2 c_plus)) (h_times : Cl P wd K mg base 1 "times" ["number", "other"] (spP K 2 c_times)) : FnG P wd K mg base CX0 2 f fd ["numbers", "others"] (spP K 2 c_matrix_product) := by
  refine okP (k := 1) (m := 8) (w := w_matrix_product) F sc_matrix_product rfl rfl (fun c cdv A outer s H E hG hr => ?_) sem_matrix_product
  exact (dss_cons (ds_asg (vs := [2, 3, 4, 5]) (de_pv (pv 0)) (dg_tup rfl (dgs_cons (dg_name (pg_name (i := 2) sc_matrix_product.nd rfl (by first | exact Or.inl rfl | exact Or.inr rfl)) (by decide)) (dgs_cons (dg_name (pg_name (i := 3) sc_matrix_product.nd rfl (by first | exact Or.inl rfl | exact Or.inr rfl)) (by decide)) (dgs_cons (dg_name (pg_name (i := 4) sc_matrix_product.nd rfl (by first | exact Or.inl rfl | exact Or.inr rfl)) (by decide)) (dgs_cons (dg_name (pg_name (i := 5) sc_matrix_product.nd rfl (by first | exact Or.inl rfl | exact Or.inr rfl)) (by decide)) dgs_nil)))))) (dss_cons (ds_asg (vs := [6, 7, 8, 9]) (de_pv (pv 1)) (dg_tup rfl (dgs_cons (dg_name (pg_name (i := 6) sc_matrix_product.nd rfl (by first | exact Or.inl rfl | exact Or.inr rfl)) (by decide)) (dgs_cons (dg_name (pg_name (i := 7) sc_matrix_product.nd rfl (by first | exact Or.inl rfl | exact Or.inr rfl)) (by decide)) (dgs_cons (dg_name (pg_name (i := 8) sc_matrix_product.nd rfl (by first | exact Or.inl rfl | exact Or.inr rfl)) (by decide)) (dgs_cons (dg_name (pg_name (i := 9) sc_matrix_product.nd rfl (by first | exact Or.inl rfl | exact Or.inr rfl)) (by decide)) dgs_nil)))))) (dss_one (ds_ret (de_tup (da_cons (de_fn h_plus (by decide) hr hG (by rfl) (da_cons (de_fn h_times (by decide) hr hG (by rfl) (da_cons (de_pv (pv 2)) (da_cons (de_pv (pv 6)) da_nil))) (da_cons (de_fn h_times (by decide) hr hG (by rfl) (da_cons (de_pv (pv 3)) (da_cons (de_pv (pv 8)) da_nil))) da_nil))) (da_cons (de_fn h_plus (by decide) hr hG (by rfl) (da_cons (de_fn h_times (by decide) hr hG (by rfl) (da_cons (de_pv (pv 2)) (da_cons (de_pv (pv 7)) da_nil))) (da_cons (de_fn h_times (by decide) hr hG (by rfl) (da_cons (de_pv (pv 3)) (da_cons (de_pv (pv 9)) da_nil))) da_nil))) (da_cons (de_fn h_plus (by decide) hr hG (by rfl) (da_cons (de_fn h_times (by decide) hr hG (by rfl) (da_cons (de_pv (pv 4)) (da_cons (de_pv (pv 6)) da_nil))) (da_cons (de_fn h_times (by decide) hr hG (by rfl) (da_cons (de_pv (pv 5)) (da_cons (de_pv (pv 8)) da_nil))) da_nil))) (da_cons (de_fn h_plus (by decide) hr hG (by rfl) (da_cons (de_fn h_times (by decide) hr hG (by rfl) (da_cons (de_pv (pv 4)) (da_cons (de_pv (pv 7)) da_nil))) (da_cons (de_fn h_times (by decide) hr hG (by rfl) (da_cons (de_pv (pv 5)) (da_cons (de_pv (pv 9)) da_nil))) da_nil))) da_nil)))))))))
theorem ok_adjugate {f : Addr} {fd : FuncData} (F : Fun K "adjugate" "adjugate" s_adjugate f fd) (h_negative : Cl P wd K mg base 1 "negative" ["number"] (spP K 1 c_negative)) : FnG P wd K mg base CX0 2 f fd ["numbers"] (spP K 1 c_adjugate) := by
  refine okP (k := 1) (m := 4) (w := w_adjugate) F sc_adjugate rfl rfl (fun c cdv A outer s H E hG hr => ?_) sem_adjugate
  exact (dss_cons (ds_asg (vs := [1, 2, 3, 4]) (de_pv (pv 0)) (dg_tup rfl (dgs_cons (dg_name (pg_name (i := 1) sc_adjugate.nd rfl (by first | exact Or.inl rfl | exact Or.inr rfl)) (by decide)) (dgs_cons (dg_name (pg_name (i := 2) sc_adjugate.nd rfl (by first | exact Or.inl rfl | exact Or.inr rfl)) (by decide)) (dgs_cons (dg_name (pg_name (i := 3) sc_adjugate.nd rfl (by first | exact Or.inl rfl | exact Or.inr rfl)) (by decide)) (dgs_cons (dg_name (pg_name (i := 4) sc_adjugate.nd rfl (by first | exact Or.inl rfl | exact Or.inr rfl)) (by decide)) dgs_nil)))))) (dss_one (ds_ret (de_tup (da_cons (de_pv (pv 4)) (da_cons (de_fn h_negative (by decide) hr hG (by rfl) (da_cons (de_pv (pv 2)) da_nil)) (da_cons (de_fn h_negative (by decide) hr hG (by rfl) (da_cons (de_pv (pv 3)) da_nil)) (da_cons (de_pv (pv 1)) da_nil))))))))
theorem ok_conjugates {f : Addr} {fd : FuncData} (F : Fun K "conjugates" "conjugates" s_conjugates f fd) (h_conjugate_of : Cl P wd K mg base 1 "conjugate_of" ["number"] (spP K 1 c_conjugate_of)) (z_tuple : mg "tuple" = none) : FnG P wd K mg base CX0 2 f fd ["numbers"] (spP K 1 c_conjugates) := by
  refine okP (k := 1) (m := 1) (w := w_conjugates) F sc_conjugates rfl rfl (fun c cdv A outer s H E hG hr => ?_) sem_conjugates
  exact (dss_one (ds_ret (de_tuple (by rfl) z_tuple (da_cons (de_lc (own := [("number", 1)]) rfl sc_conjugates.nd (di_tup (de_pv (pv 0))) (blkOk_by (N := ["numbers", "number"]) (sc := defScope s_conjugates) (by decide +kernel)) (fun _ _ _ _ _ => (dg_name (pg_name (i := 1) sc_conjugates.nd rfl (by first | exact Or.inl rfl | exact Or.inr rfl)) (by decide))) (fun _ _ _ _ _ => dts_nil) (fun _ _ _ _ _ => (de_fn h_conjugate_of (by decide) hr hG (by rfl) (da_cons (de_pv (pv 1)) da_nil)))) da_nil))))
theorem ok_led_parts {f : Addr} {fd : FuncData} (F : Fun K "led_parts" "led_parts" s_led_parts f fd) (h_plus : Cl P wd K mg base 1 "plus" ["number", "other"] (spP K 2 c_plus)) (h_times : Cl P wd K mg base 1 "times" ["number", "other"] (spP K 2 c_times)) (h_scaled : Cl P wd K mg base 1 "scaled" ["number", "whole"] (spP K 2 c_scaled)) : FnG P wd K mg base CX0 2 f fd ["numbers", "number", "under"] (spP K 3 c_led_parts) := by
  refine okP (k := 1) (m := 4) (w := w_led_parts) F sc_led_parts rfl rfl (fun c cdv A outer s H E hG hr => ?_) sem_led_parts
  exact (dss_cons (ds_asg (vs := [3, 4, 5, 6]) (de_pv (pv 0)) (dg_tup rfl (dgs_cons (dg_name (pg_name (i := 3) sc_led_parts.nd rfl (by first | exact Or.inl rfl | exact Or.inr rfl)) (by decide)) (dgs_cons (dg_name (pg_name (i := 4) sc_led_parts.nd rfl (by first | exact Or.inl rfl | exact Or.inr rfl)) (by decide)) (dgs_cons (dg_name (pg_name (i := 5) sc_led_parts.nd rfl (by first | exact Or.inl rfl | exact Or.inr rfl)) (by decide)) (dgs_cons (dg_name (pg_name (i := 6) sc_led_parts.nd rfl (by first | exact Or.inl rfl | exact Or.inr rfl)) (by decide)) dgs_nil)))))) (dss_one (ds_ret (de_tup (da_cons (de_fn h_plus (by decide) hr hG (by rfl) (da_cons (de_fn h_times (by decide) hr hG (by rfl) (da_cons (de_pv (pv 3)) (da_cons (de_pv (pv 1)) da_nil))) (da_cons (de_fn h_scaled (by decide) hr hG (by rfl) (da_cons (de_pv (pv 4)) (da_cons (de_pv (pv 2)) da_nil))) da_nil))) (da_cons (de_fn h_plus (by decide) hr hG (by rfl) (da_cons (de_fn h_times (by decide) hr hG (by rfl) (da_cons (de_pv (pv 5)) (da_cons (de_pv (pv 1)) da_nil))) (da_cons (de_fn h_scaled (by decide) hr hG (by rfl) (da_cons (de_pv (pv 6)) (da_cons (de_pv (pv 2)) da_nil))) da_nil))) da_nil))))))
theorem ok_is_place {f : Addr} {fd : FuncData} (F : Fun K "is_place" "is_place" s_is_place f fd) (h_are_wholes : Cl P wd K mg base 2 "are_wholes" ["value", "many"] (spP K 2 c_are_wholes)) (h_common_of : Cl P wd K mg base 1 "common_of" ["numbers"] (spP K 1 c_common_of)) (g_FAR : Gc K mg "FAR" (.tuple [(.int 1), (.int 0), (.int 0)])) : FnG P wd K mg base CX0 3 f fd ["value"] (spP K 1 c_is_place) := by
  refine okP (k := 2) (m := 0) (w := w_is_place) F sc_is_place rfl rfl (fun c cdv A outer s H E hG hr => ?_) sem_is_place
  exact (dss_cons (ds_if (dt_not (dt_val (de_fn h_are_wholes (by decide) hr hG (by rfl) (da_cons (de_pv (pv 0)) (da_cons de_int da_nil))))) (dss_one (ds_ret de_bl)) dss_nil) (dss_one (ds_ret (de_or (de_eq hr (de_pv (pv 0)) (de_gc g_FAR (by rfl))) (de_one (de_and (de_gt (de_item (de_pv (pv 0)) de_int) de_int) (de_one (de_eq hr (de_fn h_common_of (by decide) hr hG (by rfl) (da_cons (de_pv (pv 0)) da_nil)) de_int))))))))
theorem ok_require_place {f : Addr} {fd : FuncData} (F : Fun K "require_place" "require_place" s_require_place f fd) (h_is_place : Cl P wd K mg base 3 "is_place" ["value"] (spP K 1 c_is_place)) : FnG P wd K mg base CX0 4 f fd ["place"] (spP K 1 c_require_place) := by
  refine okP (k := 3) (m := 0) (w := w_require_place) F sc_require_place rfl rfl (fun c cdv A outer s H E hG hr => ?_) sem_require_place
  exact (dss_one (ds_if (dt_not (dt_val (de_fn h_is_place (by decide) hr hG (by rfl) (da_cons (de_pv (pv 0)) da_nil)))) dss_never dss_nil))
theorem ok_upper_and_lower {f : Addr} {fd : FuncData} (F : Fun K "upper_and_lower" "upper_and_lower" s_upper_and_lower f fd)  : FnG P wd K mg base CX0 1 f fd ["place"] (spP K 1 c_upper_and_lower) := by
  refine okP (k := 0) (m := 3) (w := w_upper_and_lower) F sc_upper_and_lower rfl rfl (fun c cdv A outer s H E hG hr => ?_) sem_upper_and_lower
  exact (dss_cons (ds_asg (vs := [1, 2, 3]) (de_pv (pv 0)) (dg_tup rfl (dgs_cons (dg_name (pg_name (i := 1) sc_upper_and_lower.nd rfl (by first | exact Or.inl rfl | exact Or.inr rfl)) (by decide)) (dgs_cons (dg_name (pg_name (i := 2) sc_upper_and_lower.nd rfl (by first | exact Or.inl rfl | exact Or.inr rfl)) (by decide)) (dgs_cons (dg_name (pg_name (i := 3) sc_upper_and_lower.nd rfl (by first | exact Or.inl rfl | exact Or.inr rfl)) (by decide)) dgs_nil))))) (dss_one (ds_ret (de_tup (da_cons (de_tup (da_cons (de_pv (pv 1)) (da_cons (de_pv (pv 2)) da_nil))) (da_cons (de_pv (pv 3)) da_nil))))))
theorem ok_quotient_place {f : Addr} {fd : FuncData} (F : Fun K "quotient_place" "quotient_place" s_quotient_place f fd) (h_times : Cl P wd K mg base 1 "times" ["number", "other"] (spP K 2 c_times)) (h_conjugate_of : Cl P wd K mg base 1 "conjugate_of" ["number"] (spP K 1 c_conjugate_of)) (h_reduced : Cl P wd K mg base 2 "reduced" ["numbers"] (spP K 1 c_reduced)) (h_norm_of : Cl P wd K mg base 1 "norm_of" ["number"] (spP K 1 c_norm_of)) (g_NOUGHT : Gc K mg "NOUGHT" (.tuple [(.int 0), (.int 0)])) (g_FAR : Gc K mg "FAR" (.tuple [(.int 1), (.int 0), (.int 0)])) : FnG P wd K mg base CX0 3 f fd ["number", "other"] (spP K 2 c_quotient_place) := by
  refine okP (k := 2) (m := 2) (w := w_quotient_place) F sc_quotient_place rfl rfl (fun c cdv A outer s H E hG hr => ?_) sem_quotient_place
  exact (dss_cons (ds_if (dt_eq hr (de_pv (pv 1)) (de_gc g_NOUGHT (by rfl))) (dss_one (ds_ret (de_gc g_FAR (by rfl)))) dss_nil) (dss_cons (ds_asg (vs := [2, 3]) (de_fn h_times (by decide) hr hG (by rfl) (da_cons (de_pv (pv 0)) (da_cons (de_fn h_conjugate_of (by decide) hr hG (by rfl) (da_cons (de_pv (pv 1)) da_nil)) da_nil))) (dg_tup rfl (dgs_cons (dg_name (pg_name (i := 2) sc_quotient_place.nd rfl (by first | exact Or.inl rfl | exact Or.inr rfl)) (by decide)) (dgs_cons (dg_name (pg_name (i := 3) sc_quotient_place.nd rfl (by first | exact Or.inl rfl | exact Or.inr rfl)) (by decide)) dgs_nil)))) (dss_one (ds_ret (de_fn h_reduced (by decide) hr hG (by rfl) (da_cons (de_tup (da_cons (de_pv (pv 2)) (da_cons (de_pv (pv 3)) (da_cons (de_fn h_norm_of (by decide) hr hG (by rfl) (da_cons (de_pv (pv 1)) da_nil)) da_nil)))) da_nil))))))
theorem ok_map_from {dvs : List V} {f : Addr} {fd : FuncData} (F : FunD K "map_from" "map_from" (defArgs s_map_from) (defBody s_map_from) (defScope s_map_from) dvs [] f fd) (h_divisor_of : Cl P wd K mg base 5 "divisor_of" ["numbers"] (spP K 1 c_divisor_of)) (h_exact_quotient : Cl P wd K mg base 2 "exact_quotient" ["number", "other"] (spP K 2 c_exact_quotient)) (h_is_quarter : Cl P wd K mg base 1 "is_quarter" ["number"] (spP K 1 c_is_quarter)) (h_turned : Cl P wd K mg base 1 "turned" ["number"] (spP K 1 c_turned)) (z_tuple : mg "tuple" = none) (g_NOUGHT : Gc K mg "NOUGHT" (.tuple [(.int 0), (.int 0)])) : FnG P wd K mg base CX0 6 f fd ["flag", "numbers", "multiple"] (spP K 3 c_map_from) := by
  refine okPD (k := 5) (m := 3) (w := w_map_from) F sc_map_from rfl rfl (fun c cdv A outer s H E hG hr => ?_) sem_map_from
  exact (dss_cons (ds_set (i := 3) sc_map_from.nd rfl (by first | exact Or.inl rfl | exact Or.inr rfl) (de_fn h_divisor_of (by decide) hr hG (by rfl) (da_cons (de_cat (de_pv (pv 1)) (de_tup (da_cons (de_pv (pv 2)) da_nil))) da_nil))) (dss_cons (ds_set (i := 1) sc_map_from.nd rfl (by first | exact Or.inl rfl | exact Or.inr rfl) (de_tuple (by rfl) z_tuple (da_cons (de_lc (own := [("number", 5)]) rfl sc_map_from.nd (di_tup (de_pv (pv 1))) (blkOk_by (N := ["flag", "numbers", "multiple", "divisor", "leader", "number"]) (sc := defScope s_map_from) (by decide +kernel)) (fun _ _ _ _ _ => (dg_name (pg_name (i := 5) sc_map_from.nd rfl (by first | exact Or.inl rfl | exact Or.inr rfl)) (by decide))) (fun _ _ _ _ _ => dts_nil) (fun _ _ _ _ _ => (de_fn h_exact_quotient (by decide) hr hG (by rfl) (da_cons (de_pv (pv 5)) (da_cons (de_pv (pv 3)) da_nil))))) da_nil))) (dss_cons (ds_set (i := 4) sc_map_from.nd rfl (by first | exact Or.inl rfl | exact Or.inr rfl) (de_if (dt_ne hr (de_item (de_pv (pv 1)) de_int) (de_gc g_NOUGHT (by rfl))) (de_item (de_pv (pv 1)) de_int) (de_item (de_pv (pv 1)) de_int))) (dss_cons (ds_while PassesOwn.never (dt_not (dt_val (de_fn h_is_quarter (by decide) hr hG (by rfl) (da_cons (de_pv (pv 4)) da_nil)))) (dss_cons (ds_set (i := 4) sc_map_from.nd rfl (by first | exact Or.inl rfl | exact Or.inr rfl) (de_fn h_turned (by decide) hr hG (by rfl) (da_cons (de_pv (pv 4)) da_nil))) (dss_one (ds_set (i := 1) sc_map_from.nd rfl (by first | exact Or.inl rfl | exact Or.inr rfl) (de_tuple (by rfl) z_tuple (da_cons (de_lc (own := [("number", 5)]) rfl sc_map_from.nd (di_tup (de_pv (pv 1))) (blkOk_by (N := ["flag", "numbers", "multiple", "divisor", "leader", "number"]) (sc := defScope s_map_from) (by decide +kernel)) (fun _ _ _ _ _ => (dg_name (pg_name (i := 5) sc_map_from.nd rfl (by first | exact Or.inl rfl | exact Or.inr rfl)) (by decide))) (fun _ _ _ _ _ => dts_nil) (fun _ _ _ _ _ => (de_fn h_turned (by decide) hr hG (by rfl) (da_cons (de_pv (pv 5)) da_nil)))) da_nil)))))) (dss_one (ds_ret (de_cat (de_tup (da_cons (de_pv (pv 0)) da_nil)) (de_pv (pv 1)))))))))
theorem ok_joined {f : Addr} {fd : FuncData} (F : Fun K "joined" "joined" s_joined f fd) (h_conjugates : Cl P wd K mg base 2 "conjugates" ["numbers"] (spP K 1 c_conjugates)) (h_map_from : Cl P wd K mg base 6 "map_from" ["flag", "numbers", "multiple"] (spP K 3 c_map_from)) (h_matrix_product : Cl P wd K mg base 2 "matrix_product" ["numbers", "others"] (spP K 2 c_matrix_product)) (h_determinant : Cl P wd K mg base 2 "determinant" ["numbers"] (spP K 1 c_determinant)) : FnG P wd K mg base CX0 7 f fd ["chart", "other"] (spP K 2 c_joined) := by
  refine okP (k := 6) (m := 1) (w := w_joined) F sc_joined rfl rfl (fun c cdv A outer s H E hG hr => ?_) sem_joined
  exact (dss_cons (ds_set (i := 2) sc_joined.nd rfl (by first | exact Or.inl rfl | exact Or.inr rfl) (de_if (dt_val (de_item (de_pv (pv 0)) de_int)) (de_fn h_conjugates (by decide) hr hG (by rfl) (da_cons (de_slice (de_pv (pv 1)) (do_some de_int) do_none) da_nil)) (de_slice (de_pv (pv 1)) (do_some de_int) do_none))) (dss_one (ds_ret (de_fn h_map_from (by decide) hr hG (by rfl) (da_cons (de_mod (de_cat (de_item (de_pv (pv 0)) de_int) (de_item (de_pv (pv 1)) de_int)) de_int) (da_cons (de_fn h_matrix_product (by decide) hr hG (by rfl) (da_cons (de_slice (de_pv (pv 0)) (do_some de_int) do_none) (da_cons (de_pv (pv 2)) da_nil))) (da_cons (de_fn h_determinant (by decide) hr hG (by rfl) (da_cons (de_pv (pv 2)) da_nil)) da_nil)))))))
theorem ok_back_of {f : Addr} {fd : FuncData} (F : Fun K "back_of" "back_of" s_back_of f fd) (h_adjugate : Cl P wd K mg base 2 "adjugate" ["numbers"] (spP K 1 c_adjugate)) (h_conjugates : Cl P wd K mg base 2 "conjugates" ["numbers"] (spP K 1 c_conjugates)) (d_map_from : ClD P wd K mg base 6 "map_from" ["flag", "numbers", "multiple"] [(.tuple [(.int 0), (.int 0)])] (spP K 3 c_map_from)) : FnG P wd K mg base CX0 7 f fd ["chart"] (spP K 1 c_back_of) := by
  refine okP (k := 6) (m := 1) (w := w_back_of) F sc_back_of rfl rfl (fun c cdv A outer s H E hG hr => ?_) sem_back_of
  exact (dss_cons (ds_set (i := 1) sc_back_of.nd rfl (by first | exact Or.inl rfl | exact Or.inr rfl) (de_fn h_adjugate (by decide) hr hG (by rfl) (da_cons (de_slice (de_pv (pv 0)) (do_some de_int) do_none) da_nil))) (dss_one (ds_ret (de_fnD d_map_from (by decide) hr hG (by rfl) (da_cons (de_item (de_pv (pv 0)) de_int) (da_cons (de_if (dt_val (de_item (de_pv (pv 0)) de_int)) (de_fn h_conjugates (by decide) hr hG (by rfl) (da_cons (de_pv (pv 1)) da_nil)) (de_pv (pv 1))) da_nil))))))
theorem ok_place_led {f : Addr} {fd : FuncData} (F : Fun K "place_led" "place_led" s_place_led f fd) (h_upper_and_lower : Cl P wd K mg base 1 "upper_and_lower" ["place"] (spP K 1 c_upper_and_lower)) (h_led_parts : Cl P wd K mg base 2 "led_parts" ["numbers", "number", "under"] (spP K 3 c_led_parts)) (h_conjugate_of : Cl P wd K mg base 1 "conjugate_of" ["number"] (spP K 1 c_conjugate_of)) (h_quotient_place : Cl P wd K mg base 3 "quotient_place" ["number", "other"] (spP K 2 c_quotient_place)) : FnG P wd K mg base CX0 4 f fd ["chart", "place"] (spP K 2 c_place_led) := by
  refine okP (k := 3) (m := 4) (w := w_place_led) F sc_place_led rfl rfl (fun c cdv A outer s H E hG hr => ?_) sem_place_led
  exact (dss_cons (ds_asg (vs := [2, 3]) (de_fn h_upper_and_lower (by decide) hr hG (by rfl) (da_cons (de_pv (pv 1)) da_nil)) (dg_tup rfl (dgs_cons (dg_name (pg_name (i := 2) sc_place_led.nd rfl (by first | exact Or.inl rfl | exact Or.inr rfl)) (by decide)) (dgs_cons (dg_name (pg_name (i := 3) sc_place_led.nd rfl (by first | exact Or.inl rfl | exact Or.inr rfl)) (by decide)) dgs_nil)))) (dss_cons (ds_asg (vs := [4, 5]) (de_fn h_led_parts (by decide) hr hG (by rfl) (da_cons (de_slice (de_pv (pv 0)) (do_some de_int) do_none) (da_cons (de_if (dt_val (de_item (de_pv (pv 0)) de_int)) (de_fn h_conjugate_of (by decide) hr hG (by rfl) (da_cons (de_pv (pv 2)) da_nil)) (de_pv (pv 2))) (da_cons (de_pv (pv 3)) da_nil)))) (dg_tup rfl (dgs_cons (dg_name (pg_name (i := 4) sc_place_led.nd rfl (by first | exact Or.inl rfl | exact Or.inr rfl)) (by decide)) (dgs_cons (dg_name (pg_name (i := 5) sc_place_led.nd rfl (by first | exact Or.inl rfl | exact Or.inr rfl)) (by decide)) dgs_nil)))) (dss_one (ds_ret (de_fn h_quotient_place (by decide) hr hG (by rfl) (da_cons (de_pv (pv 4)) (da_cons (de_pv (pv 5)) da_nil)))))))
theorem ok_is_flag {f : Addr} {fd : FuncData} (F : Fun K "is_flag" "is_flag" s_is_flag f fd) (h_is_whole : Cl P wd K mg base 1 "is_whole" ["value"] (spP K 1 c_is_whole)) : FnG P wd K mg base CX0 2 f fd ["value"] (spP K 1 c_is_flag) := by
  refine okP (k := 1) (m := 0) (w := w_is_flag) F sc_is_flag rfl rfl (fun c cdv A outer s H E hG hr => ?_) sem_is_flag
  exact (dss_one (ds_ret (de_and (de_fn h_is_whole (by decide) hr hG (by rfl) (da_cons (de_pv (pv 0)) da_nil)) (de_one (de_lele de_int (de_pv (pv 0)) de_int)))))
theorem ok_is_map {f : Addr} {fd : FuncData} (F : Fun K "is_map" "is_map" s_is_map f fd) (h_is_flag : Cl P wd K mg base 2 "is_flag" ["value"] (spP K 1 c_is_flag)) (h_is_complex : Cl P wd K mg base 3 "is_complex" ["value"] (spP K 1 c_is_complex)) (h_determinant : Cl P wd K mg base 2 "determinant" ["numbers"] (spP K 1 c_determinant)) (d_map_from : ClD P wd K mg base 6 "map_from" ["flag", "numbers", "multiple"] [(.tuple [(.int 0), (.int 0)])] (spP K 3 c_map_from)) (z_isinstance : mg "isinstance" = none) (z_tuple : mg "tuple" = none) (z_len : mg "len" = none) (z_all : mg "all" = none) (g_NOUGHT : Gc K mg "NOUGHT" (.tuple [(.int 0), (.int 0)])) : FnG P wd K mg base CX0 7 f fd ["value"] (spP K 1 c_is_map) := by
  refine okP (k := 6) (m := 2) (w := w_is_map) F sc_is_map rfl rfl (fun c cdv A outer s H E hG hr => ?_) sem_is_map
  exact (dss_cons (ds_if (dt_w (dw_or (dt_not (dt_val (de_isa "tuple" (by decide +kernel) isA_tuple kits_tuple (by rfl) z_isinstance (by rfl) z_tuple (de_pv (pv 0))))) (dw_or (dt_ne hr (de_len (by rfl) z_len (da_cons (de_pv (pv 0)) da_nil)) de_int) (dw_or1 (dt_not (dt_val (de_fn h_is_flag (by decide) hr hG (by rfl) (da_cons (de_item (de_pv (pv 0)) de_int) da_nil)))))))) (dss_one (ds_ret de_bl)) dss_nil) (dss_cons (ds_set (i := 1) sc_is_map.nd rfl (by first | exact Or.inl rfl | exact Or.inr rfl) (de_slice (de_pv (pv 0)) (do_some de_int) do_none)) (dss_cons (ds_if (dt_w (dw_or (dt_not (dt_val (de_all rfl (by rfl) z_all (da_cons (de_lc (own := [("number", 2)]) rfl sc_is_map.nd (di_tup (de_pv (pv 1))) (blkOk_by (N := ["value", "numbers", "number"]) (sc := defScope s_is_map) (by decide +kernel)) (fun _ _ _ _ _ => (dg_name (pg_name (i := 2) sc_is_map.nd rfl (by first | exact Or.inl rfl | exact Or.inr rfl)) (by decide))) (fun _ _ _ _ _ => dts_nil) (fun _ _ _ _ _ => (de_fn h_is_complex (by decide) hr hG (by rfl) (da_cons (de_pv (pv 2)) da_nil)))) da_nil)))) (dw_or1 (dt_eq hr (de_fn h_determinant (by decide) hr hG (by rfl) (da_cons (de_pv (pv 1)) da_nil)) (de_gc g_NOUGHT (by rfl)))))) (dss_one (ds_ret de_bl)) dss_nil) (dss_one (ds_ret (de_eq hr (de_pv (pv 0)) (de_fnD d_map_from (by decide) hr hG (by rfl) (da_cons (de_item (de_pv (pv 0)) de_int) (da_cons (de_pv (pv 1)) da_nil)))))))))
theorem ok_require_map {f : Addr} {fd : FuncData} (F : Fun K "require_map" "require_map" s_require_map f fd) (h_is_map : Cl P wd K mg base 7 "is_map" ["value"] (spP K 1 c_is_map)) : FnG P wd K mg base CX0 8 f fd ["chart"] (spP K 1 c_require_map) := by
  refine okP (k := 7) (m := 0) (w := w_require_map) F sc_require_map rfl rfl (fun c cdv A outer s H E hG hr => ?_) sem_require_map
  exact (dss_one (ds_if (dt_not (dt_val (de_fn h_is_map (by decide) hr hG (by rfl) (da_cons (de_pv (pv 0)) da_nil)))) dss_never dss_nil))
theorem ok_after {f : Addr} {fd : FuncData} (F : Fun K "after" "after" s_after f fd) (h_require_map : Cl P wd K mg base 8 "require_map" ["chart"] (spP K 1 c_require_map)) (h_joined : Cl P wd K mg base 7 "joined" ["chart", "other"] (spP K 2 c_joined)) : FnG P wd K mg base CX0 9 f fd ["chart", "other"] (spP K 2 c_after) := by
  refine okP (k := 8) (m := 0) (w := w_after) F sc_after rfl rfl (fun c cdv A outer s H E hG hr => ?_) sem_after
  exact (dss_cons (ds_expr (de_fn h_require_map (by decide) hr hG (by rfl) (da_cons (de_pv (pv 0)) da_nil))) (dss_cons (ds_expr (de_fn h_require_map (by decide) hr hG (by rfl) (da_cons (de_pv (pv 1)) da_nil))) (dss_one (ds_ret (de_fn h_joined (by decide) hr hG (by rfl) (da_cons (de_pv (pv 0)) (da_cons (de_pv (pv 1)) da_nil)))))))
theorem ok_plain_trace_ratio {f : Addr} {fd : FuncData} (F : Fun K "_plain_trace_ratio" "_plain_trace_ratio" s_plain_trace_ratio f fd) (h_plus : Cl P wd K mg base 1 "plus" ["number", "other"] (spP K 2 c_plus)) (h_quotient_place : Cl P wd K mg base 3 "quotient_place" ["number", "other"] (spP K 2 c_quotient_place)) (h_times : Cl P wd K mg base 1 "times" ["number", "other"] (spP K 2 c_times)) (h_determinant : Cl P wd K mg base 2 "determinant" ["numbers"] (spP K 1 c_determinant)) : FnG P wd K mg base CX0 4 f fd ["chart"] (spP K 1 c_plain_trace_ratio) := by
  refine okP (k := 3) (m := 1) (w := w_plain_trace_ratio) F sc_plain_trace_ratio rfl rfl (fun c cdv A outer s H E hG hr => ?_) sem_plain_trace_ratio
  exact (dss_cons (ds_set (i := 1) sc_plain_trace_ratio.nd rfl (by first | exact Or.inl rfl | exact Or.inr rfl) (de_fn h_plus (by decide) hr hG (by rfl) (da_cons (de_item (de_pv (pv 0)) de_int) (da_cons (de_item (de_pv (pv 0)) de_int) da_nil)))) (dss_one (ds_ret (de_fn h_quotient_place (by decide) hr hG (by rfl) (da_cons (de_fn h_times (by decide) hr hG (by rfl) (da_cons (de_pv (pv 1)) (da_cons (de_pv (pv 1)) da_nil))) (da_cons (de_fn h_determinant (by decide) hr hG (by rfl) (da_cons (de_slice (de_pv (pv 0)) (do_some de_int) do_none) da_nil)) da_nil))))))
theorem ok_plain_return {f : Addr} {fd : FuncData} (F : Fun K "_plain_return" "_plain_return" s_plain_return f fd) (h_plain_trace_ratio : Cl P wd K mg base 4 "_plain_trace_ratio" ["chart"] (spP K 1 c_plain_trace_ratio)) (g_STAYS : Gc K mg "STAYS" (.tuple [(.int 0), (.tuple [(.int 1), (.int 0)]), (.tuple [(.int 0), (.int 0)]), (.tuple [(.int 0), (.int 0)]), (.tuple [(.int 1), (.int 0)])])) (gt_RETURNS : GT K P wd mg "RETURNS" kt_RETURNS) : FnG P wd K mg base CX0 5 f fd ["chart"] (spP K 1 c_plain_return) := by
  refine okP (k := 4) (m := 0) (w := w_plain_return) F sc_plain_return rfl rfl (fun c cdv A outer s H E hG hr => ?_) sem_plain_return
  exact (dss_one (ds_ret (de_if (dt_eq hr (de_pv (pv 0)) (de_gc g_STAYS (by rfl))) de_int (de_getT hr gt_RETURNS (by rfl) (de_fn h_plain_trace_ratio (by decide) hr hG (by rfl) (da_cons (de_pv (pv 0)) da_nil)) (p := fun hm D ha => pe_getT (Nat.lt_of_le_of_lt (Nat.add_le_add_left (by decide) _) (room65 hr)) (by rfl) hm D ha)))))
theorem ok_return_of {f : Addr} {fd : FuncData} (F : Fun K "return_of" "return_of" s_return_of f fd) (h_require_map : Cl P wd K mg base 8 "require_map" ["chart"] (spP K 1 c_require_map)) (h_plain_return : Cl P wd K mg base 5 "_plain_return" ["chart"] (spP K 1 c_plain_return)) (h_joined : Cl P wd K mg base 7 "joined" ["chart", "other"] (spP K 2 c_joined)) : FnG P wd K mg base CX0 9 f fd ["chart"] (spP K 1 c_return_of) := by
  refine okP (k := 8) (m := 1) (w := w_return_of) F sc_return_of rfl rfl (fun c cdv A outer s H E hG hr => ?_) sem_return_of
  exact (dss_cons (ds_expr (de_fn h_require_map (by decide) hr hG (by rfl) (da_cons (de_pv (pv 0)) da_nil))) (dss_cons (ds_if (dt_eq hr (de_item (de_pv (pv 0)) de_int) de_int) (dss_one (ds_ret (de_fn h_plain_return (by decide) hr hG (by rfl) (da_cons (de_pv (pv 0)) da_nil)))) dss_nil) (dss_cons (ds_set (i := 1) sc_return_of.nd rfl (by first | exact Or.inl rfl | exact Or.inr rfl) (de_fn h_plain_return (by decide) hr hG (by rfl) (da_cons (de_fn h_joined (by decide) hr hG (by rfl) (da_cons (de_pv (pv 0)) (da_cons (de_pv (pv 0)) da_nil))) da_nil))) (dss_one (ds_ret (de_if (dt_is (de_pv (pv 1)) de_non) de_non (de_mul de_int (de_pv (pv 1)))))))))
theorem ok_require_number {f : Addr} {fd : FuncData} (F : Fun K "_require_number" "_require_number" s_require_number f fd) (h_is_whole : Cl P wd K mg base 1 "is_whole" ["value"] (spP K 1 c_is_whole)) (g_MOST : Gc K mg "MOST" (.int 60)) : FnG P wd K mg base CX0 2 f fd ["many"] (spP K 1 c_require_number) := by
  refine okP (k := 1) (m := 0) (w := w_require_number) F sc_require_number rfl rfl (fun c cdv A outer s H E hG hr => ?_) sem_require_number
  exact (dss_one (ds_if (dt_w (dw_or (dt_not (dt_val (de_fn h_is_whole (by decide) hr hG (by rfl) (da_cons (de_pv (pv 0)) da_nil)))) (dw_or1 (dt_not (dt_lele (de_neg (de_gc g_MOST (by rfl))) (de_pv (pv 0)) (de_gc g_MOST (by rfl))))))) dss_never dss_nil))
theorem ok_power {f : Addr} {fd : FuncData} (F : Fun K "_power" "_power" s_power f fd) (h_back_of : Cl P wd K mg base 7 "back_of" ["chart"] (spP K 1 c_back_of)) (h_joined : Cl P wd K mg base 7 "joined" ["chart", "other"] (spP K 2 c_joined)) (z_range : mg "range" = none) (z_abs : mg "abs" = none) (g_STAYS : Gc K mg "STAYS" (.tuple [(.int 0), (.tuple [(.int 1), (.int 0)]), (.tuple [(.int 0), (.int 0)]), (.tuple [(.int 0), (.int 0)]), (.tuple [(.int 1), (.int 0)])])) : FnG P wd K mg base CX0 8 f fd ["chart", "many"] (spP K 2 c_power) := by
  refine okP (k := 7) (m := 3) (w := w_power) F sc_power rfl rfl (fun c cdv A outer s H E hG hr => ?_) sem_power
  exact (dss_cons (ds_set (i := 2) sc_power.nd rfl (by first | exact Or.inl rfl | exact Or.inr rfl) (de_if (dt_gt (de_pv (pv 1)) de_int) (de_pv (pv 0)) (de_fn h_back_of (by decide) hr hG (by rfl) (da_cons (de_pv (pv 0)) da_nil)))) (dss_cons (ds_set (i := 3) sc_power.nd rfl (by first | exact Or.inl rfl | exact Or.inr rfl) (de_gc g_STAYS (by rfl))) (dss_cons (ds_for (vs := [4]) PassesOwn.never rfl (di_rng1 (by rfl) z_range (da_cons (de_abs (by rfl) z_abs (da_cons (de_pv (pv 1)) da_nil)) da_nil)) (dg_name (pg_name (i := 4) sc_power.nd rfl (by first | exact Or.inl rfl | exact Or.inr rfl)) (by decide)) (dss_one (ds_set (i := 3) sc_power.nd rfl (by first | exact Or.inl rfl | exact Or.inr rfl) (de_fn h_joined (by decide) hr hG (by rfl) (da_cons (de_pv (pv 3)) (da_cons (de_pv (pv 2)) da_nil)))))) (dss_one (ds_ret (de_pv (pv 3)))))))
theorem ok_power_of {f : Addr} {fd : FuncData} (F : Fun K "power_of" "power_of" s_power_of f fd) (h_require_map : Cl P wd K mg base 8 "require_map" ["chart"] (spP K 1 c_require_map)) (h_require_number : Cl P wd K mg base 2 "_require_number" ["many"] (spP K 1 c_require_number)) (h_power : Cl P wd K mg base 8 "_power" ["chart", "many"] (spP K 2 c_power)) : FnG P wd K mg base CX0 9 f fd ["chart", "many"] (spP K 2 c_power_of) := by
  refine okP (k := 8) (m := 0) (w := w_power_of) F sc_power_of rfl rfl (fun c cdv A outer s H E hG hr => ?_) sem_power_of
  exact (dss_cons (ds_expr (de_fn h_require_map (by decide) hr hG (by rfl) (da_cons (de_pv (pv 0)) da_nil))) (dss_cons (ds_expr (de_fn h_require_number (by decide) hr hG (by rfl) (da_cons (de_pv (pv 1)) da_nil))) (dss_one (ds_ret (de_fn h_power (by decide) hr hG (by rfl) (da_cons (de_pv (pv 0)) (da_cons (de_pv (pv 1)) da_nil)))))))
theorem ok_place_after {f : Addr} {fd : FuncData} (F : Fun K "place_after" "place_after" s_place_after f fd) (h_require_map : Cl P wd K mg base 8 "require_map" ["chart"] (spP K 1 c_require_map)) (h_require_place : Cl P wd K mg base 4 "require_place" ["place"] (spP K 1 c_require_place)) (h_require_number : Cl P wd K mg base 2 "_require_number" ["many"] (spP K 1 c_require_number)) (h_place_led : Cl P wd K mg base 4 "place_led" ["chart", "place"] (spP K 2 c_place_led)) (h_power : Cl P wd K mg base 8 "_power" ["chart", "many"] (spP K 2 c_power)) : FnG P wd K mg base CX0 9 f fd ["chart", "place", "many"] (spP K 3 c_place_after) := by
  refine okP (k := 8) (m := 0) (w := w_place_after) F sc_place_after rfl rfl (fun c cdv A outer s H E hG hr => ?_) sem_place_after
  exact (dss_cons (ds_expr (de_fn h_require_map (by decide) hr hG (by rfl) (da_cons (de_pv (pv 0)) da_nil))) (dss_cons (ds_expr (de_fn h_require_place (by decide) hr hG (by rfl) (da_cons (de_pv (pv 1)) da_nil))) (dss_cons (ds_expr (de_fn h_require_number (by decide) hr hG (by rfl) (da_cons (de_pv (pv 2)) da_nil))) (dss_one (ds_ret (de_fn h_place_led (by decide) hr hG (by rfl) (da_cons (de_fn h_power (by decide) hr hG (by rfl) (da_cons (de_pv (pv 0)) (da_cons (de_pv (pv 2)) da_nil))) (da_cons (de_pv (pv 1)) da_nil))))))))
theorem ok_law_tank {f : Addr} {fd : FuncData} (F : Fun K "_law_tank" "_law_tank" s_law_tank f fd) (z_int : mg "int" = none) (z_len : mg "len" = none) (z_abs : mg "abs" = none) : FnG P wd K mg base CX0 1 f fd ["_law_script", "_law_spot"] (spF K 2 c_law_tank) := by
  refine okF (k := 0) (m := 4) (w := w_law_tank) F sc_law_tank rfl rfl (fun c cdv A outer s H E hG hr => ?_) sem_law_tank
  exact (dss_cons (ds_set (i := 2) sc_law_tank.nd rfl (by first | exact Or.inl rfl | exact Or.inr rfl) (de_cat de_int (de_mul de_int (de_pv (pv 1))))) (dss_cons (ds_for (vs := [3]) PassesOwn.never rfl (di_list (de_slice (de_pv (pv 0)) do_none (do_some de_int))) (dg_name (pg_name (i := 3) sc_law_tank.nd rfl (by first | exact Or.inl rfl | exact Or.inr rfl)) (by decide)) (dss_one (ds_set (i := 2) sc_law_tank.nd rfl (by first | exact Or.inl rfl | exact Or.inr rfl) (de_mod (de_intc (by rfl) z_int (da_cons (de_cat (de_cat (de_mul (de_pv (pv 2)) de_int) (de_mod (de_intc (by rfl) z_int (da_cons (de_pv (pv 3)) da_nil)) de_int)) de_int) da_nil)) de_int)))) (dss_cons (ds_set (i := 4) sc_law_tank.nd rfl (by first | exact Or.inl rfl | exact Or.inr rfl) (de_if (dt_lt (de_pv (pv 1)) (de_len (by rfl) z_len (da_cons (de_pv (pv 0)) da_nil))) (de_intc (by rfl) z_int (da_cons (de_item (de_pv (pv 0)) (de_pv (pv 1))) da_nil)) (de_pv (pv 2)))) (dss_cons (ds_set (i := 5) sc_law_tank.nd rfl (by first | exact Or.inl rfl | exact Or.inr rfl) (de_if (dt_w (dw_or (dt_lt (de_pv (pv 4)) de_int) (dw_or1 (dt_ge (de_pv (pv 4)) (de_pow de_int de_int))))) (de_abs (by rfl) z_abs (da_cons (de_pv (pv 4)) da_nil)) de_int)) (dss_one (ds_retL (da_cons (de_pv (pv 5)) (da_cons (de_mod (de_intc (by rfl) z_int (da_cons (de_cat (de_cat (de_mul (de_pv (pv 2)) de_int) (de_mul (de_mod (de_intc (by rfl) z_int (da_cons (de_pv (pv 4)) da_nil)) de_int) de_int)) de_int) da_nil)) de_int) (da_cons de_int da_nil)))))))))
theorem ok_law_draw {f : Addr} {fd : FuncData} (F : Fun K "_law_draw" "_law_draw" s_law_draw f fd) (z_divmod : mg "divmod" = none) (z_int : mg "int" = none) : FnG P wd K mg base CX0 1 f fd ["_law_tank_here", "_law_many"] (spT K 2 c_law_draw) := by
  refine okT (k := 0) (m := 2) (w := w_law_draw) F sc_law_draw rfl rfl (fun c cdv A outer s H E hG hr => ?_) sem_law_draw
  exact (dss_cons (ds_if (dt_gt (de_ownIx (pv 0) de_int) de_int) (dss_cons (ds_asg (vs := [2]) (de_divmod (by rfl) z_divmod (da_cons (de_ownIx (pv 0) de_int) (da_cons (de_pv (pv 1)) da_nil))) (dg_tup rfl (dgs_cons (dg_sub (pv 0) de_int) (dgs_cons (dg_name (pg_name (i := 2) sc_law_draw.nd rfl (by first | exact Or.inl rfl | exact Or.inr rfl)) (by decide)) dgs_nil)))) (dss_one (ds_ret (de_pv (pv 2))))) dss_nil) (dss_cons (ds_asg (vs := []) (de_cat (de_ownIx (pv 0) de_int) de_int) (dg_sub (pv 0) de_int)) (dss_cons (ds_set (i := 3) sc_law_draw.nd rfl (by first | exact Or.inl rfl | exact Or.inr rfl) (de_cat (de_mod (de_intc (by rfl) z_int (da_cons (de_ownIx (pv 0) de_int) da_nil)) de_int) de_int)) (dss_cons (ds_asg (vs := []) (de_mod (de_intc (by rfl) z_int (da_cons (de_cat (de_cat (de_mul (de_ownIx (pv 0) de_int) (de_pv (pv 3))) (de_mul de_int (de_ownIx (pv 0) de_int))) de_int) da_nil)) de_int) (dg_sub (pv 0) de_int)) (dss_one (ds_ret (de_mod (de_intc (by rfl) z_int (da_cons (de_div (de_ownIx (pv 0) de_int) de_int) da_nil)) (de_pv (pv 1)))))))))
theorem ok_law_pick {f : Addr} {fd : FuncData} (F : Fun K "_law_pick" "_law_pick" s_law_pick f fd) (h_law_draw : Cl P wd K mg base 1 "_law_draw" ["_law_tank_here", "_law_many"] (spT K 2 c_law_draw)) (z_len : mg "len" = none) : FnG P wd K mg base CX0 2 f fd ["_law_tank_here", "_law_some"] (spT K 2 c_law_pick) := by
  refine okT (k := 1) (m := 0) (w := w_law_pick) F sc_law_pick rfl rfl (fun c cdv A outer s H E hG hr => ?_) sem_law_pick
  exact (dss_one (ds_ret (de_item (de_pv (pv 1)) (de_fnT (i := 0) h_law_draw (by decide) hr hG (by rfl) (pv 0) (da_cons (de_len (by rfl) z_len (da_cons (de_pv (pv 1)) da_nil)) da_nil)))))
theorem ok_law_rounds {f : Addr} {fd : FuncData} (F : Fun K "_law_rounds" "_law_rounds" s_law_rounds f fd) (z_max : mg "max" = none) (z_min : mg "min" = none) (z_len : mg "len" = none) : FnG P wd K mg base CX0 1 f fd ["_law_script"] (spP K 1 c_law_rounds) := by
  refine okP (k := 0) (m := 0) (w := w_law_rounds) F sc_law_rounds rfl rfl (fun c cdv A outer s H E hG hr => ?_) sem_law_rounds
  exact (dss_one (ds_ret (de_max2 rfl (by rfl) z_max (da_cons de_int (da_cons (de_min2 rfl (by rfl) z_min (da_cons (de_len (by rfl) z_len (da_cons (de_pv (pv 0)) da_nil)) (da_cons de_int da_nil))) da_nil)))))
theorem ok_law_small {f : Addr} {fd : FuncData} (F : Fun K "_law_small" "_law_small" s_law_small f fd) (h_law_pick : Cl P wd K mg base 2 "_law_pick" ["_law_tank_here", "_law_some"] (spT K 2 c_law_pick)) (h_law_draw : Cl P wd K mg base 1 "_law_draw" ["_law_tank_here", "_law_many"] (spT K 2 c_law_draw)) : FnG P wd K mg base CX0 3 f fd ["_law_tank_here"] (spT K 1 c_law_small) := by
  refine okT (k := 2) (m := 1) (w := w_law_small) F sc_law_small rfl rfl (fun c cdv A outer s H E hG hr => ?_) sem_law_small
  exact (dss_cons (ds_set (i := 1) sc_law_small.nd rfl (by first | exact Or.inl rfl | exact Or.inr rfl) (de_fnT (i := 0) h_law_pick (by decide) hr hG (by rfl) (pv 0) (da_cons (de_tup (da_cons de_int (da_cons de_int (da_cons de_int (da_cons de_int (da_cons de_int da_nil)))))) da_nil))) (dss_one (ds_ret (de_sub (de_fnT (i := 0) h_law_draw (by decide) hr hG (by rfl) (pv 0) (da_cons (de_cat (de_mul de_int (de_pv (pv 1))) de_int) da_nil)) (de_pv (pv 1))))))
theorem ok_law_least {f : Addr} {fd : FuncData} (F : Fun K "_law_least" "_law_least" s_law_least f fd) (z_abs : mg "abs" = none) (z_int : mg "int" = none) (z_tuple : mg "tuple" = none) : FnG P wd K mg base CX0 1 f fd ["_law_numbers"] (spP K 1 c_law_least) := by
  refine okP (k := 0) (m := 4) (w := w_law_least) F sc_law_least rfl rfl (fun c cdv A outer s H E hG hr => ?_) sem_law_least
  exact (dss_cons (ds_set (i := 1) sc_law_least.nd rfl (by first | exact Or.inl rfl | exact Or.inr rfl) de_int) (dss_cons (ds_for (vs := [2]) PassesOwn.never rfl (di_tup (de_pv (pv 0))) (dg_name (pg_name (i := 2) sc_law_least.nd rfl (by first | exact Or.inl rfl | exact Or.inr rfl)) (by decide)) (dss_cons (ds_par (i := 3) (j := 4) rfl sc_law_least.nd rfl rfl (by decide) rfl rfl (da_cons (de_pv (pv 1)) (da_cons (de_abs (by rfl) z_abs (da_cons (de_pv (pv 2)) da_nil)) da_nil)) rfl) (dss_cons (ds_while PassesOwn.never (dt_gt (de_pv (pv 4)) de_int) (dss_one (ds_par (i := 3) (j := 4) rfl sc_law_least.nd rfl rfl (by decide) rfl rfl (da_cons (de_pv (pv 4)) (da_cons (de_mod (de_intc (by rfl) z_int (da_cons (de_pv (pv 3)) da_nil)) (de_pv (pv 4))) da_nil)) rfl))) (dss_one (ds_set (i := 1) sc_law_least.nd rfl (by first | exact Or.inl rfl | exact Or.inr rfl) (de_pv (pv 3))))))) (dss_one (ds_ret (de_tuple (by rfl) z_tuple (da_cons (de_lc (own := [("_law_number", 2)]) rfl sc_law_least.nd (di_tup (de_pv (pv 0))) (blkOk_by (N := ["_law_numbers", "_law_part", "_law_number", "_law_left", "_law_right_here"]) (sc := defScope s_law_least) (by decide +kernel)) (fun _ _ _ _ _ => (dg_name (pg_name (i := 2) sc_law_least.nd rfl (by first | exact Or.inl rfl | exact Or.inr rfl)) (by decide))) (fun _ _ _ _ _ => dts_nil) (fun _ _ _ _ _ => (de_div (de_pv (pv 2)) (de_pv (pv 1))))) da_nil))))))
theorem ok_law_plus {f : Addr} {fd : FuncData} (F : Fun K "_law_plus" "_law_plus" s_law_plus f fd)  : FnG P wd K mg base CX0 1 f fd ["_law_one", "_law_two"] (spP K 2 c_law_plus) := by
  refine okP (k := 0) (m := 0) (w := w_law_plus) F sc_law_plus rfl rfl (fun c cdv A outer s H E hG hr => ?_) sem_law_plus
  exact (dss_one (ds_ret (de_tup (da_cons (de_cat (de_item (de_pv (pv 0)) de_int) (de_item (de_pv (pv 1)) de_int)) (da_cons (de_cat (de_item (de_pv (pv 0)) de_int) (de_item (de_pv (pv 1)) de_int)) da_nil)))))
theorem ok_law_less {f : Addr} {fd : FuncData} (F : Fun K "_law_less" "_law_less" s_law_less f fd)  : FnG P wd K mg base CX0 1 f fd ["_law_one", "_law_two"] (spP K 2 c_law_less) := by
  refine okP (k := 0) (m := 0) (w := w_law_less) F sc_law_less rfl rfl (fun c cdv A outer s H E hG hr => ?_) sem_law_less
  exact (dss_one (ds_ret (de_tup (da_cons (de_sub (de_item (de_pv (pv 0)) de_int) (de_item (de_pv (pv 1)) de_int)) (da_cons (de_sub (de_item (de_pv (pv 0)) de_int) (de_item (de_pv (pv 1)) de_int)) da_nil)))))
theorem ok_law_times {f : Addr} {fd : FuncData} (F : Fun K "_law_times" "_law_times" s_law_times f fd)  : FnG P wd K mg base CX0 1 f fd ["_law_one", "_law_two"] (spP K 2 c_law_times) := by
  refine okP (k := 0) (m := 0) (w := w_law_times) F sc_law_times rfl rfl (fun c cdv A outer s H E hG hr => ?_) sem_law_times
  exact (dss_one (ds_ret (de_tup (da_cons (de_sub (de_mul (de_item (de_pv (pv 0)) de_int) (de_item (de_pv (pv 1)) de_int)) (de_mul (de_item (de_pv (pv 0)) de_int) (de_item (de_pv (pv 1)) de_int))) (da_cons (de_cat (de_mul (de_item (de_pv (pv 0)) de_int) (de_item (de_pv (pv 1)) de_int)) (de_mul (de_item (de_pv (pv 0)) de_int) (de_item (de_pv (pv 1)) de_int))) da_nil)))))
theorem ok_law_star {f : Addr} {fd : FuncData} (F : Fun K "_law_star" "_law_star" s_law_star f fd)  : FnG P wd K mg base CX0 1 f fd ["_law_one"] (spP K 1 c_law_star) := by
  refine okP (k := 0) (m := 0) (w := w_law_star) F sc_law_star rfl rfl (fun c cdv A outer s H E hG hr => ?_) sem_law_star
  exact (dss_one (ds_ret (de_tup (da_cons (de_item (de_pv (pv 0)) de_int) (da_cons (de_sub de_int (de_item (de_pv (pv 0)) de_int)) da_nil)))))
theorem ok_law_size {f : Addr} {fd : FuncData} (F : Fun K "_law_size" "_law_size" s_law_size f fd)  : FnG P wd K mg base CX0 1 f fd ["_law_one"] (spP K 1 c_law_size) := by
  refine okP (k := 0) (m := 0) (w := w_law_size) F sc_law_size rfl rfl (fun c cdv A outer s H E hG hr => ?_) sem_law_size
  exact (dss_one (ds_ret (de_cat (de_mul (de_item (de_pv (pv 0)) de_int) (de_item (de_pv (pv 0)) de_int)) (de_mul (de_item (de_pv (pv 0)) de_int) (de_item (de_pv (pv 0)) de_int)))))
theorem ok_law_quarter {f : Addr} {fd : FuncData} (F : Fun K "_law_quarter" "_law_quarter" s_law_quarter f fd) (z_range : mg "range" = none) : FnG P wd K mg base CX0 1 f fd ["_law_one"] (spP K 1 c_law_quarter) := by
  refine okP (k := 0) (m := 3) (w := w_law_quarter) F sc_law_quarter rfl rfl (fun c cdv A outer s H E hG hr => ?_) sem_law_quarter
  exact (dss_cons (ds_asg (vs := [1, 2]) (de_pv (pv 0)) (dg_tup rfl (dgs_cons (dg_name (pg_name (i := 1) sc_law_quarter.nd rfl (by first | exact Or.inl rfl | exact Or.inr rfl)) (by decide)) (dgs_cons (dg_name (pg_name (i := 2) sc_law_quarter.nd rfl (by first | exact Or.inl rfl | exact Or.inr rfl)) (by decide)) dgs_nil)))) (dss_cons (ds_for (vs := [3]) PassesOwn.never rfl (di_rng1 (by rfl) z_range (da_cons de_int da_nil)) (dg_name (pg_name (i := 3) sc_law_quarter.nd rfl (by first | exact Or.inl rfl | exact Or.inr rfl)) (by decide)) (dss_cons (ds_if (dt_w (dw_and (dt_gt (de_pv (pv 1)) de_int) (dw_and1 (dt_ge (de_pv (pv 2)) de_int)))) (dss_one (ds_ret (de_tup (da_cons (de_pv (pv 1)) (da_cons (de_pv (pv 2)) da_nil))))) dss_nil) (dss_one (ds_par (i := 1) (j := 2) rfl sc_law_quarter.nd rfl rfl (by decide) rfl rfl (da_cons (de_sub de_int (de_pv (pv 2))) (da_cons (de_pv (pv 1)) da_nil)) rfl)))) (dss_one (ds_ret (de_tup (da_cons de_int (da_cons de_int da_nil)))))))
theorem ok_law_over {f : Addr} {fd : FuncData} (F : Fun K "_law_over" "_law_over" s_law_over f fd) (h_law_size : Cl P wd K mg base 1 "_law_size" ["_law_one"] (spP K 1 c_law_size)) (h_law_times : Cl P wd K mg base 1 "_law_times" ["_law_one", "_law_two"] (spP K 2 c_law_times)) (h_law_star : Cl P wd K mg base 1 "_law_star" ["_law_one"] (spP K 1 c_law_star)) (z_int : mg "int" = none) : FnG P wd K mg base CX0 2 f fd ["_law_one", "_law_two"] (spP K 2 c_law_over) := by
  refine okP (k := 1) (m := 3) (w := w_law_over) F sc_law_over rfl rfl (fun c cdv A outer s H E hG hr => ?_) sem_law_over
  exact (dss_cons (ds_set (i := 2) sc_law_over.nd rfl (by first | exact Or.inl rfl | exact Or.inr rfl) (de_fn h_law_size (by decide) hr hG (by rfl) (da_cons (de_pv (pv 1)) da_nil))) (dss_cons (ds_if (dt_eq hr (de_pv (pv 2)) de_int) (dss_one (ds_ret de_non)) dss_nil) (dss_cons (ds_asg (vs := [3, 4]) (de_fn h_law_times (by decide) hr hG (by rfl) (da_cons (de_pv (pv 0)) (da_cons (de_fn h_law_star (by decide) hr hG (by rfl) (da_cons (de_pv (pv 1)) da_nil)) da_nil))) (dg_tup rfl (dgs_cons (dg_name (pg_name (i := 3) sc_law_over.nd rfl (by first | exact Or.inl rfl | exact Or.inr rfl)) (by decide)) (dgs_cons (dg_name (pg_name (i := 4) sc_law_over.nd rfl (by first | exact Or.inl rfl | exact Or.inr rfl)) (by decide)) dgs_nil)))) (dss_one (ds_ret (de_if (dt_w (dw_and (dt_eq hr (de_mod (de_intc (by rfl) z_int (da_cons (de_pv (pv 3)) da_nil)) (de_pv (pv 2))) de_int) (dw_and1 (dt_eq hr (de_mod (de_intc (by rfl) z_int (da_cons (de_pv (pv 4)) da_nil)) (de_pv (pv 2))) de_int)))) (de_tup (da_cons (de_div (de_pv (pv 3)) (de_pv (pv 2))) (da_cons (de_div (de_pv (pv 4)) (de_pv (pv 2))) da_nil))) de_non))))))
theorem ok_law_common {f : Addr} {fd : FuncData} (F : Fun K "_law_common" "_law_common" s_law_common f fd) (h_law_size : Cl P wd K mg base 1 "_law_size" ["_law_one"] (spP K 1 c_law_size)) (h_law_times : Cl P wd K mg base 1 "_law_times" ["_law_one", "_law_two"] (spP K 2 c_law_times)) (h_law_star : Cl P wd K mg base 1 "_law_star" ["_law_one"] (spP K 1 c_law_star)) (h_law_less : Cl P wd K mg base 1 "_law_less" ["_law_one", "_law_two"] (spP K 2 c_law_less)) (z_range : mg "range" = none) : FnG P wd K mg base CX0 2 f fd ["_law_numbers"] (spP K 1 c_law_common) := by
  refine okP (k := 1) (m := 9) (w := w_law_common) F sc_law_common rfl rfl (fun c cdv A outer s H E hG hr => ?_) sem_law_common
  exact (dss_cons (ds_set (i := 1) sc_law_common.nd rfl (by first | exact Or.inl rfl | exact Or.inr rfl) (de_tup (da_cons de_int (da_cons de_int da_nil)))) (dss_cons (ds_for (vs := [2]) PassesOwn.never rfl (di_list (de_pv (pv 0))) (dg_name (pg_name (i := 2) sc_law_common.nd rfl (by first | exact Or.inl rfl | exact Or.inr rfl)) (by decide)) (dss_cons (ds_par (i := 3) (j := 4) rfl sc_law_common.nd rfl rfl (by decide) rfl rfl (da_cons (de_pv (pv 1)) (da_cons (de_pv (pv 2)) da_nil)) rfl) (dss_cons (ds_for (vs := [5]) PassesOwn.never rfl (di_rng1 (by rfl) z_range (da_cons de_int da_nil)) (dg_name (pg_name (i := 5) sc_law_common.nd rfl (by first | exact Or.inl rfl | exact Or.inr rfl)) (by decide)) (dss_cons (ds_set (i := 6) sc_law_common.nd rfl (by first | exact Or.inl rfl | exact Or.inr rfl) (de_fn h_law_size (by decide) hr hG (by rfl) (da_cons (de_pv (pv 4)) da_nil))) (dss_cons (ds_if (dt_eq hr (de_pv (pv 6)) de_int) (dss_one ds_break) dss_nil) (dss_cons (ds_asg (vs := [7, 8]) (de_fn h_law_times (by decide) hr hG (by rfl) (da_cons (de_pv (pv 3)) (da_cons (de_fn h_law_star (by decide) hr hG (by rfl) (da_cons (de_pv (pv 4)) da_nil)) da_nil))) (dg_tup rfl (dgs_cons (dg_name (pg_name (i := 7) sc_law_common.nd rfl (by first | exact Or.inl rfl | exact Or.inr rfl)) (by decide)) (dgs_cons (dg_name (pg_name (i := 8) sc_law_common.nd rfl (by first | exact Or.inl rfl | exact Or.inr rfl)) (by decide)) dgs_nil)))) (dss_cons (ds_set (i := 9) sc_law_common.nd rfl (by first | exact Or.inl rfl | exact Or.inr rfl) (de_tup (da_cons (de_div (de_cat (de_mul de_int (de_pv (pv 7))) (de_pv (pv 6))) (de_mul de_int (de_pv (pv 6)))) (da_cons (de_div (de_cat (de_mul de_int (de_pv (pv 8))) (de_pv (pv 6))) (de_mul de_int (de_pv (pv 6)))) da_nil)))) (dss_one (ds_par (i := 3) (j := 4) rfl sc_law_common.nd rfl rfl (by decide) rfl rfl (da_cons (de_pv (pv 4)) (da_cons (de_fn h_law_less (by decide) hr hG (by rfl) (da_cons (de_pv (pv 3)) (da_cons (de_fn h_law_times (by decide) hr hG (by rfl) (da_cons (de_pv (pv 9)) (da_cons (de_pv (pv 4)) da_nil))) da_nil))) da_nil)) rfl))))))) (dss_one (ds_set (i := 1) sc_law_common.nd rfl (by first | exact Or.inl rfl | exact Or.inr rfl) (de_pv (pv 3))))))) (dss_one (ds_ret (de_pv (pv 1))))))
theorem ok_law_near {f : Addr} {fd : FuncData} (F : Fun K "_law_near" "_law_near" s_law_near f fd) (h_law_least : Cl P wd K mg base 1 "_law_least" ["_law_numbers"] (spP K 1 c_law_least)) (h_law_small : Cl P wd K mg base 3 "_law_small" ["_law_tank_here"] (spT K 1 c_law_small)) (h_law_draw : Cl P wd K mg base 1 "_law_draw" ["_law_tank_here", "_law_many"] (spT K 2 c_law_draw)) (h_law_pick : Cl P wd K mg base 2 "_law_pick" ["_law_tank_here", "_law_some"] (spT K 2 c_law_pick)) : FnG P wd K mg base CX0 4 f fd ["_law_tank_here"] (spT K 1 c_law_near) := by
  refine okT (k := 3) (m := 0) (w := w_law_near) F sc_law_near rfl rfl (fun c cdv A outer s H E hG hr => ?_) sem_law_near
  exact (dss_one (ds_ret (de_fn h_law_least (by decide) hr hG (by rfl) (da_cons (de_tup (da_cons (de_fnT (i := 0) h_law_small (by decide) hr hG (by rfl) (pv 0) da_nil) (da_cons (de_fnT (i := 0) h_law_small (by decide) hr hG (by rfl) (pv 0) da_nil) (da_cons (de_cat de_int (de_fnT (i := 0) h_law_draw (by decide) hr hG (by rfl) (pv 0) (da_cons (de_fnT (i := 0) h_law_pick (by decide) hr hG (by rfl) (pv 0) (da_cons (de_tup (da_cons de_int (da_cons de_int (da_cons de_int (da_cons de_int da_nil))))) da_nil)) da_nil))) da_nil)))) da_nil))))
theorem ok_law_any_place {f : Addr} {fd : FuncData} (F : Fun K "_law_any_place" "_law_any_place" s_law_any_place f fd) (h_law_draw : Cl P wd K mg base 1 "_law_draw" ["_law_tank_here", "_law_many"] (spT K 2 c_law_draw)) (h_law_near : Cl P wd K mg base 4 "_law_near" ["_law_tank_here"] (spT K 1 c_law_near)) : FnG P wd K mg base CX0 5 f fd ["_law_tank_here"] (spT K 1 c_law_any_place) := by
  refine okT (k := 4) (m := 0) (w := w_law_any_place) F sc_law_any_place rfl rfl (fun c cdv A outer s H E hG hr => ?_) sem_law_any_place
  exact (dss_one (ds_ret (de_if (dt_eq hr (de_fnT (i := 0) h_law_draw (by decide) hr hG (by rfl) (pv 0) (da_cons de_int da_nil)) de_int) (de_tup (da_cons de_int (da_cons de_int (da_cons de_int da_nil)))) (de_fnT (i := 0) h_law_near (by decide) hr hG (by rfl) (pv 0) da_nil))))
theorem ok_law_place_of {f : Addr} {fd : FuncData} (F : Fun K "_law_place_of" "_law_place_of" s_law_place_of f fd) (h_law_times : Cl P wd K mg base 1 "_law_times" ["_law_one", "_law_two"] (spP K 2 c_law_times)) (h_law_star : Cl P wd K mg base 1 "_law_star" ["_law_one"] (spP K 1 c_law_star)) (h_law_least : Cl P wd K mg base 1 "_law_least" ["_law_numbers"] (spP K 1 c_law_least)) (h_law_size : Cl P wd K mg base 1 "_law_size" ["_law_one"] (spP K 1 c_law_size)) : FnG P wd K mg base CX0 2 f fd ["_law_one", "_law_two"] (spP K 2 c_law_place_of) := by
  refine okP (k := 1) (m := 2) (w := w_law_place_of) F sc_law_place_of rfl rfl (fun c cdv A outer s H E hG hr => ?_) sem_law_place_of
  exact (dss_cons (ds_if (dt_eq hr (de_pv (pv 1)) (de_tup (da_cons de_int (da_cons de_int da_nil)))) (dss_one (ds_ret (de_tup (da_cons de_int (da_cons de_int (da_cons de_int da_nil)))))) dss_nil) (dss_cons (ds_asg (vs := [2, 3]) (de_fn h_law_times (by decide) hr hG (by rfl) (da_cons (de_pv (pv 0)) (da_cons (de_fn h_law_star (by decide) hr hG (by rfl) (da_cons (de_pv (pv 1)) da_nil)) da_nil))) (dg_tup rfl (dgs_cons (dg_name (pg_name (i := 2) sc_law_place_of.nd rfl (by first | exact Or.inl rfl | exact Or.inr rfl)) (by decide)) (dgs_cons (dg_name (pg_name (i := 3) sc_law_place_of.nd rfl (by first | exact Or.inl rfl | exact Or.inr rfl)) (by decide)) dgs_nil)))) (dss_one (ds_ret (de_fn h_law_least (by decide) hr hG (by rfl) (da_cons (de_tup (da_cons (de_pv (pv 2)) (da_cons (de_pv (pv 3)) (da_cons (de_fn h_law_size (by decide) hr hG (by rfl) (da_cons (de_pv (pv 1)) da_nil)) da_nil)))) da_nil))))))
theorem ok_law_little {f : Addr} {fd : FuncData} (F : Fun K "_law_little" "_law_little" s_law_little f fd) (h_law_small : Cl P wd K mg base 3 "_law_small" ["_law_tank_here"] (spT K 1 c_law_small)) : FnG P wd K mg base CX0 4 f fd ["_law_tank_here"] (spT K 1 c_law_little) := by
  refine okT (k := 3) (m := 0) (w := w_law_little) F sc_law_little rfl rfl (fun c cdv A outer s H E hG hr => ?_) sem_law_little
  exact (dss_one (ds_ret (de_tup (da_cons (de_fnT (i := 0) h_law_small (by decide) hr hG (by rfl) (pv 0) da_nil) (da_cons (de_fnT (i := 0) h_law_small (by decide) hr hG (by rfl) (pv 0) da_nil) da_nil)))))
theorem ok_law_map {f : Addr} {fd : FuncData} (F : Fun K "_law_map" "_law_map" s_law_map f fd) (h_law_common : Cl P wd K mg base 2 "_law_common" ["_law_numbers"] (spP K 1 c_law_common)) (h_law_over : Cl P wd K mg base 2 "_law_over" ["_law_one", "_law_two"] (spP K 2 c_law_over)) (h_law_quarter : Cl P wd K mg base 1 "_law_quarter" ["_law_one"] (spP K 1 c_law_quarter)) (h_law_times : Cl P wd K mg base 1 "_law_times" ["_law_one", "_law_two"] (spP K 2 c_law_times)) : FnG P wd K mg base CX0 3 f fd ["_law_flag", "_law_numbers"] (spP K 2 c_law_map) := by
  refine okP (k := 2) (m := 5) (w := w_law_map) F sc_law_map rfl rfl (fun c cdv A outer s H E hG hr => ?_) sem_law_map
  exact (dss_cons (ds_set (i := 2) sc_law_map.nd rfl (by first | exact Or.inl rfl | exact Or.inr rfl) (de_fn h_law_common (by decide) hr hG (by rfl) (da_cons (de_pv (pv 1)) da_nil))) (dss_cons (ds_setLc (i := 3) (own := [("_law_each", 6)]) rfl sc_law_map.nd rfl rfl (sw_true rfl rfl rfl (by decide +kernel)) (di_list (de_pv (pv 1))) (blkOk_by (N := ["_law_flag", "_law_numbers", "_law_part", "_law_rest", "_law_first", "_law_unit", "_law_each"]) (sc := defScope s_law_map) (by decide +kernel)) (fun _ _ _ _ _ => (dg_name (pg_name (i := 6) sc_law_map.nd rfl (by first | exact Or.inl rfl | exact Or.inr rfl)) (by decide))) (fun _ _ _ _ _ => dts_nil) (fun _ _ _ _ _ => (de_fn h_law_over (by decide) hr hG (by rfl) (da_cons (de_pv (pv 6)) (da_cons (de_pv (pv 2)) da_nil))))) (dss_cons (ds_set (i := 4) sc_law_map.nd rfl (by first | exact Or.inl rfl | exact Or.inr rfl) (de_item (de_lc (own := [("_law_each", 6)]) rfl sc_law_map.nd (di_list (de_pv (pv 3))) (blkOk_by (N := ["_law_flag", "_law_numbers", "_law_part", "_law_rest", "_law_first", "_law_unit", "_law_each"]) (sc := defScope s_law_map) (by decide +kernel)) (fun _ _ _ _ _ => (dg_name (pg_name (i := 6) sc_law_map.nd rfl (by first | exact Or.inl rfl | exact Or.inr rfl)) (by decide))) (fun _ _ _ _ _ => (dts_one (dt_ne hr (de_pv (pv 6)) (de_tup (da_cons de_int (da_cons de_int da_nil)))))) (fun _ _ _ _ _ => (de_pv (pv 6)))) de_int)) (dss_cons (ds_set (i := 5) sc_law_map.nd rfl (by first | exact Or.inl rfl | exact Or.inr rfl) (de_fn h_law_over (by decide) hr hG (by rfl) (da_cons (de_fn h_law_quarter (by decide) hr hG (by rfl) (da_cons (de_pv (pv 4)) da_nil)) (da_cons (de_pv (pv 4)) da_nil)))) (dss_cons (ds_setLc (i := 3) (own := [("_law_each", 6)]) rfl sc_law_map.nd rfl rfl (sw_true rfl rfl rfl (by decide +kernel)) (di_list (de_pv (pv 3))) (blkOk_by (N := ["_law_flag", "_law_numbers", "_law_part", "_law_rest", "_law_first", "_law_unit", "_law_each"]) (sc := defScope s_law_map) (by decide +kernel)) (fun _ _ _ _ _ => (dg_name (pg_name (i := 6) sc_law_map.nd rfl (by first | exact Or.inl rfl | exact Or.inr rfl)) (by decide))) (fun _ _ _ _ _ => dts_nil) (fun _ _ _ _ _ => (de_fn h_law_times (by decide) hr hG (by rfl) (da_cons (de_pv (pv 6)) (da_cons (de_pv (pv 5)) da_nil))))) (dss_one (ds_ret (de_tup (da_cons (de_pv (pv 0)) (da_cons (de_item (de_pv (pv 3)) de_int) (da_cons (de_item (de_pv (pv 3)) de_int) (da_cons (de_item (de_pv (pv 3)) de_int) (da_cons (de_item (de_pv (pv 3)) de_int) da_nil)))))))))))))
theorem ok_law_det {f : Addr} {fd : FuncData} (F : Fun K "_law_det" "_law_det" s_law_det f fd) (h_law_less : Cl P wd K mg base 1 "_law_less" ["_law_one", "_law_two"] (spP K 2 c_law_less)) (h_law_times : Cl P wd K mg base 1 "_law_times" ["_law_one", "_law_two"] (spP K 2 c_law_times)) : FnG P wd K mg base CX0 2 f fd ["_law_numbers"] (spP K 1 c_law_det) := by
  refine okP (k := 1) (m := 0) (w := w_law_det) F sc_law_det rfl rfl (fun c cdv A outer s H E hG hr => ?_) sem_law_det
  exact (dss_one (ds_ret (de_fn h_law_less (by decide) hr hG (by rfl) (da_cons (de_fn h_law_times (by decide) hr hG (by rfl) (da_cons (de_item (de_pv (pv 0)) de_int) (da_cons (de_item (de_pv (pv 0)) de_int) da_nil))) (da_cons (de_fn h_law_times (by decide) hr hG (by rfl) (da_cons (de_item (de_pv (pv 0)) de_int) (da_cons (de_item (de_pv (pv 0)) de_int) da_nil))) da_nil)))))
theorem ok_law_four {f : Addr} {fd : FuncData} (F : Fun K "_law_four" "_law_four" s_law_four f fd) (h_law_draw : Cl P wd K mg base 1 "_law_draw" ["_law_tank_here", "_law_many"] (spT K 2 c_law_draw)) (h_law_little : Cl P wd K mg base 4 "_law_little" ["_law_tank_here"] (spT K 1 c_law_little)) (h_law_det : Cl P wd K mg base 2 "_law_det" ["_law_numbers"] (spP K 1 c_law_det)) (z_range : mg "range" = none) : FnG P wd K mg base CX0 5 f fd ["_law_tank_here"] (spT K 1 c_law_four) := by
  refine okT (k := 4) (m := 3) (w := w_law_four) F sc_law_four rfl rfl (fun c cdv A outer s H E hG hr => ?_) sem_law_four
  exact (dss_cons (ds_set (i := 1) sc_law_four.nd rfl (by first | exact Or.inl rfl | exact Or.inr rfl) (de_fnT (i := 0) h_law_draw (by decide) hr hG (by rfl) (pv 0) (da_cons de_int da_nil))) (dss_cons (ds_for (vs := [2]) PassesOwn.never rfl (di_rng1 (by rfl) z_range (da_cons de_int da_nil)) (dg_name (pg_name (i := 2) sc_law_four.nd rfl (by first | exact Or.inl rfl | exact Or.inr rfl)) (by decide)) (dss_cons (ds_ownR (i := 3) sc_law_four.nd rfl (by first | exact Or.inl rfl | exact Or.inr rfl) (da_cons (de_fnT (i := 0) h_law_little (by decide) hr hG (by rfl) (pv 0) da_nil) (da_cons (de_fnT (i := 0) h_law_little (by decide) hr hG (by rfl) (pv 0) da_nil) (da_cons (de_fnT (i := 0) h_law_little (by decide) hr hG (by rfl) (pv 0) da_nil) (da_cons (de_fnT (i := 0) h_law_little (by decide) hr hG (by rfl) (pv 0) da_nil) da_nil))))) (dss_cons (ds_if (dt_eq hr (de_pv (pv 1)) de_int) (dss_one (ds_asg (vs := []) (de_tup (da_cons (de_tup (da_cons de_int (da_cons de_int da_nil))) (da_cons (de_tup (da_cons de_int (da_cons de_int da_nil))) (da_cons (de_tup (da_cons de_int (da_cons de_int da_nil))) da_nil)))) (dg_tup rfl (dgs_cons (dg_sub (pv 3) de_int) (dgs_cons (dg_sub (pv 3) de_int) (dgs_cons (dg_sub (pv 3) de_int) dgs_nil)))))) dss_nil) (dss_cons (ds_if (dt_eq hr (de_pv (pv 1)) de_int) (dss_one (ds_asg (vs := []) (de_tup (da_cons (de_tup (da_cons de_int (da_cons de_int da_nil))) (da_cons (de_tup (da_cons de_int (da_cons de_int da_nil))) da_nil))) (dg_tup rfl (dgs_cons (dg_sub (pv 3) de_int) (dgs_cons (dg_sub (pv 3) de_int) dgs_nil))))) dss_nil) (dss_cons (ds_if (dt_eq hr (de_pv (pv 1)) de_int) (dss_one (ds_asg (vs := []) (de_tup (da_cons (de_tup (da_cons de_int (da_cons de_int da_nil))) (da_cons (de_tup (da_cons de_int (da_cons de_int da_nil))) da_nil))) (dg_tup rfl (dgs_cons (dg_sub (pv 3) de_int) (dgs_cons (dg_sub (pv 3) de_int) dgs_nil))))) dss_nil) (dss_one (ds_if (dt_view (i := 3) (dt_ne hr (de_fn h_law_det (by decide) hr hG (by rfl) (da_cons (de_pv (pv 3)) da_nil)) (de_tup (da_cons de_int (da_cons de_int da_nil))))) (dss_one (ds_retO (i := 3) (pv 3))) dss_nil))))))) (dss_one (ds_ret (de_lst (da_cons (de_tup (da_cons de_int (da_cons de_int da_nil))) (da_cons (de_tup (da_cons de_int (da_cons de_int da_nil))) (da_cons (de_tup (da_cons de_int (da_cons de_int da_nil))) (da_cons (de_tup (da_cons de_int (da_cons de_int da_nil))) da_nil)))))))))
theorem ok_law_drawn_map {f : Addr} {fd : FuncData} (F : Fun K "_law_drawn_map" "_law_drawn_map" s_law_drawn_map f fd) (h_law_map : Cl P wd K mg base 3 "_law_map" ["_law_flag", "_law_numbers"] (spP K 2 c_law_map)) (h_law_draw : Cl P wd K mg base 1 "_law_draw" ["_law_tank_here", "_law_many"] (spT K 2 c_law_draw)) (h_law_four : Cl P wd K mg base 5 "_law_four" ["_law_tank_here"] (spT K 1 c_law_four)) : FnG P wd K mg base CX0 6 f fd ["_law_tank_here"] (spT K 1 c_law_drawn_map) := by
  refine okT (k := 5) (m := 0) (w := w_law_drawn_map) F sc_law_drawn_map rfl rfl (fun c cdv A outer s H E hG hr => ?_) sem_law_drawn_map
  exact (dss_one (ds_ret (de_fn h_law_map (by decide) hr hG (by rfl) (da_cons (de_fnT (i := 0) h_law_draw (by decide) hr hG (by rfl) (pv 0) (da_cons de_int da_nil)) (da_cons (de_fnT (i := 0) h_law_four (by decide) hr hG (by rfl) (pv 0) da_nil) da_nil)))))
theorem ok_law_led {f : Addr} {fd : FuncData} (F : Fun K "_law_led" "_law_led" s_law_led f fd) (h_law_plus : Cl P wd K mg base 1 "_law_plus" ["_law_one", "_law_two"] (spP K 2 c_law_plus)) (h_law_times : Cl P wd K mg base 1 "_law_times" ["_law_one", "_law_two"] (spP K 2 c_law_times)) (h_law_place_of : Cl P wd K mg base 2 "_law_place_of" ["_law_one", "_law_two"] (spP K 2 c_law_place_of)) : FnG P wd K mg base CX0 3 f fd ["_law_chart", "_law_place"] (spP K 2 c_law_led) := by
  refine okP (k := 2) (m := 10) (w := w_law_led) F sc_law_led rfl rfl (fun c cdv A outer s H E hG hr => ?_) sem_law_led
  exact (dss_cons (ds_asg (vs := [2, 3, 4, 5, 6]) (de_pv (pv 0)) (dg_tup rfl (dgs_cons (dg_name (pg_name (i := 2) sc_law_led.nd rfl (by first | exact Or.inl rfl | exact Or.inr rfl)) (by decide)) (dgs_cons (dg_name (pg_name (i := 3) sc_law_led.nd rfl (by first | exact Or.inl rfl | exact Or.inr rfl)) (by decide)) (dgs_cons (dg_name (pg_name (i := 4) sc_law_led.nd rfl (by first | exact Or.inl rfl | exact Or.inr rfl)) (by decide)) (dgs_cons (dg_name (pg_name (i := 5) sc_law_led.nd rfl (by first | exact Or.inl rfl | exact Or.inr rfl)) (by decide)) (dgs_cons (dg_name (pg_name (i := 6) sc_law_led.nd rfl (by first | exact Or.inl rfl | exact Or.inr rfl)) (by decide)) dgs_nil))))))) (dss_cons (ds_asg (vs := [7, 8, 9]) (de_pv (pv 1)) (dg_tup rfl (dgs_cons (dg_name (pg_name (i := 7) sc_law_led.nd rfl (by first | exact Or.inl rfl | exact Or.inr rfl)) (by decide)) (dgs_cons (dg_name (pg_name (i := 8) sc_law_led.nd rfl (by first | exact Or.inl rfl | exact Or.inr rfl)) (by decide)) (dgs_cons (dg_name (pg_name (i := 9) sc_law_led.nd rfl (by first | exact Or.inl rfl | exact Or.inr rfl)) (by decide)) dgs_nil))))) (dss_cons (ds_set (i := 10) sc_law_led.nd rfl (by first | exact Or.inl rfl | exact Or.inr rfl) (de_if (dt_eq hr (de_pv (pv 2)) de_int) (de_tup (da_cons (de_pv (pv 7)) (da_cons (de_sub de_int (de_pv (pv 8))) da_nil))) (de_tup (da_cons (de_pv (pv 7)) (da_cons (de_pv (pv 8)) da_nil))))) (dss_cons (ds_set (i := 11) sc_law_led.nd rfl (by first | exact Or.inl rfl | exact Or.inr rfl) (de_fn h_law_plus (by decide) hr hG (by rfl) (da_cons (de_fn h_law_times (by decide) hr hG (by rfl) (da_cons (de_pv (pv 3)) (da_cons (de_pv (pv 10)) da_nil))) (da_cons (de_tup (da_cons (de_mul (de_item (de_pv (pv 4)) de_int) (de_pv (pv 9))) (da_cons (de_mul (de_item (de_pv (pv 4)) de_int) (de_pv (pv 9))) da_nil))) da_nil)))) (dss_one (ds_ret (de_fn h_law_place_of (by decide) hr hG (by rfl) (da_cons (de_pv (pv 11)) (da_cons (de_fn h_law_plus (by decide) hr hG (by rfl) (da_cons (de_fn h_law_times (by decide) hr hG (by rfl) (da_cons (de_pv (pv 5)) (da_cons (de_pv (pv 10)) da_nil))) (da_cons (de_tup (da_cons (de_mul (de_item (de_pv (pv 6)) de_int) (de_pv (pv 9))) (da_cons (de_mul (de_item (de_pv (pv 6)) de_int) (de_pv (pv 9))) da_nil))) da_nil))) da_nil)))))))))
theorem ok_law_after {f : Addr} {fd : FuncData} (F : Fun K "_law_after" "_law_after" s_law_after f fd) (h_law_star : Cl P wd K mg base 1 "_law_star" ["_law_one"] (spP K 1 c_law_star)) (h_law_plus : Cl P wd K mg base 1 "_law_plus" ["_law_one", "_law_two"] (spP K 2 c_law_plus)) (h_law_times : Cl P wd K mg base 1 "_law_times" ["_law_one", "_law_two"] (spP K 2 c_law_times)) (h_law_map : Cl P wd K mg base 3 "_law_map" ["_law_flag", "_law_numbers"] (spP K 2 c_law_map)) : FnG P wd K mg base CX0 4 f fd ["_law_one", "_law_two"] (spP K 2 c_law_after) := by
  refine okP (k := 3) (m := 10) (w := w_law_after) F sc_law_after rfl rfl (fun c cdv A outer s H E hG hr => ?_) sem_law_after
  exact (dss_cons (ds_asg (vs := [2, 3, 4, 5]) (de_slice (de_pv (pv 0)) (do_some de_int) do_none) (dg_tup rfl (dgs_cons (dg_name (pg_name (i := 2) sc_law_after.nd rfl (by first | exact Or.inl rfl | exact Or.inr rfl)) (by decide)) (dgs_cons (dg_name (pg_name (i := 3) sc_law_after.nd rfl (by first | exact Or.inl rfl | exact Or.inr rfl)) (by decide)) (dgs_cons (dg_name (pg_name (i := 4) sc_law_after.nd rfl (by first | exact Or.inl rfl | exact Or.inr rfl)) (by decide)) (dgs_cons (dg_name (pg_name (i := 5) sc_law_after.nd rfl (by first | exact Or.inl rfl | exact Or.inr rfl)) (by decide)) dgs_nil)))))) (dss_cons (ds_asg (vs := [6, 7, 8, 9]) (de_if (dt_eq hr (de_item (de_pv (pv 0)) de_int) de_int) (de_lc (own := [("_law_each", 11)]) rfl sc_law_after.nd (di_tup (de_slice (de_pv (pv 1)) (do_some de_int) do_none)) (blkOk_by (N := ["_law_one", "_law_two", "_law_a", "_law_b", "_law_c", "_law_d", "_law_p", "_law_q", "_law_r", "_law_s", "_law_numbers", "_law_each"]) (sc := defScope s_law_after) (by decide +kernel)) (fun _ _ _ _ _ => (dg_name (pg_name (i := 11) sc_law_after.nd rfl (by first | exact Or.inl rfl | exact Or.inr rfl)) (by decide))) (fun _ _ _ _ _ => dts_nil) (fun _ _ _ _ _ => (de_fn h_law_star (by decide) hr hG (by rfl) (da_cons (de_pv (pv 11)) da_nil)))) (de_slice (de_pv (pv 1)) (do_some de_int) do_none)) (dg_any rfl (dgs_cons (dg_name (pg_name (i := 6) sc_law_after.nd rfl (by first | exact Or.inl rfl | exact Or.inr rfl)) (by decide)) (dgs_cons (dg_name (pg_name (i := 7) sc_law_after.nd rfl (by first | exact Or.inl rfl | exact Or.inr rfl)) (by decide)) (dgs_cons (dg_name (pg_name (i := 8) sc_law_after.nd rfl (by first | exact Or.inl rfl | exact Or.inr rfl)) (by decide)) (dgs_cons (dg_name (pg_name (i := 9) sc_law_after.nd rfl (by first | exact Or.inl rfl | exact Or.inr rfl)) (by decide)) dgs_nil)))))) (dss_cons (ds_set (i := 10) sc_law_after.nd rfl (by first | exact Or.inl rfl | exact Or.inr rfl) (de_lst (da_cons (de_fn h_law_plus (by decide) hr hG (by rfl) (da_cons (de_fn h_law_times (by decide) hr hG (by rfl) (da_cons (de_pv (pv 2)) (da_cons (de_pv (pv 6)) da_nil))) (da_cons (de_fn h_law_times (by decide) hr hG (by rfl) (da_cons (de_pv (pv 3)) (da_cons (de_pv (pv 8)) da_nil))) da_nil))) (da_cons (de_fn h_law_plus (by decide) hr hG (by rfl) (da_cons (de_fn h_law_times (by decide) hr hG (by rfl) (da_cons (de_pv (pv 2)) (da_cons (de_pv (pv 7)) da_nil))) (da_cons (de_fn h_law_times (by decide) hr hG (by rfl) (da_cons (de_pv (pv 3)) (da_cons (de_pv (pv 9)) da_nil))) da_nil))) (da_cons (de_fn h_law_plus (by decide) hr hG (by rfl) (da_cons (de_fn h_law_times (by decide) hr hG (by rfl) (da_cons (de_pv (pv 4)) (da_cons (de_pv (pv 6)) da_nil))) (da_cons (de_fn h_law_times (by decide) hr hG (by rfl) (da_cons (de_pv (pv 5)) (da_cons (de_pv (pv 8)) da_nil))) da_nil))) (da_cons (de_fn h_law_plus (by decide) hr hG (by rfl) (da_cons (de_fn h_law_times (by decide) hr hG (by rfl) (da_cons (de_pv (pv 4)) (da_cons (de_pv (pv 7)) da_nil))) (da_cons (de_fn h_law_times (by decide) hr hG (by rfl) (da_cons (de_pv (pv 5)) (da_cons (de_pv (pv 9)) da_nil))) da_nil))) da_nil)))))) (dss_one (ds_ret (de_fn h_law_map (by decide) hr hG (by rfl) (da_cons (de_if (dt_eq hr (de_item (de_pv (pv 0)) de_int) (de_item (de_pv (pv 1)) de_int)) de_int de_int) (da_cons (de_pv (pv 10)) da_nil))))))))
theorem ok_law_backward {f : Addr} {fd : FuncData} (F : Fun K "_law_backward" "_law_backward" s_law_backward f fd) (h_law_star : Cl P wd K mg base 1 "_law_star" ["_law_one"] (spP K 1 c_law_star)) (h_law_map : Cl P wd K mg base 3 "_law_map" ["_law_flag", "_law_numbers"] (spP K 2 c_law_map)) : FnG P wd K mg base CX0 4 f fd ["_law_one"] (spP K 1 c_law_backward) := by
  refine okP (k := 3) (m := 5) (w := w_law_backward) F sc_law_backward rfl rfl (fun c cdv A outer s H E hG hr => ?_) sem_law_backward
  exact (dss_cons (ds_asg (vs := [1, 2, 3, 4]) (de_if (dt_eq hr (de_item (de_pv (pv 0)) de_int) de_int) (de_lc (own := [("_law_each", 5)]) rfl sc_law_backward.nd (di_tup (de_slice (de_pv (pv 0)) (do_some de_int) do_none)) (blkOk_by (N := ["_law_one", "_law_a", "_law_b", "_law_c", "_law_d", "_law_each"]) (sc := defScope s_law_backward) (by decide +kernel)) (fun _ _ _ _ _ => (dg_name (pg_name (i := 5) sc_law_backward.nd rfl (by first | exact Or.inl rfl | exact Or.inr rfl)) (by decide))) (fun _ _ _ _ _ => dts_nil) (fun _ _ _ _ _ => (de_fn h_law_star (by decide) hr hG (by rfl) (da_cons (de_pv (pv 5)) da_nil)))) (de_slice (de_pv (pv 0)) (do_some de_int) do_none)) (dg_any rfl (dgs_cons (dg_name (pg_name (i := 1) sc_law_backward.nd rfl (by first | exact Or.inl rfl | exact Or.inr rfl)) (by decide)) (dgs_cons (dg_name (pg_name (i := 2) sc_law_backward.nd rfl (by first | exact Or.inl rfl | exact Or.inr rfl)) (by decide)) (dgs_cons (dg_name (pg_name (i := 3) sc_law_backward.nd rfl (by first | exact Or.inl rfl | exact Or.inr rfl)) (by decide)) (dgs_cons (dg_name (pg_name (i := 4) sc_law_backward.nd rfl (by first | exact Or.inl rfl | exact Or.inr rfl)) (by decide)) dgs_nil)))))) (dss_one (ds_ret (de_fn h_law_map (by decide) hr hG (by rfl) (da_cons (de_item (de_pv (pv 0)) de_int) (da_cons (de_lst (da_cons (de_pv (pv 4)) (da_cons (de_tup (da_cons (de_sub de_int (de_item (de_pv (pv 2)) de_int)) (da_cons (de_sub de_int (de_item (de_pv (pv 2)) de_int)) da_nil))) (da_cons (de_tup (da_cons (de_sub de_int (de_item (de_pv (pv 3)) de_int)) (da_cons (de_sub de_int (de_item (de_pv (pv 3)) de_int)) da_nil))) (da_cons (de_pv (pv 1)) da_nil))))) da_nil))))))
theorem ok_law_stays {f : Addr} {fd : FuncData} (F : Fun K "_law_stays" "_law_stays" s_law_stays f fd)  : FnG P wd K mg base CX0 1 f fd [] (spP K 0 c_law_stays) := by
  refine okP (k := 0) (m := 0) (w := w_law_stays) F sc_law_stays rfl rfl (fun c cdv A outer s H E hG hr => ?_) sem_law_stays
  exact (dss_one (ds_ret (de_tup (da_cons de_int (da_cons (de_tup (da_cons de_int (da_cons de_int da_nil))) (da_cons (de_tup (da_cons de_int (da_cons de_int da_nil))) (da_cons (de_tup (da_cons de_int (da_cons de_int da_nil))) (da_cons (de_tup (da_cons de_int (da_cons de_int da_nil))) da_nil))))))))
theorem ok_law_power {f : Addr} {fd : FuncData} (F : Fun K "_law_power" "_law_power" s_law_power f fd) (h_law_backward : Cl P wd K mg base 4 "_law_backward" ["_law_one"] (spP K 1 c_law_backward)) (h_law_after : Cl P wd K mg base 4 "_law_after" ["_law_one", "_law_two"] (spP K 2 c_law_after)) (k_law_stays : ClK P wd K mg base 1 "_law_stays" [] (spP K 0 c_law_stays)) (z_range : mg "range" = none) (z_abs : mg "abs" = none) : FnG P wd K mg base CX0 5 f fd ["_law_chart", "_law_many"] (spP K 2 c_law_power) := by
  refine okP (k := 4) (m := 3) (w := w_law_power) F sc_law_power rfl rfl (fun c cdv A outer s H E hG hr => ?_) sem_law_power
  exact (dss_cons (ds_par (i := 2) (j := 3) rfl sc_law_power.nd rfl rfl (by decide) rfl rfl (da_cons (de_fnK k_law_stays (by decide) hr hG (by rfl) dk_nil) (da_cons (de_if (dt_gt (de_pv (pv 1)) de_int) (de_pv (pv 0)) (de_fn h_law_backward (by decide) hr hG (by rfl) (da_cons (de_pv (pv 0)) da_nil))) da_nil)) rfl) (dss_cons (ds_for (vs := [4]) PassesOwn.never rfl (di_rng1 (by rfl) z_range (da_cons (de_abs (by rfl) z_abs (da_cons (de_pv (pv 1)) da_nil)) da_nil)) (dg_name (pg_name (i := 4) sc_law_power.nd rfl (by first | exact Or.inl rfl | exact Or.inr rfl)) (by decide)) (dss_one (ds_set (i := 2) sc_law_power.nd rfl (by first | exact Or.inl rfl | exact Or.inr rfl) (de_fn h_law_after (by decide) hr hG (by rfl) (da_cons (de_pv (pv 3)) (da_cons (de_pv (pv 2)) da_nil)))))) (dss_one (ds_ret (de_pv (pv 2))))))
theorem ok_law_powers_right {f : Addr} {fd : FuncData} (F : Fun K "_law_powers_right" "_law_powers_right" s_law_powers_right f fd) (h_law_power : Cl P wd K mg base 5 "_law_power" ["_law_chart", "_law_many"] (spP K 2 c_law_power)) (h_power_of : Cl P wd K mg base 9 "power_of" ["chart", "many"] (spP K 2 c_power_of)) (h_law_after : Cl P wd K mg base 4 "_law_after" ["_law_one", "_law_two"] (spP K 2 c_law_after)) (h_law_led : Cl P wd K mg base 3 "_law_led" ["_law_chart", "_law_place"] (spP K 2 c_law_led)) (h_place_after : Cl P wd K mg base 9 "place_after" ["chart", "place", "many"] (spP K 3 c_place_after)) (h_after : Cl P wd K mg base 9 "after" ["chart", "other"] (spP K 2 c_after)) (k_power_of : ClK P wd K mg base 9 "power_of" ["chart", "many"] (spP K 2 c_power_of)) (k_law_stays : ClK P wd K mg base 1 "_law_stays" [] (spP K 0 c_law_stays)) (k_place_after : ClK P wd K mg base 9 "place_after" ["chart", "place", "many"] (spP K 3 c_place_after)) (z_repr : mg "repr" = none) : FnG P wd K mg base CX0 10 f fd ["_law_chart", "_law_one", "_law_two", "_law_place"] (spP K 4 c_law_powers_right) := by
  refine okP (k := 9) (m := 4) (w := w_law_powers_right) F sc_law_powers_right rfl rfl (fun c cdv A outer s H E hG hr => ?_) sem_law_powers_right
  exact (dss_cons (ds_par (i := 4) (j := 5) rfl sc_law_powers_right.nd rfl rfl (by decide) rfl rfl (da_cons (de_fn h_law_power (by decide) hr hG (by rfl) (da_cons (de_pv (pv 0)) (da_cons (de_pv (pv 1)) da_nil))) (da_cons (de_fn h_law_power (by decide) hr hG (by rfl) (da_cons (de_pv (pv 0)) (da_cons (de_pv (pv 2)) da_nil))) da_nil)) rfl) (dss_cons (ds_if (dt_ne hr (de_repr hr hG (by rfl) z_repr (da_cons (de_lst (da_cons (de_fn h_power_of (by decide) hr hG (by rfl) (da_cons (de_pv (pv 0)) (da_cons (de_pv (pv 1)) da_nil))) (da_cons (de_fnK k_power_of (by decide) hr hG (by rfl) (dk_cons (de_pv (pv 0)) (dk_cons (de_pv (pv 2)) dk_nil))) da_nil))) da_nil)) (de_repr hr hG (by rfl) z_repr (da_cons (de_lst (da_cons (de_pv (pv 4)) (da_cons (de_pv (pv 5)) da_nil))) da_nil))) (dss_one (ds_ret de_bl)) dss_nil) (dss_cons (ds_if (dt_ne hr (de_repr hr hG (by rfl) z_repr (da_cons (de_lst (da_cons (de_fn h_power_of (by decide) hr hG (by rfl) (da_cons (de_pv (pv 0)) (da_cons (de_cat (de_pv (pv 1)) (de_pv (pv 2))) da_nil))) (da_cons (de_fn h_power_of (by decide) hr hG (by rfl) (da_cons (de_pv (pv 0)) (da_cons de_int da_nil))) da_nil))) da_nil)) (de_repr hr hG (by rfl) z_repr (da_cons (de_lst (da_cons (de_fn h_law_after (by decide) hr hG (by rfl) (da_cons (de_pv (pv 4)) (da_cons (de_pv (pv 5)) da_nil))) (da_cons (de_fnK k_law_stays (by decide) hr hG (by rfl) dk_nil) da_nil))) da_nil))) (dss_one (ds_ret de_bl)) dss_nil) (dss_cons (ds_set (i := 6) sc_law_powers_right.nd rfl (by first | exact Or.inl rfl | exact Or.inr rfl) (de_lst (da_cons (de_fn h_law_led (by decide) hr hG (by rfl) (da_cons (de_pv (pv 4)) (da_cons (de_pv (pv 3)) da_nil))) (da_cons (de_fn h_law_led (by decide) hr hG (by rfl) (da_cons (de_pv (pv 5)) (da_cons (de_pv (pv 3)) da_nil))) da_nil)))) (dss_cons (ds_set (i := 7) sc_law_powers_right.nd rfl (by first | exact Or.inl rfl | exact Or.inr rfl) (de_lst (da_cons (de_fn h_place_after (by decide) hr hG (by rfl) (da_cons (de_pv (pv 0)) (da_cons (de_pv (pv 3)) (da_cons (de_pv (pv 1)) da_nil)))) (da_cons (de_fnK k_place_after (by decide) hr hG (by rfl) (dk_cons (de_pv (pv 0)) (dk_cons (de_pv (pv 3)) (dk_cons (de_pv (pv 2)) dk_nil)))) da_nil)))) (dss_one (ds_ret (de_and (de_eq hr (de_repr hr hG (by rfl) z_repr (da_cons (de_pv (pv 7)) da_nil)) (de_repr hr hG (by rfl) z_repr (da_cons (de_pv (pv 6)) da_nil))) (de_one (de_eq hr (de_repr hr hG (by rfl) z_repr (da_cons (de_fn h_after (by decide) hr hG (by rfl) (da_cons (de_fn h_power_of (by decide) hr hG (by rfl) (da_cons (de_pv (pv 0)) (da_cons (de_pv (pv 1)) da_nil))) (da_cons (de_fn h_power_of (by decide) hr hG (by rfl) (da_cons (de_pv (pv 0)) (da_cons (de_pv (pv 2)) da_nil))) da_nil))) da_nil)) (de_repr hr hG (by rfl) z_repr (da_cons (de_fn h_law_after (by decide) hr hG (by rfl) (da_cons (de_pv (pv 4)) (da_cons (de_pv (pv 5)) da_nil))) da_nil))))))))))))
theorem ok_law_far_right {f : Addr} {fd : FuncData} (F : Fun K "_law_far_right" "_law_far_right" s_law_far_right f fd) (h_law_little : Cl P wd K mg base 4 "_law_little" ["_law_tank_here"] (spT K 1 c_law_little)) (h_law_pick : Cl P wd K mg base 2 "_law_pick" ["_law_tank_here", "_law_some"] (spT K 2 c_law_pick)) (h_law_draw : Cl P wd K mg base 1 "_law_draw" ["_law_tank_here", "_law_many"] (spT K 2 c_law_draw)) (h_law_map : Cl P wd K mg base 3 "_law_map" ["_law_flag", "_law_numbers"] (spP K 2 c_law_map)) (h_power_of : Cl P wd K mg base 9 "power_of" ["chart", "many"] (spP K 2 c_power_of)) (h_law_times : Cl P wd K mg base 1 "_law_times" ["_law_one", "_law_two"] (spP K 2 c_law_times)) (z_repr : mg "repr" = none) (z_range : mg "range" = none) (z_int : mg "int" = none) : FnG P wd K mg base CX0 10 f fd ["_law_tank_here"] (spT K 1 c_law_far_right) := by
  refine okT (k := 9) (m := 8) (w := w_law_far_right) F sc_law_far_right rfl rfl (fun c cdv A outer s H E hG hr => ?_) sem_law_far_right
  exact (dss_cons (ds_par3 (i := 1) (j := 2) (l := 3) rfl sc_law_far_right.nd rfl rfl rfl (by decide) (by decide) (by decide) rfl rfl rfl (da_cons (de_fnT (i := 0) h_law_little (by decide) hr hG (by rfl) (pv 0) da_nil) (da_cons (de_fnT (i := 0) h_law_pick (by decide) hr hG (by rfl) (pv 0) (da_cons (de_tup (da_cons (de_tup (da_cons de_int (da_cons de_int da_nil))) (da_cons (de_tup (da_cons de_int (da_cons de_int da_nil))) (da_cons (de_tup (da_cons (de_neg de_int) (da_cons de_int da_nil))) (da_cons (de_tup (da_cons de_int (da_cons (de_neg de_int) da_nil))) da_nil))))) da_nil)) (da_cons (de_sub (de_fnT (i := 0) h_law_draw (by decide) hr hG (by rfl) (pv 0) (da_cons de_int da_nil)) de_int) da_nil))) rfl) (dss_cons (ds_set (i := 4) sc_law_far_right.nd rfl (by first | exact Or.inl rfl | exact Or.inr rfl) (de_fn h_law_map (by decide) hr hG (by rfl) (da_cons de_int (da_cons (de_lst (da_cons (de_tup (da_cons de_int (da_cons de_int da_nil))) (da_cons (de_pv (pv 1)) (da_cons (de_tup (da_cons de_int (da_cons de_int da_nil))) (da_cons (de_tup (da_cons de_int (da_cons de_int da_nil))) da_nil))))) da_nil)))) (dss_cons (ds_set (i := 5) sc_law_far_right.nd rfl (by first | exact Or.inl rfl | exact Or.inr rfl) (de_fn h_law_map (by decide) hr hG (by rfl) (da_cons de_int (da_cons (de_lst (da_cons (de_tup (da_cons de_int (da_cons de_int da_nil))) (da_cons (de_tup (da_cons (de_mul (de_pv (pv 3)) (de_item (de_pv (pv 1)) de_int)) (da_cons (de_mul (de_pv (pv 3)) (de_item (de_pv (pv 1)) de_int)) da_nil))) (da_cons (de_tup (da_cons de_int (da_cons de_int da_nil))) (da_cons (de_tup (da_cons de_int (da_cons de_int da_nil))) da_nil))))) da_nil)))) (dss_cons (ds_if (dt_ne hr (de_repr hr hG (by rfl) z_repr (da_cons (de_fn h_power_of (by decide) hr hG (by rfl) (da_cons (de_pv (pv 4)) (da_cons (de_pv (pv 3)) da_nil))) da_nil)) (de_repr hr hG (by rfl) z_repr (da_cons (de_pv (pv 5)) da_nil))) (dss_one (ds_ret de_bl)) dss_nil) (dss_cons (ds_par (i := 6) (j := 7) rfl sc_law_far_right.nd rfl rfl (by decide) rfl rfl (da_cons (de_fn h_law_map (by decide) hr hG (by rfl) (da_cons de_int (da_cons (de_lst (da_cons (de_pv (pv 2)) (da_cons (de_tup (da_cons de_int (da_cons de_int da_nil))) (da_cons (de_tup (da_cons de_int (da_cons de_int da_nil))) (da_cons (de_tup (da_cons de_int (da_cons de_int da_nil))) da_nil))))) da_nil))) (da_cons (de_tup (da_cons de_int (da_cons de_int da_nil))) da_nil)) rfl) (dss_cons (ds_for (vs := [8]) PassesOwn.never rfl (di_rng1 (by rfl) z_range (da_cons (de_mod (de_intc (by rfl) z_int (da_cons (de_pv (pv 3)) da_nil)) de_int) da_nil)) (dg_name (pg_name (i := 8) sc_law_far_right.nd rfl (by first | exact Or.inl rfl | exact Or.inr rfl)) (by decide)) (dss_one (ds_set (i := 7) sc_law_far_right.nd rfl (by first | exact Or.inl rfl | exact Or.inr rfl) (de_fn h_law_times (by decide) hr hG (by rfl) (da_cons (de_pv (pv 7)) (da_cons (de_pv (pv 2)) da_nil)))))) (dss_one (ds_ret (de_eq hr (de_repr hr hG (by rfl) z_repr (da_cons (de_fn h_power_of (by decide) hr hG (by rfl) (da_cons (de_pv (pv 6)) (da_cons (de_pv (pv 3)) da_nil))) da_nil)) (de_repr hr hG (by rfl) z_repr (da_cons (de_fn h_law_map (by decide) hr hG (by rfl) (da_cons de_int (da_cons (de_lst (da_cons (de_pv (pv 7)) (da_cons (de_tup (da_cons de_int (da_cons de_int da_nil))) (da_cons (de_tup (da_cons de_int (da_cons de_int da_nil))) (da_cons (de_tup (da_cons de_int (da_cons de_int da_nil))) da_nil))))) da_nil))) da_nil)))))))))))
theorem ok_law_laid {f : Addr} {fd : FuncData} (F : Fun K "_law_laid" "_law_laid" s_law_laid f fd) (h_law_draw : Cl P wd K mg base 1 "_law_draw" ["_law_tank_here", "_law_many"] (spT K 2 c_law_draw)) (h_law_pick : Cl P wd K mg base 2 "_law_pick" ["_law_tank_here", "_law_some"] (spT K 2 c_law_pick)) (h_law_map : Cl P wd K mg base 3 "_law_map" ["_law_flag", "_law_numbers"] (spP K 2 c_law_map)) (k_law_stays : ClK P wd K mg base 1 "_law_stays" [] (spP K 0 c_law_stays)) : FnG P wd K mg base CX0 4 f fd ["_law_tank_here"] (spT K 1 c_law_laid) := by
  refine okT (k := 3) (m := 3) (w := w_law_laid) F sc_law_laid rfl rfl (fun c cdv A outer s H E hG hr => ?_) sem_law_laid
  exact (dss_cons (ds_par (i := 1) (j := 2) rfl sc_law_laid.nd rfl rfl (by decide) rfl rfl (da_cons (de_fnT (i := 0) h_law_draw (by decide) hr hG (by rfl) (pv 0) (da_cons de_int da_nil)) (da_cons (de_fnT (i := 0) h_law_pick (by decide) hr hG (by rfl) (pv 0) (da_cons (de_tup (da_cons (de_tup (da_cons de_int (da_cons de_int da_nil))) (da_cons (de_tup (da_cons de_int (da_cons (de_neg de_int) da_nil))) da_nil))) da_nil)) da_nil)) rfl) (dss_cons (ds_if (dt_eq hr (de_pv (pv 1)) de_int) (dss_one (ds_ret (de_tup (da_cons (de_fnK k_law_stays (by decide) hr hG (by rfl) dk_nil) (da_cons de_int da_nil))))) dss_nil) (dss_cons (ds_if (dt_eq hr (de_pv (pv 1)) de_int) (dss_one (ds_ret (de_tup (da_cons (de_fn h_law_map (by decide) hr hG (by rfl) (da_cons de_int (da_cons (de_lst (da_cons (de_tup (da_cons (de_neg de_int) (da_cons de_int da_nil))) (da_cons (de_tup (da_cons de_int (da_cons de_int da_nil))) (da_cons (de_tup (da_cons de_int (da_cons de_int da_nil))) (da_cons (de_tup (da_cons de_int (da_cons de_int da_nil))) da_nil))))) da_nil))) (da_cons de_int da_nil))))) dss_nil) (dss_cons (ds_if (dt_eq hr (de_pv (pv 1)) de_int) (dss_one (ds_ret (de_tup (da_cons (de_fn h_law_map (by decide) hr hG (by rfl) (da_cons de_int (da_cons (de_lst (da_cons (de_tup (da_cons de_int (da_cons de_int da_nil))) (da_cons (de_tup (da_cons (de_neg de_int) (da_cons de_int da_nil))) (da_cons (de_tup (da_cons de_int (da_cons de_int da_nil))) (da_cons (de_tup (da_cons de_int (da_cons de_int da_nil))) da_nil))))) da_nil))) (da_cons de_int da_nil))))) dss_nil) (dss_cons (ds_if (dt_eq hr (de_pv (pv 1)) de_int) (dss_one (ds_ret (de_tup (da_cons (de_fn h_law_map (by decide) hr hG (by rfl) (da_cons de_int (da_cons (de_lst (da_cons (de_pv (pv 2)) (da_cons (de_tup (da_cons de_int (da_cons de_int da_nil))) (da_cons (de_tup (da_cons de_int (da_cons de_int da_nil))) (da_cons (de_tup (da_cons de_int (da_cons de_int da_nil))) da_nil))))) da_nil))) (da_cons de_int da_nil))))) dss_nil) (dss_cons (ds_if (dt_eq hr (de_pv (pv 1)) de_int) (dss_one (ds_ret (de_tup (da_cons (de_fn h_law_map (by decide) hr hG (by rfl) (da_cons de_int (da_cons (de_lst (da_cons (de_tup (da_cons de_int (da_cons de_int da_nil))) (da_cons (de_tup (da_cons (de_neg de_int) (da_cons de_int da_nil))) (da_cons (de_tup (da_cons de_int (da_cons de_int da_nil))) (da_cons (de_tup (da_cons de_int (da_cons de_int da_nil))) da_nil))))) da_nil))) (da_cons de_int da_nil))))) dss_nil) (dss_cons (ds_if (dt_eq hr (de_pv (pv 1)) de_int) (dss_one (ds_ret (de_tup (da_cons (de_fn h_law_map (by decide) hr hG (by rfl) (da_cons de_int (da_cons (de_lst (da_cons (de_tup (da_cons de_int (da_cons de_int da_nil))) (da_cons (de_fnT (i := 0) h_law_pick (by decide) hr hG (by rfl) (pv 0) (da_cons (de_tup (da_cons (de_tup (da_cons de_int (da_cons de_int da_nil))) (da_cons (de_tup (da_cons (de_neg de_int) (da_cons de_int da_nil))) da_nil))) da_nil)) (da_cons (de_tup (da_cons de_int (da_cons de_int da_nil))) (da_cons (de_tup (da_cons de_int (da_cons de_int da_nil))) da_nil))))) da_nil))) (da_cons de_int da_nil))))) dss_nil) (dss_cons (ds_if (dt_eq hr (de_pv (pv 1)) de_int) (dss_one (ds_ret (de_tup (da_cons (de_fn h_law_map (by decide) hr hG (by rfl) (da_cons de_int (da_cons (de_lst (da_cons (de_tup (da_cons de_int (da_cons de_int da_nil))) (da_cons (de_tup (da_cons de_int (da_cons de_int da_nil))) (da_cons (de_tup (da_cons (de_neg de_int) (da_cons de_int da_nil))) (da_cons (de_tup (da_cons de_int (da_cons de_int da_nil))) da_nil))))) da_nil))) (da_cons de_int da_nil))))) dss_nil) (dss_cons (ds_set (i := 3) sc_law_laid.nd rfl (by first | exact Or.inl rfl | exact Or.inr rfl) (de_fnT (i := 0) h_law_pick (by decide) hr hG (by rfl) (pv 0) (da_cons (de_tup (da_cons (de_tup (da_cons de_int (da_cons de_int da_nil))) (da_cons (de_tup (da_cons de_int (da_cons de_int da_nil))) da_nil))) da_nil))) (dss_one (ds_ret (de_tup (da_cons (de_fn h_law_map (by decide) hr hG (by rfl) (da_cons de_int (da_cons (de_lst (da_cons (de_tup (da_cons de_int (da_cons de_int da_nil))) (da_cons (de_pv (pv 3)) (da_cons (de_tup (da_cons de_int (da_cons de_int da_nil))) (da_cons (de_tup (da_cons de_int (da_cons de_int da_nil))) da_nil))))) da_nil))) (da_cons (de_if (dt_eq hr (de_pv (pv 3)) (de_tup (da_cons de_int (da_cons de_int da_nil)))) de_int de_int) da_nil))))))))))))))
theorem ok_law_return_right {f : Addr} {fd : FuncData} (F : Fun K "_law_return_right" "_law_return_right" s_law_return_right f fd) (h_return_of : Cl P wd K mg base 9 "return_of" ["chart"] (spP K 1 c_return_of)) (h_power_of : Cl P wd K mg base 9 "power_of" ["chart", "many"] (spP K 2 c_power_of)) (k_return_of : ClK P wd K mg base 9 "return_of" ["chart"] (spP K 1 c_return_of)) (k_law_stays : ClK P wd K mg base 1 "_law_stays" [] (spP K 0 c_law_stays)) (z_repr : mg "repr" = none) (z_range : mg "range" = none) : FnG P wd K mg base CX0 10 f fd ["_law_chart", "_law_many"] (spP K 2 c_law_return_right) := by
  refine okP (k := 9) (m := 1) (w := w_law_return_right) F sc_law_return_right rfl rfl (fun c cdv A outer s H E hG hr => ?_) sem_law_return_right
  exact (dss_cons (ds_if (dt_ne hr (de_repr hr hG (by rfl) z_repr (da_cons (de_lst (da_cons (de_fn h_return_of (by decide) hr hG (by rfl) (da_cons (de_pv (pv 0)) da_nil)) (da_cons (de_fnK k_return_of (by decide) hr hG (by rfl) (dk_cons (de_pv (pv 0)) dk_nil)) (da_cons (de_fn h_power_of (by decide) hr hG (by rfl) (da_cons (de_pv (pv 0)) (da_cons (de_pv (pv 1)) da_nil))) da_nil)))) da_nil)) (de_repr hr hG (by rfl) z_repr (da_cons (de_lst (da_cons (de_pv (pv 1)) (da_cons (de_pv (pv 1)) (da_cons (de_fnK k_law_stays (by decide) hr hG (by rfl) dk_nil) da_nil)))) da_nil))) (dss_one (ds_ret de_bl)) dss_nil) (dss_one (ds_ret (de_eq hr (de_lc (own := [("_law_k", 2)]) rfl sc_law_return_right.nd (di_rng2 (by rfl) z_range (da_cons de_int (da_cons (de_pv (pv 1)) da_nil))) (blkOk_by (N := ["_law_chart", "_law_many", "_law_k"]) (sc := defScope s_law_return_right) (by decide +kernel)) (fun _ _ _ _ _ => (dg_name (pg_name (i := 2) sc_law_return_right.nd rfl (by first | exact Or.inl rfl | exact Or.inr rfl)) (by decide))) (fun _ _ _ _ _ => (dts_one (dt_eq hr (de_fn h_power_of (by decide) hr hG (by rfl) (da_cons (de_pv (pv 0)) (da_cons (de_pv (pv 2)) da_nil))) (de_fnK k_law_stays (by decide) hr hG (by rfl) dk_nil)))) (fun _ _ _ _ _ => (de_pv (pv 2)))) (de_lst da_nil)))))
theorem ok_law_any_right {f : Addr} {fd : FuncData} (F : Fun K "_law_any_right" "_law_any_right" s_law_any_right f fd) (h_law_after : Cl P wd K mg base 4 "_law_after" ["_law_one", "_law_two"] (spP K 2 c_law_after)) (h_law_plus : Cl P wd K mg base 1 "_law_plus" ["_law_one", "_law_two"] (spP K 2 c_law_plus)) (h_law_place_of : Cl P wd K mg base 2 "_law_place_of" ["_law_one", "_law_two"] (spP K 2 c_law_place_of)) (h_law_times : Cl P wd K mg base 1 "_law_times" ["_law_one", "_law_two"] (spP K 2 c_law_times)) (h_law_det : Cl P wd K mg base 2 "_law_det" ["_law_numbers"] (spP K 1 c_law_det)) (h_return_of : Cl P wd K mg base 9 "return_of" ["chart"] (spP K 1 c_return_of)) (k_law_stays : ClK P wd K mg base 1 "_law_stays" [] (spP K 0 c_law_stays)) (z_repr : mg "repr" = none) : FnG P wd K mg base CX0 10 f fd ["_law_chart"] (spP K 1 c_law_any_right) := by
  refine okP (k := 9) (m := 6) (w := w_law_any_right) F sc_law_any_right rfl rfl (fun c cdv A outer s H E hG hr => ?_) sem_law_any_right
  exact (dss_cons (ds_set (i := 1) sc_law_any_right.nd rfl (by first | exact Or.inl rfl | exact Or.inr rfl) (de_if (dt_eq hr (de_item (de_pv (pv 0)) de_int) de_int) (de_fn h_law_after (by decide) hr hG (by rfl) (da_cons (de_pv (pv 0)) (da_cons (de_pv (pv 0)) da_nil))) (de_pv (pv 0)))) (dss_cons (ds_set (i := 2) sc_law_any_right.nd rfl (by first | exact Or.inl rfl | exact Or.inr rfl) (de_if (dt_eq hr (de_item (de_pv (pv 0)) de_int) de_int) de_int de_int)) (dss_cons (ds_set (i := 3) sc_law_any_right.nd rfl (by first | exact Or.inl rfl | exact Or.inr rfl) (de_fn h_law_plus (by decide) hr hG (by rfl) (da_cons (de_item (de_pv (pv 1)) de_int) (da_cons (de_item (de_pv (pv 1)) de_int) da_nil)))) (dss_cons (ds_set (i := 4) sc_law_any_right.nd rfl (by first | exact Or.inl rfl | exact Or.inr rfl) (de_fn h_law_place_of (by decide) hr hG (by rfl) (da_cons (de_fn h_law_times (by decide) hr hG (by rfl) (da_cons (de_pv (pv 3)) (da_cons (de_pv (pv 3)) da_nil))) (da_cons (de_fn h_law_det (by decide) hr hG (by rfl) (da_cons (de_slice (de_pv (pv 1)) (do_some de_int) do_none) da_nil)) da_nil)))) (dss_cons (ds_asg (vs := [5, 6]) (de_tup (da_cons (de_tupF (da_cons (de_tup (da_cons de_int (da_cons de_int (da_cons de_int da_nil)))) (da_cons (de_tup (da_cons de_int (da_cons de_int (da_cons de_int da_nil)))) (da_cons (de_tup (da_cons de_int (da_cons de_int (da_cons de_int da_nil)))) (da_cons (de_tup (da_cons de_int (da_cons de_int (da_cons de_int da_nil)))) da_nil))))) (da_cons de_non da_nil))) (dg_tup rfl (dgs_cons (dg_name (pg_name (i := 5) sc_law_any_right.nd rfl (by first | exact Or.inl rfl | exact Or.inr rfl)) (by decide)) (dgs_cons (dg_name (pg_name (i := 6) sc_law_any_right.nd rfl (by first | exact Or.inl rfl | exact Or.inr rfl)) (by decide)) dgs_nil)))) (dss_cons (ds_if (dt_in hr (de_pv (pv 4)) (de_unf (de_pv (pv 5)))) (dss_one (ds_set (i := 6) sc_law_any_right.nd rfl (by first | exact Or.inl rfl | exact Or.inr rfl) (de_mul (de_pv (pv 2)) (de_item (de_tup (da_cons de_int (da_cons de_int (da_cons de_int (da_cons de_int da_nil))))) (de_indexT (de_pv (pv 5)) (de_pv (pv 4)) (p := fun ho ha => pe_bmF PySem.F.plainAttrs_tuple PySem.F.slot_tuple_index PySem.F.type_tuple_index (mt_indexT (room65 hr)) ho ha)))))) dss_nil) (dss_cons (ds_if (dt_eq hr (de_pv (pv 1)) (de_fnK k_law_stays (by decide) hr hG (by rfl) dk_nil)) (dss_one (ds_set (i := 6) sc_law_any_right.nd rfl (by first | exact Or.inl rfl | exact Or.inr rfl) (de_pv (pv 2)))) dss_nil) (dss_one (ds_ret (de_eq hr (de_repr hr hG (by rfl) z_repr (da_cons (de_fn h_return_of (by decide) hr hG (by rfl) (da_cons (de_pv (pv 0)) da_nil)) da_nil)) (de_repr hr hG (by rfl) z_repr (da_cons (de_pv (pv 6)) da_nil))))))))))))
theorem ok_law_right {f : Addr} {fd : FuncData} (F : Fun K "_law_right" "_law_right" s_law_right f fd) (h_law_drawn_map : Cl P wd K mg base 6 "_law_drawn_map" ["_law_tank_here"] (spT K 1 c_law_drawn_map)) (h_law_any_place : Cl P wd K mg base 5 "_law_any_place" ["_law_tank_here"] (spT K 1 c_law_any_place)) (h_law_draw : Cl P wd K mg base 1 "_law_draw" ["_law_tank_here", "_law_many"] (spT K 2 c_law_draw)) (h_law_powers_right : Cl P wd K mg base 10 "_law_powers_right" ["_law_chart", "_law_one", "_law_two", "_law_place"] (spP K 4 c_law_powers_right)) (h_law_far_right : Cl P wd K mg base 10 "_law_far_right" ["_law_tank_here"] (spT K 1 c_law_far_right)) (h_law_laid : Cl P wd K mg base 4 "_law_laid" ["_law_tank_here"] (spT K 1 c_law_laid)) (h_law_after : Cl P wd K mg base 4 "_law_after" ["_law_one", "_law_two"] (spP K 2 c_law_after)) (h_law_backward : Cl P wd K mg base 4 "_law_backward" ["_law_one"] (spP K 1 c_law_backward)) (h_law_return_right : Cl P wd K mg base 10 "_law_return_right" ["_law_chart", "_law_many"] (spP K 2 c_law_return_right)) (h_law_any_right : Cl P wd K mg base 10 "_law_any_right" ["_law_chart"] (spP K 1 c_law_any_right)) : FnG P wd K mg base CX0 11 f fd ["_law_tank_here"] (spT K 1 c_law_right) := by
  refine okT (k := 10) (m := 8) (w := w_law_right) F sc_law_right rfl rfl (fun c cdv A outer s H E hG hr => ?_) sem_law_right
  exact (dss_cons (ds_par3 (i := 1) (j := 2) (l := 3) rfl sc_law_right.nd rfl rfl rfl (by decide) (by decide) (by decide) rfl rfl rfl (da_cons (de_fnT (i := 0) h_law_drawn_map (by decide) hr hG (by rfl) (pv 0) da_nil) (da_cons (de_fnT (i := 0) h_law_any_place (by decide) hr hG (by rfl) (pv 0) da_nil) (da_cons (de_fnT (i := 0) h_law_drawn_map (by decide) hr hG (by rfl) (pv 0) da_nil) da_nil))) rfl) (dss_cons (ds_par (i := 4) (j := 5) rfl sc_law_right.nd rfl rfl (by decide) rfl rfl (da_cons (de_sub (de_fnT (i := 0) h_law_draw (by decide) hr hG (by rfl) (pv 0) (da_cons de_int da_nil)) de_int) (da_cons (de_sub (de_fnT (i := 0) h_law_draw (by decide) hr hG (by rfl) (pv 0) (da_cons de_int da_nil)) de_int) da_nil)) rfl) (dss_cons (ds_if (dt_w (dw_or (dt_not (dt_val (de_fn h_law_powers_right (by decide) hr hG (by rfl) (da_cons (de_pv (pv 1)) (da_cons (de_pv (pv 4)) (da_cons (de_pv (pv 5)) (da_cons (de_pv (pv 2)) da_nil))))))) (dw_or1 (dt_not (dt_val (de_fnT (i := 0) h_law_far_right (by decide) hr hG (by rfl) (pv 0) da_nil)))))) (dss_one (ds_ret de_bl)) dss_nil) (dss_cons (ds_asg (vs := [6, 7]) (de_fnT (i := 0) h_law_laid (by decide) hr hG (by rfl) (pv 0) da_nil) (dg_tup rfl (dgs_cons (dg_name (pg_name (i := 6) sc_law_right.nd rfl (by first | exact Or.inl rfl | exact Or.inr rfl)) (by decide)) (dgs_cons (dg_name (pg_name (i := 7) sc_law_right.nd rfl (by first | exact Or.inl rfl | exact Or.inr rfl)) (by decide)) dgs_nil)))) (dss_cons (ds_set (i := 8) sc_law_right.nd rfl (by first | exact Or.inl rfl | exact Or.inr rfl) (de_fn h_law_after (by decide) hr hG (by rfl) (da_cons (de_fn h_law_after (by decide) hr hG (by rfl) (da_cons (de_pv (pv 3)) (da_cons (de_pv (pv 6)) da_nil))) (da_cons (de_fn h_law_backward (by decide) hr hG (by rfl) (da_cons (de_pv (pv 3)) da_nil)) da_nil)))) (dss_cons (ds_if (dt_w (dw_or (dt_not (dt_val (de_fn h_law_return_right (by decide) hr hG (by rfl) (da_cons (de_pv (pv 6)) (da_cons (de_pv (pv 7)) da_nil))))) (dw_or1 (dt_not (dt_val (de_fn h_law_return_right (by decide) hr hG (by rfl) (da_cons (de_pv (pv 8)) (da_cons (de_pv (pv 7)) da_nil)))))))) (dss_one (ds_ret de_bl)) dss_nil) (dss_one (ds_ret (de_and (de_fn h_law_any_right (by decide) hr hG (by rfl) (da_cons (de_pv (pv 1)) da_nil)) (de_and (de_fn h_law_any_right (by decide) hr hG (by rfl) (da_cons (de_pv (pv 3)) da_nil)) (de_one (de_fn h_law_any_right (by decide) hr hG (by rfl) (da_cons (de_fn h_law_after (by decide) hr hG (by rfl) (da_cons (de_pv (pv 1)) (da_cons (de_pv (pv 3)) da_nil))) da_nil)))))))))))))
theorem ok_law {f : Addr} {fd : FuncData} (F : Fun K "law" "law" s_law f fd) (h_law_rounds : Cl P wd K mg base 1 "_law_rounds" ["_law_script"] (spP K 1 c_law_rounds)) (h_law_right : Cl P wd K mg base 11 "_law_right" ["_law_tank_here"] (spT K 1 c_law_right)) (h_law_tank : Cl P wd K mg base 1 "_law_tank" ["_law_script", "_law_spot"] (spF K 2 c_law_tank)) (z_range : mg "range" = none) : FnG P wd K mg base CX0 12 f fd ["_law_script"] (spP K 1 c_law) := by
  refine okP (k := 11) (m := 1) (w := w_law) F sc_law rfl rfl (fun c cdv A outer s H E hG hr => ?_) sem_law
  exact (dss_cons (ds_for (vs := [1]) PassesOwn.never rfl (di_rng1 (by rfl) z_range (da_cons (de_fn h_law_rounds (by decide) hr hG (by rfl) (da_cons (de_pv (pv 0)) da_nil)) da_nil)) (dg_name (pg_name (i := 1) sc_law.nd rfl (by first | exact Or.inl rfl | exact Or.inr rfl)) (by decide)) (dss_one (ds_if (dt_not (dt_val (de_fnF h_law_right h_law_tank (by decide) (by decide) hr hG (by rfl) (by rfl) (da_cons (de_pv (pv 0)) (da_cons (de_pv (pv 1)) da_nil))))) (dss_one (ds_ret de_bl)) dss_nil))) (dss_one (ds_ret de_bl)))
end
theorem all_mk {P : Program} {wd : World} {K : PySem.W.Frag} {h : Heap} {mg : Str → Option Value} {fa : Addr} (X : K.In h) (G : h.Ns mainGlobals mg) (hfa : mg "law" = some (.ref fa))
    {f0 : Addr} {od0 an0 : Option Addr} {sl0 : Array (Option Value)} {oc0 kV0 dc0 pm0 cd0 ct0 : Value}
    {f1 : Addr} {od1 an1 : Option Addr} {sl1 : Array (Option Value)} {oc1 kV1 dc1 pm1 cd1 ct1 : Value}
    {f2 : Addr} {od2 an2 : Option Addr} {sl2 : Array (Option Value)} {oc2 kV2 dc2 pm2 cd2 ct2 : Value}
    {f3 : Addr} {od3 an3 : Option Addr} {sl3 : Array (Option Value)} {oc3 kV3 dc3 pm3 cd3 ct3 : Value}
    {f4 : Addr} {od4 an4 : Option Addr} {sl4 : Array (Option Value)} {oc4 kV4 dc4 pm4 cd4 ct4 : Value}
    {f5 : Addr} {od5 an5 : Option Addr} {sl5 : Array (Option Value)} {oc5 kV5 dc5 pm5 cd5 ct5 : Value}
    {f6 : Addr} {od6 an6 : Option Addr} {sl6 : Array (Option Value)} {oc6 kV6 dc6 pm6 cd6 ct6 : Value}
    {f7 : Addr} {od7 an7 : Option Addr} {sl7 : Array (Option Value)} {oc7 kV7 dc7 pm7 cd7 ct7 : Value}
    {f8 : Addr} {od8 an8 : Option Addr} {sl8 : Array (Option Value)} {oc8 kV8 dc8 pm8 cd8 ct8 : Value}
    {f9 : Addr} {od9 an9 : Option Addr} {sl9 : Array (Option Value)} {oc9 kV9 dc9 pm9 cd9 ct9 : Value}
    {f10 : Addr} {od10 an10 : Option Addr} {sl10 : Array (Option Value)} {oc10 kV10 dc10 pm10 cd10 ct10 : Value}
    {f11 : Addr} {od11 an11 : Option Addr} {sl11 : Array (Option Value)} {oc11 kV11 dc11 pm11 cd11 ct11 : Value}
    {f12 : Addr} {od12 an12 : Option Addr} {sl12 : Array (Option Value)} {oc12 kV12 dc12 pm12 cd12 ct12 : Value}
    {f13 : Addr} {od13 an13 : Option Addr} {sl13 : Array (Option Value)} {oc13 kV13 dc13 pm13 cd13 ct13 : Value}
    {f14 : Addr} {od14 an14 : Option Addr} {sl14 : Array (Option Value)} {oc14 kV14 dc14 pm14 cd14 ct14 : Value}
    {f15 : Addr} {od15 an15 : Option Addr} {sl15 : Array (Option Value)} {oc15 kV15 dc15 pm15 cd15 ct15 : Value}
    {f16 : Addr} {od16 an16 : Option Addr} {sl16 : Array (Option Value)} {oc16 kV16 dc16 pm16 cd16 ct16 : Value}
    {f17 : Addr} {od17 an17 : Option Addr} {sl17 : Array (Option Value)} {oc17 kV17 dc17 pm17 cd17 ct17 : Value}
    {f18 : Addr} {od18 an18 : Option Addr} {sl18 : Array (Option Value)} {oc18 kV18 dc18 pm18 cd18 ct18 : Value}
    {f19 : Addr} {od19 an19 : Option Addr} {sl19 : Array (Option Value)} {oc19 kV19 dc19 pm19 cd19 ct19 : Value}
    {f20 : Addr} {od20 an20 : Option Addr} {sl20 : Array (Option Value)} {oc20 kV20 dc20 pm20 cd20 ct20 : Value}
    {f21 : Addr} {od21 an21 : Option Addr} {sl21 : Array (Option Value)} {oc21 kV21 dc21 pm21 cd21 ct21 : Value}
    {f22 : Addr} {od22 an22 : Option Addr} {sl22 : Array (Option Value)} {oc22 kV22 dc22 pm22 cd22 ct22 : Value}
    {f23 : Addr} {od23 an23 : Option Addr} {sl23 : Array (Option Value)} {oc23 kV23 dc23 pm23 cd23 ct23 : Value}
    {f24 : Addr} {od24 an24 : Option Addr} {sl24 : Array (Option Value)} {oc24 kV24 dc24 pm24 cd24 ct24 : Value}
    {f25 : Addr} {od25 an25 : Option Addr} {sl25 : Array (Option Value)} {oc25 kV25 dc25 pm25 cd25 ct25 : Value}
    {f26 : Addr} {od26 an26 : Option Addr} {sl26 : Array (Option Value)} {oc26 kV26 dc26 pm26 cd26 ct26 : Value}
    {f27 : Addr} {od27 an27 : Option Addr} {sl27 : Array (Option Value)} {oc27 kV27 dc27 pm27 cd27 ct27 : Value}
    {f28 : Addr} {od28 an28 : Option Addr} {sl28 : Array (Option Value)} {oc28 kV28 dc28 pm28 cd28 ct28 : Value}
    {f29 : Addr} {od29 an29 : Option Addr} {sl29 : Array (Option Value)} {oc29 kV29 dc29 pm29 cd29 ct29 : Value}
    {dT29 dA29 : Addr} {dto29 dao29 : Option Addr} {dts29 das29 : Array (Option Value)} {dtn29 dan29 : Nat} {dt29_0 dt29_1 : Tok}
    {f30 : Addr} {od30 an30 : Option Addr} {sl30 : Array (Option Value)} {oc30 kV30 dc30 pm30 cd30 ct30 : Value}
    {f31 : Addr} {od31 an31 : Option Addr} {sl31 : Array (Option Value)} {oc31 kV31 dc31 pm31 cd31 ct31 : Value}
    {f32 : Addr} {od32 an32 : Option Addr} {sl32 : Array (Option Value)} {oc32 kV32 dc32 pm32 cd32 ct32 : Value}
    {f33 : Addr} {od33 an33 : Option Addr} {sl33 : Array (Option Value)} {oc33 kV33 dc33 pm33 cd33 ct33 : Value}
    {f34 : Addr} {od34 an34 : Option Addr} {sl34 : Array (Option Value)} {oc34 kV34 dc34 pm34 cd34 ct34 : Value}
    {f35 : Addr} {od35 an35 : Option Addr} {sl35 : Array (Option Value)} {oc35 kV35 dc35 pm35 cd35 ct35 : Value}
    {f36 : Addr} {od36 an36 : Option Addr} {sl36 : Array (Option Value)} {oc36 kV36 dc36 pm36 cd36 ct36 : Value}
    {f37 : Addr} {od37 an37 : Option Addr} {sl37 : Array (Option Value)} {oc37 kV37 dc37 pm37 cd37 ct37 : Value}
    {f38 : Addr} {od38 an38 : Option Addr} {sl38 : Array (Option Value)} {oc38 kV38 dc38 pm38 cd38 ct38 : Value}
    {f39 : Addr} {od39 an39 : Option Addr} {sl39 : Array (Option Value)} {oc39 kV39 dc39 pm39 cd39 ct39 : Value}
    {f40 : Addr} {od40 an40 : Option Addr} {sl40 : Array (Option Value)} {oc40 kV40 dc40 pm40 cd40 ct40 : Value}
    {f41 : Addr} {od41 an41 : Option Addr} {sl41 : Array (Option Value)} {oc41 kV41 dc41 pm41 cd41 ct41 : Value}
    {f42 : Addr} {od42 an42 : Option Addr} {sl42 : Array (Option Value)} {oc42 kV42 dc42 pm42 cd42 ct42 : Value}
    {f43 : Addr} {od43 an43 : Option Addr} {sl43 : Array (Option Value)} {oc43 kV43 dc43 pm43 cd43 ct43 : Value}
    {f44 : Addr} {od44 an44 : Option Addr} {sl44 : Array (Option Value)} {oc44 kV44 dc44 pm44 cd44 ct44 : Value}
    {f45 : Addr} {od45 an45 : Option Addr} {sl45 : Array (Option Value)} {oc45 kV45 dc45 pm45 cd45 ct45 : Value}
    {f46 : Addr} {od46 an46 : Option Addr} {sl46 : Array (Option Value)} {oc46 kV46 dc46 pm46 cd46 ct46 : Value}
    {f47 : Addr} {od47 an47 : Option Addr} {sl47 : Array (Option Value)} {oc47 kV47 dc47 pm47 cd47 ct47 : Value}
    {f48 : Addr} {od48 an48 : Option Addr} {sl48 : Array (Option Value)} {oc48 kV48 dc48 pm48 cd48 ct48 : Value}
    {f49 : Addr} {od49 an49 : Option Addr} {sl49 : Array (Option Value)} {oc49 kV49 dc49 pm49 cd49 ct49 : Value}
    {f50 : Addr} {od50 an50 : Option Addr} {sl50 : Array (Option Value)} {oc50 kV50 dc50 pm50 cd50 ct50 : Value}
    {f51 : Addr} {od51 an51 : Option Addr} {sl51 : Array (Option Value)} {oc51 kV51 dc51 pm51 cd51 ct51 : Value}
    {f52 : Addr} {od52 an52 : Option Addr} {sl52 : Array (Option Value)} {oc52 kV52 dc52 pm52 cd52 ct52 : Value}
    {f53 : Addr} {od53 an53 : Option Addr} {sl53 : Array (Option Value)} {oc53 kV53 dc53 pm53 cd53 ct53 : Value}
    {f54 : Addr} {od54 an54 : Option Addr} {sl54 : Array (Option Value)} {oc54 kV54 dc54 pm54 cd54 ct54 : Value}
    {f55 : Addr} {od55 an55 : Option Addr} {sl55 : Array (Option Value)} {oc55 kV55 dc55 pm55 cd55 ct55 : Value}
    {f56 : Addr} {od56 an56 : Option Addr} {sl56 : Array (Option Value)} {oc56 kV56 dc56 pm56 cd56 ct56 : Value}
    {f57 : Addr} {od57 an57 : Option Addr} {sl57 : Array (Option Value)} {oc57 kV57 dc57 pm57 cd57 ct57 : Value}
    {f58 : Addr} {od58 an58 : Option Addr} {sl58 : Array (Option Value)} {oc58 kV58 dc58 pm58 cd58 ct58 : Value}
    {f59 : Addr} {od59 an59 : Option Addr} {sl59 : Array (Option Value)} {oc59 kV59 dc59 pm59 cd59 ct59 : Value}
    {f60 : Addr} {od60 an60 : Option Addr} {sl60 : Array (Option Value)} {oc60 kV60 dc60 pm60 cd60 ct60 : Value}
    {f61 : Addr} {od61 an61 : Option Addr} {sl61 : Array (Option Value)} {oc61 kV61 dc61 pm61 cd61 ct61 : Value}
    {f62 : Addr} {od62 an62 : Option Addr} {sl62 : Array (Option Value)} {oc62 kV62 dc62 pm62 cd62 ct62 : Value}
    {f63 : Addr} {od63 an63 : Option Addr} {sl63 : Array (Option Value)} {oc63 kV63 dc63 pm63 cd63 ct63 : Value}
    {f64 : Addr} {od64 an64 : Option Addr} {sl64 : Array (Option Value)} {oc64 kV64 dc64 pm64 cd64 ct64 : Value}
    {f65 : Addr} {od65 an65 : Option Addr} {sl65 : Array (Option Value)} {oc65 kV65 dc65 pm65 cd65 ct65 : Value}
    {f66 : Addr} {od66 an66 : Option Addr} {sl66 : Array (Option Value)} {oc66 kV66 dc66 pm66 cd66 ct66 : Value}
    {f67 : Addr} {od67 an67 : Option Addr} {sl67 : Array (Option Value)} {oc67 kV67 dc67 pm67 cd67 ct67 : Value}
    {f68 : Addr} {od68 an68 : Option Addr} {sl68 : Array (Option Value)} {oc68 kV68 dc68 pm68 cd68 ct68 : Value}
    {f69 : Addr} {od69 an69 : Option Addr} {sl69 : Array (Option Value)} {oc69 kV69 dc69 pm69 cd69 ct69 : Value}
    {f70 : Addr} {od70 an70 : Option Addr} {sl70 : Array (Option Value)} {oc70 kV70 dc70 pm70 cd70 ct70 : Value}
    {f71 : Addr} {od71 an71 : Option Addr} {sl71 : Array (Option Value)} {oc71 kV71 dc71 pm71 cd71 ct71 : Value}
    {f72 : Addr} {od72 an72 : Option Addr} {sl72 : Array (Option Value)} {oc72 kV72 dc72 pm72 cd72 ct72 : Value}
    {f73 : Addr} {od73 an73 : Option Addr} {sl73 : Array (Option Value)} {oc73 kV73 dc73 pm73 cd73 ct73 : Value}
    {f74 : Addr} {od74 an74 : Option Addr} {sl74 : Array (Option Value)} {oc74 kV74 dc74 pm74 cd74 ct74 : Value}
    {f75 : Addr} {od75 an75 : Option Addr} {sl75 : Array (Option Value)} {oc75 kV75 dc75 pm75 cd75 ct75 : Value}
    {f76 : Addr} {od76 an76 : Option Addr} {sl76 : Array (Option Value)} {oc76 kV76 dc76 pm76 cd76 ct76 : Value}
    {f77 : Addr} {od77 an77 : Option Addr} {sl77 : Array (Option Value)} {oc77 kV77 dc77 pm77 cd77 ct77 : Value}
    {gp_RETURNS : Addr} {gz_RETURNS : Array DictEntry} {gm_RETURNS : Nat}
    {gh0_RETURNS : Int} {gk0_RETURNS : Addr} {gv0_RETURNS : Tok} {god0_RETURNS : Option Addr} {gn0_RETURNS : Nat} {gsl0_RETURNS : Array (Option Value)} {gi0_0_RETURNS : Tok} {gi0_1_RETURNS : Tok} {gi0_2_RETURNS : Tok}
    {gh1_RETURNS : Int} {gk1_RETURNS : Addr} {gv1_RETURNS : Tok} {god1_RETURNS : Option Addr} {gn1_RETURNS : Nat} {gsl1_RETURNS : Array (Option Value)} {gi1_0_RETURNS : Tok} {gi1_1_RETURNS : Tok} {gi1_2_RETURNS : Tok}
    {gh2_RETURNS : Int} {gk2_RETURNS : Addr} {gv2_RETURNS : Tok} {god2_RETURNS : Option Addr} {gn2_RETURNS : Nat} {gsl2_RETURNS : Array (Option Value)} {gi2_0_RETURNS : Tok} {gi2_1_RETURNS : Tok} {gi2_2_RETURNS : Tok}
    {gh3_RETURNS : Int} {gk3_RETURNS : Addr} {gv3_RETURNS : Tok} {god3_RETURNS : Option Addr} {gn3_RETURNS : Nat} {gsl3_RETURNS : Array (Option Value)} {gi3_0_RETURNS : Tok} {gi3_1_RETURNS : Tok} {gi3_2_RETURNS : Tok}
    {ga_NOUGHT : Addr} {gd_NOUGHT : Option Addr} {gs_NOUGHT : Array (Option Value)} {gn_NOUGHT : Nat} {gt0_NOUGHT : Tok} {gt1_NOUGHT : Tok}
    {ga_FAR : Addr} {gd_FAR : Option Addr} {gs_FAR : Array (Option Value)} {gn_FAR : Nat} {gt0_FAR : Tok} {gt1_FAR : Tok} {gt2_FAR : Tok}
    {gt0_0_STAYS : Tok}
    {gt1_0_STAYS : Tok}
    {gt1_1_STAYS : Tok}
    {ga_STAYS_1 : Addr} {gd_STAYS_1 : Option Addr} {gs_STAYS_1 : Array (Option Value)} {gn_STAYS_1 : Nat}
    {gt2_0_STAYS : Tok}
    {gt2_1_STAYS : Tok}
    {ga_STAYS_2 : Addr} {gd_STAYS_2 : Option Addr} {gs_STAYS_2 : Array (Option Value)} {gn_STAYS_2 : Nat}
    {gt3_0_STAYS : Tok}
    {gt3_1_STAYS : Tok}
    {ga_STAYS_3 : Addr} {gd_STAYS_3 : Option Addr} {gs_STAYS_3 : Array (Option Value)} {gn_STAYS_3 : Nat}
    {gt4_0_STAYS : Tok}
    {gt4_1_STAYS : Tok}
    {ga_STAYS_4 : Addr} {gd_STAYS_4 : Option Addr} {gs_STAYS_4 : Array (Option Value)} {gn_STAYS_4 : Nat}
    {ga_STAYS_0 : Addr} {gd_STAYS_0 : Option Addr} {gs_STAYS_0 : Array (Option Value)} {gn_STAYS_0 : Nat}
    {gt_MOST : Tok}
    (a0 : PySem.W.nsIn K mainGlobals "is_whole" = some (some (.ref f0)))
    (l0 : K.lookup f0 = some ⟨oc0, od0, .func (PySem.W.fnOf "is_whole" "is_whole" (defArgs s_is_whole) (defBody s_is_whole) (defScope s_is_whole) .none kV0 dc0 pm0 an0 cd0 ct0), sl0⟩)
    (c0 : PySem.W.codeIn K cd0 "is_whole" = true)
    (k0 : PySem.W.keepIn K (.ref f0) = true)
    (a1 : PySem.W.nsIn K mainGlobals "are_wholes" = some (some (.ref f1)))
    (l1 : K.lookup f1 = some ⟨oc1, od1, .func (PySem.W.fnOf "are_wholes" "are_wholes" (defArgs s_are_wholes) (defBody s_are_wholes) (defScope s_are_wholes) .none kV1 dc1 pm1 an1 cd1 ct1), sl1⟩)
    (c1 : PySem.W.codeIn K cd1 "are_wholes" = true)
    (k1 : PySem.W.keepIn K (.ref f1) = true)
    (a2 : PySem.W.nsIn K mainGlobals "common_of" = some (some (.ref f2)))
    (l2 : K.lookup f2 = some ⟨oc2, od2, .func (PySem.W.fnOf "common_of" "common_of" (defArgs s_common_of) (defBody s_common_of) (defScope s_common_of) .none kV2 dc2 pm2 an2 cd2 ct2), sl2⟩)
    (c2 : PySem.W.codeIn K cd2 "common_of" = true)
    (k2 : PySem.W.keepIn K (.ref f2) = true)
    (a3 : PySem.W.nsIn K mainGlobals "reduced" = some (some (.ref f3)))
    (l3 : K.lookup f3 = some ⟨oc3, od3, .func (PySem.W.fnOf "reduced" "reduced" (defArgs s_reduced) (defBody s_reduced) (defScope s_reduced) .none kV3 dc3 pm3 an3 cd3 ct3), sl3⟩)
    (c3 : PySem.W.codeIn K cd3 "reduced" = true)
    (k3 : PySem.W.keepIn K (.ref f3) = true)
    (a4 : PySem.W.nsIn K mainGlobals "plus" = some (some (.ref f4)))
    (l4 : K.lookup f4 = some ⟨oc4, od4, .func (PySem.W.fnOf "plus" "plus" (defArgs s_plus) (defBody s_plus) (defScope s_plus) .none kV4 dc4 pm4 an4 cd4 ct4), sl4⟩)
    (c4 : PySem.W.codeIn K cd4 "plus" = true)
    (k4 : PySem.W.keepIn K (.ref f4) = true)
    (a5 : PySem.W.nsIn K mainGlobals "minus" = some (some (.ref f5)))
    (l5 : K.lookup f5 = some ⟨oc5, od5, .func (PySem.W.fnOf "minus" "minus" (defArgs s_minus) (defBody s_minus) (defScope s_minus) .none kV5 dc5 pm5 an5 cd5 ct5), sl5⟩)
    (c5 : PySem.W.codeIn K cd5 "minus" = true)
    (k5 : PySem.W.keepIn K (.ref f5) = true)
    (a6 : PySem.W.nsIn K mainGlobals "negative" = some (some (.ref f6)))
    (l6 : K.lookup f6 = some ⟨oc6, od6, .func (PySem.W.fnOf "negative" "negative" (defArgs s_negative) (defBody s_negative) (defScope s_negative) .none kV6 dc6 pm6 an6 cd6 ct6), sl6⟩)
    (c6 : PySem.W.codeIn K cd6 "negative" = true)
    (k6 : PySem.W.keepIn K (.ref f6) = true)
    (a7 : PySem.W.nsIn K mainGlobals "times" = some (some (.ref f7)))
    (l7 : K.lookup f7 = some ⟨oc7, od7, .func (PySem.W.fnOf "times" "times" (defArgs s_times) (defBody s_times) (defScope s_times) .none kV7 dc7 pm7 an7 cd7 ct7), sl7⟩)
    (c7 : PySem.W.codeIn K cd7 "times" = true)
    (k7 : PySem.W.keepIn K (.ref f7) = true)
    (a8 : PySem.W.nsIn K mainGlobals "scaled" = some (some (.ref f8)))
    (l8 : K.lookup f8 = some ⟨oc8, od8, .func (PySem.W.fnOf "scaled" "scaled" (defArgs s_scaled) (defBody s_scaled) (defScope s_scaled) .none kV8 dc8 pm8 an8 cd8 ct8), sl8⟩)
    (c8 : PySem.W.codeIn K cd8 "scaled" = true)
    (k8 : PySem.W.keepIn K (.ref f8) = true)
    (a9 : PySem.W.nsIn K mainGlobals "conjugate_of" = some (some (.ref f9)))
    (l9 : K.lookup f9 = some ⟨oc9, od9, .func (PySem.W.fnOf "conjugate_of" "conjugate_of" (defArgs s_conjugate_of) (defBody s_conjugate_of) (defScope s_conjugate_of) .none kV9 dc9 pm9 an9 cd9 ct9), sl9⟩)
    (c9 : PySem.W.codeIn K cd9 "conjugate_of" = true)
    (k9 : PySem.W.keepIn K (.ref f9) = true)
    (a10 : PySem.W.nsIn K mainGlobals "norm_of" = some (some (.ref f10)))
    (l10 : K.lookup f10 = some ⟨oc10, od10, .func (PySem.W.fnOf "norm_of" "norm_of" (defArgs s_norm_of) (defBody s_norm_of) (defScope s_norm_of) .none kV10 dc10 pm10 an10 cd10 ct10), sl10⟩)
    (c10 : PySem.W.codeIn K cd10 "norm_of" = true)
    (k10 : PySem.W.keepIn K (.ref f10) = true)
    (a11 : PySem.W.nsIn K mainGlobals "is_quarter" = some (some (.ref f11)))
    (l11 : K.lookup f11 = some ⟨oc11, od11, .func (PySem.W.fnOf "is_quarter" "is_quarter" (defArgs s_is_quarter) (defBody s_is_quarter) (defScope s_is_quarter) .none kV11 dc11 pm11 an11 cd11 ct11), sl11⟩)
    (c11 : PySem.W.codeIn K cd11 "is_quarter" = true)
    (k11 : PySem.W.keepIn K (.ref f11) = true)
    (a12 : PySem.W.nsIn K mainGlobals "turned" = some (some (.ref f12)))
    (l12 : K.lookup f12 = some ⟨oc12, od12, .func (PySem.W.fnOf "turned" "turned" (defArgs s_turned) (defBody s_turned) (defScope s_turned) .none kV12 dc12 pm12 an12 cd12 ct12), sl12⟩)
    (c12 : PySem.W.codeIn K cd12 "turned" = true)
    (k12 : PySem.W.keepIn K (.ref f12) = true)
    (a13 : PySem.W.nsIn K mainGlobals "quarter_of" = some (some (.ref f13)))
    (l13 : K.lookup f13 = some ⟨oc13, od13, .func (PySem.W.fnOf "quarter_of" "quarter_of" (defArgs s_quarter_of) (defBody s_quarter_of) (defScope s_quarter_of) .none kV13 dc13 pm13 an13 cd13 ct13), sl13⟩)
    (c13 : PySem.W.codeIn K cd13 "quarter_of" = true)
    (k13 : PySem.W.keepIn K (.ref f13) = true)
    (a14 : PySem.W.nsIn K mainGlobals "exact_quotient" = some (some (.ref f14)))
    (l14 : K.lookup f14 = some ⟨oc14, od14, .func (PySem.W.fnOf "exact_quotient" "exact_quotient" (defArgs s_exact_quotient) (defBody s_exact_quotient) (defScope s_exact_quotient) .none kV14 dc14 pm14 an14 cd14 ct14), sl14⟩)
    (c14 : PySem.W.codeIn K cd14 "exact_quotient" = true)
    (k14 : PySem.W.keepIn K (.ref f14) = true)
    (a15 : PySem.W.nsIn K mainGlobals "rest_of" = some (some (.ref f15)))
    (l15 : K.lookup f15 = some ⟨oc15, od15, .func (PySem.W.fnOf "rest_of" "rest_of" (defArgs s_rest_of) (defBody s_rest_of) (defScope s_rest_of) .none kV15 dc15 pm15 an15 cd15 ct15), sl15⟩)
    (c15 : PySem.W.codeIn K cd15 "rest_of" = true)
    (k15 : PySem.W.keepIn K (.ref f15) = true)
    (a16 : PySem.W.nsIn K mainGlobals "divisor_of" = some (some (.ref f16)))
    (l16 : K.lookup f16 = some ⟨oc16, od16, .func (PySem.W.fnOf "divisor_of" "divisor_of" (defArgs s_divisor_of) (defBody s_divisor_of) (defScope s_divisor_of) .none kV16 dc16 pm16 an16 cd16 ct16), sl16⟩)
    (c16 : PySem.W.codeIn K cd16 "divisor_of" = true)
    (k16 : PySem.W.keepIn K (.ref f16) = true)
    (a17 : PySem.W.nsIn K mainGlobals "_divisor_of_two" = some (some (.ref f17)))
    (l17 : K.lookup f17 = some ⟨oc17, od17, .func (PySem.W.fnOf "_divisor_of_two" "_divisor_of_two" (defArgs s_divisor_of_two) (defBody s_divisor_of_two) (defScope s_divisor_of_two) .none kV17 dc17 pm17 an17 cd17 ct17), sl17⟩)
    (c17 : PySem.W.codeIn K cd17 "_divisor_of_two" = true)
    (k17 : PySem.W.keepIn K (.ref f17) = true)
    (a18 : PySem.W.nsIn K mainGlobals "_divisor_by_steps" = some (some (.ref f18)))
    (l18 : K.lookup f18 = some ⟨oc18, od18, .func (PySem.W.fnOf "_divisor_by_steps" "_divisor_by_steps" (defArgs s_divisor_by_steps) (defBody s_divisor_by_steps) (defScope s_divisor_by_steps) .none kV18 dc18 pm18 an18 cd18 ct18), sl18⟩)
    (c18 : PySem.W.codeIn K cd18 "_divisor_by_steps" = true)
    (k18 : PySem.W.keepIn K (.ref f18) = true)
    (a19 : PySem.W.nsIn K mainGlobals "is_complex" = some (some (.ref f19)))
    (l19 : K.lookup f19 = some ⟨oc19, od19, .func (PySem.W.fnOf "is_complex" "is_complex" (defArgs s_is_complex) (defBody s_is_complex) (defScope s_is_complex) .none kV19 dc19 pm19 an19 cd19 ct19), sl19⟩)
    (c19 : PySem.W.codeIn K cd19 "is_complex" = true)
    (k19 : PySem.W.keepIn K (.ref f19) = true)
    (a20 : PySem.W.nsIn K mainGlobals "determinant" = some (some (.ref f20)))
    (l20 : K.lookup f20 = some ⟨oc20, od20, .func (PySem.W.fnOf "determinant" "determinant" (defArgs s_determinant) (defBody s_determinant) (defScope s_determinant) .none kV20 dc20 pm20 an20 cd20 ct20), sl20⟩)
    (c20 : PySem.W.codeIn K cd20 "determinant" = true)
    (k20 : PySem.W.keepIn K (.ref f20) = true)
    (a21 : PySem.W.nsIn K mainGlobals "matrix_product" = some (some (.ref f21)))
    (l21 : K.lookup f21 = some ⟨oc21, od21, .func (PySem.W.fnOf "matrix_product" "matrix_product" (defArgs s_matrix_product) (defBody s_matrix_product) (defScope s_matrix_product) .none kV21 dc21 pm21 an21 cd21 ct21), sl21⟩)
    (c21 : PySem.W.codeIn K cd21 "matrix_product" = true)
    (k21 : PySem.W.keepIn K (.ref f21) = true)
    (a22 : PySem.W.nsIn K mainGlobals "adjugate" = some (some (.ref f22)))
    (l22 : K.lookup f22 = some ⟨oc22, od22, .func (PySem.W.fnOf "adjugate" "adjugate" (defArgs s_adjugate) (defBody s_adjugate) (defScope s_adjugate) .none kV22 dc22 pm22 an22 cd22 ct22), sl22⟩)
    (c22 : PySem.W.codeIn K cd22 "adjugate" = true)
    (k22 : PySem.W.keepIn K (.ref f22) = true)
    (a23 : PySem.W.nsIn K mainGlobals "conjugates" = some (some (.ref f23)))
    (l23 : K.lookup f23 = some ⟨oc23, od23, .func (PySem.W.fnOf "conjugates" "conjugates" (defArgs s_conjugates) (defBody s_conjugates) (defScope s_conjugates) .none kV23 dc23 pm23 an23 cd23 ct23), sl23⟩)
    (c23 : PySem.W.codeIn K cd23 "conjugates" = true)
    (k23 : PySem.W.keepIn K (.ref f23) = true)
    (a24 : PySem.W.nsIn K mainGlobals "led_parts" = some (some (.ref f24)))
    (l24 : K.lookup f24 = some ⟨oc24, od24, .func (PySem.W.fnOf "led_parts" "led_parts" (defArgs s_led_parts) (defBody s_led_parts) (defScope s_led_parts) .none kV24 dc24 pm24 an24 cd24 ct24), sl24⟩)
    (c24 : PySem.W.codeIn K cd24 "led_parts" = true)
    (k24 : PySem.W.keepIn K (.ref f24) = true)
    (a25 : PySem.W.nsIn K mainGlobals "is_place" = some (some (.ref f25)))
    (l25 : K.lookup f25 = some ⟨oc25, od25, .func (PySem.W.fnOf "is_place" "is_place" (defArgs s_is_place) (defBody s_is_place) (defScope s_is_place) .none kV25 dc25 pm25 an25 cd25 ct25), sl25⟩)
    (c25 : PySem.W.codeIn K cd25 "is_place" = true)
    (k25 : PySem.W.keepIn K (.ref f25) = true)
    (a26 : PySem.W.nsIn K mainGlobals "require_place" = some (some (.ref f26)))
    (l26 : K.lookup f26 = some ⟨oc26, od26, .func (PySem.W.fnOf "require_place" "require_place" (defArgs s_require_place) (defBody s_require_place) (defScope s_require_place) .none kV26 dc26 pm26 an26 cd26 ct26), sl26⟩)
    (c26 : PySem.W.codeIn K cd26 "require_place" = true)
    (k26 : PySem.W.keepIn K (.ref f26) = true)
    (a27 : PySem.W.nsIn K mainGlobals "upper_and_lower" = some (some (.ref f27)))
    (l27 : K.lookup f27 = some ⟨oc27, od27, .func (PySem.W.fnOf "upper_and_lower" "upper_and_lower" (defArgs s_upper_and_lower) (defBody s_upper_and_lower) (defScope s_upper_and_lower) .none kV27 dc27 pm27 an27 cd27 ct27), sl27⟩)
    (c27 : PySem.W.codeIn K cd27 "upper_and_lower" = true)
    (k27 : PySem.W.keepIn K (.ref f27) = true)
    (a28 : PySem.W.nsIn K mainGlobals "quotient_place" = some (some (.ref f28)))
    (l28 : K.lookup f28 = some ⟨oc28, od28, .func (PySem.W.fnOf "quotient_place" "quotient_place" (defArgs s_quotient_place) (defBody s_quotient_place) (defScope s_quotient_place) .none kV28 dc28 pm28 an28 cd28 ct28), sl28⟩)
    (c28 : PySem.W.codeIn K cd28 "quotient_place" = true)
    (k28 : PySem.W.keepIn K (.ref f28) = true)
    (a29 : PySem.W.nsIn K mainGlobals "map_from" = some (some (.ref f29)))
    (l29 : K.lookup f29 = some ⟨oc29, od29, .func (PySem.W.fnOf "map_from" "map_from" (defArgs s_map_from) (defBody s_map_from) (defScope s_map_from) (.ref dT29) kV29 dc29 pm29 an29 cd29 ct29), sl29⟩)
    (c29 : PySem.W.codeIn K cd29 "map_from" = true)
    (dl29 : K.lookup dT29 = some ⟨.type "tuple", dto29, .seq #[.ref dA29] dtn29, dts29⟩)
    (da29 : K.lookup dA29 = some ⟨.type "tuple", dao29, .seq #[.int 0 dt29_0, .int 0 dt29_1] dan29, das29⟩)
    (k29 : PySem.W.keepIn K (.ref f29) = true)
    (a30 : PySem.W.nsIn K mainGlobals "joined" = some (some (.ref f30)))
    (l30 : K.lookup f30 = some ⟨oc30, od30, .func (PySem.W.fnOf "joined" "joined" (defArgs s_joined) (defBody s_joined) (defScope s_joined) .none kV30 dc30 pm30 an30 cd30 ct30), sl30⟩)
    (c30 : PySem.W.codeIn K cd30 "joined" = true)
    (k30 : PySem.W.keepIn K (.ref f30) = true)
    (a31 : PySem.W.nsIn K mainGlobals "back_of" = some (some (.ref f31)))
    (l31 : K.lookup f31 = some ⟨oc31, od31, .func (PySem.W.fnOf "back_of" "back_of" (defArgs s_back_of) (defBody s_back_of) (defScope s_back_of) .none kV31 dc31 pm31 an31 cd31 ct31), sl31⟩)
    (c31 : PySem.W.codeIn K cd31 "back_of" = true)
    (k31 : PySem.W.keepIn K (.ref f31) = true)
    (a32 : PySem.W.nsIn K mainGlobals "place_led" = some (some (.ref f32)))
    (l32 : K.lookup f32 = some ⟨oc32, od32, .func (PySem.W.fnOf "place_led" "place_led" (defArgs s_place_led) (defBody s_place_led) (defScope s_place_led) .none kV32 dc32 pm32 an32 cd32 ct32), sl32⟩)
    (c32 : PySem.W.codeIn K cd32 "place_led" = true)
    (k32 : PySem.W.keepIn K (.ref f32) = true)
    (a33 : PySem.W.nsIn K mainGlobals "is_flag" = some (some (.ref f33)))
    (l33 : K.lookup f33 = some ⟨oc33, od33, .func (PySem.W.fnOf "is_flag" "is_flag" (defArgs s_is_flag) (defBody s_is_flag) (defScope s_is_flag) .none kV33 dc33 pm33 an33 cd33 ct33), sl33⟩)
    (c33 : PySem.W.codeIn K cd33 "is_flag" = true)
    (k33 : PySem.W.keepIn K (.ref f33) = true)
    (a34 : PySem.W.nsIn K mainGlobals "is_map" = some (some (.ref f34)))
    (l34 : K.lookup f34 = some ⟨oc34, od34, .func (PySem.W.fnOf "is_map" "is_map" (defArgs s_is_map) (defBody s_is_map) (defScope s_is_map) .none kV34 dc34 pm34 an34 cd34 ct34), sl34⟩)
    (c34 : PySem.W.codeIn K cd34 "is_map" = true)
    (k34 : PySem.W.keepIn K (.ref f34) = true)
    (a35 : PySem.W.nsIn K mainGlobals "require_map" = some (some (.ref f35)))
    (l35 : K.lookup f35 = some ⟨oc35, od35, .func (PySem.W.fnOf "require_map" "require_map" (defArgs s_require_map) (defBody s_require_map) (defScope s_require_map) .none kV35 dc35 pm35 an35 cd35 ct35), sl35⟩)
    (c35 : PySem.W.codeIn K cd35 "require_map" = true)
    (k35 : PySem.W.keepIn K (.ref f35) = true)
    (a36 : PySem.W.nsIn K mainGlobals "after" = some (some (.ref f36)))
    (l36 : K.lookup f36 = some ⟨oc36, od36, .func (PySem.W.fnOf "after" "after" (defArgs s_after) (defBody s_after) (defScope s_after) .none kV36 dc36 pm36 an36 cd36 ct36), sl36⟩)
    (c36 : PySem.W.codeIn K cd36 "after" = true)
    (k36 : PySem.W.keepIn K (.ref f36) = true)
    (a37 : PySem.W.nsIn K mainGlobals "_plain_trace_ratio" = some (some (.ref f37)))
    (l37 : K.lookup f37 = some ⟨oc37, od37, .func (PySem.W.fnOf "_plain_trace_ratio" "_plain_trace_ratio" (defArgs s_plain_trace_ratio) (defBody s_plain_trace_ratio) (defScope s_plain_trace_ratio) .none kV37 dc37 pm37 an37 cd37 ct37), sl37⟩)
    (c37 : PySem.W.codeIn K cd37 "_plain_trace_ratio" = true)
    (k37 : PySem.W.keepIn K (.ref f37) = true)
    (a38 : PySem.W.nsIn K mainGlobals "_plain_return" = some (some (.ref f38)))
    (l38 : K.lookup f38 = some ⟨oc38, od38, .func (PySem.W.fnOf "_plain_return" "_plain_return" (defArgs s_plain_return) (defBody s_plain_return) (defScope s_plain_return) .none kV38 dc38 pm38 an38 cd38 ct38), sl38⟩)
    (c38 : PySem.W.codeIn K cd38 "_plain_return" = true)
    (k38 : PySem.W.keepIn K (.ref f38) = true)
    (a39 : PySem.W.nsIn K mainGlobals "return_of" = some (some (.ref f39)))
    (l39 : K.lookup f39 = some ⟨oc39, od39, .func (PySem.W.fnOf "return_of" "return_of" (defArgs s_return_of) (defBody s_return_of) (defScope s_return_of) .none kV39 dc39 pm39 an39 cd39 ct39), sl39⟩)
    (c39 : PySem.W.codeIn K cd39 "return_of" = true)
    (k39 : PySem.W.keepIn K (.ref f39) = true)
    (a40 : PySem.W.nsIn K mainGlobals "_require_number" = some (some (.ref f40)))
    (l40 : K.lookup f40 = some ⟨oc40, od40, .func (PySem.W.fnOf "_require_number" "_require_number" (defArgs s_require_number) (defBody s_require_number) (defScope s_require_number) .none kV40 dc40 pm40 an40 cd40 ct40), sl40⟩)
    (c40 : PySem.W.codeIn K cd40 "_require_number" = true)
    (k40 : PySem.W.keepIn K (.ref f40) = true)
    (a41 : PySem.W.nsIn K mainGlobals "_power" = some (some (.ref f41)))
    (l41 : K.lookup f41 = some ⟨oc41, od41, .func (PySem.W.fnOf "_power" "_power" (defArgs s_power) (defBody s_power) (defScope s_power) .none kV41 dc41 pm41 an41 cd41 ct41), sl41⟩)
    (c41 : PySem.W.codeIn K cd41 "_power" = true)
    (k41 : PySem.W.keepIn K (.ref f41) = true)
    (a42 : PySem.W.nsIn K mainGlobals "power_of" = some (some (.ref f42)))
    (l42 : K.lookup f42 = some ⟨oc42, od42, .func (PySem.W.fnOf "power_of" "power_of" (defArgs s_power_of) (defBody s_power_of) (defScope s_power_of) .none kV42 dc42 pm42 an42 cd42 ct42), sl42⟩)
    (c42 : PySem.W.codeIn K cd42 "power_of" = true)
    (k42 : PySem.W.keepIn K (.ref f42) = true)
    (a43 : PySem.W.nsIn K mainGlobals "place_after" = some (some (.ref f43)))
    (l43 : K.lookup f43 = some ⟨oc43, od43, .func (PySem.W.fnOf "place_after" "place_after" (defArgs s_place_after) (defBody s_place_after) (defScope s_place_after) .none kV43 dc43 pm43 an43 cd43 ct43), sl43⟩)
    (c43 : PySem.W.codeIn K cd43 "place_after" = true)
    (k43 : PySem.W.keepIn K (.ref f43) = true)
    (a44 : PySem.W.nsIn K mainGlobals "_law_tank" = some (some (.ref f44)))
    (l44 : K.lookup f44 = some ⟨oc44, od44, .func (PySem.W.fnOf "_law_tank" "_law_tank" (defArgs s_law_tank) (defBody s_law_tank) (defScope s_law_tank) .none kV44 dc44 pm44 an44 cd44 ct44), sl44⟩)
    (c44 : PySem.W.codeIn K cd44 "_law_tank" = true)
    (k44 : PySem.W.keepIn K (.ref f44) = true)
    (a45 : PySem.W.nsIn K mainGlobals "_law_draw" = some (some (.ref f45)))
    (l45 : K.lookup f45 = some ⟨oc45, od45, .func (PySem.W.fnOf "_law_draw" "_law_draw" (defArgs s_law_draw) (defBody s_law_draw) (defScope s_law_draw) .none kV45 dc45 pm45 an45 cd45 ct45), sl45⟩)
    (c45 : PySem.W.codeIn K cd45 "_law_draw" = true)
    (k45 : PySem.W.keepIn K (.ref f45) = true)
    (a46 : PySem.W.nsIn K mainGlobals "_law_pick" = some (some (.ref f46)))
    (l46 : K.lookup f46 = some ⟨oc46, od46, .func (PySem.W.fnOf "_law_pick" "_law_pick" (defArgs s_law_pick) (defBody s_law_pick) (defScope s_law_pick) .none kV46 dc46 pm46 an46 cd46 ct46), sl46⟩)
    (c46 : PySem.W.codeIn K cd46 "_law_pick" = true)
    (k46 : PySem.W.keepIn K (.ref f46) = true)
    (a47 : PySem.W.nsIn K mainGlobals "_law_rounds" = some (some (.ref f47)))
    (l47 : K.lookup f47 = some ⟨oc47, od47, .func (PySem.W.fnOf "_law_rounds" "_law_rounds" (defArgs s_law_rounds) (defBody s_law_rounds) (defScope s_law_rounds) .none kV47 dc47 pm47 an47 cd47 ct47), sl47⟩)
    (c47 : PySem.W.codeIn K cd47 "_law_rounds" = true)
    (k47 : PySem.W.keepIn K (.ref f47) = true)
    (a48 : PySem.W.nsIn K mainGlobals "_law_small" = some (some (.ref f48)))
    (l48 : K.lookup f48 = some ⟨oc48, od48, .func (PySem.W.fnOf "_law_small" "_law_small" (defArgs s_law_small) (defBody s_law_small) (defScope s_law_small) .none kV48 dc48 pm48 an48 cd48 ct48), sl48⟩)
    (c48 : PySem.W.codeIn K cd48 "_law_small" = true)
    (k48 : PySem.W.keepIn K (.ref f48) = true)
    (a49 : PySem.W.nsIn K mainGlobals "_law_least" = some (some (.ref f49)))
    (l49 : K.lookup f49 = some ⟨oc49, od49, .func (PySem.W.fnOf "_law_least" "_law_least" (defArgs s_law_least) (defBody s_law_least) (defScope s_law_least) .none kV49 dc49 pm49 an49 cd49 ct49), sl49⟩)
    (c49 : PySem.W.codeIn K cd49 "_law_least" = true)
    (k49 : PySem.W.keepIn K (.ref f49) = true)
    (a50 : PySem.W.nsIn K mainGlobals "_law_plus" = some (some (.ref f50)))
    (l50 : K.lookup f50 = some ⟨oc50, od50, .func (PySem.W.fnOf "_law_plus" "_law_plus" (defArgs s_law_plus) (defBody s_law_plus) (defScope s_law_plus) .none kV50 dc50 pm50 an50 cd50 ct50), sl50⟩)
    (c50 : PySem.W.codeIn K cd50 "_law_plus" = true)
    (k50 : PySem.W.keepIn K (.ref f50) = true)
    (a51 : PySem.W.nsIn K mainGlobals "_law_less" = some (some (.ref f51)))
    (l51 : K.lookup f51 = some ⟨oc51, od51, .func (PySem.W.fnOf "_law_less" "_law_less" (defArgs s_law_less) (defBody s_law_less) (defScope s_law_less) .none kV51 dc51 pm51 an51 cd51 ct51), sl51⟩)
    (c51 : PySem.W.codeIn K cd51 "_law_less" = true)
    (k51 : PySem.W.keepIn K (.ref f51) = true)
    (a52 : PySem.W.nsIn K mainGlobals "_law_times" = some (some (.ref f52)))
    (l52 : K.lookup f52 = some ⟨oc52, od52, .func (PySem.W.fnOf "_law_times" "_law_times" (defArgs s_law_times) (defBody s_law_times) (defScope s_law_times) .none kV52 dc52 pm52 an52 cd52 ct52), sl52⟩)
    (c52 : PySem.W.codeIn K cd52 "_law_times" = true)
    (k52 : PySem.W.keepIn K (.ref f52) = true)
    (a53 : PySem.W.nsIn K mainGlobals "_law_star" = some (some (.ref f53)))
    (l53 : K.lookup f53 = some ⟨oc53, od53, .func (PySem.W.fnOf "_law_star" "_law_star" (defArgs s_law_star) (defBody s_law_star) (defScope s_law_star) .none kV53 dc53 pm53 an53 cd53 ct53), sl53⟩)
    (c53 : PySem.W.codeIn K cd53 "_law_star" = true)
    (k53 : PySem.W.keepIn K (.ref f53) = true)
    (a54 : PySem.W.nsIn K mainGlobals "_law_size" = some (some (.ref f54)))
    (l54 : K.lookup f54 = some ⟨oc54, od54, .func (PySem.W.fnOf "_law_size" "_law_size" (defArgs s_law_size) (defBody s_law_size) (defScope s_law_size) .none kV54 dc54 pm54 an54 cd54 ct54), sl54⟩)
    (c54 : PySem.W.codeIn K cd54 "_law_size" = true)
    (k54 : PySem.W.keepIn K (.ref f54) = true)
    (a55 : PySem.W.nsIn K mainGlobals "_law_quarter" = some (some (.ref f55)))
    (l55 : K.lookup f55 = some ⟨oc55, od55, .func (PySem.W.fnOf "_law_quarter" "_law_quarter" (defArgs s_law_quarter) (defBody s_law_quarter) (defScope s_law_quarter) .none kV55 dc55 pm55 an55 cd55 ct55), sl55⟩)
    (c55 : PySem.W.codeIn K cd55 "_law_quarter" = true)
    (k55 : PySem.W.keepIn K (.ref f55) = true)
    (a56 : PySem.W.nsIn K mainGlobals "_law_over" = some (some (.ref f56)))
    (l56 : K.lookup f56 = some ⟨oc56, od56, .func (PySem.W.fnOf "_law_over" "_law_over" (defArgs s_law_over) (defBody s_law_over) (defScope s_law_over) .none kV56 dc56 pm56 an56 cd56 ct56), sl56⟩)
    (c56 : PySem.W.codeIn K cd56 "_law_over" = true)
    (k56 : PySem.W.keepIn K (.ref f56) = true)
    (a57 : PySem.W.nsIn K mainGlobals "_law_common" = some (some (.ref f57)))
    (l57 : K.lookup f57 = some ⟨oc57, od57, .func (PySem.W.fnOf "_law_common" "_law_common" (defArgs s_law_common) (defBody s_law_common) (defScope s_law_common) .none kV57 dc57 pm57 an57 cd57 ct57), sl57⟩)
    (c57 : PySem.W.codeIn K cd57 "_law_common" = true)
    (k57 : PySem.W.keepIn K (.ref f57) = true)
    (a58 : PySem.W.nsIn K mainGlobals "_law_near" = some (some (.ref f58)))
    (l58 : K.lookup f58 = some ⟨oc58, od58, .func (PySem.W.fnOf "_law_near" "_law_near" (defArgs s_law_near) (defBody s_law_near) (defScope s_law_near) .none kV58 dc58 pm58 an58 cd58 ct58), sl58⟩)
    (c58 : PySem.W.codeIn K cd58 "_law_near" = true)
    (k58 : PySem.W.keepIn K (.ref f58) = true)
    (a59 : PySem.W.nsIn K mainGlobals "_law_any_place" = some (some (.ref f59)))
    (l59 : K.lookup f59 = some ⟨oc59, od59, .func (PySem.W.fnOf "_law_any_place" "_law_any_place" (defArgs s_law_any_place) (defBody s_law_any_place) (defScope s_law_any_place) .none kV59 dc59 pm59 an59 cd59 ct59), sl59⟩)
    (c59 : PySem.W.codeIn K cd59 "_law_any_place" = true)
    (k59 : PySem.W.keepIn K (.ref f59) = true)
    (a60 : PySem.W.nsIn K mainGlobals "_law_place_of" = some (some (.ref f60)))
    (l60 : K.lookup f60 = some ⟨oc60, od60, .func (PySem.W.fnOf "_law_place_of" "_law_place_of" (defArgs s_law_place_of) (defBody s_law_place_of) (defScope s_law_place_of) .none kV60 dc60 pm60 an60 cd60 ct60), sl60⟩)
    (c60 : PySem.W.codeIn K cd60 "_law_place_of" = true)
    (k60 : PySem.W.keepIn K (.ref f60) = true)
    (a61 : PySem.W.nsIn K mainGlobals "_law_little" = some (some (.ref f61)))
    (l61 : K.lookup f61 = some ⟨oc61, od61, .func (PySem.W.fnOf "_law_little" "_law_little" (defArgs s_law_little) (defBody s_law_little) (defScope s_law_little) .none kV61 dc61 pm61 an61 cd61 ct61), sl61⟩)
    (c61 : PySem.W.codeIn K cd61 "_law_little" = true)
    (k61 : PySem.W.keepIn K (.ref f61) = true)
    (a62 : PySem.W.nsIn K mainGlobals "_law_map" = some (some (.ref f62)))
    (l62 : K.lookup f62 = some ⟨oc62, od62, .func (PySem.W.fnOf "_law_map" "_law_map" (defArgs s_law_map) (defBody s_law_map) (defScope s_law_map) .none kV62 dc62 pm62 an62 cd62 ct62), sl62⟩)
    (c62 : PySem.W.codeIn K cd62 "_law_map" = true)
    (k62 : PySem.W.keepIn K (.ref f62) = true)
    (a63 : PySem.W.nsIn K mainGlobals "_law_det" = some (some (.ref f63)))
    (l63 : K.lookup f63 = some ⟨oc63, od63, .func (PySem.W.fnOf "_law_det" "_law_det" (defArgs s_law_det) (defBody s_law_det) (defScope s_law_det) .none kV63 dc63 pm63 an63 cd63 ct63), sl63⟩)
    (c63 : PySem.W.codeIn K cd63 "_law_det" = true)
    (k63 : PySem.W.keepIn K (.ref f63) = true)
    (a64 : PySem.W.nsIn K mainGlobals "_law_four" = some (some (.ref f64)))
    (l64 : K.lookup f64 = some ⟨oc64, od64, .func (PySem.W.fnOf "_law_four" "_law_four" (defArgs s_law_four) (defBody s_law_four) (defScope s_law_four) .none kV64 dc64 pm64 an64 cd64 ct64), sl64⟩)
    (c64 : PySem.W.codeIn K cd64 "_law_four" = true)
    (k64 : PySem.W.keepIn K (.ref f64) = true)
    (a65 : PySem.W.nsIn K mainGlobals "_law_drawn_map" = some (some (.ref f65)))
    (l65 : K.lookup f65 = some ⟨oc65, od65, .func (PySem.W.fnOf "_law_drawn_map" "_law_drawn_map" (defArgs s_law_drawn_map) (defBody s_law_drawn_map) (defScope s_law_drawn_map) .none kV65 dc65 pm65 an65 cd65 ct65), sl65⟩)
    (c65 : PySem.W.codeIn K cd65 "_law_drawn_map" = true)
    (k65 : PySem.W.keepIn K (.ref f65) = true)
    (a66 : PySem.W.nsIn K mainGlobals "_law_led" = some (some (.ref f66)))
    (l66 : K.lookup f66 = some ⟨oc66, od66, .func (PySem.W.fnOf "_law_led" "_law_led" (defArgs s_law_led) (defBody s_law_led) (defScope s_law_led) .none kV66 dc66 pm66 an66 cd66 ct66), sl66⟩)
    (c66 : PySem.W.codeIn K cd66 "_law_led" = true)
    (k66 : PySem.W.keepIn K (.ref f66) = true)
    (a67 : PySem.W.nsIn K mainGlobals "_law_after" = some (some (.ref f67)))
    (l67 : K.lookup f67 = some ⟨oc67, od67, .func (PySem.W.fnOf "_law_after" "_law_after" (defArgs s_law_after) (defBody s_law_after) (defScope s_law_after) .none kV67 dc67 pm67 an67 cd67 ct67), sl67⟩)
    (c67 : PySem.W.codeIn K cd67 "_law_after" = true)
    (k67 : PySem.W.keepIn K (.ref f67) = true)
    (a68 : PySem.W.nsIn K mainGlobals "_law_backward" = some (some (.ref f68)))
    (l68 : K.lookup f68 = some ⟨oc68, od68, .func (PySem.W.fnOf "_law_backward" "_law_backward" (defArgs s_law_backward) (defBody s_law_backward) (defScope s_law_backward) .none kV68 dc68 pm68 an68 cd68 ct68), sl68⟩)
    (c68 : PySem.W.codeIn K cd68 "_law_backward" = true)
    (k68 : PySem.W.keepIn K (.ref f68) = true)
    (a69 : PySem.W.nsIn K mainGlobals "_law_stays" = some (some (.ref f69)))
    (l69 : K.lookup f69 = some ⟨oc69, od69, .func (PySem.W.fnOf "_law_stays" "_law_stays" (defArgs s_law_stays) (defBody s_law_stays) (defScope s_law_stays) .none kV69 dc69 pm69 an69 cd69 ct69), sl69⟩)
    (c69 : PySem.W.codeIn K cd69 "_law_stays" = true)
    (k69 : PySem.W.keepIn K (.ref f69) = true)
    (a70 : PySem.W.nsIn K mainGlobals "_law_power" = some (some (.ref f70)))
    (l70 : K.lookup f70 = some ⟨oc70, od70, .func (PySem.W.fnOf "_law_power" "_law_power" (defArgs s_law_power) (defBody s_law_power) (defScope s_law_power) .none kV70 dc70 pm70 an70 cd70 ct70), sl70⟩)
    (c70 : PySem.W.codeIn K cd70 "_law_power" = true)
    (k70 : PySem.W.keepIn K (.ref f70) = true)
    (a71 : PySem.W.nsIn K mainGlobals "_law_powers_right" = some (some (.ref f71)))
    (l71 : K.lookup f71 = some ⟨oc71, od71, .func (PySem.W.fnOf "_law_powers_right" "_law_powers_right" (defArgs s_law_powers_right) (defBody s_law_powers_right) (defScope s_law_powers_right) .none kV71 dc71 pm71 an71 cd71 ct71), sl71⟩)
    (c71 : PySem.W.codeIn K cd71 "_law_powers_right" = true)
    (k71 : PySem.W.keepIn K (.ref f71) = true)
    (a72 : PySem.W.nsIn K mainGlobals "_law_far_right" = some (some (.ref f72)))
    (l72 : K.lookup f72 = some ⟨oc72, od72, .func (PySem.W.fnOf "_law_far_right" "_law_far_right" (defArgs s_law_far_right) (defBody s_law_far_right) (defScope s_law_far_right) .none kV72 dc72 pm72 an72 cd72 ct72), sl72⟩)
    (c72 : PySem.W.codeIn K cd72 "_law_far_right" = true)
    (k72 : PySem.W.keepIn K (.ref f72) = true)
    (a73 : PySem.W.nsIn K mainGlobals "_law_laid" = some (some (.ref f73)))
    (l73 : K.lookup f73 = some ⟨oc73, od73, .func (PySem.W.fnOf "_law_laid" "_law_laid" (defArgs s_law_laid) (defBody s_law_laid) (defScope s_law_laid) .none kV73 dc73 pm73 an73 cd73 ct73), sl73⟩)
    (c73 : PySem.W.codeIn K cd73 "_law_laid" = true)
    (k73 : PySem.W.keepIn K (.ref f73) = true)
    (a74 : PySem.W.nsIn K mainGlobals "_law_return_right" = some (some (.ref f74)))
    (l74 : K.lookup f74 = some ⟨oc74, od74, .func (PySem.W.fnOf "_law_return_right" "_law_return_right" (defArgs s_law_return_right) (defBody s_law_return_right) (defScope s_law_return_right) .none kV74 dc74 pm74 an74 cd74 ct74), sl74⟩)
    (c74 : PySem.W.codeIn K cd74 "_law_return_right" = true)
    (k74 : PySem.W.keepIn K (.ref f74) = true)
    (a75 : PySem.W.nsIn K mainGlobals "_law_any_right" = some (some (.ref f75)))
    (l75 : K.lookup f75 = some ⟨oc75, od75, .func (PySem.W.fnOf "_law_any_right" "_law_any_right" (defArgs s_law_any_right) (defBody s_law_any_right) (defScope s_law_any_right) .none kV75 dc75 pm75 an75 cd75 ct75), sl75⟩)
    (c75 : PySem.W.codeIn K cd75 "_law_any_right" = true)
    (k75 : PySem.W.keepIn K (.ref f75) = true)
    (a76 : PySem.W.nsIn K mainGlobals "_law_right" = some (some (.ref f76)))
    (l76 : K.lookup f76 = some ⟨oc76, od76, .func (PySem.W.fnOf "_law_right" "_law_right" (defArgs s_law_right) (defBody s_law_right) (defScope s_law_right) .none kV76 dc76 pm76 an76 cd76 ct76), sl76⟩)
    (c76 : PySem.W.codeIn K cd76 "_law_right" = true)
    (k76 : PySem.W.keepIn K (.ref f76) = true)
    (a77 : PySem.W.nsIn K mainGlobals "law" = some (some (.ref f77)))
    (l77 : K.lookup f77 = some ⟨oc77, od77, .func (PySem.W.fnOf "law" "law" (defArgs s_law) (defBody s_law) (defScope s_law) .none kV77 dc77 pm77 an77 cd77 ct77), sl77⟩)
    (c77 : PySem.W.codeIn K cd77 "law" = true)
    (k77 : PySem.W.keepIn K (.ref f77) = true)
    (z_isinstance : PySem.W.nsIn K mainGlobals "isinstance" = some none)
    (z_int : PySem.W.nsIn K mainGlobals "int" = some none)
    (z_bool : PySem.W.nsIn K mainGlobals "bool" = some none)
    (z_tuple : PySem.W.nsIn K mainGlobals "tuple" = some none)
    (z_len : PySem.W.nsIn K mainGlobals "len" = some none)
    (z_all : PySem.W.nsIn K mainGlobals "all" = some none)
    (z_sorted : PySem.W.nsIn K mainGlobals "sorted" = some none)
    (z_range : PySem.W.nsIn K mainGlobals "range" = some none)
    (z_abs : PySem.W.nsIn K mainGlobals "abs" = some none)
    (z_divmod : PySem.W.nsIn K mainGlobals "divmod" = some none)
    (z_max : PySem.W.nsIn K mainGlobals "max" = some none)
    (z_min : PySem.W.nsIn K mainGlobals "min" = some none)
    (z_repr : PySem.W.nsIn K mainGlobals "repr" = some none)
    (m_gcd : PySem.W.nsIn K mainGlobals "gcd" = some (some (.builtin "math.gcd")))
    (gp_RETURNS' : PySem.W.nsIn K mainGlobals "RETURNS" = some (some (.ref gp_RETURNS)))
    (gq_RETURNS' : K.lookup gp_RETURNS = some ⟨.type "dict", none, .dict gz_RETURNS gm_RETURNS, #[]⟩)
    (ds_RETURNS' : (gp_RETURNS == sysModules) = false)
    (de_RETURNS' : gz_RETURNS.toList = [⟨gh0_RETURNS, .ref gk0_RETURNS, .int 2 gv0_RETURNS⟩, ⟨gh1_RETURNS, .ref gk1_RETURNS, .int 3 gv1_RETURNS⟩, ⟨gh2_RETURNS, .ref gk2_RETURNS, .int 4 gv2_RETURNS⟩, ⟨gh3_RETURNS, .ref gk3_RETURNS, .int 6 gv3_RETURNS⟩])
    (gl0_RETURNS' : K.lookup gk0_RETURNS = some ⟨.type "tuple", god0_RETURNS, .seq #[.int 0 gi0_0_RETURNS, .int 0 gi0_1_RETURNS, .int 1 gi0_2_RETURNS] gn0_RETURNS, gsl0_RETURNS⟩)
    (dh0_RETURNS' : tkHash [0, 0, 1] = gh0_RETURNS)
    (gl1_RETURNS' : K.lookup gk1_RETURNS = some ⟨.type "tuple", god1_RETURNS, .seq #[.int 1 gi1_0_RETURNS, .int 0 gi1_1_RETURNS, .int 1 gi1_2_RETURNS] gn1_RETURNS, gsl1_RETURNS⟩)
    (dh1_RETURNS' : tkHash [1, 0, 1] = gh1_RETURNS)
    (gl2_RETURNS' : K.lookup gk2_RETURNS = some ⟨.type "tuple", god2_RETURNS, .seq #[.int 2 gi2_0_RETURNS, .int 0 gi2_1_RETURNS, .int 1 gi2_2_RETURNS] gn2_RETURNS, gsl2_RETURNS⟩)
    (dh2_RETURNS' : tkHash [2, 0, 1] = gh2_RETURNS)
    (gl3_RETURNS' : K.lookup gk3_RETURNS = some ⟨.type "tuple", god3_RETURNS, .seq #[.int 3 gi3_0_RETURNS, .int 0 gi3_1_RETURNS, .int 1 gi3_2_RETURNS] gn3_RETURNS, gsl3_RETURNS⟩)
    (dh3_RETURNS' : tkHash [3, 0, 1] = gh3_RETURNS)
    (ga_NOUGHT' : PySem.W.nsIn K mainGlobals "NOUGHT" = some (some (.ref ga_NOUGHT)))
    (gl_NOUGHT' : K.lookup ga_NOUGHT = some ⟨.type "tuple", gd_NOUGHT, .seq #[.int 0 gt0_NOUGHT, .int 0 gt1_NOUGHT] gn_NOUGHT, gs_NOUGHT⟩)
    (ga_FAR' : PySem.W.nsIn K mainGlobals "FAR" = some (some (.ref ga_FAR)))
    (gl_FAR' : K.lookup ga_FAR = some ⟨.type "tuple", gd_FAR, .seq #[.int 1 gt0_FAR, .int 0 gt1_FAR, .int 0 gt2_FAR] gn_FAR, gs_FAR⟩)
    (ga_STAYS' : PySem.W.nsIn K mainGlobals "STAYS" = some (some (.ref ga_STAYS_0)))
    (gl_STAYS_0' : K.lookup ga_STAYS_0 = some ⟨.type "tuple", gd_STAYS_0, .seq #[.int 0 gt0_0_STAYS, .ref ga_STAYS_1, .ref ga_STAYS_2, .ref ga_STAYS_3, .ref ga_STAYS_4] gn_STAYS_0, gs_STAYS_0⟩)
    (gl_STAYS_1' : K.lookup ga_STAYS_1 = some ⟨.type "tuple", gd_STAYS_1, .seq #[.int 1 gt1_0_STAYS, .int 0 gt1_1_STAYS] gn_STAYS_1, gs_STAYS_1⟩)
    (gl_STAYS_2' : K.lookup ga_STAYS_2 = some ⟨.type "tuple", gd_STAYS_2, .seq #[.int 0 gt2_0_STAYS, .int 0 gt2_1_STAYS] gn_STAYS_2, gs_STAYS_2⟩)
    (gl_STAYS_3' : K.lookup ga_STAYS_3 = some ⟨.type "tuple", gd_STAYS_3, .seq #[.int 0 gt3_0_STAYS, .int 0 gt3_1_STAYS] gn_STAYS_3, gs_STAYS_3⟩)
    (gl_STAYS_4' : K.lookup ga_STAYS_4 = some ⟨.type "tuple", gd_STAYS_4, .seq #[.int 1 gt4_0_STAYS, .int 0 gt4_1_STAYS] gn_STAYS_4, gs_STAYS_4⟩)
    (ga_MOST' : PySem.W.nsIn K mainGlobals "MOST" = some (some (.int 60 gt_MOST)))
    : ∃ fd : FuncData, (∀ (s : Shared) (u : Value), BindsTo s fd ⟨[u], []⟩ [("_law_script", u)]) ∧ ∀ base : Heap, K.In base → base.Ns mainGlobals mg → FnG P wd K mg base CX0 12 fa fd ["_law_script"] (spP K 1 c_law) := by
  have e := hfa.symm.trans (PySem.W.mg_of X G a77)
  cases e
  have F0 := fun_mk (st := s_is_whole) l0 c0 k0
  have F1 := fun_mk (st := s_are_wholes) l1 c1 k1
  have F2 := fun_mk (st := s_common_of) l2 c2 k2
  have F3 := fun_mk (st := s_reduced) l3 c3 k3
  have F4 := fun_mk (st := s_plus) l4 c4 k4
  have F5 := fun_mk (st := s_minus) l5 c5 k5
  have F6 := fun_mk (st := s_negative) l6 c6 k6
  have F7 := fun_mk (st := s_times) l7 c7 k7
  have F8 := fun_mk (st := s_scaled) l8 c8 k8
  have F9 := fun_mk (st := s_conjugate_of) l9 c9 k9
  have F10 := fun_mk (st := s_norm_of) l10 c10 k10
  have F11 := fun_mk (st := s_is_quarter) l11 c11 k11
  have F12 := fun_mk (st := s_turned) l12 c12 k12
  have F13 := fun_mk (st := s_quarter_of) l13 c13 k13
  have F14 := fun_mk (st := s_exact_quotient) l14 c14 k14
  have F15 := fun_mk (st := s_rest_of) l15 c15 k15
  have F16 := fun_mk (st := s_divisor_of) l16 c16 k16
  have F17 := fun_mk (st := s_divisor_of_two) l17 c17 k17
  have F18 := fun_mk (st := s_divisor_by_steps) l18 c18 k18
  have F19 := fun_mk (st := s_is_complex) l19 c19 k19
  have F20 := fun_mk (st := s_determinant) l20 c20 k20
  have F21 := fun_mk (st := s_matrix_product) l21 c21 k21
  have F22 := fun_mk (st := s_adjugate) l22 c22 k22
  have F23 := fun_mk (st := s_conjugates) l23 c23 k23
  have F24 := fun_mk (st := s_led_parts) l24 c24 k24
  have F25 := fun_mk (st := s_is_place) l25 c25 k25
  have F26 := fun_mk (st := s_require_place) l26 c26 k26
  have F27 := fun_mk (st := s_upper_and_lower) l27 c27 k27
  have F28 := fun_mk (st := s_quotient_place) l28 c28 k28
  have F29 := funD_mk (st := s_map_from) (its := [.ref dA29]) (dvs := [.ref dA29]) l29 c29 k29 dl29 rfl (.cons rfl .nil) (by intro z; cases z)
  have F30 := fun_mk (st := s_joined) l30 c30 k30
  have F31 := fun_mk (st := s_back_of) l31 c31 k31
  have F32 := fun_mk (st := s_place_led) l32 c32 k32
  have F33 := fun_mk (st := s_is_flag) l33 c33 k33
  have F34 := fun_mk (st := s_is_map) l34 c34 k34
  have F35 := fun_mk (st := s_require_map) l35 c35 k35
  have F36 := fun_mk (st := s_after) l36 c36 k36
  have F37 := fun_mk (st := s_plain_trace_ratio) l37 c37 k37
  have F38 := fun_mk (st := s_plain_return) l38 c38 k38
  have F39 := fun_mk (st := s_return_of) l39 c39 k39
  have F40 := fun_mk (st := s_require_number) l40 c40 k40
  have F41 := fun_mk (st := s_power) l41 c41 k41
  have F42 := fun_mk (st := s_power_of) l42 c42 k42
  have F43 := fun_mk (st := s_place_after) l43 c43 k43
  have F44 := fun_mk (st := s_law_tank) l44 c44 k44
  have F45 := fun_mk (st := s_law_draw) l45 c45 k45
  have F46 := fun_mk (st := s_law_pick) l46 c46 k46
  have F47 := fun_mk (st := s_law_rounds) l47 c47 k47
  have F48 := fun_mk (st := s_law_small) l48 c48 k48
  have F49 := fun_mk (st := s_law_least) l49 c49 k49
  have F50 := fun_mk (st := s_law_plus) l50 c50 k50
  have F51 := fun_mk (st := s_law_less) l51 c51 k51
  have F52 := fun_mk (st := s_law_times) l52 c52 k52
  have F53 := fun_mk (st := s_law_star) l53 c53 k53
  have F54 := fun_mk (st := s_law_size) l54 c54 k54
  have F55 := fun_mk (st := s_law_quarter) l55 c55 k55
  have F56 := fun_mk (st := s_law_over) l56 c56 k56
  have F57 := fun_mk (st := s_law_common) l57 c57 k57
  have F58 := fun_mk (st := s_law_near) l58 c58 k58
  have F59 := fun_mk (st := s_law_any_place) l59 c59 k59
  have F60 := fun_mk (st := s_law_place_of) l60 c60 k60
  have F61 := fun_mk (st := s_law_little) l61 c61 k61
  have F62 := fun_mk (st := s_law_map) l62 c62 k62
  have F63 := fun_mk (st := s_law_det) l63 c63 k63
  have F64 := fun_mk (st := s_law_four) l64 c64 k64
  have F65 := fun_mk (st := s_law_drawn_map) l65 c65 k65
  have F66 := fun_mk (st := s_law_led) l66 c66 k66
  have F67 := fun_mk (st := s_law_after) l67 c67 k67
  have F68 := fun_mk (st := s_law_backward) l68 c68 k68
  have F69 := fun_mk (st := s_law_stays) l69 c69 k69
  have F70 := fun_mk (st := s_law_power) l70 c70 k70
  have F71 := fun_mk (st := s_law_powers_right) l71 c71 k71
  have F72 := fun_mk (st := s_law_far_right) l72 c72 k72
  have F73 := fun_mk (st := s_law_laid) l73 c73 k73
  have F74 := fun_mk (st := s_law_return_right) l74 c74 k74
  have F75 := fun_mk (st := s_law_any_right) l75 c75 k75
  have F76 := fun_mk (st := s_law_right) l76 c76 k76
  have F77 := fun_mk (st := s_law) l77 c77 k77
  have z_isinstance := PySem.W.mg_none_of X G z_isinstance
  have z_int := PySem.W.mg_none_of X G z_int
  have z_bool := PySem.W.mg_none_of X G z_bool
  have z_tuple := PySem.W.mg_none_of X G z_tuple
  have z_len := PySem.W.mg_none_of X G z_len
  have z_all := PySem.W.mg_none_of X G z_all
  have z_sorted := PySem.W.mg_none_of X G z_sorted
  have z_range := PySem.W.mg_none_of X G z_range
  have z_abs := PySem.W.mg_none_of X G z_abs
  have z_divmod := PySem.W.mg_none_of X G z_divmod
  have z_max := PySem.W.mg_none_of X G z_max
  have z_min := PySem.W.mg_none_of X G z_min
  have z_repr := PySem.W.mg_none_of X G z_repr
  have m_gcd := PySem.W.mg_of X G m_gcd
  have gt_RETURNS : GT K P wd mg "RETURNS" kt_RETURNS := gt_mk (PySem.W.mg_of X G gp_RETURNS') ds_RETURNS' gq_RETURNS' de_RETURNS' (by decide) (dtc dh0_RETURNS' gl0_RETURNS' ((.cons ⟨_, rfl⟩ (.cons ⟨_, rfl⟩ (.cons ⟨_, rfl⟩ .nil)))) (dtc dh1_RETURNS' gl1_RETURNS' ((.cons ⟨_, rfl⟩ (.cons ⟨_, rfl⟩ (.cons ⟨_, rfl⟩ .nil)))) (dtc dh2_RETURNS' gl2_RETURNS' ((.cons ⟨_, rfl⟩ (.cons ⟨_, rfl⟩ (.cons ⟨_, rfl⟩ .nil)))) (dtc dh3_RETURNS' gl3_RETURNS' ((.cons ⟨_, rfl⟩ (.cons ⟨_, rfl⟩ (.cons ⟨_, rfl⟩ .nil)))) dtn))))
  have g_NOUGHT : Gc K mg "NOUGHT" (.tuple [(.int 0), (.int 0)]) := gc_tup (PySem.W.mg_of X G ga_NOUGHT') gl_NOUGHT' (Nat.le_of_ble_eq_true rfl) (fun H => .cons (.int _) (.cons (.int _) (.nil))) (.cons ⟨_, rfl⟩ (.cons ⟨_, rfl⟩ (.nil)))
  have g_FAR : Gc K mg "FAR" (.tuple [(.int 1), (.int 0), (.int 0)]) := gc_tup (PySem.W.mg_of X G ga_FAR') gl_FAR' (Nat.le_of_ble_eq_true rfl) (fun H => .cons (.int _) (.cons (.int _) (.cons (.int _) (.nil)))) (.cons ⟨_, rfl⟩ (.cons ⟨_, rfl⟩ (.cons ⟨_, rfl⟩ (.nil))))
  have g_STAYS : Gc K mg "STAYS" (.tuple [(.int 0), (.tuple [(.int 1), (.int 0)]), (.tuple [(.int 0), (.int 0)]), (.tuple [(.int 0), (.int 0)]), (.tuple [(.int 1), (.int 0)])]) := gc_tup (PySem.W.mg_of X G ga_STAYS') gl_STAYS_0' (Nat.le_of_ble_eq_true rfl) (fun H => (.cons (.int _) (.cons (dz_kt gl_STAYS_1' (Nat.le_of_ble_eq_true rfl) (fun H => (.cons (.int _) (.cons (.int _) .nil))) (.cons ⟨_, rfl⟩ (.cons ⟨_, rfl⟩ .nil)) H) (.cons (dz_kt gl_STAYS_2' (Nat.le_of_ble_eq_true rfl) (fun H => (.cons (.int _) (.cons (.int _) .nil))) (.cons ⟨_, rfl⟩ (.cons ⟨_, rfl⟩ .nil)) H) (.cons (dz_kt gl_STAYS_3' (Nat.le_of_ble_eq_true rfl) (fun H => (.cons (.int _) (.cons (.int _) .nil))) (.cons ⟨_, rfl⟩ (.cons ⟨_, rfl⟩ .nil)) H) (.cons (dz_kt gl_STAYS_4' (Nat.le_of_ble_eq_true rfl) (fun H => (.cons (.int _) (.cons (.int _) .nil))) (.cons ⟨_, rfl⟩ (.cons ⟨_, rfl⟩ .nil)) H) .nil)))))) (.cons ⟨_, rfl⟩ (.cons rfl (.cons rfl (.cons rfl (.cons rfl .nil)))))
  have g_MOST : Gc K mg "MOST" (.int 60) := gc_int (PySem.W.mg_of X G ga_MOST')
  refine ⟨PySem.W.fnOf "law" "law" (defArgs s_law) (defBody s_law) (defScope s_law) .none kV77 dc77 pm77 an77 cd77 ct77, fun s u => .of_eq rfl, fun base _ _ => ?_⟩
  have G0 := ok_is_whole (P := P) (wd := wd) (mg := mg) (base := base) F0 z_isinstance z_int z_bool
  have h_is_whole : Cl P wd K mg base 1 "is_whole" ["value"] (spP K 1 c_is_whole) := ⟨_, _, PySem.W.mg_of X G a0, k0, F0.binds (fun _ _ _ _ _ _ us hl => match us, hl with | [_], _ => rfl), G0⟩
  have G2 := ok_common_of (P := P) (wd := wd) (mg := mg) (base := base) F2 m_gcd
  have h_common_of : Cl P wd K mg base 1 "common_of" ["numbers"] (spP K 1 c_common_of) := ⟨_, _, PySem.W.mg_of X G a2, k2, F2.binds (fun _ _ _ _ _ _ us hl => match us, hl with | [_], _ => rfl), G2⟩
  have G4 := ok_plus (P := P) (wd := wd) (mg := mg) (base := base) F4 
  have h_plus : Cl P wd K mg base 1 "plus" ["number", "other"] (spP K 2 c_plus) := ⟨_, _, PySem.W.mg_of X G a4, k4, F4.binds (fun _ _ _ _ _ _ us hl => match us, hl with | [_, _], _ => rfl), G4⟩
  have G5 := ok_minus (P := P) (wd := wd) (mg := mg) (base := base) F5 
  have h_minus : Cl P wd K mg base 1 "minus" ["number", "other"] (spP K 2 c_minus) := ⟨_, _, PySem.W.mg_of X G a5, k5, F5.binds (fun _ _ _ _ _ _ us hl => match us, hl with | [_, _], _ => rfl), G5⟩
  have G6 := ok_negative (P := P) (wd := wd) (mg := mg) (base := base) F6 
  have h_negative : Cl P wd K mg base 1 "negative" ["number"] (spP K 1 c_negative) := ⟨_, _, PySem.W.mg_of X G a6, k6, F6.binds (fun _ _ _ _ _ _ us hl => match us, hl with | [_], _ => rfl), G6⟩
  have G7 := ok_times (P := P) (wd := wd) (mg := mg) (base := base) F7 
  have h_times : Cl P wd K mg base 1 "times" ["number", "other"] (spP K 2 c_times) := ⟨_, _, PySem.W.mg_of X G a7, k7, F7.binds (fun _ _ _ _ _ _ us hl => match us, hl with | [_, _], _ => rfl), G7⟩
  have G8 := ok_scaled (P := P) (wd := wd) (mg := mg) (base := base) F8 
  have h_scaled : Cl P wd K mg base 1 "scaled" ["number", "whole"] (spP K 2 c_scaled) := ⟨_, _, PySem.W.mg_of X G a8, k8, F8.binds (fun _ _ _ _ _ _ us hl => match us, hl with | [_, _], _ => rfl), G8⟩
  have G9 := ok_conjugate_of (P := P) (wd := wd) (mg := mg) (base := base) F9 
  have h_conjugate_of : Cl P wd K mg base 1 "conjugate_of" ["number"] (spP K 1 c_conjugate_of) := ⟨_, _, PySem.W.mg_of X G a9, k9, F9.binds (fun _ _ _ _ _ _ us hl => match us, hl with | [_], _ => rfl), G9⟩
  have G10 := ok_norm_of (P := P) (wd := wd) (mg := mg) (base := base) F10 
  have h_norm_of : Cl P wd K mg base 1 "norm_of" ["number"] (spP K 1 c_norm_of) := ⟨_, _, PySem.W.mg_of X G a10, k10, F10.binds (fun _ _ _ _ _ _ us hl => match us, hl with | [_], _ => rfl), G10⟩
  have G11 := ok_is_quarter (P := P) (wd := wd) (mg := mg) (base := base) F11 
  have h_is_quarter : Cl P wd K mg base 1 "is_quarter" ["number"] (spP K 1 c_is_quarter) := ⟨_, _, PySem.W.mg_of X G a11, k11, F11.binds (fun _ _ _ _ _ _ us hl => match us, hl with | [_], _ => rfl), G11⟩
  have G12 := ok_turned (P := P) (wd := wd) (mg := mg) (base := base) F12 
  have h_turned : Cl P wd K mg base 1 "turned" ["number"] (spP K 1 c_turned) := ⟨_, _, PySem.W.mg_of X G a12, k12, F12.binds (fun _ _ _ _ _ _ us hl => match us, hl with | [_], _ => rfl), G12⟩
  have G27 := ok_upper_and_lower (P := P) (wd := wd) (mg := mg) (base := base) F27 
  have h_upper_and_lower : Cl P wd K mg base 1 "upper_and_lower" ["place"] (spP K 1 c_upper_and_lower) := ⟨_, _, PySem.W.mg_of X G a27, k27, F27.binds (fun _ _ _ _ _ _ us hl => match us, hl with | [_], _ => rfl), G27⟩
  have G44 := ok_law_tank (P := P) (wd := wd) (mg := mg) (base := base) F44 z_int z_len z_abs
  have h_law_tank : Cl P wd K mg base 1 "_law_tank" ["_law_script", "_law_spot"] (spF K 2 c_law_tank) := ⟨_, _, PySem.W.mg_of X G a44, k44, F44.binds (fun _ _ _ _ _ _ us hl => match us, hl with | [_, _], _ => rfl), G44⟩
  have G45 := ok_law_draw (P := P) (wd := wd) (mg := mg) (base := base) F45 z_divmod z_int
  have h_law_draw : Cl P wd K mg base 1 "_law_draw" ["_law_tank_here", "_law_many"] (spT K 2 c_law_draw) := ⟨_, _, PySem.W.mg_of X G a45, k45, F45.binds (fun _ _ _ _ _ _ us hl => match us, hl with | [_, _], _ => rfl), G45⟩
  have G47 := ok_law_rounds (P := P) (wd := wd) (mg := mg) (base := base) F47 z_max z_min z_len
  have h_law_rounds : Cl P wd K mg base 1 "_law_rounds" ["_law_script"] (spP K 1 c_law_rounds) := ⟨_, _, PySem.W.mg_of X G a47, k47, F47.binds (fun _ _ _ _ _ _ us hl => match us, hl with | [_], _ => rfl), G47⟩
  have G49 := ok_law_least (P := P) (wd := wd) (mg := mg) (base := base) F49 z_abs z_int z_tuple
  have h_law_least : Cl P wd K mg base 1 "_law_least" ["_law_numbers"] (spP K 1 c_law_least) := ⟨_, _, PySem.W.mg_of X G a49, k49, F49.binds (fun _ _ _ _ _ _ us hl => match us, hl with | [_], _ => rfl), G49⟩
  have G50 := ok_law_plus (P := P) (wd := wd) (mg := mg) (base := base) F50 
  have h_law_plus : Cl P wd K mg base 1 "_law_plus" ["_law_one", "_law_two"] (spP K 2 c_law_plus) := ⟨_, _, PySem.W.mg_of X G a50, k50, F50.binds (fun _ _ _ _ _ _ us hl => match us, hl with | [_, _], _ => rfl), G50⟩
  have G51 := ok_law_less (P := P) (wd := wd) (mg := mg) (base := base) F51 
  have h_law_less : Cl P wd K mg base 1 "_law_less" ["_law_one", "_law_two"] (spP K 2 c_law_less) := ⟨_, _, PySem.W.mg_of X G a51, k51, F51.binds (fun _ _ _ _ _ _ us hl => match us, hl with | [_, _], _ => rfl), G51⟩
  have G52 := ok_law_times (P := P) (wd := wd) (mg := mg) (base := base) F52 
  have h_law_times : Cl P wd K mg base 1 "_law_times" ["_law_one", "_law_two"] (spP K 2 c_law_times) := ⟨_, _, PySem.W.mg_of X G a52, k52, F52.binds (fun _ _ _ _ _ _ us hl => match us, hl with | [_, _], _ => rfl), G52⟩
  have G53 := ok_law_star (P := P) (wd := wd) (mg := mg) (base := base) F53 
  have h_law_star : Cl P wd K mg base 1 "_law_star" ["_law_one"] (spP K 1 c_law_star) := ⟨_, _, PySem.W.mg_of X G a53, k53, F53.binds (fun _ _ _ _ _ _ us hl => match us, hl with | [_], _ => rfl), G53⟩
  have G54 := ok_law_size (P := P) (wd := wd) (mg := mg) (base := base) F54 
  have h_law_size : Cl P wd K mg base 1 "_law_size" ["_law_one"] (spP K 1 c_law_size) := ⟨_, _, PySem.W.mg_of X G a54, k54, F54.binds (fun _ _ _ _ _ _ us hl => match us, hl with | [_], _ => rfl), G54⟩
  have G55 := ok_law_quarter (P := P) (wd := wd) (mg := mg) (base := base) F55 z_range
  have h_law_quarter : Cl P wd K mg base 1 "_law_quarter" ["_law_one"] (spP K 1 c_law_quarter) := ⟨_, _, PySem.W.mg_of X G a55, k55, F55.binds (fun _ _ _ _ _ _ us hl => match us, hl with | [_], _ => rfl), G55⟩
  have G69 := ok_law_stays (P := P) (wd := wd) (mg := mg) (base := base) F69 
  have h_law_stays : Cl P wd K mg base 1 "_law_stays" [] (spP K 0 c_law_stays) := ⟨_, _, PySem.W.mg_of X G a69, k69, F69.binds (fun _ _ _ _ _ _ us hl => match us, hl with | [], _ => rfl), G69⟩
  have k_law_stays : ClK P wd K mg base 1 "_law_stays" [] (spP K 0 c_law_stays) := ⟨_, _, PySem.W.mg_of X G a69, k69, kb_of F69 (fun _ _ _ _ _ _ us hl => match us, hl with | [], _ => rfl), G69⟩
  have G1 := ok_are_wholes (P := P) (wd := wd) (mg := mg) (base := base) F1 h_is_whole z_isinstance z_tuple z_len z_all
  have h_are_wholes : Cl P wd K mg base 2 "are_wholes" ["value", "many"] (spP K 2 c_are_wholes) := ⟨_, _, PySem.W.mg_of X G a1, k1, F1.binds (fun _ _ _ _ _ _ us hl => match us, hl with | [_, _], _ => rfl), G1⟩
  have G3 := ok_reduced (P := P) (wd := wd) (mg := mg) (base := base) F3 h_common_of z_tuple
  have h_reduced : Cl P wd K mg base 2 "reduced" ["numbers"] (spP K 1 c_reduced) := ⟨_, _, PySem.W.mg_of X G a3, k3, F3.binds (fun _ _ _ _ _ _ us hl => match us, hl with | [_], _ => rfl), G3⟩
  have G13 := ok_quarter_of (P := P) (wd := wd) (mg := mg) (base := base) F13 h_is_quarter h_turned g_NOUGHT
  have h_quarter_of : Cl P wd K mg base 2 "quarter_of" ["number"] (spP K 1 c_quarter_of) := ⟨_, _, PySem.W.mg_of X G a13, k13, F13.binds (fun _ _ _ _ _ _ us hl => match us, hl with | [_], _ => rfl), G13⟩
  have G14 := ok_exact_quotient (P := P) (wd := wd) (mg := mg) (base := base) F14 h_norm_of h_times h_conjugate_of
  have h_exact_quotient : Cl P wd K mg base 2 "exact_quotient" ["number", "other"] (spP K 2 c_exact_quotient) := ⟨_, _, PySem.W.mg_of X G a14, k14, F14.binds (fun _ _ _ _ _ _ us hl => match us, hl with | [_, _], _ => rfl), G14⟩
  have G15 := ok_rest_of (P := P) (wd := wd) (mg := mg) (base := base) F15 h_norm_of h_times h_conjugate_of h_minus
  have h_rest_of : Cl P wd K mg base 2 "rest_of" ["number", "other"] (spP K 2 c_rest_of) := ⟨_, _, PySem.W.mg_of X G a15, k15, F15.binds (fun _ _ _ _ _ _ us hl => match us, hl with | [_, _], _ => rfl), G15⟩
  have G20 := ok_determinant (P := P) (wd := wd) (mg := mg) (base := base) F20 h_minus h_times
  have h_determinant : Cl P wd K mg base 2 "determinant" ["numbers"] (spP K 1 c_determinant) := ⟨_, _, PySem.W.mg_of X G a20, k20, F20.binds (fun _ _ _ _ _ _ us hl => match us, hl with | [_], _ => rfl), G20⟩
  have G21 := ok_matrix_product (P := P) (wd := wd) (mg := mg) (base := base) F21 h_plus h_times
  have h_matrix_product : Cl P wd K mg base 2 "matrix_product" ["numbers", "others"] (spP K 2 c_matrix_product) := ⟨_, _, PySem.W.mg_of X G a21, k21, F21.binds (fun _ _ _ _ _ _ us hl => match us, hl with | [_, _], _ => rfl), G21⟩
  have G22 := ok_adjugate (P := P) (wd := wd) (mg := mg) (base := base) F22 h_negative
  have h_adjugate : Cl P wd K mg base 2 "adjugate" ["numbers"] (spP K 1 c_adjugate) := ⟨_, _, PySem.W.mg_of X G a22, k22, F22.binds (fun _ _ _ _ _ _ us hl => match us, hl with | [_], _ => rfl), G22⟩
  have G23 := ok_conjugates (P := P) (wd := wd) (mg := mg) (base := base) F23 h_conjugate_of z_tuple
  have h_conjugates : Cl P wd K mg base 2 "conjugates" ["numbers"] (spP K 1 c_conjugates) := ⟨_, _, PySem.W.mg_of X G a23, k23, F23.binds (fun _ _ _ _ _ _ us hl => match us, hl with | [_], _ => rfl), G23⟩
  have G24 := ok_led_parts (P := P) (wd := wd) (mg := mg) (base := base) F24 h_plus h_times h_scaled
  have h_led_parts : Cl P wd K mg base 2 "led_parts" ["numbers", "number", "under"] (spP K 3 c_led_parts) := ⟨_, _, PySem.W.mg_of X G a24, k24, F24.binds (fun _ _ _ _ _ _ us hl => match us, hl with | [_, _, _], _ => rfl), G24⟩
  have G33 := ok_is_flag (P := P) (wd := wd) (mg := mg) (base := base) F33 h_is_whole
  have h_is_flag : Cl P wd K mg base 2 "is_flag" ["value"] (spP K 1 c_is_flag) := ⟨_, _, PySem.W.mg_of X G a33, k33, F33.binds (fun _ _ _ _ _ _ us hl => match us, hl with | [_], _ => rfl), G33⟩
  have G40 := ok_require_number (P := P) (wd := wd) (mg := mg) (base := base) F40 h_is_whole g_MOST
  have h_require_number : Cl P wd K mg base 2 "_require_number" ["many"] (spP K 1 c_require_number) := ⟨_, _, PySem.W.mg_of X G a40, k40, F40.binds (fun _ _ _ _ _ _ us hl => match us, hl with | [_], _ => rfl), G40⟩
  have G46 := ok_law_pick (P := P) (wd := wd) (mg := mg) (base := base) F46 h_law_draw z_len
  have h_law_pick : Cl P wd K mg base 2 "_law_pick" ["_law_tank_here", "_law_some"] (spT K 2 c_law_pick) := ⟨_, _, PySem.W.mg_of X G a46, k46, F46.binds (fun _ _ _ _ _ _ us hl => match us, hl with | [_, _], _ => rfl), G46⟩
  have G56 := ok_law_over (P := P) (wd := wd) (mg := mg) (base := base) F56 h_law_size h_law_times h_law_star z_int
  have h_law_over : Cl P wd K mg base 2 "_law_over" ["_law_one", "_law_two"] (spP K 2 c_law_over) := ⟨_, _, PySem.W.mg_of X G a56, k56, F56.binds (fun _ _ _ _ _ _ us hl => match us, hl with | [_, _], _ => rfl), G56⟩
  have G57 := ok_law_common (P := P) (wd := wd) (mg := mg) (base := base) F57 h_law_size h_law_times h_law_star h_law_less z_range
  have h_law_common : Cl P wd K mg base 2 "_law_common" ["_law_numbers"] (spP K 1 c_law_common) := ⟨_, _, PySem.W.mg_of X G a57, k57, F57.binds (fun _ _ _ _ _ _ us hl => match us, hl with | [_], _ => rfl), G57⟩
  have G60 := ok_law_place_of (P := P) (wd := wd) (mg := mg) (base := base) F60 h_law_times h_law_star h_law_least h_law_size
  have h_law_place_of : Cl P wd K mg base 2 "_law_place_of" ["_law_one", "_law_two"] (spP K 2 c_law_place_of) := ⟨_, _, PySem.W.mg_of X G a60, k60, F60.binds (fun _ _ _ _ _ _ us hl => match us, hl with | [_, _], _ => rfl), G60⟩
  have G63 := ok_law_det (P := P) (wd := wd) (mg := mg) (base := base) F63 h_law_less h_law_times
  have h_law_det : Cl P wd K mg base 2 "_law_det" ["_law_numbers"] (spP K 1 c_law_det) := ⟨_, _, PySem.W.mg_of X G a63, k63, F63.binds (fun _ _ _ _ _ _ us hl => match us, hl with | [_], _ => rfl), G63⟩
  have G18 := ok_divisor_by_steps (P := P) (wd := wd) (mg := mg) (base := base) F18 h_rest_of g_NOUGHT
  have h_divisor_by_steps : Cl P wd K mg base 3 "_divisor_by_steps" ["number", "other"] (spP K 2 c_divisor_by_steps) := ⟨_, _, PySem.W.mg_of X G a18, k18, F18.binds (fun _ _ _ _ _ _ us hl => match us, hl with | [_, _], _ => rfl), G18⟩
  have G19 := ok_is_complex (P := P) (wd := wd) (mg := mg) (base := base) F19 h_are_wholes
  have h_is_complex : Cl P wd K mg base 3 "is_complex" ["value"] (spP K 1 c_is_complex) := ⟨_, _, PySem.W.mg_of X G a19, k19, F19.binds (fun _ _ _ _ _ _ us hl => match us, hl with | [_], _ => rfl), G19⟩
  have G25 := ok_is_place (P := P) (wd := wd) (mg := mg) (base := base) F25 h_are_wholes h_common_of g_FAR
  have h_is_place : Cl P wd K mg base 3 "is_place" ["value"] (spP K 1 c_is_place) := ⟨_, _, PySem.W.mg_of X G a25, k25, F25.binds (fun _ _ _ _ _ _ us hl => match us, hl with | [_], _ => rfl), G25⟩
  have G28 := ok_quotient_place (P := P) (wd := wd) (mg := mg) (base := base) F28 h_times h_conjugate_of h_reduced h_norm_of g_NOUGHT g_FAR
  have h_quotient_place : Cl P wd K mg base 3 "quotient_place" ["number", "other"] (spP K 2 c_quotient_place) := ⟨_, _, PySem.W.mg_of X G a28, k28, F28.binds (fun _ _ _ _ _ _ us hl => match us, hl with | [_, _], _ => rfl), G28⟩
  have G48 := ok_law_small (P := P) (wd := wd) (mg := mg) (base := base) F48 h_law_pick h_law_draw
  have h_law_small : Cl P wd K mg base 3 "_law_small" ["_law_tank_here"] (spT K 1 c_law_small) := ⟨_, _, PySem.W.mg_of X G a48, k48, F48.binds (fun _ _ _ _ _ _ us hl => match us, hl with | [_], _ => rfl), G48⟩
  have G62 := ok_law_map (P := P) (wd := wd) (mg := mg) (base := base) F62 h_law_common h_law_over h_law_quarter h_law_times
  have h_law_map : Cl P wd K mg base 3 "_law_map" ["_law_flag", "_law_numbers"] (spP K 2 c_law_map) := ⟨_, _, PySem.W.mg_of X G a62, k62, F62.binds (fun _ _ _ _ _ _ us hl => match us, hl with | [_, _], _ => rfl), G62⟩
  have G66 := ok_law_led (P := P) (wd := wd) (mg := mg) (base := base) F66 h_law_plus h_law_times h_law_place_of
  have h_law_led : Cl P wd K mg base 3 "_law_led" ["_law_chart", "_law_place"] (spP K 2 c_law_led) := ⟨_, _, PySem.W.mg_of X G a66, k66, F66.binds (fun _ _ _ _ _ _ us hl => match us, hl with | [_, _], _ => rfl), G66⟩
  have G17 := ok_divisor_of_two (P := P) (wd := wd) (mg := mg) (base := base) F17 h_rest_of h_times h_conjugate_of h_common_of h_norm_of h_divisor_by_steps g_NOUGHT
  have h_divisor_of_two : Cl P wd K mg base 4 "_divisor_of_two" ["number", "other"] (spP K 2 c_divisor_of_two) := ⟨_, _, PySem.W.mg_of X G a17, k17, F17.binds (fun _ _ _ _ _ _ us hl => match us, hl with | [_, _], _ => rfl), G17⟩
  have G26 := ok_require_place (P := P) (wd := wd) (mg := mg) (base := base) F26 h_is_place
  have h_require_place : Cl P wd K mg base 4 "require_place" ["place"] (spP K 1 c_require_place) := ⟨_, _, PySem.W.mg_of X G a26, k26, F26.binds (fun _ _ _ _ _ _ us hl => match us, hl with | [_], _ => rfl), G26⟩
  have G32 := ok_place_led (P := P) (wd := wd) (mg := mg) (base := base) F32 h_upper_and_lower h_led_parts h_conjugate_of h_quotient_place
  have h_place_led : Cl P wd K mg base 4 "place_led" ["chart", "place"] (spP K 2 c_place_led) := ⟨_, _, PySem.W.mg_of X G a32, k32, F32.binds (fun _ _ _ _ _ _ us hl => match us, hl with | [_, _], _ => rfl), G32⟩
  have G37 := ok_plain_trace_ratio (P := P) (wd := wd) (mg := mg) (base := base) F37 h_plus h_quotient_place h_times h_determinant
  have h_plain_trace_ratio : Cl P wd K mg base 4 "_plain_trace_ratio" ["chart"] (spP K 1 c_plain_trace_ratio) := ⟨_, _, PySem.W.mg_of X G a37, k37, F37.binds (fun _ _ _ _ _ _ us hl => match us, hl with | [_], _ => rfl), G37⟩
  have G58 := ok_law_near (P := P) (wd := wd) (mg := mg) (base := base) F58 h_law_least h_law_small h_law_draw h_law_pick
  have h_law_near : Cl P wd K mg base 4 "_law_near" ["_law_tank_here"] (spT K 1 c_law_near) := ⟨_, _, PySem.W.mg_of X G a58, k58, F58.binds (fun _ _ _ _ _ _ us hl => match us, hl with | [_], _ => rfl), G58⟩
  have G61 := ok_law_little (P := P) (wd := wd) (mg := mg) (base := base) F61 h_law_small
  have h_law_little : Cl P wd K mg base 4 "_law_little" ["_law_tank_here"] (spT K 1 c_law_little) := ⟨_, _, PySem.W.mg_of X G a61, k61, F61.binds (fun _ _ _ _ _ _ us hl => match us, hl with | [_], _ => rfl), G61⟩
  have G67 := ok_law_after (P := P) (wd := wd) (mg := mg) (base := base) F67 h_law_star h_law_plus h_law_times h_law_map
  have h_law_after : Cl P wd K mg base 4 "_law_after" ["_law_one", "_law_two"] (spP K 2 c_law_after) := ⟨_, _, PySem.W.mg_of X G a67, k67, F67.binds (fun _ _ _ _ _ _ us hl => match us, hl with | [_, _], _ => rfl), G67⟩
  have G68 := ok_law_backward (P := P) (wd := wd) (mg := mg) (base := base) F68 h_law_star h_law_map
  have h_law_backward : Cl P wd K mg base 4 "_law_backward" ["_law_one"] (spP K 1 c_law_backward) := ⟨_, _, PySem.W.mg_of X G a68, k68, F68.binds (fun _ _ _ _ _ _ us hl => match us, hl with | [_], _ => rfl), G68⟩
  have G73 := ok_law_laid (P := P) (wd := wd) (mg := mg) (base := base) F73 h_law_draw h_law_pick h_law_map k_law_stays
  have h_law_laid : Cl P wd K mg base 4 "_law_laid" ["_law_tank_here"] (spT K 1 c_law_laid) := ⟨_, _, PySem.W.mg_of X G a73, k73, F73.binds (fun _ _ _ _ _ _ us hl => match us, hl with | [_], _ => rfl), G73⟩
  have G16 := ok_divisor_of (P := P) (wd := wd) (mg := mg) (base := base) F16 h_norm_of h_divisor_of_two h_quarter_of z_sorted g_NOUGHT
  have h_divisor_of : Cl P wd K mg base 5 "divisor_of" ["numbers"] (spP K 1 c_divisor_of) := ⟨_, _, PySem.W.mg_of X G a16, k16, F16.binds (fun _ _ _ _ _ _ us hl => match us, hl with | [_], _ => rfl), G16⟩
  have G38 := ok_plain_return (P := P) (wd := wd) (mg := mg) (base := base) F38 h_plain_trace_ratio g_STAYS gt_RETURNS
  have h_plain_return : Cl P wd K mg base 5 "_plain_return" ["chart"] (spP K 1 c_plain_return) := ⟨_, _, PySem.W.mg_of X G a38, k38, F38.binds (fun _ _ _ _ _ _ us hl => match us, hl with | [_], _ => rfl), G38⟩
  have G59 := ok_law_any_place (P := P) (wd := wd) (mg := mg) (base := base) F59 h_law_draw h_law_near
  have h_law_any_place : Cl P wd K mg base 5 "_law_any_place" ["_law_tank_here"] (spT K 1 c_law_any_place) := ⟨_, _, PySem.W.mg_of X G a59, k59, F59.binds (fun _ _ _ _ _ _ us hl => match us, hl with | [_], _ => rfl), G59⟩
  have G64 := ok_law_four (P := P) (wd := wd) (mg := mg) (base := base) F64 h_law_draw h_law_little h_law_det z_range
  have h_law_four : Cl P wd K mg base 5 "_law_four" ["_law_tank_here"] (spT K 1 c_law_four) := ⟨_, _, PySem.W.mg_of X G a64, k64, F64.binds (fun _ _ _ _ _ _ us hl => match us, hl with | [_], _ => rfl), G64⟩
  have G70 := ok_law_power (P := P) (wd := wd) (mg := mg) (base := base) F70 h_law_backward h_law_after k_law_stays z_range z_abs
  have h_law_power : Cl P wd K mg base 5 "_law_power" ["_law_chart", "_law_many"] (spP K 2 c_law_power) := ⟨_, _, PySem.W.mg_of X G a70, k70, F70.binds (fun _ _ _ _ _ _ us hl => match us, hl with | [_, _], _ => rfl), G70⟩
  have G29 := ok_map_from (P := P) (wd := wd) (mg := mg) (base := base) F29 h_divisor_of h_exact_quotient h_is_quarter h_turned z_tuple g_NOUGHT
  have h_map_from : Cl P wd K mg base 6 "map_from" ["flag", "numbers", "multiple"] (spP K 3 c_map_from) := ⟨_, _, PySem.W.mg_of X G a29, k29, bindsFull F29 3 (by intro z; cases z) rfl (fun _ _ _ _ _ _ _ us its h1 h2 => match us, h1, its, h2 with | [_, _, _], _, [_], _ => ⟨_, rfl, rfl⟩), G29⟩
  have d_map_from : ClD P wd K mg base 6 "map_from" ["flag", "numbers", "multiple"] [(.tuple [(.int 0), (.int 0)])] (spP K 3 c_map_from) := by
    obtain ⟨ds, r, bb⟩ := F29.binds1 (ps := ["flag", "numbers", "multiple"]) 2 0 (by intro z; cases z) rfl (fun _ _ _ _ _ _ _ us its h1 h2 => match us, h1, its, h2 with | [_, _], _, [_], _ => ⟨_, rfl, rfl⟩)
    exact ⟨_, _, _, ds, PySem.W.mg_of X G a29, k29, bb, r, dd_tup da29 (Nat.le_of_ble_eq_true rfl) (fun H => .cons (.int _) (.cons (.int _) (.nil))) (.cons ⟨_, rfl⟩ (.cons ⟨_, rfl⟩ (.nil))), G29⟩
  have G65 := ok_law_drawn_map (P := P) (wd := wd) (mg := mg) (base := base) F65 h_law_map h_law_draw h_law_four
  have h_law_drawn_map : Cl P wd K mg base 6 "_law_drawn_map" ["_law_tank_here"] (spT K 1 c_law_drawn_map) := ⟨_, _, PySem.W.mg_of X G a65, k65, F65.binds (fun _ _ _ _ _ _ us hl => match us, hl with | [_], _ => rfl), G65⟩
  have G30 := ok_joined (P := P) (wd := wd) (mg := mg) (base := base) F30 h_conjugates h_map_from h_matrix_product h_determinant
  have h_joined : Cl P wd K mg base 7 "joined" ["chart", "other"] (spP K 2 c_joined) := ⟨_, _, PySem.W.mg_of X G a30, k30, F30.binds (fun _ _ _ _ _ _ us hl => match us, hl with | [_, _], _ => rfl), G30⟩
  have G31 := ok_back_of (P := P) (wd := wd) (mg := mg) (base := base) F31 h_adjugate h_conjugates d_map_from
  have h_back_of : Cl P wd K mg base 7 "back_of" ["chart"] (spP K 1 c_back_of) := ⟨_, _, PySem.W.mg_of X G a31, k31, F31.binds (fun _ _ _ _ _ _ us hl => match us, hl with | [_], _ => rfl), G31⟩
  have G34 := ok_is_map (P := P) (wd := wd) (mg := mg) (base := base) F34 h_is_flag h_is_complex h_determinant d_map_from z_isinstance z_tuple z_len z_all g_NOUGHT
  have h_is_map : Cl P wd K mg base 7 "is_map" ["value"] (spP K 1 c_is_map) := ⟨_, _, PySem.W.mg_of X G a34, k34, F34.binds (fun _ _ _ _ _ _ us hl => match us, hl with | [_], _ => rfl), G34⟩
  have G35 := ok_require_map (P := P) (wd := wd) (mg := mg) (base := base) F35 h_is_map
  have h_require_map : Cl P wd K mg base 8 "require_map" ["chart"] (spP K 1 c_require_map) := ⟨_, _, PySem.W.mg_of X G a35, k35, F35.binds (fun _ _ _ _ _ _ us hl => match us, hl with | [_], _ => rfl), G35⟩
  have G41 := ok_power (P := P) (wd := wd) (mg := mg) (base := base) F41 h_back_of h_joined z_range z_abs g_STAYS
  have h_power : Cl P wd K mg base 8 "_power" ["chart", "many"] (spP K 2 c_power) := ⟨_, _, PySem.W.mg_of X G a41, k41, F41.binds (fun _ _ _ _ _ _ us hl => match us, hl with | [_, _], _ => rfl), G41⟩
  have G36 := ok_after (P := P) (wd := wd) (mg := mg) (base := base) F36 h_require_map h_joined
  have h_after : Cl P wd K mg base 9 "after" ["chart", "other"] (spP K 2 c_after) := ⟨_, _, PySem.W.mg_of X G a36, k36, F36.binds (fun _ _ _ _ _ _ us hl => match us, hl with | [_, _], _ => rfl), G36⟩
  have G39 := ok_return_of (P := P) (wd := wd) (mg := mg) (base := base) F39 h_require_map h_plain_return h_joined
  have h_return_of : Cl P wd K mg base 9 "return_of" ["chart"] (spP K 1 c_return_of) := ⟨_, _, PySem.W.mg_of X G a39, k39, F39.binds (fun _ _ _ _ _ _ us hl => match us, hl with | [_], _ => rfl), G39⟩
  have k_return_of : ClK P wd K mg base 9 "return_of" ["chart"] (spP K 1 c_return_of) := ⟨_, _, PySem.W.mg_of X G a39, k39, kb_of F39 (fun _ _ _ _ _ _ us hl => match us, hl with | [_], _ => rfl), G39⟩
  have G42 := ok_power_of (P := P) (wd := wd) (mg := mg) (base := base) F42 h_require_map h_require_number h_power
  have h_power_of : Cl P wd K mg base 9 "power_of" ["chart", "many"] (spP K 2 c_power_of) := ⟨_, _, PySem.W.mg_of X G a42, k42, F42.binds (fun _ _ _ _ _ _ us hl => match us, hl with | [_, _], _ => rfl), G42⟩
  have k_power_of : ClK P wd K mg base 9 "power_of" ["chart", "many"] (spP K 2 c_power_of) := ⟨_, _, PySem.W.mg_of X G a42, k42, kb_of F42 (fun _ _ _ _ _ _ us hl => match us, hl with | [_, _], _ => rfl), G42⟩
  have G43 := ok_place_after (P := P) (wd := wd) (mg := mg) (base := base) F43 h_require_map h_require_place h_require_number h_place_led h_power
  have h_place_after : Cl P wd K mg base 9 "place_after" ["chart", "place", "many"] (spP K 3 c_place_after) := ⟨_, _, PySem.W.mg_of X G a43, k43, F43.binds (fun _ _ _ _ _ _ us hl => match us, hl with | [_, _, _], _ => rfl), G43⟩
  have k_place_after : ClK P wd K mg base 9 "place_after" ["chart", "place", "many"] (spP K 3 c_place_after) := ⟨_, _, PySem.W.mg_of X G a43, k43, kb_of F43 (fun _ _ _ _ _ _ us hl => match us, hl with | [_, _, _], _ => rfl), G43⟩
  have G71 := ok_law_powers_right (P := P) (wd := wd) (mg := mg) (base := base) F71 h_law_power h_power_of h_law_after h_law_led h_place_after h_after k_power_of k_law_stays k_place_after z_repr
  have h_law_powers_right : Cl P wd K mg base 10 "_law_powers_right" ["_law_chart", "_law_one", "_law_two", "_law_place"] (spP K 4 c_law_powers_right) := ⟨_, _, PySem.W.mg_of X G a71, k71, F71.binds (fun _ _ _ _ _ _ us hl => match us, hl with | [_, _, _, _], _ => rfl), G71⟩
  have G72 := ok_law_far_right (P := P) (wd := wd) (mg := mg) (base := base) F72 h_law_little h_law_pick h_law_draw h_law_map h_power_of h_law_times z_repr z_range z_int
  have h_law_far_right : Cl P wd K mg base 10 "_law_far_right" ["_law_tank_here"] (spT K 1 c_law_far_right) := ⟨_, _, PySem.W.mg_of X G a72, k72, F72.binds (fun _ _ _ _ _ _ us hl => match us, hl with | [_], _ => rfl), G72⟩
  have G74 := ok_law_return_right (P := P) (wd := wd) (mg := mg) (base := base) F74 h_return_of h_power_of k_return_of k_law_stays z_repr z_range
  have h_law_return_right : Cl P wd K mg base 10 "_law_return_right" ["_law_chart", "_law_many"] (spP K 2 c_law_return_right) := ⟨_, _, PySem.W.mg_of X G a74, k74, F74.binds (fun _ _ _ _ _ _ us hl => match us, hl with | [_, _], _ => rfl), G74⟩
  have G75 := ok_law_any_right (P := P) (wd := wd) (mg := mg) (base := base) F75 h_law_after h_law_plus h_law_place_of h_law_times h_law_det h_return_of k_law_stays z_repr
  have h_law_any_right : Cl P wd K mg base 10 "_law_any_right" ["_law_chart"] (spP K 1 c_law_any_right) := ⟨_, _, PySem.W.mg_of X G a75, k75, F75.binds (fun _ _ _ _ _ _ us hl => match us, hl with | [_], _ => rfl), G75⟩
  have G76 := ok_law_right (P := P) (wd := wd) (mg := mg) (base := base) F76 h_law_drawn_map h_law_any_place h_law_draw h_law_powers_right h_law_far_right h_law_laid h_law_after h_law_backward h_law_return_right h_law_any_right
  have h_law_right : Cl P wd K mg base 11 "_law_right" ["_law_tank_here"] (spT K 1 c_law_right) := ⟨_, _, PySem.W.mg_of X G a76, k76, F76.binds (fun _ _ _ _ _ _ us hl => match us, hl with | [_], _ => rfl), G76⟩
  exact ok_law (P := P) (wd := wd) (mg := mg) (base := base) F77 h_law_rounds h_law_right h_law_tank z_range
end Lk22
open PySem PySem.W PyProof.Rows
set_option maxRecDepth 100000 in
set_option maxHeartbeats 0 in
theorem PySem.Challenge.cw_drawarms_k22_whole_powers_and_returns_holds : PySem.Challenge.rw_drawarms_k22_whole_powers_and_returns.Holds := by
  w_on; o_law; k_head; (case hw => w_witness2)
  k_fill
  refine Z.walkG (l := PySem.Challenge.rw_drawarms_k22_whole_powers_and_returns) (k := 12) (x := "_law_script") (C := Lk22.c_law) rfl rfl ⟨rfl, by decide, by decide⟩ (fun w h Y => PySem.W.kIn_of Y) ?F Lk22.law_all
  case F =>
    intro w mg fa h KX G hmg
    refine' Lk22.all_mk KX G hmg ?a0 ?l0 ?c0 ?k0 ?a1 ?l1 ?c1 ?k1 ?a2 ?l2 ?c2 ?k2 ?a3 ?l3 ?c3 ?k3 ?a4 ?l4 ?c4 ?k4 ?a5 ?l5 ?c5 ?k5 ?a6 ?l6 ?c6 ?k6 ?a7 ?l7 ?c7 ?k7 ?a8 ?l8 ?c8 ?k8 ?a9 ?l9 ?c9 ?k9 ?a10 ?l10 ?c10 ?k10 ?a11 ?l11 ?c11 ?k11 ?a12 ?l12 ?c12 ?k12 ?a13 ?l13 ?c13 ?k13 ?a14 ?l14 ?c14 ?k14 ?a15 ?l15 ?c15 ?k15 ?a16 ?l16 ?c16 ?k16 ?a17 ?l17 ?c17 ?k17 ?a18 ?l18 ?c18 ?k18 ?a19 ?l19 ?c19 ?k19 ?a20 ?l20 ?c20 ?k20 ?a21 ?l21 ?c21 ?k21 ?a22 ?l22 ?c22 ?k22 ?a23 ?l23 ?c23 ?k23 ?a24 ?l24 ?c24 ?k24 ?a25 ?l25 ?c25 ?k25 ?a26 ?l26 ?c26 ?k26 ?a27 ?l27 ?c27 ?k27 ?a28 ?l28 ?c28 ?k28 ?a29 ?l29 ?c29 ?dl29 ?da29 ?k29 ?a30 ?l30 ?c30 ?k30 ?a31 ?l31 ?c31 ?k31 ?a32 ?l32 ?c32 ?k32 ?a33 ?l33 ?c33 ?k33 ?a34 ?l34 ?c34 ?k34 ?a35 ?l35 ?c35 ?k35 ?a36 ?l36 ?c36 ?k36 ?a37 ?l37 ?c37 ?k37 ?a38 ?l38 ?c38 ?k38 ?a39 ?l39 ?c39 ?k39 ?a40 ?l40 ?c40 ?k40 ?a41 ?l41 ?c41 ?k41 ?a42 ?l42 ?c42 ?k42 ?a43 ?l43 ?c43 ?k43 ?a44 ?l44 ?c44 ?k44 ?a45 ?l45 ?c45 ?k45 ?a46 ?l46 ?c46 ?k46 ?a47 ?l47 ?c47 ?k47 ?a48 ?l48 ?c48 ?k48 ?a49 ?l49 ?c49 ?k49 ?a50 ?l50 ?c50 ?k50 ?a51 ?l51 ?c51 ?k51 ?a52 ?l52 ?c52 ?k52 ?a53 ?l53 ?c53 ?k53 ?a54 ?l54 ?c54 ?k54 ?a55 ?l55 ?c55 ?k55 ?a56 ?l56 ?c56 ?k56 ?a57 ?l57 ?c57 ?k57 ?a58 ?l58 ?c58 ?k58 ?a59 ?l59 ?c59 ?k59 ?a60 ?l60 ?c60 ?k60 ?a61 ?l61 ?c61 ?k61 ?a62 ?l62 ?c62 ?k62 ?a63 ?l63 ?c63 ?k63 ?a64 ?l64 ?c64 ?k64 ?a65 ?l65 ?c65 ?k65 ?a66 ?l66 ?c66 ?k66 ?a67 ?l67 ?c67 ?k67 ?a68 ?l68 ?c68 ?k68 ?a69 ?l69 ?c69 ?k69 ?a70 ?l70 ?c70 ?k70 ?a71 ?l71 ?c71 ?k71 ?a72 ?l72 ?c72 ?k72 ?a73 ?l73 ?c73 ?k73 ?a74 ?l74 ?c74 ?k74 ?a75 ?l75 ?c75 ?k75 ?a76 ?l76 ?c76 ?k76 ?a77 ?l77 ?c77 ?k77 ?z_isinstance ?z_int ?z_bool ?z_tuple ?z_len ?z_all ?z_sorted ?z_range ?z_abs ?z_divmod ?z_max ?z_min ?z_repr ?m_gcd ?gp_RETURNS_q ?gq_RETURNS_q ?ds_RETURNS_q ?de_RETURNS_q ?gl0_RETURNS_q ?dh0_RETURNS_q ?gl1_RETURNS_q ?dh1_RETURNS_q ?gl2_RETURNS_q ?dh2_RETURNS_q ?gl3_RETURNS_q ?dh3_RETURNS_q ?ga_NOUGHT_q ?gl_NOUGHT_q ?ga_FAR_q ?gl_FAR_q ?ga_STAYS_q ?gl_STAYS_0_q ?gl_STAYS_1_q ?gl_STAYS_2_q ?gl_STAYS_3_q ?gl_STAYS_4_q ?ga_MOST_q
    (case a0 => k_is); (case l0 => k_is); (case c0 => k_is); (case k0 => k_is); (case a1 => k_is); (case l1 => k_is); (case c1 => k_is); (case k1 => k_is)
    (case a2 => k_is); (case l2 => k_is); (case c2 => k_is); (case k2 => k_is); (case a3 => k_is); (case l3 => k_is); (case c3 => k_is); (case k3 => k_is)
    (case a4 => k_is); (case l4 => k_is); (case c4 => k_is); (case k4 => k_is); (case a5 => k_is); (case l5 => k_is); (case c5 => k_is); (case k5 => k_is)
    (case a6 => k_is); (case l6 => k_is); (case c6 => k_is); (case k6 => k_is); (case a7 => k_is); (case l7 => k_is); (case c7 => k_is); (case k7 => k_is)
    (case a8 => k_is); (case l8 => k_is); (case c8 => k_is); (case k8 => k_is); (case a9 => k_is); (case l9 => k_is); (case c9 => k_is); (case k9 => k_is)
    (case a10 => k_is); (case l10 => k_is); (case c10 => k_is); (case k10 => k_is); (case a11 => k_is); (case l11 => k_is); (case c11 => k_is); (case k11 => k_is)
    (case a12 => k_is); (case l12 => k_is); (case c12 => k_is); (case k12 => k_is); (case a13 => k_is); (case l13 => k_is); (case c13 => k_is); (case k13 => k_is)
    (case a14 => k_is); (case l14 => k_is); (case c14 => k_is); (case k14 => k_is); (case a15 => k_is); (case l15 => k_is); (case c15 => k_is); (case k15 => k_is)
    (case a16 => k_is); (case l16 => k_is); (case c16 => k_is); (case k16 => k_is); (case a17 => k_is); (case l17 => k_is); (case c17 => k_is); (case k17 => k_is)
    (case a18 => k_is); (case l18 => k_is); (case c18 => k_is); (case k18 => k_is); (case a19 => k_is); (case l19 => k_is); (case c19 => k_is); (case k19 => k_is)
    (case a20 => k_is); (case l20 => k_is); (case c20 => k_is); (case k20 => k_is); (case a21 => k_is); (case l21 => k_is); (case c21 => k_is); (case k21 => k_is)
    (case a22 => k_is); (case l22 => k_is); (case c22 => k_is); (case k22 => k_is); (case a23 => k_is); (case l23 => k_is); (case c23 => k_is); (case k23 => k_is)
    (case a24 => k_is); (case l24 => k_is); (case c24 => k_is); (case k24 => k_is); (case a25 => k_is); (case l25 => k_is); (case c25 => k_is); (case k25 => k_is)
    (case a26 => k_is); (case l26 => k_is); (case c26 => k_is); (case k26 => k_is); (case a27 => k_is); (case l27 => k_is); (case c27 => k_is); (case k27 => k_is)
    (case a28 => k_is); (case l28 => k_is); (case c28 => k_is); (case k28 => k_is); (case a29 => k_is); (case l29 => k_is); (case c29 => k_is); (case dl29 => k_is)
    (case da29 => k_is); (case k29 => k_is); (case a30 => k_is); (case l30 => k_is); (case c30 => k_is); (case k30 => k_is); (case a31 => k_is); (case l31 => k_is)
    (case c31 => k_is); (case k31 => k_is); (case a32 => k_is); (case l32 => k_is); (case c32 => k_is); (case k32 => k_is); (case a33 => k_is); (case l33 => k_is)
    (case c33 => k_is); (case k33 => k_is); (case a34 => k_is); (case l34 => k_is); (case c34 => k_is); (case k34 => k_is); (case a35 => k_is); (case l35 => k_is)
    (case c35 => k_is); (case k35 => k_is); (case a36 => k_is); (case l36 => k_is); (case c36 => k_is); (case k36 => k_is); (case a37 => k_is); (case l37 => k_is)
    (case c37 => k_is); (case k37 => k_is); (case a38 => k_is); (case l38 => k_is); (case c38 => k_is); (case k38 => k_is); (case a39 => k_is); (case l39 => k_is)
    (case c39 => k_is); (case k39 => k_is); (case a40 => k_is); (case l40 => k_is); (case c40 => k_is); (case k40 => k_is); (case a41 => k_is); (case l41 => k_is)
    (case c41 => k_is); (case k41 => k_is); (case a42 => k_is); (case l42 => k_is); (case c42 => k_is); (case k42 => k_is); (case a43 => k_is); (case l43 => k_is)
    (case c43 => k_is); (case k43 => k_is); (case a44 => k_is); (case l44 => k_is); (case c44 => k_is); (case k44 => k_is); (case a45 => k_is); (case l45 => k_is)
    (case c45 => k_is); (case k45 => k_is); (case a46 => k_is); (case l46 => k_is); (case c46 => k_is); (case k46 => k_is); (case a47 => k_is); (case l47 => k_is)
    (case c47 => k_is); (case k47 => k_is); (case a48 => k_is); (case l48 => k_is); (case c48 => k_is); (case k48 => k_is); (case a49 => k_is); (case l49 => k_is)
    (case c49 => k_is); (case k49 => k_is); (case a50 => k_is); (case l50 => k_is); (case c50 => k_is); (case k50 => k_is); (case a51 => k_is); (case l51 => k_is)
    (case c51 => k_is); (case k51 => k_is); (case a52 => k_is); (case l52 => k_is); (case c52 => k_is); (case k52 => k_is); (case a53 => k_is); (case l53 => k_is)
    (case c53 => k_is); (case k53 => k_is); (case a54 => k_is); (case l54 => k_is); (case c54 => k_is); (case k54 => k_is); (case a55 => k_is); (case l55 => k_is)
    (case c55 => k_is); (case k55 => k_is); (case a56 => k_is); (case l56 => k_is); (case c56 => k_is); (case k56 => k_is); (case a57 => k_is); (case l57 => k_is)
    (case c57 => k_is); (case k57 => k_is); (case a58 => k_is); (case l58 => k_is); (case c58 => k_is); (case k58 => k_is); (case a59 => k_is); (case l59 => k_is)
    (case c59 => k_is); (case k59 => k_is); (case a60 => k_is); (case l60 => k_is); (case c60 => k_is); (case k60 => k_is); (case a61 => k_is); (case l61 => k_is)
    (case c61 => k_is); (case k61 => k_is); (case a62 => k_is); (case l62 => k_is); (case c62 => k_is); (case k62 => k_is); (case a63 => k_is); (case l63 => k_is)
    (case c63 => k_is); (case k63 => k_is); (case a64 => k_is); (case l64 => k_is); (case c64 => k_is); (case k64 => k_is); (case a65 => k_is); (case l65 => k_is)
    (case c65 => k_is); (case k65 => k_is); (case a66 => k_is); (case l66 => k_is); (case c66 => k_is); (case k66 => k_is); (case a67 => k_is); (case l67 => k_is)
    (case c67 => k_is); (case k67 => k_is); (case a68 => k_is); (case l68 => k_is); (case c68 => k_is); (case k68 => k_is); (case a69 => k_is); (case l69 => k_is)
    (case c69 => k_is); (case k69 => k_is); (case a70 => k_is); (case l70 => k_is); (case c70 => k_is); (case k70 => k_is); (case a71 => k_is); (case l71 => k_is)
    (case c71 => k_is); (case k71 => k_is); (case a72 => k_is); (case l72 => k_is); (case c72 => k_is); (case k72 => k_is); (case a73 => k_is); (case l73 => k_is)
    (case c73 => k_is); (case k73 => k_is); (case a74 => k_is); (case l74 => k_is); (case c74 => k_is); (case k74 => k_is); (case a75 => k_is); (case l75 => k_is)
    (case c75 => k_is); (case k75 => k_is); (case a76 => k_is); (case l76 => k_is); (case c76 => k_is); (case k76 => k_is); (case a77 => k_is); (case l77 => k_is)
    (case c77 => k_is); (case k77 => k_is); (case z_isinstance => k_is); (case z_int => k_is); (case z_bool => k_is); (case z_tuple => k_is); (case z_len => k_is); (case z_all => k_is)
    (case z_sorted => k_is); (case z_range => k_is); (case z_abs => k_is); (case z_divmod => k_is); (case z_max => k_is); (case z_min => k_is); (case z_repr => k_is); (case m_gcd => k_is)
    (case gp_RETURNS_q => k_is); (case gq_RETURNS_q => k_is); (case ds_RETURNS_q => rfl); (case de_RETURNS_q => rfl); (case gl0_RETURNS_q => k_is); (case dh0_RETURNS_q => decide +kernel); (case gl1_RETURNS_q => k_is); (case dh1_RETURNS_q => decide +kernel)
    (case gl2_RETURNS_q => k_is); (case dh2_RETURNS_q => decide +kernel); (case gl3_RETURNS_q => k_is); (case dh3_RETURNS_q => decide +kernel); (case ga_NOUGHT_q => k_is); (case gl_NOUGHT_q => k_is); (case ga_FAR_q => k_is); (case gl_FAR_q => k_is)
    (case ga_STAYS_q => k_is); (case gl_STAYS_0_q => k_is); (case gl_STAYS_1_q => k_is); (case gl_STAYS_2_q => k_is); (case gl_STAYS_3_q => k_is); (case gl_STAYS_4_q => k_is); (case ga_MOST_q => k_is)
