import PyProof.Rows.All
import Wide.All
import OpenK.AllK
import Wide.FinOn
import HandS.ForMost
import HandS.Zip
import KE.GoesZip
import KE.GoesMore
import KE.GoesEnum
import HandS.Conv
import HandS.Wide
import HandS.More
import HandS.SortRule
import PySem.Challenge.RW_pupilpairs_k17_whole_calls_one_to_one
import HandS.Evl
set_option Elab.async false
set_option maxRecDepth 100000
set_option maxHeartbeats 2000000
namespace Zst
open PySem PySem.Spec PyProof.Rows L2

/-- what a zip of the text x and the tuple at b yields -/
def ItzS (K : PySem.W.Frag) (x : Str) (b : Addr) : It :=
  ⟨fun i H => ∃ (ys : List V) (c : Nat) (y : V), SqT K H b ys ∧ x.cps[i]? = some c ∧ ys[i]? = some y,
    fun i H v H' => ∃ (T : Addr) (c : Nat) (y : V), v = .ref T ∧ H T = none ∧ H' = upd H T (.tup [.str ⟨#[c]⟩, y]) ∧ x.cps[i]? = some c ∧ ∀ ys, SqT K H b ys → ys[i]? = some y,
    fun i H => ∃ ys : List V, SqT K H b ys ∧ ((x.cps.size = i ∧ i ≤ ys.length) ∨ (ys.length = i ∧ i ≤ x.cps.size))⟩

def tnS (z TI TO i1 i2 b : Addr) (x : Str) (t : Tok) (i : Nat) (h : Heap) : Prop :=
  IsZip h z TI TO .none ∧ IsTupOf2 h TI (.ref i1) (.ref i2) ∧ (∃ u v, IsTupOf2 h TO u v) ∧ h.IsStrIter i1 (strIterType x) x t i ∧ h.IsTupleIter i2 b i

theorem turnS {P : Program} {w : World} {K : PySem.W.Frag} {elts : List Expr} {kk : Nat} {tpos : Pos} {z TI TO i1 i2 b : Addr} {x : Str} {t : Tok} (D : ZipSep2 z TI TO i1 i2 [i1] [i2, b]) (hbi : b ≠ i2) :
    Turn P w K (.Tuple elts kk tpos) (ItzS K x b) [z, TI, TO, i1, i2] z (tnS z TI TO i1 i2 b x t) where
  mem := by simp
  obj := by
    rintro i h ⟨g1, g2, ⟨u, v, g3⟩, ⟨o4, g4, _, d4⟩, ⟨o5, g5, _, d5⟩⟩ c hc
    have hc' : c = z ∨ c = TI ∨ c = TO ∨ c = i1 ∨ c = i2 := by simpa using hc
    rcases hc' with rfl | rfl | rfl | rfl | rfl
    · exact ⟨_, g1, fun _ q => nomatch q⟩
    · exact ⟨_, g2, fun _ q => nomatch q⟩
    · exact ⟨_, g3, fun _ q => nomatch q⟩
    · exact ⟨_, g4, fun _ q => by rw [d4] at q; cases q⟩
    · exact ⟨_, g5, fun _ q => by rw [d5] at q; cases q⟩
  keep := by
    rintro i h h' ⟨g1, g2, ⟨u, v, g3⟩, ⟨o4, g4, r4⟩, g5⟩ k
    exact ⟨k z (by simp) _ g1, k TI (by simp) _ g2, ⟨u, v, k TO (by simp) _ g3⟩, ⟨o4, k i1 (by simp) _ g4, r4⟩, g5.at fun o q => k i2 (by simp) o q⟩
  item := by
    intro X hP hw hK hc i pins s σ H E I hf st hg
    subst hP hw hK
    obtain ⟨g1, g2, ⟨u, v, g3⟩, g4, g5⟩ := st
    obtain ⟨ys, c, y, hq, hcx, hy⟩ := hg
    obtain ⟨its, rv, p, _⟩ := I.tuple hq
    have hd : X.A.handled = none := I.ok.hd hc
    have hi1 : i < x.cps.size := (Array.getElem?_eq_some_iff.mp hcx).1
    have hi2 : i < its.toArray.size := by
      have q1 := (List.getElem?_eq_some_iff.mp hy).1
      have q2 := rv.length
      simp
      omega
    have D1 := Draws.text (prog := X.prog) (w := X.w) (A := X.A.in1) hd i1 x t
    have D2 := Draws.tuple (prog := X.prog) (w := X.w) (A := X.A.in1) hd i2 b hbi its.toArray
    refine wpAny_pyNext_zipD2_item D D1 D2 g1 g2 g3 g4 ⟨g5, p⟩ hi1 hi2 fun x1 x2 h' tk e1 e2 b1 b2 d1 d2 b5 b6 b7 => ?_
    have zlt : z < s.heap.objs.size := Heap.lt_size g1
    refine ⟨_, rfl, wpAny_letOwnedTupleGo_zip (s := { s with heap := h', toks := tk }) b1 fun h'' c1 sb => ?_⟩
    obtain ⟨cc, tt, hcc, rfl⟩ := e1
    have ecc : cc = c := Option.some.inj (hcc.symm.trans hcx)
    subst ecc
    obtain ⟨u2, hu2, ru2⟩ := rv.get hy
    have eu : x2 = u2 := by
      have q : its.toArray[i]? = some x2 := e2
      rw [List.getElem?_toArray, hu2] at q
      exact (Option.some.inj q).symm
    subst eu
    have hT : h''.get? s.heap.objs.size = some { cls := .type "tuple", data := .seq #[Value.str ⟨#[cc]⟩ tt, x2] } := (sb.2 _ (Nat.ne_of_gt zlt)).trans b5
    have new : ObjOk X.prog X.w (upd H s.heap.objs.size (.tup [.str ⟨#[cc]⟩, y])) h'' s.heap.objs.size (.tup [.str ⟨#[cc]⟩, y]) :=
      ⟨by show 2 ≤ sizeLine; decide, [Value.str ⟨#[cc]⟩ tt, x2], .cons ⟨tt, rfl⟩ (.cons ru2 .nil), ⟨_, hT, rfl, _, rfl⟩⟩
    have keepAll : ∀ a o, a ≠ z → a ≠ TO → a ≠ i1 → a ≠ i2 → s.heap.get? a = some o → h''.get? a = some o := fun a o n1 n2 n3 n4 q => (sb.2 a n1).trans (b7 a o n1 n2 n3 n4 q)
    have I1 : Inv X pins σ (upd H s.heap.objs.size (.tup [.str ⟨#[cc]⟩, y])) { s with heap := h'', toks := tk } :=
      I.turnedNew (t' := tk) (ch := [z, TI, TO, i1, i2]) (fun a o ha q => keepAll a o (fun q' => ha (by simp [q'])) (fun q' => ha (by simp [q'])) (fun q' => ha (by simp [q'])) (fun q' => ha (by simp [q'])) q) hf (Nat.le_refl _) new
    have d2' := d2.1
    refine ⟨.ref s.heap.objs.size, _, I1, rfl, ⟨_, cc, y, rfl, I.hok.fresh (Nat.le_refl _), rfl, hcx, fun l hl => by rw [I.tuple_inj hl hq]; exact hy⟩, ⟨c1, ?_, ⟨_, _, (sb.2 _ D.TOz).trans b2⟩, ?_, ?_⟩, fun a ha => ?_⟩
    · exact keepAll TI _ D.TIz D.TITO D.TIi1 D.TIi2 g2
    · obtain ⟨o4, q4, r4⟩ := d1
      exact ⟨o4, (sb.2 _ D.zi1.symm).trans q4, r4⟩
    · exact d2'.at fun o q => (sb.2 _ D.zi2.symm).trans q
    · have alt : a < s.heap.objs.size := by
        have ha' : a = z ∨ a = TI ∨ a = TO ∨ a = i1 ∨ a = i2 := by simpa using ha
        rcases ha' with rfl | rfl | rfl | rfl | rfl
        · exact zlt
        · exact Heap.lt_size g2
        · exact Heap.lt_size g3
        · obtain ⟨_, q, _⟩ := g4; exact Heap.lt_size q
        · obtain ⟨_, q, _⟩ := g5; exact Heap.lt_size q
      rw [upd_ne (Nat.ne_of_lt alt)]
      exact (hf a ha).1
  done := by
    intro X hP hw hK hc i pins s σ H E I hf st hg
    subst hP hw hK
    obtain ⟨g1, g2, ⟨u, v, g3⟩, g4, g5⟩ := st
    obtain ⟨ys, hq, hend⟩ := hg
    obtain ⟨its, rv, p, _⟩ := I.tuple hq
    have hd : X.A.handled = none := I.ok.hd hc
    have l2 := rv.length
    have D1 := Draws.text (prog := X.prog) (w := X.w) (A := X.A.in1) hd i1 x t
    have D2 := Draws.tuple (prog := X.prog) (w := X.w) (A := X.A.in1) hd i2 b hbi its.toArray
    have sz : its.toArray.size = ys.length := by simp [l2]
    refine wpAny_pyNext_zipD2_end D D1 D2 g1 g2 g3 g4 ⟨g5, p⟩ (by omega) (by omega) (by omega) fun h' tk hk => ⟨rfl, ?_⟩
    exact I.turnedL (t' := tk) (ch := [z, TI, TO, i1, i2]) (fun a o ha q => hk a o (fun q' => ha (by simp [q'])) (fun q' => ha (by simp [q'])) (fun q' => ha (by simp [q'])) (fun q' => ha (by simp [q'])) q) hf
  self := fun A i s Q E st h => wpAny_pyIter_zip st.1 h

def iZipS (K : PySem.W.Frag) (ta : TA) : TI := fun σ H R => ta σ H fun vs H1 => ∃ (x : Str) (b : Addr) (ys : List V), vs = [.str x, .ref b] ∧ SqT K H1 b ys ∧ R (ItzS K x b) H1

theorem pi_zipS {X : Cx} {e e2 : Expr} {ta : TA} {p pos tpos : Pos} {elts : List Expr} {kk : Nat} (hg : Gl X "zip") (hm : X.mg "zip" = none) (ha : PA X [e, e2] ta)
    (hs : starEach [e, e2] X.env = (false, eval e X.env) :: starEach [e2] X.env := by rfl) (hpl : (backTo pos (starEach [e2] X.env)).any (·.1) = false := by rfl) :
    PI X (.Tuple elts kk tpos) (.Call (.Name "zip" p) [e, e2] [] pos) (iZipS X.K ta) := by
  constructor
  intro pins s σ H R I h
  refine Call_ (ld_blt I hg hm PyProof.Rows.boot_zip (PyProof.Rows.callWith_type1 (thn (ha.run pos pins s σ H _ I h) ?_) hs hpl))
  rintro us s1 ⟨vs, H1, I1, r1, x, b, ys, rfl, hq, q⟩
  match us, r1 with
  | _, .cons (b := u1) ⟨t, e1⟩ (.cons (b := u2) e2 .nil) =>
    subst e1
    have e2' : u2 = Value.ref b := e2
    subst e2'
    obtain ⟨its, rv, p1, _⟩ := I1.tuple hq
    have p1' : s1.heap.IsTuple b its.toArray := p1
    have blt : b < s1.heap.objs.size := by
      obtain ⟨_, q1, _⟩ := id p1
      exact Heap.lt_size q1
    refine zip_begins2 (begins_text x t) (begins_tuple b its.toArray) trivial p1' fun h' c1 c2 c3 c4 c5 hsz hk => wpAny_pyIter_zip c1 ?_
    have I2 : Inv X pins σ H1 { s1 with heap := h' } := I1.kept (t' := s1.toks) hk
    have D : ZipSep2 (s1.heap.objs.size + 4) (s1.heap.objs.size + 2) (s1.heap.objs.size + 3) s1.heap.objs.size (s1.heap.objs.size + 1) [s1.heap.objs.size] [s1.heap.objs.size + 1, b] :=
      zip_sep2 (fp1 := []) (fp2 := [b]) (fun c hc => nomatch hc) (fun c hc => by rw [List.mem_singleton.mp hc]; exact blt)
    refine ⟨s1.heap.objs.size + 4, [s1.heap.objs.size + 4, s1.heap.objs.size + 2, s1.heap.objs.size + 3, s1.heap.objs.size, s1.heap.objs.size + 1], _, _, H1, rfl, I2, turnS (x := x) (t := t) D (Nat.ne_of_lt (Nat.lt_succ_of_lt blt)), ⟨c1, c2, ⟨_, _, c3⟩, ⟨_, c4, rfl, rfl⟩, ⟨_, c5, rfl, rfl⟩⟩, fun c hc => ?_, q⟩
    have hc' : c = s1.heap.objs.size + 4 ∨ c = s1.heap.objs.size + 2 ∨ c = s1.heap.objs.size + 3 ∨ c = s1.heap.objs.size ∨ c = s1.heap.objs.size + 1 := by simpa using hc
    have hle : s1.heap.objs.size ≤ c := by
      rcases hc' with e | e | e | e | e
      all_goals first | exact e ▸ Nat.le_add_right _ _ | exact e ▸ Nat.le_refl _
    exact I1.fpOk hle (I1.hok.fresh hle)
end Zst

set_option Elab.async false
set_option maxRecDepth 100000
set_option maxHeartbeats 2000000
set_option linter.all false
/-! symbolic execution over the hand layer: what stays (Ex), and one rule a reading -/
namespace Sx
open PySem PySem.Spec PyProof.Rows L2

/-- not the four cells of a bag -/
def NB (o : HO) : Prop := ∀ x y z c, o ≠ .lst [.int x, .int y, .int z, .ref c]
theorem NB.tup {xs : List V} : NB (.tup xs) := fun _ _ _ _ h => nomatch h
theorem NB.len {xs : List V} (h : xs.length ≠ 4) : NB (.lst xs) := fun _ _ _ _ e => h (by injection e with e; rw [e]; rfl)
theorem NB.at0 {v : V} {xs : List V} (h : ∀ i, v ≠ .int i) : NB (.lst (v :: xs)) := fun _ _ _ _ e => by
  injection e with e
  exact h _ (List.cons.inj e).1
theorem NB.at3 {a b c v : V} {xs : List V} (h : ∀ i, v ≠ .ref i) : NB (.lst (a :: b :: c :: v :: xs)) := fun _ _ _ _ e => by
  injection e with e
  exact h _ (List.cons.inj (List.cons.inj (List.cons.inj (List.cons.inj e).2).2).2).1
theorem NB.ints {ns : List Int} : NB (.lst (ns.map V.int)) := fun x y z c e => by
  injection e with e
  have h := congrArg (fun l : List V => l[3]?) e
  simp only [List.getElem?_map] at h
  cases q : ns[3]? with
  | none => rw [q] at h; cases h
  | some n => rw [q] at h; cases h
theorem NB.refs {l : List V} (h : ∀ v ∈ l, ∃ a, v = .ref a) : NB (.lst l) := fun x y z c e => by
  injection e with e
  obtain ⟨a, q⟩ := h (.int x) (by rw [e]; simp)
  cases q
theorem NB.frz {o : Obj} {u : HO} : NB (.frz o u) := fun _ _ _ _ h => nomatch h
theorem NB.ins {C dx : Addr} {fs : List (Str × V)} : NB (.ins C dx fs) := fun _ _ _ _ h => nomatch h
theorem NB.own {x : Addr} : NB (.own x) := fun _ _ _ _ h => nomatch h

structure BagC (b c : Addr) (H : Hp) : Prop where
  ex : ∃ (x y z : Int) (ns : List Int), H b = some (.lst [.int x, .int y, .int z, .ref c]) ∧ H c = some (.lst (ns.map V.int)) ∧ 0 ≤ x ∧ 0 ≤ y ∧ y < 2147483647 ∧ 0 ≤ z
def Bag (b : Addr) (H : Hp) : Prop := ∃ c, BagC b c H
/-- all but bags stands as it stood, bags are bags -/
structure Ex (H H' : Hp) : Prop where
  kp : ∀ a o, H a = some o → NB o → H' a = some o
  bg : ∀ b c, BagC b c H → BagC b c H'
section
variable {H H' H1 H2 : Hp} {p a b c l : Addr} {o u : HO}
theorem Ex.refl (H : Hp) : Ex H H := ⟨fun _ _ h _ => h, fun _ _ h => h⟩
theorem Ex.trans (e : Ex H H1) (f : Ex H1 H2) : Ex H H2 := ⟨fun a o h n => f.kp a o (e.kp a o h n) n, fun b c h => f.bg b c (e.bg b c h)⟩
theorem Ex.bag (e : Ex H H1) (h : Bag b H) : Bag b H1 := let ⟨c, q⟩ := h; ⟨c, e.bg b c q⟩
theorem Ex.new (h : H p = none) : Ex H (upd H p o) := by
  have all : ∀ a o', H a = some o' → upd H p o a = some o' := fun a o' e => by rw [upd_ne (ne_of_none e h)]; exact e
  exact ⟨fun a o' e _ => all a o' e, fun b c ⟨x, y, z, ns, e1, e2, r⟩ => ⟨x, y, z, ns, all _ _ e1, all _ _ e2, r⟩⟩
theorem Ex.mut (e : Ex H H1) (h : H l = none) : Ex H (upd H1 l o) := by
  refine ⟨fun a o' q n => ?_, fun b c q => ?_⟩
  · rw [upd_ne (ne_of_none q h)]
    exact e.kp a o' q n
  · obtain ⟨x0, y0, z0, ns0, k1, k2, _⟩ := id q
    obtain ⟨x, y, z, ns, e1, e2, r⟩ := e.bg b c q
    exact ⟨x, y, z, ns, by rw [upd_ne (ne_of_none k1 h)]; exact e1, by rw [upd_ne (ne_of_none k2 h)]; exact e2, r⟩
theorem Ex.fresh (e : Ex H H1) (h : H1 a = none) (n : NB o) : H a ≠ some o := fun q => by
  rw [e.kp a o q n] at h
  cases h
theorem bag_some (h : Bag b H) : ∃ o, H b = some o := let ⟨_, x, y, z, ns, e, _⟩ := h; ⟨_, e⟩
theorem bag_ne (h : Bag b H) (hp : H p = none) : b ≠ p := let ⟨_, e⟩ := bag_some h; ne_of_none e hp

/-! ### one rule a reading -/
variable {K : PySem.W.Frag} {σ : L2.St} {Q : VK} {v w : V} {D : Ends} {t u : TT} {ta tb te : TE} {A B : Prop}
theorem x_var {i : Nat} (hx : σ[i]? = some (some v)) (k : Q v H) : tVar i σ H Q := ⟨v, hx, k⟩
theorem x_c (k : Q v H) : tC v σ H Q := k
theorem x_op {r : R2} (k : ta σ H fun x H1 => tb σ H1 fun y H2 => r x y H2 Q) : tOp r ta tb σ H Q := k
theorem x_un {r : V → Hp → VK → Prop} (k : ta σ H fun x H1 => r x H1 Q) : tUn r ta σ H Q := k
theorem x_I0 {g : Int → Int → V} {i j : Int} (k : Q (g i j) H) : rI0 g (.int i) (.int j) H Q := ⟨i, j, rfl, rfl, k⟩
theorem x_I {C : Int → Int → Prop} {g : Int → Int → V} {i j : Int} (c : C i j) (k : Q (g i j) H) : rI C g (.int i) (.int j) H Q := ⟨i, j, rfl, rfl, c, k⟩
theorem x_U {g : Int → V} {i : Int} (k : Q (g i) H) : rU g (.int i) H Q := ⟨i, rfl, k⟩
theorem x_Eq (h : scal v w = true) (k : Q (.bl (decide (v = w))) H) : rEq v w H Q := ⟨h, k⟩
theorem x_Ne (h : scal v w = true) (k : Q (.bl (!decide (v = w))) H) : rNe v w H Q := ⟨h, k⟩
theorem x_EqI {i j : Int} (k : Q (.bl (decide (i = j))) H) : rEq (.int i) (.int j) H Q := ⟨rfl, by
  rw [show decide ((V.int i) = .int j) = decide (i = j) from decide_eq_decide.mpr ⟨fun h => V.int.inj h, fun h => by rw [h]⟩]; exact k⟩
theorem x_NeI {i j : Int} (k : Q (.bl (!decide (i = j))) H) : rNe (.int i) (.int j) H Q := ⟨rfl, by
  rw [show decide ((V.int i) = .int j) = decide (i = j) from decide_eq_decide.mpr ⟨fun h => V.int.inj h, fun h => by rw [h]⟩]; exact k⟩
theorem x_EqS {i j : Str} (k : Q (.bl (decide (i = j))) H) : rEq (.str i) (.str j) H Q := ⟨rfl, by
  rw [show decide ((V.str i) = .str j) = decide (i = j) from decide_eq_decide.mpr ⟨fun h => V.str.inj h, fun h => by rw [h]⟩]; exact k⟩
theorem x_NeS {i j : Str} (k : Q (.bl (!decide (i = j))) H) : rNe (.str i) (.str j) H Q := ⟨rfl, by
  rw [show decide ((V.str i) = .str j) = decide (i = j) from decide_eq_decide.mpr ⟨fun h => V.str.inj h, fun h => by rw [h]⟩]; exact k⟩
theorem x_EqD {d e : PyData} (h1 : Dp K H v d) (h2 : Dp K H w e) (s1 : SeqAt.shaped d = true) (s2 : SeqAt.shaped e = true) (k : Q (.bl (PyData.eqv d e)) H) : rEqD K v w H Q := ⟨d, e, h1, h2, s1, s2, k⟩
theorem x_NeD {d e : PyData} (h1 : Dp K H v d) (h2 : Dp K H w e) (s1 : SeqAt.shaped d = true) (s2 : SeqAt.shaped e = true) (k : Q (.bl (!PyData.eqv d e)) H) : rNeD K v w H Q := ⟨d, e, h1, h2, s1, s2, k⟩
theorem x_chain {r r' : R2} {tc : TE} (k : ta σ H fun x H1 => tb σ H1 fun y H2 => r x y H2 fun z H3 => ∃ k, z = .bl k ∧ (if k = true then tc σ H3 fun z' H4 => r' y z' H4 Q else Q (.bl false) H3)) : tChain r r' ta tb tc σ H Q := k
-- lists, tuples
theorem x_ixL {xs : List V} {i : Int} (h : H p = some (.lst xs)) (hi : atI xs i = some v) (k : Q v H) : rIxL K (.ref p) (.int i) H Q := ⟨p, xs, i, v, rfl, rfl, SqL.of h, hi, k⟩
theorem x_ixT {xs : List V} {i : Int} (h : H p = some (.tup xs)) (hi : atI xs i = some v) (k : Q v H) : rIxT K (.ref p) (.int i) H Q := ⟨p, xs, i, v, rfl, rfl, SqT.of h, hi, k⟩
/-- a new object -/
def LenNew (xs : List V) (o : HO) (H : Hp) (Q : VK) : Prop := xs.length ≤ sizeLine ∧ ∀ p, H p = none → Q (.ref p) (upd H p o)
def JustNew (o : HO) (H : Hp) (Q : VK) : Prop := ∀ p, H p = none → Q (.ref p) (upd H p o)
theorem x_lenNew {xs : List V} (hl : xs.length ≤ sizeLine) (k : ∀ p H1, Ex H H1 → H p = none → H1 p = some o → Q (.ref p) H1) : LenNew xs o H Q := ⟨hl, fun p hp => k p _ (Ex.new hp) hp upd_same⟩
theorem x_new (k : ∀ p H1, Ex H H1 → H p = none → H1 p = some o → Q (.ref p) H1) : JustNew o H Q := fun p hp => k p _ (Ex.new hp) hp upd_same
theorem x_tup {a : TA} (k : a σ H fun xs H1 => LenNew xs (.tup xs) H1 Q) : tTup a σ H Q := k
theorem x_lst {a : TA} (k : a σ H fun xs H1 => LenNew xs (.lst xs) H1 Q) : tLst a σ H Q := k
theorem x_sl {r : V → Option Int → Option Int → Hp → VK → Prop} {tl th : TO} (k : ta σ H fun x H1 => tl σ H1 fun l H2 => th σ H2 fun u H3 => r x l u H3 Q) : tSl r ta tl th σ H Q := k
theorem x_noPart {q : Option Int → Hp → Prop} (k : q none H) : tNoPart σ H q := k
theorem x_part {q : Option Int → Hp → Prop} (k : ta σ H fun x H1 => ∃ i, x = .int i ∧ q (some i) H1) : tPart ta σ H q := k
theorem x_ex_int {P : Int → Prop} {i : Int} (k : P i) : ∃ j, V.int i = .int j ∧ P j := ⟨i, rfl, k⟩
theorem x_slL {xs : List V} {lo hi : Option Int} (h : H a = some (.lst xs)) (k : JustNew (.lst (cutV xs lo hi)) H Q) : rSlL K (.ref a) lo hi H Q := ⟨a, xs, rfl, SqL.of h, k⟩
-- tests, statements
theorem x_ex_bl {P : Bool → Prop} {b : Bool} (k : P b) : ∃ c, V.bl b = .bl c ∧ P c := ⟨b, rfl, k⟩
theorem x_test {q : Bool → Hp → Prop} (k : ta σ H fun x H' => ∃ b, x = .bl b ∧ q b H') : tTest ta σ H q := k
theorem x_B {q : Bool → Hp → Prop} (k : ta σ H fun x H' => ∃ b, x = .bl b ∧ q b H') : tB ta σ H q := k
theorem x_and {q : Bool → Hp → Prop} (k : t σ H fun c H1 => if c = true then u σ H1 q else q false H1) : tAnd t u σ H q := k
theorem x_or {q : Bool → Hp → Prop} (k : t σ H fun c H1 => if c = true then q true H1 else u σ H1 q) : tOr t u σ H q := k
theorem x_not {q : Bool → Hp → Prop} (k : t σ H fun c H1 => q (!c) H1) : tNot t σ H q := k
theorem x_andV (k : ta σ H fun x H1 => ∃ c, x = .bl c ∧ if c = true then tb σ H1 Q else Q (.bl false) H1) : tAndV ta tb σ H Q := k
theorem x_orV (k : ta σ H fun x H1 => ∃ c, x = .bl c ∧ if c = true then Q (.bl true) H1 else tb σ H1 Q) : tOrV ta tb σ H Q := k
theorem x_notV (k : ta σ H fun x H1 => ∃ c, x = .bl c ∧ Q (.bl (!c)) H1) : tNotV ta σ H Q := k
theorem x_ifE (k : t σ H fun c H1 => if c = true then ta σ H1 Q else tb σ H1 Q) : tIf t ta tb σ H Q := k
theorem x_iteT (k : A) : if true = true then A else B := by rw [if_pos rfl]; exact k
theorem x_iteF (k : B) : if false = true then A else B := by rw [if_neg Bool.false_ne_true]; exact k
theorem x_iteD {c : Prop} [Decidable c] (k1 : c → A) (k2 : ¬ c → B) : if decide c = true then A else B := by
  by_cases h : c
  · rw [decide_eq_true h, if_pos rfl]; exact k1 h
  · rw [decide_eq_false h, if_neg Bool.false_ne_true]; exact k2 h
theorem x_iteN {c : Prop} [Decidable c] (k1 : ¬ c → A) (k2 : c → B) : if (!decide c) = true then A else B := by
  by_cases h : c
  · rw [decide_eq_true h]; exact x_iteF (k2 h)
  · rw [decide_eq_false h]; exact x_iteT (k1 h)
theorem x_iteB {c : Bool} (k1 : c = true → A) (k2 : c = false → B) : if c = true then A else B := by
  cases c with
  | true => exact x_iteT (k1 rfl)
  | false => exact x_iteF (k2 rfl)
theorem x_if {tu tw : TS} (k : t σ H fun b H1 => if b = true then tu D σ H1 else tw D σ H1) : tIfS t tu tw D σ H := k
theorem x_seq {tu tw : TS} (k : tu { D with nx := tw D } σ H) : tSeq tu tw D σ H := k
theorem x_next (k : D.nx σ H) : tNext D σ H := k
theorem x_asg {g : TG} (k : ta σ H fun x H1 => g x σ H1 D.nx) : tAsg ta g D σ H := k
theorem x_gName {i : Nat} {q : L2.St → Hp → Prop} (k : q (σ.set i (some v)) H) : gName i v σ H q := k
theorem x_gTup {n : Nat} {g : TGs} {q : L2.St → Hp → Prop} {xs : List V} (h : H p = some (.tup xs)) (hn : xs.length = n) (k : g xs σ H q) : gTup K n g (.ref p) σ H q := ⟨p, xs, rfl, SqT.of h, hn, k⟩
theorem x_gCons {g : TG} {gs : TGs} {vs : List V} {q : L2.St → Hp → Prop} (k : g v σ H fun σ' H' => gs vs σ' H' q) : gCons g gs (v :: vs) σ H q := ⟨v, vs, rfl, k⟩
theorem x_gNil {q : L2.St → Hp → Prop} (k : q σ H) : gNil [] σ H q := ⟨rfl, k⟩
theorem x_ret (k : ta σ H D.rt) : tRet ta D σ H := k
theorem x_drop (k : ta σ H fun _ H1 => D.nx σ H1) : tDrop ta D σ H := k
theorem x_par {i j : Nat} {a : TA} (k : a σ H fun vs H1 => ∃ v w, vs = [v, w] ∧ D.nx ((σ.set i (some v)).set j (some w)) H1) : tPar i j a D σ H := k
theorem x_ex_2 {P : V → V → Prop} (k : P v w) : ∃ a b, [v, w] = [a, b] ∧ P a b := ⟨v, w, rfl, k⟩
theorem x_aug {i : Nat} {ti : TIp} (hx : σ[i]? = some (some v)) (k : ta σ H fun y H1 => ti v y H1 fun z H2 => D.nx (σ.set i (some z)) H2) : tAug i ta ti D σ H := ⟨v, hx, k⟩
theorem x_ipI {f : Int → Int → Int} {i j : Int} (k : Q (.int (f i j)) H) : ipI f (.int i) (.int j) H Q := ⟨i, j, rfl, rfl, k⟩
theorem x_augS {to ti te : TE} {tget : V → V → Hp → VK → Prop} {tip : TIp} {tset : TSet} (k : to σ H fun o H1 => ti σ H1 fun i H2 => tget o i H2 fun x H3 => te σ H3 fun y H4 => tip x y H4 fun z H5 => tset o i z H5 fun H6 => D.nx σ H6) : tAugS to ti te tget tip tset D σ H := k
theorem x_gSub {to ti : TE} {s : TSet} {q : L2.St → Hp → Prop} (k : to σ H fun o H1 => ti σ H1 fun i H2 => s o i v H2 fun H3 => q σ H3) : gSub to ti s v σ H q := k
theorem x_setL {xs : List V} {i : Int} {j : Nat} {q : Hp → Prop} (h : H p = some (.lst xs)) (hi : ixN xs.length i = some j) (k : q (upd H p (.lst (xs.set j v)))) : rSetL (.ref p) (.int i) v H q := ⟨p, xs, i, j, rfl, rfl, h, hi, k⟩
theorem at_nat {xs : List V} {i : Int} (h0 : 0 ≤ i) (h : xs[i.toNat]? = some v) : atI xs i = some v := by
  have e : i = ((i.toNat : Nat) : Int) := by omega
  rw [e]
  exact atI_nat h
theorem at_map {ns : List Int} {i : Int} (h0 : 0 ≤ i) (h : i < ((ns.map V.int).length : Int)) : ∃ n, atI (ns.map V.int) i = some (.int n) := by
  rw [List.length_map] at h
  have hl : i.toNat < ns.length := by omega
  exact ⟨ns[i.toNat], at_nat h0 (by simp [hl])⟩
theorem Ex.bagTo {x0 y0 z0 x y z : Int} (hb : H b = some (.lst [.int x0, .int y0, .int z0, .ref c])) (same : ∀ a, a ≠ b → H' a = H a) (hb' : H' b = some (.lst [.int x, .int y, .int z, .ref c])) (hx : 0 ≤ x) (hy : 0 ≤ y) (hy2 : y < 2147483647) (hz : 0 ≤ z) : Ex H H' := by
  refine ⟨fun a o q n => ?_, fun b1 c1 q => ?_⟩
  · by_cases e : a = b
    · subst e
      rw [hb] at q
      exact absurd (Option.some.inj q).symm (n _ _ _ _)
    · rw [same a e]; exact q
  · obtain ⟨x1, y1, z1, ns1, k1, k2, k3⟩ := q
    have n2 : c1 ≠ b := fun e => by
      subst e
      rw [hb] at k2
      exact NB.ints _ _ _ _ (Option.some.inj k2).symm
    by_cases e : b1 = b
    · subst e
      rw [hb] at k1
      have ec : c = c1 := by
        injection k1 with k1
        injection k1 with k1
        exact V.ref.inj (List.cons.inj (List.cons.inj (List.cons.inj (List.cons.inj k1).2).2).2).1
      subst ec
      exact ⟨x, y, z, ns1, hb', by rw [same _ n2]; exact k2, hx, hy, hy2, hz⟩
    · exact ⟨x1, y1, z1, ns1, by rw [same _ e]; exact k1, by rw [same _ n2]; exact k2, k3⟩
-- calls
theorem x_cons {a : TA} {q : List V → Hp → Prop} (k : ta σ H fun x H1 => a σ H1 fun xs H2 => q (x :: xs) H2) : tCons ta a σ H q := k
theorem x_nil {q : List V → Hp → Prop} (k : q [] H) : tNil σ H q := k
theorem x_CB {r : List V → Hp → VK → Prop} {a : TA} (k : a σ H fun vs H1 => r vs H1 Q) : tCB r a σ H Q := k
/-- a promise: what it asks, what it gives -/
def Prom (pre : List V → Hp → Prop) (post : List V → V → Hp → Prop) : Sp := fun vs H Q _ => pre vs H ∧ ∀ v H1, Ex H H1 → post vs v H1 → Q v H1
theorem x_call {pre : List V → Hp → Prop} {post : List V → V → Hp → Prop} {E : XK} {a : TA} (k : a σ H fun vs H1 => pre vs H1 ∧ ∀ v H2, Ex H1 H2 → post vs v H2 → Q v H2) : tCall (Prom pre post) [] E a σ H Q := by
  show a σ H fun vs H1 => Prom pre post (vs ++ []) H1 Q E
  have e : (fun (vs : List V) (H1 : Hp) => Prom pre post (vs ++ []) H1 Q E) = fun vs H1 => pre vs H1 ∧ ∀ v H2, Ex H1 H2 → post vs v H2 → Q v H2 := by
    funext vs H1
    rw [List.append_nil]
    rfl
  rw [e]
  exact k
-- built-ins by name
def rAbs : List V → Hp → VK → Prop := fun xs H Q => ∃ i, xs = [.int i] ∧ Q (.int (if i < 0 then -i else i)) H
def rInt : List V → Hp → VK → Prop := fun xs H Q => (∃ i, xs = [.int i] ∧ Q (.int i) H) ∨ ∃ k, xs = [.bl k] ∧ Q (.int (if k then 1 else 0)) H
def rLen (K : PySem.W.Frag) : List V → Hp → VK → Prop := fun xs H Q => ∃ p ys, xs = [.ref p] ∧ (SqL K H p ys ∨ SqT K H p ys) ∧ Q (.int ys.length) H
theorem x_abs {i : Int} (k : Q (.int (if i < 0 then -i else i)) H) : rAbs [.int i] H Q := ⟨i, rfl, k⟩
theorem x_intI {i : Int} (k : Q (.int i) H) : rInt [.int i] H Q := .inl ⟨i, rfl, k⟩
theorem x_intB {b : Bool} (k : Q (.int (if b then 1 else 0)) H) : rInt [.bl b] H Q := .inr ⟨b, rfl, k⟩
theorem x_lenL {xs : List V} (h : H p = some (.lst xs)) (k : Q (.int xs.length) H) : rLen K [.ref p] H Q := ⟨p, xs, rfl, .inl (SqL.of h), k⟩
theorem x_lenT {xs : List V} (h : H p = some (.tup xs)) (k : Q (.int xs.length) H) : rLen K [.ref p] H Q := ⟨p, xs, rfl, .inr (SqT.of h), k⟩
end
section
variable {X : Cx}
theorem c_abs : CallR X (.builtin "abs") rAbs := call_abs
theorem c_int : CallR X (.type "int") rInt := call_int1
theorem c_len : CallR X (.builtin "len") (rLen X.K) := call_len_seq
/-- xs[i] read for xs[i] op= e -/
theorem get_list : PGet X (rIxL X.K) := by
  intro pins s σ H o i ov iv Q I ro ri h
  obtain ⟨p, xs, n, z, rfl, rfl, hq, he, q⟩ := h
  cases ro
  obtain ⟨t, rfl⟩ := ri
  obtain ⟨its, r, pl, hz⟩ := I.list hq
  obtain ⟨j, h1, h2, h3, h4, h5⟩ := atI_get he
  obtain ⟨w, ew, rw'⟩ := r.get h2
  have hl := r.length
  have hn := line63
  have fin : EP X pins σ Q w s := ⟨z, H, I, rw', q⟩
  by_cases h0 : 0 ≤ n
  · have hj : n.toNat = j := by
      rw [seqIndex_of h0 h5] at h1
      exact Option.some.inj h1
    exact wpAny_getItem_list pl.isList h0 (by omega) (by rw [hj]; simpa using ew) fin
  · have hj : (n + (its.toArray.size : Int)).toNat = j := by
      rw [seqIndex_neg (by omega) h4] at h1
      rw [List.size_toArray, ← hl]
      exact Option.some.inj h1
    exact wpAny_getItem_list_neg pl.isList (by omega) (by rw [List.size_toArray]; omega) (by omega) (by rw [hj]; simpa using ew) fin
end
end Sx

set_option Elab.async false
set_option linter.all false
set_option maxRecDepth 100000
set_option maxHeartbeats 2000000
namespace Sx
open PySem PySem.Spec PyProof.Rows L2

def isI : V → Bool
  | .int _ => true
  | _ => false
def isR : V → Bool
  | .ref _ => true
  | _ => false
theorem NB.at0b {v : V} {xs : List V} (h : isI v = false) : NB (.lst (v :: xs)) := NB.at0 fun i e => by rw [e] at h; cases h
theorem NB.at3b {a b c v : V} {xs : List V} (h : isR v = false) : NB (.lst (a :: b :: c :: v :: xs)) := NB.at3 fun i e => by rw [e] at h; cases h
/-- tuples stay -/
def Tx (H H' : Hp) : Prop := ∀ a xs, H a = some (.tup xs) → H' a = some (.tup xs)
section
variable {H H' H1 H2 : Hp} {p a b c l : Addr} {o u : HO} {K : PySem.W.Frag} {σ : L2.St} {Q : VK} {v w : V} {D : Ends} {t : TT} {ta tb te : TE} {A B : Prop}
theorem Ex.tx (e : Ex H H1) : Tx H H1 := fun a xs h => e.kp a _ h NB.tup
theorem Tx.set {d : Addr} {ys : List V} (h : H d = some (.lst ys)) : Tx H (upd H d o) := fun a xs q => by
  rw [upd_ne (ne_of q h (by intro z; cases z))]
  exact q
theorem Tx.new (h : H d = none) : Tx H (upd H d o) := fun a xs q => by
  rw [upd_ne (ne_of_none q h)]
  exact q
theorem Tx.trans (e : Tx H H1) (f : Tx H1 H2) : Tx H H2 := fun a xs h => f a xs (e a xs h)

/-- a comprehension: I tells the turn and what is made so far -/
theorem lc_any {J : It} {n : Nat} {g : TG} {vs : List Nat} (I : Nat → List V → Hp → Prop) (h0 : I 0 [] H1)
    (mono : ∀ i acc H H', Tx H H' → I i acc H → I i acc H') (nb : ∀ i acc H, I i acc H → NB (.lst acc) ∧ acc.length < sizeLine)
    (go : ∀ i H', i < n → Ex H1 H' → J.go i H') (stop : ∀ H', Ex H1 H' → J.stop n H')
    (turn : ∀ i acc x H' H'', i < n → Ex H1 H' → I i acc H' → J.yld i H' x H'' → ∀ kk : Option V → Hp → Prop, (∀ y H4, Ex H' H4 → I (i + 1) (acc ++ [y]) H4 → kk (some y) H4) → (∀ H4, Ex H' H4 → I (i + 1) acc H4 → kk none H4) →
      g x (wipe σ vs) H'' fun σ2 H2 => wipe σ2 vs = wipe σ vs ∧ t σ2 H2 fun b H3 => if b = true then te σ2 H3 (fun y H4 => kk (some y) H4) else kk none H3)
    (k : ∀ p ys H2, Ex H1 H2 → H1 p = none → H2 p = some (.lst ys) → I n ys H2 → Q (.ref p) H2) :
    ∀ D, H1 D = none → ∃ W : Nat → Nat → Hp → Prop, (∃ m, W 0 m (upd H1 D (.lst []))) ∧ ∀ i m H, W i m H →
      (J.stop i H ∧ Q (.ref D) H) ∨ (J.go i H ∧ ∃ Nx : Hp → Prop, (∀ H', Nx H' → ∃ m', m' < m ∧ W (i + 1) m' H') ∧ ∀ x H', J.yld i H x H' → g x (wipe σ vs) H' fun σ2 H2 => wipe σ2 vs = wipe σ vs ∧ t σ2 H2 fun b H3 =>
        if b = true then te σ2 H3 fun y H4 => ∃ acc, H4 D = some (.lst acc) ∧ acc.length < sizeLine ∧ Nx (upd H4 D (.lst (acc ++ [y]))) else Nx H3) := by
  intro D hD
  refine ⟨fun i m H => m = n - i ∧ i ≤ n ∧ Ex H1 H ∧ ∃ acc, H D = some (.lst acc) ∧ I i acc H, ⟨n, rfl, Nat.zero_le _, Ex.new hD, [], upd_same, mono _ _ _ _ (Tx.new hD) h0⟩, ?_⟩
  rintro i m H ⟨rfl, hi, e, acc, hd, hI⟩
  by_cases hlt : i < n
  · refine .inr ⟨go i H hlt e, fun H' => i + 1 ≤ n ∧ Ex H1 H' ∧ ∃ acc, H' D = some (.lst acc) ∧ I (i + 1) acc H', fun H' q => ⟨n - (i + 1), by omega, rfl, q⟩, fun x H' y => ?_⟩
    have nbA := nb _ _ _ hI
    refine turn i acc x H H' hlt e hI y (fun o H4 => match o with
      | some y => ∃ acc, H4 D = some (.lst acc) ∧ acc.length < sizeLine ∧ (i + 1 ≤ n ∧ Ex H1 (upd H4 D (.lst (acc ++ [y]))) ∧ ∃ acc', upd H4 D (.lst (acc ++ [y])) D = some (.lst acc') ∧ I (i + 1) acc' (upd H4 D (.lst (acc ++ [y]))))
      | none => i + 1 ≤ n ∧ Ex H1 H4 ∧ ∃ acc, H4 D = some (.lst acc) ∧ I (i + 1) acc H4) (fun y H4 e4 q => ?_) (fun H4 e4 q => ?_)
    · have hd4 := e4.kp _ _ hd nbA.1
      exact ⟨acc, hd4, nbA.2, hlt, Ex.mut (e.trans e4) hD, acc ++ [y], upd_same, mono _ _ _ _ (Tx.set hd4) q⟩
    · exact ⟨hlt, e.trans e4, acc, e4.kp _ _ hd nbA.1, q⟩
  · have ei : i = n := by omega
    subst ei
    exact .inl ⟨stop H e, k D acc H e hD hd hI⟩

def LcGo (J : It) (g : TG) (t : TT) (te : TE) (vs : List Nat) (σ : L2.St) (H1 : Hp) (Q : VK) : Prop := ∀ D, H1 D = none → ∃ W : Nat → Nat → Hp → Prop, (∃ m, W 0 m (upd H1 D (.lst []))) ∧ ∀ i m H, W i m H →
      (J.stop i H ∧ Q (.ref D) H) ∨ (J.go i H ∧ ∃ Nx : Hp → Prop, (∀ H', Nx H' → ∃ m', m' < m ∧ W (i + 1) m' H') ∧ ∀ x H', J.yld i H x H' → g x (wipe σ vs) H' fun σ2 H2 => wipe σ2 vs = wipe σ vs ∧ t σ2 H2 fun b H3 =>
        if b = true then te σ2 H3 fun y H4 => ∃ acc, H4 D = some (.lst acc) ∧ acc.length < sizeLine ∧ Nx (upd H4 D (.lst (acc ++ [y]))) else Nx H3)
theorem x_lc {wi : TI} {g : TG} {vs : List Nat} (k : wi σ H fun J H1 => LcGo J g t te vs σ H1 Q) : tLc wi g t te vs σ H Q := k
def R1K (xs : List V) (H1 : Hp) (R : It → Hp → Prop) : Prop := ∃ j : Int, xs = [.int j] ∧ -(2 ^ 62) ≤ j ∧ j < 2 ^ 62 ∧ R (Itr 0 j.toNat) H1
def LK (K : PySem.W.Frag) (x : V) (H1 : Hp) (R : It → Hp → Prop) : Prop := ∃ a, x = .ref a ∧ (∃ xs, SqL K H1 a xs) ∧ R (Itl K a) H1
def ZK (K : PySem.W.Frag) (vs : List V) (H1 : Hp) (R : It → Hp → Prop) : Prop := ∃ (x : Str) (b : Addr) (ys : List V), vs = [.str x, .ref b] ∧ SqT K H1 b ys ∧ R (Zst.ItzS K x b) H1
theorem x_iR1 {a : TA} {R : It → Hp → Prop} (k : a σ H fun xs H1 => R1K xs H1 R) : iRng1 a σ H R := k
theorem x_iL {R : It → Hp → Prop} (k : ta σ H fun x H1 => LK K x H1 R) : iList K ta σ H R := k
theorem x_iZ {a : TA} {R : It → Hp → Prop} (k : a σ H fun xs H1 => ZK K xs H1 R) : Zst.iZipS K a σ H R := k
theorem x_yes {q : Bool → Hp → Prop} (k : q true H) : tYes σ H q := k

theorem lc_rng {m : Int} {j : Nat} {vs : List Nat} (hm : m < 2 ^ 62) (hm0 : -(2 ^ 62) ≤ m) (I : Nat → List V → Hp → Prop) (h0 : I 0 [] H1) (mono : ∀ i acc H H', Tx H H' → I i acc H → I i acc H') (nb : ∀ i acc H, I i acc H → NB (.lst acc) ∧ acc.length < sizeLine)
    (hw : ∀ x, wipe ((wipe σ vs).set j (some x)) vs = wipe σ vs)
    (turn : ∀ (i : Nat) acc H', (i : Int) < m → Ex H1 H' → I i acc H' → ∀ kk : Option V → Hp → Prop, (∀ y H4, Ex H' H4 → I (i + 1) (acc ++ [y]) H4 → kk (some y) H4) → (∀ H4, Ex H' H4 → I (i + 1) acc H4 → kk none H4) →
      t ((wipe σ vs).set j (some (.int (i : Int)))) H' fun b H3 => if b = true then te ((wipe σ vs).set j (some (.int (i : Int)))) H3 (fun y H4 => kk (some y) H4) else kk none H3)
    (k : ∀ p ys H2, Ex H1 H2 → H1 p = none → H2 p = some (.lst ys) → I m.toNat ys H2 → Q (.ref p) H2) : R1K [.int m] H1 fun J H2 => LcGo J (gName j) t te vs σ H2 Q := by
  refine ⟨m, rfl, hm0, hm, lc_any I h0 mono nb (fun i H' hi _ => hi) (fun H' _ => Nat.le_refl _) (fun i acc x H' H'' hi e q y kk k1 k2 => ?_) k⟩
  obtain ⟨rfl, rfl⟩ := y
  have e0 : (0 : Int) + (i : Int) = (i : Int) := Int.zero_add _
  rw [e0]
  exact ⟨hw _, turn i acc _ (by omega) e q kk k1 k2⟩
theorem lc_lst {xs : List V} {j : Nat} {vs : List Nat} (hx : H1 a = some (.lst xs)) (nbx : NB (.lst xs)) (I : Nat → List V → Hp → Prop) (h0 : I 0 [] H1) (mono : ∀ i acc H H', Tx H H' → I i acc H → I i acc H') (nb : ∀ i acc H, I i acc H → NB (.lst acc) ∧ acc.length < sizeLine)
    (hw : ∀ x, wipe ((wipe σ vs).set j (some x)) vs = wipe σ vs)
    (turn : ∀ (i : Nat) x acc H', xs[i]? = some x → Ex H1 H' → I i acc H' → ∀ kk : Option V → Hp → Prop, (∀ y H4, Ex H' H4 → I (i + 1) (acc ++ [y]) H4 → kk (some y) H4) → (∀ H4, Ex H' H4 → I (i + 1) acc H4 → kk none H4) →
      t ((wipe σ vs).set j (some x)) H' fun b H3 => if b = true then te ((wipe σ vs).set j (some x)) H3 (fun y H4 => kk (some y) H4) else kk none H3)
    (k : ∀ p ys H2, Ex H1 H2 → H1 p = none → H2 p = some (.lst ys) → I xs.length ys H2 → Q (.ref p) H2) : LK K (.ref a) H1 fun J H2 => LcGo J (gName j) t te vs σ H2 Q := by
  have hq : ∀ H', Ex H1 H' → SqL K H' a xs := fun H' e => SqL.of (e.kp _ _ hx nbx)
  refine ⟨a, rfl, ⟨xs, SqL.of hx⟩, lc_any (n := xs.length) I h0 mono nb (fun i H' hi e => ⟨xs, xs[i], hq H' e, by simp [hi]⟩) (fun H' e => ⟨xs, hq H' e, Nat.le_refl _⟩) (fun i acc x H' H'' hi e q y kk k1 k2 => ?_) k⟩
  obtain ⟨rfl, y⟩ := y
  exact ⟨hw _, turn i x acc _ (y xs (hq _ e)) e q kk k1 k2⟩
theorem lc_zip {x : Str} {ys : List V} {j1 j2 n : Nat} {vs : List Nat} (hn : (x.cps.size = n ∧ n ≤ ys.length) ∨ (ys.length = n ∧ n ≤ x.cps.size)) (hx : H1 a = some (.tup ys)) (I : Nat → List V → Hp → Prop) (h0 : I 0 [] H1) (mono : ∀ i acc H H', Tx H H' → I i acc H → I i acc H') (nb : ∀ i acc H, I i acc H → NB (.lst acc) ∧ acc.length < sizeLine)
    (hw : ∀ x y, wipe (((wipe σ vs).set j1 (some x)).set j2 (some y)) vs = wipe σ vs)
    (turn : ∀ (i : Nat) c y acc H', x.cps[i]? = some c → ys[i]? = some y → Ex H1 H' → I i acc H' → ∀ kk : Option V → Hp → Prop, (∀ y H4, Ex H' H4 → I (i + 1) (acc ++ [y]) H4 → kk (some y) H4) → (∀ H4, Ex H' H4 → I (i + 1) acc H4 → kk none H4) →
      t (((wipe σ vs).set j1 (some (.str ⟨#[c]⟩))).set j2 (some y)) H' fun b H3 => if b = true then te (((wipe σ vs).set j1 (some (.str ⟨#[c]⟩))).set j2 (some y)) H3 (fun y H4 => kk (some y) H4) else kk none H3)
    (k : ∀ p ys H2, Ex H1 H2 → H1 p = none → H2 p = some (.lst ys) → I n ys H2 → Q (.ref p) H2) : ZK K [.str x, .ref a] H1 fun J H2 => LcGo J (gTup K 2 (gCons (gName j1) (gCons (gName j2) gNil))) t te vs σ H2 Q := by
  have hq : ∀ H', Ex H1 H' → SqT K H' a ys := fun H' e => SqT.of (e.kp _ _ hx NB.tup)
  refine ⟨x, a, ys, rfl, SqT.of hx, lc_any (n := n) I h0 mono nb (fun i H' hi e => ?_) (fun H' e => ⟨ys, hq H' e, hn⟩) (fun i acc v H' H'' hi e q y kk k1 k2 => ?_) k⟩
  · have h1 : i < x.cps.size := by omega
    have h2 : i < ys.length := by omega
    exact ⟨ys, x.cps[i], ys[i], hq H' e, by simp [h1], by simp [h2]⟩
  · obtain ⟨T, c, y, rfl, hT, rfl, hc, hy⟩ := y
    have e2 : Ex H' (upd H' T (.tup [.str ⟨#[c]⟩, y])) := Ex.new hT
    refine ⟨T, _, rfl, SqT.of upd_same, rfl, _, _, rfl, _, _, rfl, rfl, hw _ _, ?_⟩
    exact turn i c y acc _ hc (hy ys (hq _ e)) (e.trans e2) (mono _ _ _ _ e2.tx q) kk (fun y H4 f g => k1 y H4 (e2.trans f) g) (fun H4 f g => k2 H4 (e2.trans f) g)

/-! ### dicts of the module -/
def rNID (K : PySem.W.Frag) (d : Addr) : R2 := fun x y H Q => ∃ (z : Str) (r : Option Value), x = .str z ∧ y = .ref d ∧ PySem.W.nsIn K d z = some r ∧ Q (.bl (!r.isSome)) H
def rIID (K : PySem.W.Frag) (d : Addr) : R2 := fun x y H Q => ∃ (z : Str) (r : Option Value), x = .str z ∧ y = .ref d ∧ PySem.W.nsIn K d z = some r ∧ Q (.bl r.isSome) H
theorem x_NID {d : Addr} {z : Str} {r : Option Value} (h : PySem.W.nsIn K d z = some r) (k : Q (.bl (!r.isSome)) H) : rNID K d (.str z) (.ref d) H Q := ⟨z, r, rfl, rfl, h, k⟩
theorem x_IID {d : Addr} {z : Str} {r : Option Value} (h : PySem.W.nsIn K d z = some r) (k : Q (.bl r.isSome) H) : rIID K d (.str z) (.ref d) H Q := ⟨z, r, rfl, rfl, h, k⟩
theorem x_ixD {w : World} {d : Addr} {z : Str} (h : KDct K w d z v) (k : Q v H) : rIxD K w (.ref d) (.str z) H Q := ⟨d, z, v, rfl, rfl, h, k⟩
theorem kdct_of {w : World} {d : Addr} {es : Array DictEntry} {n : Nat} {z : Str} {u : Value} (D : KDict K w d es n) (h : PySem.W.nsIn K d z = some (some u)) (r : RelV v u) : KDct K w d z v := ⟨es, n, u, D.at_, D.lit, h, r⟩
theorem x_NIDt {d : Addr} {z : Str} (h : PySem.W.nsIn K d z = some none) (k : Q (.bl true) H) : rNID K d (.str z) (.ref d) H Q := ⟨z, none, rfl, rfl, h, k⟩
theorem x_NIDf {d : Addr} {z : Str} {u : Value} (h : PySem.W.nsIn K d z = some (some u)) (k : Q (.bl false) H) : rNID K d (.str z) (.ref d) H Q := ⟨z, some u, rfl, rfl, h, k⟩
theorem x_IIDt {d : Addr} {z : Str} {u : Value} (h : PySem.W.nsIn K d z = some (some u)) (k : Q (.bl true) H) : rIID K d (.str z) (.ref d) H Q := ⟨z, some u, rfl, rfl, h, k⟩
theorem x_IIDf {d : Addr} {z : Str} (h : PySem.W.nsIn K d z = some none) (k : Q (.bl false) H) : rIID K d (.str z) (.ref d) H Q := ⟨z, none, rfl, rfl, h, k⟩
theorem x_ixDs {w : World} {d : Addr} {z y : Str} {es : Array DictEntry} {n : Nat} (D : KDict K w d es n) (h : ∃ t, PySem.W.nsIn K d z = some (some (.str y t))) (k : Q (.str y) H) : rIxD K w (.ref d) (.str z) H Q := by
  obtain ⟨t, h⟩ := h
  exact ⟨d, z, .str y, rfl, rfl, kdct_of (v := .str y) D h ⟨t, rfl⟩, k⟩
/-! ### in -/
def rInS : R2 := fun x y H Q => ∃ i j, x = .str i ∧ y = .str j ∧ Q (.bl (!(Builtin.Str.occurrences j i 0 j.length 1).isEmpty)) H
theorem x_InSt {i j : Str} (h : (Builtin.Str.occurrences j i 0 j.length 1).isEmpty = false) (k : Q (.bl true) H) : rInS (.str i) (.str j) H Q := ⟨i, j, rfl, rfl, by rw [h]; exact k⟩
theorem x_InSf {i j : Str} (h : (Builtin.Str.occurrences j i 0 j.length 1).isEmpty = true) (k : Q (.bl false) H) : rInS (.str i) (.str j) H Q := ⟨i, j, rfl, rfl, by rw [h]; exact k⟩
theorem x_EqSt {i j : Str} (h : i = j) (k : Q (.bl true) H) : rEq (.str i) (.str j) H Q := ⟨rfl, by rw [decide_eq_true (by rw [h])]; exact k⟩
theorem x_EqSf {i j : Str} (h : i ≠ j) (k : Q (.bl false) H) : rEq (.str i) (.str j) H Q := ⟨rfl, by rw [decide_eq_false (fun e => h (V.str.inj e))]; exact k⟩
theorem x_NeSt {i j : Str} (h : i ≠ j) (k : Q (.bl true) H) : rNe (.str i) (.str j) H Q := ⟨rfl, by rw [decide_eq_false (fun e => h (V.str.inj e))]; exact k⟩
theorem x_NeSf {i j : Str} (h : i = j) (k : Q (.bl false) H) : rNe (.str i) (.str j) H Q := ⟨rfl, by rw [decide_eq_true (by rw [h])]; exact k⟩
theorem inV_ints {n : Int} {ns : List Int} : inV (.int n) (ns.map V.int) = decide (n ∈ ns) := by
  unfold inV
  rw [List.any_map]
  rw [Bool.eq_iff_iff, List.any_eq_true, decide_eq_true_eq]
  constructor
  · rintro ⟨m, h1, h2⟩
    have e : m = n := by simpa [eqV] using h2
    exact e ▸ h1
  · intro h
    exact ⟨n, h, by simp [eqV]⟩
theorem flat_ints {ns : List Int} : (ns.map V.int).all flatV = true := by
  rw [List.all_map]
  exact List.all_eq_true.mpr fun _ _ => rfl
theorem x_notInI {n : Int} {ns : List Int} (h : H p = some (.lst (ns.map V.int))) (k : Q (.bl (!decide (n ∈ ns))) H) : rIn K true (.int n) (.ref p) H Q :=
  ⟨p, _, rfl, .inl (SqL.of h), rfl, flat_ints, by rw [if_pos rfl, inV_ints]; exact k⟩
theorem x_inTt {xs : List V} (h : H p = some (.tup xs)) (hv : flatV v = true) (ha : xs.all flatV = true) (e : inV v xs = true) (k : Q (.bl true) H) : rIn K false v (.ref p) H Q := ⟨p, _, rfl, .inr (SqT.of h), hv, ha, by rw [if_neg Bool.false_ne_true, e]; exact k⟩
theorem x_inTf {xs : List V} (h : H p = some (.tup xs)) (hv : flatV v = true) (ha : xs.all flatV = true) (e : inV v xs = false) (k : Q (.bl false) H) : rIn K false v (.ref p) H Q := ⟨p, _, rfl, .inr (SqT.of h), hv, ha, by rw [if_neg Bool.false_ne_true, e]; exact k⟩
/-! ### tuples, lists -/
theorem x_slT {xs : List V} {lo hi : Option Int} (h : H a = some (.tup xs)) (hw : ¬ (HT.sIx xs.length 0 lo = 0 ∧ HT.sIx xs.length xs.length hi = xs.length)) (k : JustNew (.tup (cutV xs lo hi)) H Q) : rSlT K (.ref a) lo hi H Q := ⟨a, xs, rfl, SqT.of h, hw, k⟩
theorem x_catT {xs ys : List V} (h : H a = some (.tup xs)) (h' : H b = some (.tup ys)) (n1 : xs ≠ []) (n2 : ys ≠ []) (l : xs.length + ys.length ≤ sizeLine) (k : JustNew (.tup (xs ++ ys)) H Q) : rCatT K (.ref a) (.ref b) H Q := ⟨a, b, xs, ys, rfl, rfl, SqT.of h, SqT.of h', n1, l, fun e => absurd e n2, fun _ => k⟩
theorem x_cat {xs ys : List V} (h : H a = some (.lst xs)) (h' : H b = some (.lst ys)) (l : xs.length + ys.length ≤ sizeLine) (k : JustNew (.lst (xs ++ ys)) H Q) : rCat (.ref a) (.ref b) H Q := ⟨a, b, xs, ys, rfl, rfl, h, h', l, k⟩
def SortK (ns : List Int) (H : Hp) (Q : VK) : Prop := ∀ (ns' : List Int) (p : Addr), ns'.Perm ns → ns'.Pairwise (· ≤ ·) → H p = none → Q (.ref p) (upd H p (.lst (ns'.map V.int)))
theorem x_sorted {ns : List Int} (h : H a = some (.lst (ns.map V.int))) (l : ns.length < 64) (k : ∀ (ns' : List Int) (p : Addr) (H1 : Hp), ns'.Perm ns → ns'.Pairwise (· ≤ ·) → Ex H H1 → H p = none → H1 p = some (.lst (ns'.map V.int)) → Q (.ref p) H1) : rSorted K [.ref a] H Q :=
  ⟨a, ns, rfl, SqL.of h, l, fun ns' p h1 h2 hp => k ns' p _ h1 h2 (Ex.new hp) hp upd_same⟩
/-! ### loops -/
def ForGo (J : It) (g : TG) (tb : TS) (D : Ends) (σ : L2.St) (H1 : Hp) : Prop := ∃ W : Nat → Nat → L2.St → Hp → Prop, (∃ m, W 0 m σ H1) ∧ ∀ i m σ H, W i m σ H →
      (J.stop i H ∧ D.nx σ H) ∨ (J.go i H ∧ ∃ N : L2.St → Hp → Prop, (∀ σ' H', N σ' H' → ∃ m', m' < m ∧ W (i + 1) m' σ' H') ∧ ∀ v H', J.yld i H v H' → g v σ H' fun σ2 H2 => tb { D with nx := N, ct := N, bk := D.nx } σ2 H2)
theorem x_for {wi : TI} {g : TG} {tb : TS} (k : wi σ H fun J H1 => ForGo J g tb D σ H1) : tFor wi g tb D σ H := k
theorem for_rng {m : Int} {j : Nat} {tb : TS} (hm : m < 2 ^ 62) (hm0 : -(2 ^ 62) ≤ m) (Pv : Nat → L2.St → Hp → Prop) (h0 : Pv 0 σ H1)
    (hs : ∀ (i : Nat) σ H, (i : Int) < m → Pv i σ H → tb { D with nx := Pv (i + 1), ct := Pv (i + 1), bk := D.nx } (σ.set j (some (.int (i : Int)))) H) (hd : ∀ σ H, Pv m.toNat σ H → D.nx σ H) : R1K [.int m] H1 fun J H2 => ForGo J (gName j) tb D σ H2 := by
  refine ⟨m, rfl, hm0, hm, for_range Pv h0 (fun i σ H hi q => ?_) hd⟩
  have e0 : (0 : Int) + (i : Int) = (i : Int) := Int.zero_add _
  show tb { D with nx := Pv (i + 1), ct := Pv (i + 1), bk := D.nx } (σ.set j (some (.int ((0 : Int) + (i : Int))))) H
  rw [e0]
  exact hs i σ H (by omega) q
theorem for_lst {xs : List V} {j : Nat} {tb : TS} (hx : H1 a = some (.lst xs)) (Pv : Nat → L2.St → Hp → Prop) (h0 : Pv 0 σ H1) (hl : ∀ i σ H, i ≤ xs.length → Pv i σ H → H a = some (.lst xs))
    (hs : ∀ (i : Nat) x σ H, xs[i]? = some x → Pv i σ H → tb { D with nx := Pv (i + 1), ct := Pv (i + 1), bk := D.nx } (σ.set j (some x)) H) (hd : ∀ σ H, Pv xs.length σ H → D.nx σ H) : LK K (.ref a) H1 fun J H2 => ForGo J (gName j) tb D σ H2 :=
  ⟨a, rfl, ⟨xs, SqL.of hx⟩, for_list Pv h0 (fun i σ H hi q => SqL.of (hl i σ H hi q)) (fun i x σ H h q => hs i x σ H h q) hd⟩
/-! ### methods -/
theorem x_bm {T : String} {r : V → List V → Hp → VK → Prop} {a : TA} (k : ta σ H fun x H1 => tyV K T x H1 ∧ a σ H1 fun xs H2 => r x xs H2 Q) : tBM K T r ta a σ H Q := k
theorem tyL {xs : List V} (h : H p = some (.lst xs)) : tyV K "list" (.ref p) H := .inl ⟨rfl, _, SqL.of h⟩
def rInsert : V → List V → Hp → VK → Prop := fun x vs H Q => ∃ (l : Addr) (xs : List V) (i : Int) (y : V), x = .ref l ∧ vs = [.int i, y] ∧ H l = some (.lst xs) ∧ xs.length < sizeLine ∧ 0 ≤ i ∧ i < 2 ^ 63 ∧ Q .non (upd H l (.lst (xs.take i.toNat ++ [y] ++ xs.drop i.toNat)))
theorem x_insert {xs : List V} {i : Int} (h : H l = some (.lst xs)) (n : xs.length < sizeLine) (h0 : 0 ≤ i) (h1 : i < 2 ^ 63) (k : Q .non (upd H l (.lst (xs.take i.toNat ++ [v] ++ xs.drop i.toNat)))) : rInsert (.ref l) [.int i, v] H Q := ⟨l, xs, i, v, rfl, rfl, h, n, h0, h1, k⟩
/-! ### list(range(n)) -/
theorem x_lstRg {te : L2.St → Hp → (Int → Int → Hp → Prop) → Prop} (k : te σ H fun a b H1 => RgOk a b ∧ JustNew (.lst (rgV a b)) H1 Q) : tLstRg te σ H Q := k
theorem x_callS {sp : Sp} {E : XK} {a : TA} (k : a σ H fun vs H1 => sp vs H1 Q E) : tCall sp [] E a σ H Q := by
  show a σ H fun vs H1 => sp (vs ++ []) H1 Q E
  have e : (fun (vs : List V) (H1 : Hp) => sp (vs ++ []) H1 Q E) = fun vs H1 => sp vs H1 Q E := by
    funext vs H1
    rw [List.append_nil]
  rw [e]
  exact k
theorem x_gConsE {g : TG} {gs : TGs} {ws vs : List V} {q : L2.St → Hp → Prop} (h : ws = v :: vs) (k : g v σ H fun σ' H' => gs vs σ' H' q) : gCons g gs ws σ H q := by rw [h]; exact x_gCons k
theorem x_gNilE {ws : List V} {q : L2.St → Hp → Prop} (h : ws = []) (k : q σ H) : gNil ws σ H q := by rw [h]; exact x_gNil k
theorem x_iteTe {c : Bool} (h : c = true) (k : A) : if c = true then A else B := by rw [if_pos h]; exact k
theorem x_iteFe {c : Bool} (h : c = false) (k : B) : if c = true then A else B := by rw [if_neg (by rw [h]; exact Bool.false_ne_true)]; exact k
theorem x_rg1 {q : Int → Int → Hp → Prop} (k : ta σ H fun x H1 => ∃ n, x = .int n ∧ q 0 n H1) : tRg1 ta σ H q := k
end
section
variable {X : Cx}
theorem c_notInD {d : Addr} {es : Array DictEntry} {n : Nat} (D : KDict X.K X.w d es n) : OpR X (compareOp .NotIn) (rNID X.K d) := op_notIn_kd D
theorem c_inD {d : Addr} {es : Array DictEntry} {n : Nat} (D : KDict X.K X.w d es n) : OpR X (compareOp .In) (rIID X.K d) := op_in_kd D
theorem pg_tupB {sB : Shared} {HB : Hp} {scope : Scope} {cenv : Env} {fp : List Addr} {es : List Expr} {k : Nat} {t : TGs} {n : Nat} {pos : Pos} (hc : X.calm = true) (h : PGs (X.blk sB HB scope cenv fp) es t)
    (hn : (assignEach es (X.blk sB HB scope cenv fp).env).length = n := by rfl) (hst : (assignEach es (X.blk sB HB scope cenv fp).env).findIdx? (·.1) = none := by rfl) : PG (X.blk sB HB scope cenv fp) (.Tuple es k pos) (gTup X.K n t) := pg_tup (X := X.blk sB HB scope cenv fp) hc h hn hst
theorem c_inS : OpR X (compareOp .In) rInS := op_in_str
theorem c_insert : MtR X "list.insert" rInsert := mt_insert
end
end Sx

set_option Elab.async false
set_option linter.all false
set_option maxRecDepth 100000
set_option maxHeartbeats 8000000
namespace My
open PySem PySem.Spec PyProof.Rows L2 Sx
local macro_rules | `(tactic| walk_at "nb") => `(tactic| first | exact NB.tup | exact NB.ints | exact NB.len (of_decide_eq_true rfl) | exact NB.at0b rfl | exact NB.at3b rfl | exact NB.ins | exact NB.own | exact NB.frz | exact NB.refs (by assumption) | assumption)
local macro_rules | `(tactic| walk_at "ne") => `(tactic| first | assumption | exact Ne.symm (by assumption) | exact ne_of_none (by assumption) (by assumption) | exact Ne.symm (ne_of_none (by assumption) (by assumption)))
local macro_rules | `(tactic| walk_at "hk") => `(tactic| first
  | assumption
  | exact upd_same
  | (refine' (upd_ne ?hkne).trans ?hkq; (case hkne => walk_at "ne"); (case hkq => walk_at "hk"))
  | (refine' Ex.kp (by assumption) _ _ ?hkq ?hkn; (case hkq => walk_at "hk"); (case hkn => walk_at "nb")))
local macro_rules | `(tactic| walk_at "rd1") => `(tactic| first
  | ((with_reducible refine' x_var ?hx ?_); (case hx => exact rfl))
  | with_reducible refine x_c ?_
  | with_reducible refine x_op ?_
  | with_reducible refine x_un ?_
  | with_reducible refine x_I0 ?_
  | with_reducible refine x_U ?_
  | ((with_reducible refine x_I ?hc ?_); (case hc => first | exact (by decide : (0 : Int) < _) | (show (0 : Int) < _; omega) | (show CMul _ _; first | exact .inl ⟨by omega, by omega⟩ | exact .inr ⟨by omega, by omega⟩) | (show CDiv _ _; exact ⟨by omega, by omega⟩) | (show CDivW _ _; exact wide_div (b := 200) (by omega) (by assumption) (by decide) (by decide)) | (show CDivW _ _; exact wide_div (b := 31) (by omega) (by omega) (by decide) (by decide))))
  | with_reducible refine x_EqI ?_
  | with_reducible refine x_NeI ?_
  | ((with_reducible refine x_EqSt ?h ?_); (case h => decide +kernel))
  | ((with_reducible refine x_EqSf ?h ?_); (case h => decide +kernel))
  | ((with_reducible refine x_NeSt ?h ?_); (case h => decide +kernel))
  | ((with_reducible refine x_NeSf ?h ?_); (case h => decide +kernel))
  | with_reducible refine x_EqS ?_
  | with_reducible refine x_NeS ?_
  | ((with_reducible refine' x_ixL ?hq ?hi ?_); (case hq => walk_at "hk"); (case hi => first | exact rfl | assumption))
  | ((with_reducible refine' x_ixT ?hq ?hi ?_); (case hq => walk_at "hk"); (case hi => first | exact rfl | assumption))
  | with_reducible refine x_chain ?_
  | with_reducible refine x_tup ?_
  | with_reducible refine x_lst ?_
  | ((with_reducible refine x_lenNew ?hl ?_); (case hl => exact Nat.le_of_ble_eq_true rfl); intro _ _ _ _ _)
  | ((with_reducible refine x_new ?_); intro _ _ _ _ _)
  | with_reducible refine x_sl ?_
  | with_reducible refine x_noPart ?_
  | with_reducible refine x_part ?_
  | with_reducible refine x_ex_int ?_
  | with_reducible refine x_ex_bl ?_
  | with_reducible refine x_ex_2 ?_
  | with_reducible refine x_test ?_
  | with_reducible refine x_B ?_
  | with_reducible refine x_and ?_
  | with_reducible refine x_or ?_
  | with_reducible refine x_not ?_
  | with_reducible refine x_andV ?_
  | with_reducible refine x_orV ?_
  | with_reducible refine x_notV ?_
  | with_reducible refine x_ifE ?_
  | with_reducible refine x_iteT ?_
  | with_reducible refine x_iteF ?_
  | ((with_reducible refine x_iteD ?_ ?_) <;> intro _)
  | ((with_reducible refine x_iteN ?_ ?_) <;> intro _)
  | with_reducible refine x_if ?_
  | with_reducible refine x_seq ?_
  | with_reducible refine x_next ?_
  | with_reducible refine x_asg ?_
  | with_reducible refine x_gName ?_
  | ((with_reducible refine' x_gTup ?hq ?hn ?_); (case hq => walk_at "hk"); (case hn => exact rfl))
  | with_reducible refine x_gCons ?_
  | with_reducible refine x_gNil ?_
  | ((with_reducible refine' x_gConsE ?h ?_); (case h => exact rfl))
  | ((with_reducible refine x_gNilE ?h ?_); (case h => exact rfl))
  | with_reducible refine x_ret ?_
  | with_reducible refine x_drop ?_
  | with_reducible refine x_par ?_
  | ((with_reducible refine' x_aug ?hx ?_); (case hx => exact rfl))
  | with_reducible refine x_ipI ?_
  | with_reducible refine x_augS ?_
  | with_reducible refine x_gSub ?_
  | ((with_reducible refine' x_setL ?hq ?hi ?_); (case hq => walk_at "hk"); (case hi => first | exact rfl | assumption))
  | with_reducible refine x_cons ?_
  | with_reducible refine x_nil ?_
  | with_reducible refine x_CB ?_
  | with_reducible refine x_abs ?_
  | with_reducible refine x_intI ?_
  | with_reducible refine x_intB ?_
  | ((with_reducible refine' x_lenL ?hq ?_); (case hq => walk_at "hk"))
  | ((with_reducible refine' x_lenT ?hq ?_); (case hq => walk_at "hk"))
  | ((with_reducible refine x_iteTe ?h ?_); (case h => exact rfl))
  | ((with_reducible refine x_iteFe ?h ?_); (case h => exact rfl))
  | walk_at "use"
  | with_reducible refine x_callS ?_
  | ((with_reducible refine x_lc ?_))
  | ((with_reducible refine x_for ?_))
  | ((with_reducible refine x_iR1 ?_))
  | ((with_reducible refine x_iL ?_))
  | ((with_reducible refine x_iZ ?_))
  | ((with_reducible refine x_yes ?_))
  | ((with_reducible refine' x_NIDt ?hq ?_); (case hq => assumption))
  | ((with_reducible refine' x_NIDf ?hq ?_); (case hq => assumption))
  | ((with_reducible refine' x_IIDf ?hq ?_); (case hq => assumption))
  | ((with_reducible refine' x_IIDt ?hq ?_); (case hq => assumption))
  | ((with_reducible refine' x_ixDs ?hd ?hq ?_); (case hd => assumption); (case hq => assumption))
  | ((with_reducible refine x_InSt ?h ?_); (case h => decide +kernel))
  | ((with_reducible refine x_InSf ?h ?_); (case h => decide +kernel))
  | ((with_reducible refine' x_notInI ?hq ?_); (case hq => walk_at "hk"))
  | ((with_reducible refine' x_inTt ?hq ?hv ?ha ?he ?_); (case hq => walk_at "hk"); (case hv => exact rfl); (case ha => exact rfl); (case he => decide +kernel))
  | ((with_reducible refine' x_inTf ?hq ?hv ?ha ?he ?_); (case hq => walk_at "hk"); (case hv => exact rfl); (case ha => exact rfl); (case he => decide +kernel))
  | ((with_reducible refine' x_slT ?hq ?hw ?_); (case hq => walk_at "hk"); (case hw => with_unfolding_all exact of_decide_eq_true rfl))
  | ((with_reducible refine' x_slL ?hq ?_); (case hq => walk_at "hk"))
  | ((with_reducible refine' x_catT ?hq ?hr ?n1 ?n2 ?hl ?_); (case hq => walk_at "hk"); (case hr => walk_at "hk"); (case n1 => exact List.cons_ne_nil _ _); (case n2 => exact List.cons_ne_nil _ _); (case hl => exact Nat.le_of_ble_eq_true rfl))
  | ((with_reducible refine x_bm ?_))
  | ((with_reducible refine x_lstRg ?_))
  | ((with_reducible refine x_rg1 ?_))
  | ((with_reducible refine And.intro ?h ?_); (case h => exact tyL (by assumption)))
  | dsimp only)
local macro_rules | `(tactic| walk_at "use") => `(tactic| fail)
local macro_rules | `(tactic| walk_at "rd") => `(tactic| repeat' (walk_at "rd1"))
local macro_rules | `(tactic| walk_at "ex") => `(tactic| first | exact Ex.refl _ | assumption | (refine' Ex.trans ?he (by assumption); (case he => walk_at "ex")))

def top (i : Nat) : Stmt := PySem.Challenge.pw_pupilpairs_k17_whole_calls_one_to_one.main.body.getD i (.Pass ⟨0, 0, 0, 0⟩)
abbrev s_is_straight : Stmt := top 3
theorem sc_is_straight : FnScope ["call"] ["call"] (defScope s_is_straight) := ⟨rfl, rfl, rfl, by decide +kernel, rfl, by decide +kernel, by decide +kernel⟩
abbrev s_turned : Stmt := top 4
theorem sc_turned : FnScope ["call"] ["call"] (defScope s_turned) := ⟨rfl, rfl, rfl, by decide +kernel, rfl, by decide +kernel, by decide +kernel⟩
abbrev s_moved_by : Stmt := top 5
theorem sc_moved_by : FnScope ["call", "files", "rows", "place", "row", "file", "cut", "ahead", "behind", "to", "sign", "shift"] ["call", "files", "rows", "place"] (defScope s_moved_by) := ⟨rfl, rfl, rfl, by decide +kernel, rfl, by decide +kernel, by decide +kernel⟩
abbrev s_cut_of : Stmt := top 6
theorem sc_cut_of : FnScope ["call", "files", "rows", "file", "word", "across"] ["call", "files", "rows", "file"] (defScope s_cut_of) := ⟨rfl, rfl, rfl, by decide +kernel, rfl, by decide +kernel, by decide +kernel⟩
abbrev s_whole : Stmt := top 7
theorem sc_whole : FnScope ["way"] ["way"] (defScope s_whole) := ⟨rfl, rfl, rfl, by decide +kernel, rfl, by decide +kernel, by decide +kernel⟩
abbrev s_cut_of_up : Stmt := top 8
theorem sc_cut_of_up : FnScope ["k", "rows", "file", "cut"] ["k", "rows", "file"] (defScope s_cut_of_up) := ⟨rfl, rfl, rfl, by decide +kernel, rfl, by decide +kernel, by decide +kernel⟩
abbrev s_cut_of_wheel : Stmt := top 9
theorem sc_cut_of_wheel : FnScope ["call", "rows", "file", "rising", "falling", "k", "over"] ["call", "rows", "file"] (defScope s_cut_of_wheel) := ⟨rfl, rfl, rfl, by decide +kernel, rfl, by decide +kernel, by decide +kernel⟩
abbrev s_moved_by_open_call : Stmt := top 10
theorem sc_moved_by_open_call : FnScope ["word", "files", "rows", "place", "row", "file", "number", "evens"] ["word", "files", "rows", "place"] (defScope s_moved_by_open_call) := ⟨rfl, rfl, rfl, by decide +kernel, rfl, by decide +kernel, by decide +kernel⟩
abbrev s_Lbag : Stmt := top 12
theorem sc_Lbag : FnScope ["_law_script", "_law_cell"] ["_law_script"] (defScope s_Lbag) := ⟨rfl, rfl, rfl, by decide +kernel, rfl, by decide +kernel, by decide +kernel⟩
abbrev s_Ltake : Stmt := top 13
theorem sc_Ltake : FnScope ["_law_bag_here", "_law_many", "_law_cell", "_law_mixed_here", "_law_drawn", "_law_begin", "_law_second"] ["_law_bag_here", "_law_many"] (defScope s_Ltake) := ⟨rfl, rfl, rfl, by decide +kernel, rfl, by decide +kernel, by decide +kernel⟩
abbrev s_Lone : Stmt := top 14
theorem sc_Lone : FnScope ["_law_bag_here", "_law_some"] ["_law_bag_here", "_law_some"] (defScope s_Lone) := ⟨rfl, rfl, rfl, by decide +kernel, rfl, by decide +kernel, by decide +kernel⟩
abbrev s_Lmixed : Stmt := top 15
theorem sc_Lmixed : FnScope ["_law_bag_here", "_law_things", "_law_found", "_law_thing"] ["_law_bag_here", "_law_things"] (defScope s_Lmixed) := ⟨rfl, rfl, rfl, by decide +kernel, rfl, by decide +kernel, by decide +kernel⟩
abbrev s_Lnumber : Stmt := top 16
theorem sc_Lnumber : FnScope ["_law_bag_here", "_law_most", "_law_number_here"] ["_law_bag_here", "_law_most"] (defScope s_Lnumber) := ⟨rfl, rfl, rfl, by decide +kernel, rfl, by decide +kernel, by decide +kernel⟩
abbrev s_Ltwo : Stmt := top 17
theorem sc_Ltwo : FnScope ["_law_bag_here", "_law_files", "_law_some"] ["_law_bag_here", "_law_files"] (defScope s_Ltwo) := ⟨rfl, rfl, rfl, by decide +kernel, rfl, by decide +kernel, by decide +kernel⟩
abbrev s_Lcall : Stmt := top 18
theorem sc_Lcall : FnScope ["_law_bag_here", "_law_files", "_law_kinds", "_law_most", "_law_kind"] ["_law_bag_here", "_law_files", "_law_kinds", "_law_most"] (defScope s_Lcall) := ⟨rfl, rfl, rfl, by decide +kernel, rfl, by decide +kernel, by decide +kernel⟩
abbrev s_Lall_kinds : Stmt := top 19
theorem sc_Lall_kinds : FnScope [] [] (defScope s_Lall_kinds) := ⟨rfl, rfl, rfl, by decide +kernel, rfl, by decide +kernel, by decide +kernel⟩
abbrev s_Lplaces : Stmt := top 20
theorem sc_Lplaces : FnScope ["_law_files", "_law_rows", "_law_found", "_law_row", "_law_file"] ["_law_files", "_law_rows"] (defScope s_Lplaces) := ⟨rfl, rfl, rfl, by decide +kernel, rfl, by decide +kernel, by decide +kernel⟩
abbrev s_Lring : Stmt := top 21
theorem sc_Lring : FnScope ["_law_call_here", "_law_rows"] ["_law_call_here", "_law_rows"] (defScope s_Lring) := ⟨rfl, rfl, rfl, by decide +kernel, rfl, by decide +kernel, by decide +kernel⟩
abbrev s_law : Stmt := top 22
theorem sc_law : FnScope ["_law_script", "_law_bag_here", "_law_turn", "_law_files", "_law_rows", "_law_call_here", "_law_every", "_law_goals", "_law_more", "_law_file", "_law_breaks", "_law_one_here", "_law_k", "_law_near", "_law_place", "_law_goal", "_law_row"] ["_law_script"] (defScope s_law) := ⟨rfl, rfl, rfl, by decide +kernel, rfl, by decide +kernel, by decide +kernel⟩
structure Ad where
  a_is_straight : Addr
  fd_is_straight : FuncData
  a_turned : Addr
  fd_turned : FuncData
  a_moved_by : Addr
  fd_moved_by : FuncData
  a_cut_of : Addr
  fd_cut_of : FuncData
  a_whole : Addr
  fd_whole : FuncData
  a_cut_of_up : Addr
  fd_cut_of_up : FuncData
  a_cut_of_wheel : Addr
  fd_cut_of_wheel : FuncData
  a_moved_by_open_call : Addr
  fd_moved_by_open_call : FuncData
  a_Lbag : Addr
  fd_Lbag : FuncData
  a_Ltake : Addr
  fd_Ltake : FuncData
  a_Lone : Addr
  fd_Lone : FuncData
  a_Lmixed : Addr
  fd_Lmixed : FuncData
  a_Lnumber : Addr
  fd_Lnumber : FuncData
  a_Ltwo : Addr
  fd_Ltwo : FuncData
  a_Lcall : Addr
  fd_Lcall : FuncData
  a_Lall_kinds : Addr
  fd_Lall_kinds : FuncData
  a_Lplaces : Addr
  fd_Lplaces : FuncData
  a_Lring : Addr
  fd_Lring : FuncData
  a_law : Addr
  fd_law : FuncData
  d_PARTS : Addr
  es_PARTS : Array DictEntry
  n_PARTS : Nat
  d_UNDOING : Addr
  es_UNDOING : Array DictEntry
  n_UNDOING : Nat
structure Txt (K : PySem.W.Frag) (w : World) (mg : Str → Option Value) (a : Ad) : Prop where
  m_is_straight : mg "is_straight" = some (.ref a.a_is_straight)
  F_is_straight : Fun K "is_straight" "is_straight" s_is_straight a.a_is_straight a.fd_is_straight
  k_is_straight : PySem.W.keepIn K (.ref a.a_is_straight) = true
  b_is_straight : Binds K a.fd_is_straight ["call"] []
  m_turned : mg "turned" = some (.ref a.a_turned)
  F_turned : Fun K "turned" "turned" s_turned a.a_turned a.fd_turned
  k_turned : PySem.W.keepIn K (.ref a.a_turned) = true
  b_turned : Binds K a.fd_turned ["call"] []
  m_moved_by : mg "moved_by" = some (.ref a.a_moved_by)
  F_moved_by : Fun K "moved_by" "moved_by" s_moved_by a.a_moved_by a.fd_moved_by
  k_moved_by : PySem.W.keepIn K (.ref a.a_moved_by) = true
  b_moved_by : Binds K a.fd_moved_by ["call", "files", "rows", "place"] []
  m_cut_of : mg "cut_of" = some (.ref a.a_cut_of)
  F_cut_of : Fun K "cut_of" "cut_of" s_cut_of a.a_cut_of a.fd_cut_of
  k_cut_of : PySem.W.keepIn K (.ref a.a_cut_of) = true
  b_cut_of : Binds K a.fd_cut_of ["call", "files", "rows", "file"] []
  m_whole : mg "whole" = some (.ref a.a_whole)
  F_whole : Fun K "whole" "whole" s_whole a.a_whole a.fd_whole
  k_whole : PySem.W.keepIn K (.ref a.a_whole) = true
  b_whole : Binds K a.fd_whole ["way"] []
  m_cut_of_up : mg "cut_of_up" = some (.ref a.a_cut_of_up)
  F_cut_of_up : Fun K "cut_of_up" "cut_of_up" s_cut_of_up a.a_cut_of_up a.fd_cut_of_up
  k_cut_of_up : PySem.W.keepIn K (.ref a.a_cut_of_up) = true
  b_cut_of_up : Binds K a.fd_cut_of_up ["k", "rows", "file"] []
  m_cut_of_wheel : mg "cut_of_wheel" = some (.ref a.a_cut_of_wheel)
  F_cut_of_wheel : Fun K "cut_of_wheel" "cut_of_wheel" s_cut_of_wheel a.a_cut_of_wheel a.fd_cut_of_wheel
  k_cut_of_wheel : PySem.W.keepIn K (.ref a.a_cut_of_wheel) = true
  b_cut_of_wheel : Binds K a.fd_cut_of_wheel ["call", "rows", "file"] []
  m_moved_by_open_call : mg "moved_by_open_call" = some (.ref a.a_moved_by_open_call)
  F_moved_by_open_call : Fun K "moved_by_open_call" "moved_by_open_call" s_moved_by_open_call a.a_moved_by_open_call a.fd_moved_by_open_call
  k_moved_by_open_call : PySem.W.keepIn K (.ref a.a_moved_by_open_call) = true
  b_moved_by_open_call : Binds K a.fd_moved_by_open_call ["word", "files", "rows", "place"] []
  m_Lbag : mg "_law_bag" = some (.ref a.a_Lbag)
  F_Lbag : Fun K "_law_bag" "_law_bag" s_Lbag a.a_Lbag a.fd_Lbag
  k_Lbag : PySem.W.keepIn K (.ref a.a_Lbag) = true
  b_Lbag : Binds K a.fd_Lbag ["_law_script"] []
  m_Ltake : mg "_law_take" = some (.ref a.a_Ltake)
  F_Ltake : Fun K "_law_take" "_law_take" s_Ltake a.a_Ltake a.fd_Ltake
  k_Ltake : PySem.W.keepIn K (.ref a.a_Ltake) = true
  b_Ltake : Binds K a.fd_Ltake ["_law_bag_here", "_law_many"] []
  m_Lone : mg "_law_one" = some (.ref a.a_Lone)
  F_Lone : Fun K "_law_one" "_law_one" s_Lone a.a_Lone a.fd_Lone
  k_Lone : PySem.W.keepIn K (.ref a.a_Lone) = true
  b_Lone : Binds K a.fd_Lone ["_law_bag_here", "_law_some"] []
  m_Lmixed : mg "_law_mixed" = some (.ref a.a_Lmixed)
  F_Lmixed : Fun K "_law_mixed" "_law_mixed" s_Lmixed a.a_Lmixed a.fd_Lmixed
  k_Lmixed : PySem.W.keepIn K (.ref a.a_Lmixed) = true
  b_Lmixed : Binds K a.fd_Lmixed ["_law_bag_here", "_law_things"] []
  m_Lnumber : mg "_law_number" = some (.ref a.a_Lnumber)
  F_Lnumber : Fun K "_law_number" "_law_number" s_Lnumber a.a_Lnumber a.fd_Lnumber
  k_Lnumber : PySem.W.keepIn K (.ref a.a_Lnumber) = true
  b_Lnumber : Binds K a.fd_Lnumber ["_law_bag_here", "_law_most"] []
  m_Ltwo : mg "_law_two" = some (.ref a.a_Ltwo)
  F_Ltwo : Fun K "_law_two" "_law_two" s_Ltwo a.a_Ltwo a.fd_Ltwo
  k_Ltwo : PySem.W.keepIn K (.ref a.a_Ltwo) = true
  b_Ltwo : Binds K a.fd_Ltwo ["_law_bag_here", "_law_files"] []
  m_Lcall : mg "_law_call" = some (.ref a.a_Lcall)
  F_Lcall : Fun K "_law_call" "_law_call" s_Lcall a.a_Lcall a.fd_Lcall
  k_Lcall : PySem.W.keepIn K (.ref a.a_Lcall) = true
  b_Lcall : Binds K a.fd_Lcall ["_law_bag_here", "_law_files", "_law_kinds", "_law_most"] []
  m_Lall_kinds : mg "_law_all_kinds" = some (.ref a.a_Lall_kinds)
  F_Lall_kinds : Fun K "_law_all_kinds" "_law_all_kinds" s_Lall_kinds a.a_Lall_kinds a.fd_Lall_kinds
  k_Lall_kinds : PySem.W.keepIn K (.ref a.a_Lall_kinds) = true
  b_Lall_kinds : Binds K a.fd_Lall_kinds [] []
  m_Lplaces : mg "_law_places" = some (.ref a.a_Lplaces)
  F_Lplaces : Fun K "_law_places" "_law_places" s_Lplaces a.a_Lplaces a.fd_Lplaces
  k_Lplaces : PySem.W.keepIn K (.ref a.a_Lplaces) = true
  b_Lplaces : Binds K a.fd_Lplaces ["_law_files", "_law_rows"] []
  m_Lring : mg "_law_ring" = some (.ref a.a_Lring)
  F_Lring : Fun K "_law_ring" "_law_ring" s_Lring a.a_Lring a.fd_Lring
  k_Lring : PySem.W.keepIn K (.ref a.a_Lring) = true
  b_Lring : Binds K a.fd_Lring ["_law_call_here", "_law_rows"] []
  m_law : mg "law" = some (.ref a.a_law)
  F_law : Fun K "law" "law" s_law a.a_law a.fd_law
  k_law : PySem.W.keepIn K (.ref a.a_law) = true
  b_law : Binds K a.fd_law ["_law_script"] []
  g_PARTS : mg "PARTS" = some (.ref a.d_PARTS)
  d_PARTS : KDict K w a.d_PARTS a.es_PARTS a.n_PARTS
  v_PARTS_all : ∃ t, PySem.W.nsIn K a.d_PARTS "all" = some (some (.str "k" t))
  v_PARTS_up : ∃ t, PySem.W.nsIn K a.d_PARTS "up" = some (some (.str "fk" t))
  v_PARTS_swap : ∃ t, PySem.W.nsIn K a.d_PARTS "swap" = some (some (.str "ff" t))
  v_PARTS_wheel : ∃ t, PySem.W.nsIn K a.d_PARTS "wheel" = some (some (.str "ffk" t))
  v_PARTS_about : ∃ t, PySem.W.nsIn K a.d_PARTS "about" = some (some (.str "" t))
  v_PARTS_front : ∃ t, PySem.W.nsIn K a.d_PARTS "front" = some (some (.str "ff" t))
  v_PARTS_halve : ∃ t, PySem.W.nsIn K a.d_PARTS "halve" = some (some (.str "" t))
  v_PARTS_pair : ∃ t, PySem.W.nsIn K a.d_PARTS "pair" = some (some (.str "" t))
  v_PARTS_others : ∃ t, PySem.W.nsIn K a.d_PARTS "others" = some (some (.str "" t))
  v_PARTS_fill : ∃ t, PySem.W.nsIn K a.d_PARTS "fill" = some (some (.str "" t))
  g_UNDOING : mg "UNDOING" = some (.ref a.d_UNDOING)
  d_UNDOING : KDict K w a.d_UNDOING a.es_UNDOING a.n_UNDOING
  v_UNDOING_halve : ∃ t, PySem.W.nsIn K a.d_UNDOING "halve" = some (some (.str "pair" t))
  v_UNDOING_pair : ∃ t, PySem.W.nsIn K a.d_UNDOING "pair" = some (some (.str "halve" t))
  v_UNDOING_others : ∃ t, PySem.W.nsIn K a.d_UNDOING "others" = some (some (.str "fill" t))
  v_UNDOING_fill : ∃ t, PySem.W.nsIn K a.d_UNDOING "fill" = some (some (.str "others" t))
  o_UNDOING_all : PySem.W.nsIn K a.d_UNDOING "all" = some none
  o_UNDOING_up : PySem.W.nsIn K a.d_UNDOING "up" = some none
  o_UNDOING_swap : PySem.W.nsIn K a.d_UNDOING "swap" = some none
  o_UNDOING_wheel : PySem.W.nsIn K a.d_UNDOING "wheel" = some none
  o_UNDOING_about : PySem.W.nsIn K a.d_UNDOING "about" = some none
  o_UNDOING_front : PySem.W.nsIn K a.d_UNDOING "front" = some none
  n_len : mg "len" = none
  n_abs : mg "abs" = none
  n_int : mg "int" = none
  n_sorted : mg "sorted" = none
  n_list : mg "list" = none
  n_range : mg "range" = none
/-- a call -/
inductive C where
  | all (k : Int) | up (f k : Int) | swap (f g : Int) | wheel (f g k : Int) | about | front (f g : Int) | halve | pair | others | fill
def C.vals : C → List V
  | .all k => [.str "all", .int k]
  | .up f k => [.str "up", .int f, .int k]
  | .swap f g => [.str "swap", .int f, .int g]
  | .wheel f g k => [.str "wheel", .int f, .int g, .int k]
  | .about => [.str "about"]
  | .front f g => [.str "front", .int f, .int g]
  | .halve => [.str "halve"]
  | .pair => [.str "pair"]
  | .others => [.str "others"]
  | .fill => [.str "fill"]
def C.straight : C → Bool
  | .halve => false | .pair => false | .others => false | .fill => false | _ => true
def C.turned : C → C
  | .all k => .all (-k) | .up f k => .up f (-k) | .wheel f g k => .wheel f g (-k)
  | .halve => .pair | .pair => .halve | .others => .fill | .fill => .others | q => q
def C.named : C → List Int
  | .up f _ => [f] | .swap f g => [f, g] | .wheel f g _ => [f, g] | .front f g => [f, g] | _ => []
end My

set_option Elab.async false
set_option linter.all false
set_option maxRecDepth 100000
set_option maxHeartbeats 8000000
namespace My
open PySem PySem.Spec PyProof.Rows L2 Sx
local macro_rules | `(tactic| walk_at "nb") => `(tactic| first | exact NB.tup | exact NB.ints | exact NB.len (of_decide_eq_true rfl) | exact NB.at0b rfl | exact NB.at3b rfl | exact NB.ins | exact NB.own | exact NB.frz | exact NB.refs (by assumption) | assumption)
local macro_rules | `(tactic| walk_at "ne") => `(tactic| first | assumption | exact Ne.symm (by assumption) | exact ne_of_none (by assumption) (by assumption) | exact Ne.symm (ne_of_none (by assumption) (by assumption)))
local macro_rules | `(tactic| walk_at "hk") => `(tactic| first
  | assumption
  | exact upd_same
  | (refine' (upd_ne ?hkne).trans ?hkq; (case hkne => walk_at "ne"); (case hkq => walk_at "hk"))
  | (refine' Ex.kp (by assumption) _ _ ?hkq ?hkn; (case hkq => walk_at "hk"); (case hkn => walk_at "nb")))
local macro_rules | `(tactic| walk_at "rd1") => `(tactic| first
  | ((with_reducible refine' x_var ?hx ?_); (case hx => exact rfl))
  | with_reducible refine x_c ?_
  | with_reducible refine x_op ?_
  | with_reducible refine x_un ?_
  | with_reducible refine x_I0 ?_
  | with_reducible refine x_U ?_
  | ((with_reducible refine x_I ?hc ?_); (case hc => first | exact (by decide : (0 : Int) < _) | (show (0 : Int) < _; omega) | (show CMul _ _; first | exact .inl ⟨by omega, by omega⟩ | exact .inr ⟨by omega, by omega⟩) | (show CDiv _ _; exact ⟨by omega, by omega⟩) | (show CDivW _ _; exact wide_div (b := 200) (by omega) (by assumption) (by decide) (by decide)) | (show CDivW _ _; exact wide_div (b := 31) (by omega) (by omega) (by decide) (by decide))))
  | with_reducible refine x_EqI ?_
  | with_reducible refine x_NeI ?_
  | ((with_reducible refine x_EqSt ?h ?_); (case h => decide +kernel))
  | ((with_reducible refine x_EqSf ?h ?_); (case h => decide +kernel))
  | ((with_reducible refine x_NeSt ?h ?_); (case h => decide +kernel))
  | ((with_reducible refine x_NeSf ?h ?_); (case h => decide +kernel))
  | with_reducible refine x_EqS ?_
  | with_reducible refine x_NeS ?_
  | ((with_reducible refine' x_ixL ?hq ?hi ?_); (case hq => walk_at "hk"); (case hi => first | exact rfl | assumption))
  | ((with_reducible refine' x_ixT ?hq ?hi ?_); (case hq => walk_at "hk"); (case hi => first | exact rfl | assumption))
  | with_reducible refine x_chain ?_
  | with_reducible refine x_tup ?_
  | with_reducible refine x_lst ?_
  | ((with_reducible refine x_lenNew ?hl ?_); (case hl => exact Nat.le_of_ble_eq_true rfl); intro _ _ _ _ _)
  | ((with_reducible refine x_new ?_); intro _ _ _ _ _)
  | with_reducible refine x_sl ?_
  | with_reducible refine x_noPart ?_
  | with_reducible refine x_part ?_
  | with_reducible refine x_ex_int ?_
  | with_reducible refine x_ex_bl ?_
  | with_reducible refine x_ex_2 ?_
  | with_reducible refine x_test ?_
  | with_reducible refine x_B ?_
  | with_reducible refine x_and ?_
  | with_reducible refine x_or ?_
  | with_reducible refine x_not ?_
  | with_reducible refine x_andV ?_
  | with_reducible refine x_orV ?_
  | with_reducible refine x_notV ?_
  | with_reducible refine x_ifE ?_
  | with_reducible refine x_iteT ?_
  | with_reducible refine x_iteF ?_
  | ((with_reducible refine x_iteD ?_ ?_) <;> intro _)
  | ((with_reducible refine x_iteN ?_ ?_) <;> intro _)
  | with_reducible refine x_if ?_
  | with_reducible refine x_seq ?_
  | with_reducible refine x_next ?_
  | with_reducible refine x_asg ?_
  | with_reducible refine x_gName ?_
  | ((with_reducible refine' x_gTup ?hq ?hn ?_); (case hq => walk_at "hk"); (case hn => exact rfl))
  | with_reducible refine x_gCons ?_
  | with_reducible refine x_gNil ?_
  | ((with_reducible refine' x_gConsE ?h ?_); (case h => exact rfl))
  | ((with_reducible refine x_gNilE ?h ?_); (case h => exact rfl))
  | with_reducible refine x_ret ?_
  | with_reducible refine x_drop ?_
  | with_reducible refine x_par ?_
  | ((with_reducible refine' x_aug ?hx ?_); (case hx => exact rfl))
  | with_reducible refine x_ipI ?_
  | with_reducible refine x_augS ?_
  | with_reducible refine x_gSub ?_
  | ((with_reducible refine' x_setL ?hq ?hi ?_); (case hq => walk_at "hk"); (case hi => first | exact rfl | assumption))
  | with_reducible refine x_cons ?_
  | with_reducible refine x_nil ?_
  | with_reducible refine x_CB ?_
  | with_reducible refine x_abs ?_
  | with_reducible refine x_intI ?_
  | with_reducible refine x_intB ?_
  | ((with_reducible refine' x_lenL ?hq ?_); (case hq => walk_at "hk"))
  | ((with_reducible refine' x_lenT ?hq ?_); (case hq => walk_at "hk"))
  | ((with_reducible refine x_iteTe ?h ?_); (case h => exact rfl))
  | ((with_reducible refine x_iteFe ?h ?_); (case h => exact rfl))
  | walk_at "use"
  | with_reducible refine x_callS ?_
  | ((with_reducible refine x_lc ?_))
  | ((with_reducible refine x_for ?_))
  | ((with_reducible refine x_iR1 ?_))
  | ((with_reducible refine x_iL ?_))
  | ((with_reducible refine x_iZ ?_))
  | ((with_reducible refine x_yes ?_))
  | ((with_reducible refine' x_NIDt ?hq ?_); (case hq => assumption))
  | ((with_reducible refine' x_NIDf ?hq ?_); (case hq => assumption))
  | ((with_reducible refine' x_IIDf ?hq ?_); (case hq => assumption))
  | ((with_reducible refine' x_IIDt ?hq ?_); (case hq => assumption))
  | ((with_reducible refine' x_ixDs ?hd ?hq ?_); (case hd => assumption); (case hq => assumption))
  | ((with_reducible refine x_InSt ?h ?_); (case h => decide +kernel))
  | ((with_reducible refine x_InSf ?h ?_); (case h => decide +kernel))
  | ((with_reducible refine' x_notInI ?hq ?_); (case hq => walk_at "hk"))
  | ((with_reducible refine' x_inTt ?hq ?hv ?ha ?he ?_); (case hq => walk_at "hk"); (case hv => exact rfl); (case ha => exact rfl); (case he => decide +kernel))
  | ((with_reducible refine' x_inTf ?hq ?hv ?ha ?he ?_); (case hq => walk_at "hk"); (case hv => exact rfl); (case ha => exact rfl); (case he => decide +kernel))
  | ((with_reducible refine' x_slT ?hq ?hw ?_); (case hq => walk_at "hk"); (case hw => with_unfolding_all exact of_decide_eq_true rfl))
  | ((with_reducible refine' x_slL ?hq ?_); (case hq => walk_at "hk"))
  | ((with_reducible refine' x_catT ?hq ?hr ?n1 ?n2 ?hl ?_); (case hq => walk_at "hk"); (case hr => walk_at "hk"); (case n1 => exact List.cons_ne_nil _ _); (case n2 => exact List.cons_ne_nil _ _); (case hl => exact Nat.le_of_ble_eq_true rfl))
  | ((with_reducible refine x_bm ?_))
  | ((with_reducible refine x_lstRg ?_))
  | ((with_reducible refine x_rg1 ?_))
  | ((with_reducible refine And.intro ?h ?_); (case h => exact tyL (by assumption)))
  | dsimp only)
local macro_rules | `(tactic| walk_at "use") => `(tactic| fail)
local macro_rules | `(tactic| walk_at "rd") => `(tactic| repeat' (walk_at "rd1"))
local macro_rules | `(tactic| walk_at "ex") => `(tactic| first | exact Ex.refl _ | assumption | (refine' Ex.trans ?he (by assumption); (case he => walk_at "ex")))

section
variable {P : Program} {w : World} {K : PySem.W.Frag} {mg : Str → Option Value} {base : Heap} {a : Ad} {H : Hp} {Q : VK} {E : XK} {p b : Addr} {q : C}
/-! is_straight -/
def sp_is_straight : Sp := fun vs H Q _ => ∃ (p : Addr) (q : C), vs = [.ref p] ∧ H p = some (.tup q.vals) ∧ ∀ H1, Ex H H1 → Q (.bl q.straight) H1
theorem u_is_straight (h : H p = some (.tup q.vals)) (k : ∀ H1, Ex H H1 → Q (.bl q.straight) H1) : sp_is_straight [.ref p] H Q E := ⟨p, q, rfl, h, k⟩
theorem ok_is_straight (T : Txt K w mg a) : FnOk P w K mg base CX0 1 a.a_is_straight a.fd_is_straight ["call"] sp_is_straight := by
  refine T.F_is_straight.ok sc_is_straight (fun vs H Q E h => ?_) (fun cdv A outer s H vs Q E hr h => ?_)
  · obtain ⟨p, q, rfl, _⟩ := h; rfl
  · obtain ⟨p, q, rfl, hp, k⟩ := h
    refine ⟨_, (pss_one (ps_ret (pe_cmpR (c_notInD T.d_UNDOING) (pe_ix ix_tup (pv 0) pe_int (fun _ _ => rfl)) (pe_glob (v := .ref a.d_UNDOING) (by rfl) T.g_UNDOING rfl) (by rfl)))), ?_⟩
    have d_PARTS := T.d_PARTS
    have v_PARTS_all := T.v_PARTS_all
    obtain ⟨_, w_PARTS_all⟩ := T.v_PARTS_all
    have v_PARTS_up := T.v_PARTS_up
    obtain ⟨_, w_PARTS_up⟩ := T.v_PARTS_up
    have v_PARTS_swap := T.v_PARTS_swap
    obtain ⟨_, w_PARTS_swap⟩ := T.v_PARTS_swap
    have v_PARTS_wheel := T.v_PARTS_wheel
    obtain ⟨_, w_PARTS_wheel⟩ := T.v_PARTS_wheel
    have v_PARTS_about := T.v_PARTS_about
    obtain ⟨_, w_PARTS_about⟩ := T.v_PARTS_about
    have v_PARTS_front := T.v_PARTS_front
    obtain ⟨_, w_PARTS_front⟩ := T.v_PARTS_front
    have v_PARTS_halve := T.v_PARTS_halve
    obtain ⟨_, w_PARTS_halve⟩ := T.v_PARTS_halve
    have v_PARTS_pair := T.v_PARTS_pair
    obtain ⟨_, w_PARTS_pair⟩ := T.v_PARTS_pair
    have v_PARTS_others := T.v_PARTS_others
    obtain ⟨_, w_PARTS_others⟩ := T.v_PARTS_others
    have v_PARTS_fill := T.v_PARTS_fill
    obtain ⟨_, w_PARTS_fill⟩ := T.v_PARTS_fill
    have d_UNDOING := T.d_UNDOING
    have v_UNDOING_halve := T.v_UNDOING_halve
    obtain ⟨_, w_UNDOING_halve⟩ := T.v_UNDOING_halve
    have v_UNDOING_pair := T.v_UNDOING_pair
    obtain ⟨_, w_UNDOING_pair⟩ := T.v_UNDOING_pair
    have v_UNDOING_others := T.v_UNDOING_others
    obtain ⟨_, w_UNDOING_others⟩ := T.v_UNDOING_others
    have v_UNDOING_fill := T.v_UNDOING_fill
    obtain ⟨_, w_UNDOING_fill⟩ := T.v_UNDOING_fill
    have o_UNDOING_all := T.o_UNDOING_all
    have o_UNDOING_up := T.o_UNDOING_up
    have o_UNDOING_swap := T.o_UNDOING_swap
    have o_UNDOING_wheel := T.o_UNDOING_wheel
    have o_UNDOING_about := T.o_UNDOING_about
    have o_UNDOING_front := T.o_UNDOING_front
    cases q <;> (walk_at "rd"; exact k _ (Ex.refl _))
/-! turned -/
def sp_turned : Sp := fun vs H Q _ => ∃ (p : Addr) (q : C), vs = [.ref p] ∧ H p = some (.tup q.vals) ∧ ∀ p1 H1, Ex H H1 → H1 p1 = some (.tup q.turned.vals) → Q (.ref p1) H1
theorem u_turned (h : H p = some (.tup q.vals)) (k : ∀ p1 H1, Ex H H1 → H1 p1 = some (.tup q.turned.vals) → Q (.ref p1) H1) : sp_turned [.ref p] H Q E := ⟨p, q, rfl, h, k⟩
theorem ok_turned (T : Txt K w mg a) : FnOk P w K mg base CX0 1 a.a_turned a.fd_turned ["call"] sp_turned := by
  refine T.F_turned.ok sc_turned (fun vs H Q E h => ?_) (fun cdv A outer s H vs Q E hr h => ?_)
  · obtain ⟨p, q, rfl, _⟩ := h; rfl
  · obtain ⟨p, q, rfl, hp, k⟩ := h
    refine ⟨_, (pss_cons (ps_if (pt_cmpR c_inS pe_str (pe_ix ix_kdict (pe_glob (v := .ref a.d_PARTS) (by rfl) T.g_PARTS rfl) (pe_ix ix_tup (pv 0) pe_int (fun _ _ => rfl)) (fun _ _ => rfl)) (by rfl)) (pss_one (ps_ret (pe_op op_catT (pe_slice sl_tup (pv 0) po_none (po_some (pe_un un_neg pe_int))) (pe_tup (pa_cons (pe_un un_neg (pe_ix ix_tup (pv 0) (pe_un un_neg pe_int) (fun _ _ => rfl))) pa_nil))))) pss_nil)
      (pss_cons (ps_if (pt_cmpR (c_inD T.d_UNDOING) (pe_ix ix_tup (pv 0) pe_int (fun _ _ => rfl)) (pe_glob (v := .ref a.d_UNDOING) (by rfl) T.g_UNDOING rfl) (by rfl)) (pss_one (ps_ret (pe_tup (pa_cons (pe_ix ix_kdict (pe_glob (v := .ref a.d_UNDOING) (by rfl) T.g_UNDOING rfl) (pe_ix ix_tup (pv 0) pe_int (fun _ _ => rfl)) (fun _ _ => rfl)) pa_nil)))) pss_nil)
      (pss_one (ps_ret (pv 0))))), ?_⟩
    have d_PARTS := T.d_PARTS
    have v_PARTS_all := T.v_PARTS_all
    obtain ⟨_, w_PARTS_all⟩ := T.v_PARTS_all
    have v_PARTS_up := T.v_PARTS_up
    obtain ⟨_, w_PARTS_up⟩ := T.v_PARTS_up
    have v_PARTS_swap := T.v_PARTS_swap
    obtain ⟨_, w_PARTS_swap⟩ := T.v_PARTS_swap
    have v_PARTS_wheel := T.v_PARTS_wheel
    obtain ⟨_, w_PARTS_wheel⟩ := T.v_PARTS_wheel
    have v_PARTS_about := T.v_PARTS_about
    obtain ⟨_, w_PARTS_about⟩ := T.v_PARTS_about
    have v_PARTS_front := T.v_PARTS_front
    obtain ⟨_, w_PARTS_front⟩ := T.v_PARTS_front
    have v_PARTS_halve := T.v_PARTS_halve
    obtain ⟨_, w_PARTS_halve⟩ := T.v_PARTS_halve
    have v_PARTS_pair := T.v_PARTS_pair
    obtain ⟨_, w_PARTS_pair⟩ := T.v_PARTS_pair
    have v_PARTS_others := T.v_PARTS_others
    obtain ⟨_, w_PARTS_others⟩ := T.v_PARTS_others
    have v_PARTS_fill := T.v_PARTS_fill
    obtain ⟨_, w_PARTS_fill⟩ := T.v_PARTS_fill
    have d_UNDOING := T.d_UNDOING
    have v_UNDOING_halve := T.v_UNDOING_halve
    obtain ⟨_, w_UNDOING_halve⟩ := T.v_UNDOING_halve
    have v_UNDOING_pair := T.v_UNDOING_pair
    obtain ⟨_, w_UNDOING_pair⟩ := T.v_UNDOING_pair
    have v_UNDOING_others := T.v_UNDOING_others
    obtain ⟨_, w_UNDOING_others⟩ := T.v_UNDOING_others
    have v_UNDOING_fill := T.v_UNDOING_fill
    obtain ⟨_, w_UNDOING_fill⟩ := T.v_UNDOING_fill
    have o_UNDOING_all := T.o_UNDOING_all
    have o_UNDOING_up := T.o_UNDOING_up
    have o_UNDOING_swap := T.o_UNDOING_swap
    have o_UNDOING_wheel := T.o_UNDOING_wheel
    have o_UNDOING_about := T.o_UNDOING_about
    have o_UNDOING_front := T.o_UNDOING_front
    cases q <;> (walk_at "rd"; first | exact k _ _ (Ex.refl _) hp | skip)
    all_goals (rename_i h; exact k _ _ (by walk_at "ex") h)
end
end My

set_option Elab.async false
set_option linter.all false
set_option maxRecDepth 100000
set_option maxHeartbeats 8000000
namespace My
open PySem PySem.Spec PyProof.Rows L2 Sx
local macro_rules | `(tactic| walk_at "nb") => `(tactic| first | exact NB.tup | exact NB.ints | exact NB.len (of_decide_eq_true rfl) | exact NB.at0b rfl | exact NB.at3b rfl | exact NB.ins | exact NB.own | exact NB.frz | exact NB.refs (by assumption) | assumption)
local macro_rules | `(tactic| walk_at "ne") => `(tactic| first | assumption | exact Ne.symm (by assumption) | exact ne_of_none (by assumption) (by assumption) | exact Ne.symm (ne_of_none (by assumption) (by assumption)))
local macro_rules | `(tactic| walk_at "hk") => `(tactic| first
  | assumption
  | exact upd_same
  | (refine' (upd_ne ?hkne).trans ?hkq; (case hkne => walk_at "ne"); (case hkq => walk_at "hk"))
  | (refine' Ex.kp (by assumption) _ _ ?hkq ?hkn; (case hkq => walk_at "hk"); (case hkn => walk_at "nb")))
local macro_rules | `(tactic| walk_at "rd1") => `(tactic| first
  | ((with_reducible refine' x_var ?hx ?_); (case hx => exact rfl))
  | with_reducible refine x_c ?_
  | with_reducible refine x_op ?_
  | with_reducible refine x_un ?_
  | with_reducible refine x_I0 ?_
  | with_reducible refine x_U ?_
  | ((with_reducible refine x_I ?hc ?_); (case hc => first | exact (by decide : (0 : Int) < _) | (show (0 : Int) < _; omega) | (show CMul _ _; first | exact .inl ⟨by omega, by omega⟩ | exact .inr ⟨by omega, by omega⟩) | (show CDiv _ _; exact ⟨by omega, by omega⟩) | (show CDivW _ _; exact wide_div (b := 200) (by omega) (by assumption) (by decide) (by decide)) | (show CDivW _ _; exact wide_div (b := 31) (by omega) (by omega) (by decide) (by decide))))
  | with_reducible refine x_EqI ?_
  | with_reducible refine x_NeI ?_
  | ((with_reducible refine x_EqSt ?h ?_); (case h => decide +kernel))
  | ((with_reducible refine x_EqSf ?h ?_); (case h => decide +kernel))
  | ((with_reducible refine x_NeSt ?h ?_); (case h => decide +kernel))
  | ((with_reducible refine x_NeSf ?h ?_); (case h => decide +kernel))
  | with_reducible refine x_EqS ?_
  | with_reducible refine x_NeS ?_
  | ((with_reducible refine' x_ixL ?hq ?hi ?_); (case hq => walk_at "hk"); (case hi => first | exact rfl | assumption))
  | ((with_reducible refine' x_ixT ?hq ?hi ?_); (case hq => walk_at "hk"); (case hi => first | exact rfl | assumption))
  | with_reducible refine x_chain ?_
  | with_reducible refine x_tup ?_
  | with_reducible refine x_lst ?_
  | ((with_reducible refine x_lenNew ?hl ?_); (case hl => exact Nat.le_of_ble_eq_true rfl); intro _ _ _ _ _)
  | ((with_reducible refine x_new ?_); intro _ _ _ _ _)
  | with_reducible refine x_sl ?_
  | with_reducible refine x_noPart ?_
  | with_reducible refine x_part ?_
  | with_reducible refine x_ex_int ?_
  | with_reducible refine x_ex_bl ?_
  | with_reducible refine x_ex_2 ?_
  | with_reducible refine x_test ?_
  | with_reducible refine x_B ?_
  | with_reducible refine x_and ?_
  | with_reducible refine x_or ?_
  | with_reducible refine x_not ?_
  | with_reducible refine x_andV ?_
  | with_reducible refine x_orV ?_
  | with_reducible refine x_notV ?_
  | with_reducible refine x_ifE ?_
  | with_reducible refine x_iteT ?_
  | with_reducible refine x_iteF ?_
  | ((with_reducible refine x_iteD ?_ ?_) <;> intro _)
  | ((with_reducible refine x_iteN ?_ ?_) <;> intro _)
  | with_reducible refine x_if ?_
  | with_reducible refine x_seq ?_
  | with_reducible refine x_next ?_
  | with_reducible refine x_asg ?_
  | with_reducible refine x_gName ?_
  | ((with_reducible refine' x_gTup ?hq ?hn ?_); (case hq => walk_at "hk"); (case hn => exact rfl))
  | with_reducible refine x_gCons ?_
  | with_reducible refine x_gNil ?_
  | ((with_reducible refine' x_gConsE ?h ?_); (case h => exact rfl))
  | ((with_reducible refine x_gNilE ?h ?_); (case h => exact rfl))
  | with_reducible refine x_ret ?_
  | with_reducible refine x_drop ?_
  | with_reducible refine x_par ?_
  | ((with_reducible refine' x_aug ?hx ?_); (case hx => exact rfl))
  | with_reducible refine x_ipI ?_
  | with_reducible refine x_augS ?_
  | with_reducible refine x_gSub ?_
  | ((with_reducible refine' x_setL ?hq ?hi ?_); (case hq => walk_at "hk"); (case hi => first | exact rfl | assumption))
  | with_reducible refine x_cons ?_
  | with_reducible refine x_nil ?_
  | with_reducible refine x_CB ?_
  | with_reducible refine x_abs ?_
  | with_reducible refine x_intI ?_
  | with_reducible refine x_intB ?_
  | ((with_reducible refine' x_lenL ?hq ?_); (case hq => walk_at "hk"))
  | ((with_reducible refine' x_lenT ?hq ?_); (case hq => walk_at "hk"))
  | ((with_reducible refine x_iteTe ?h ?_); (case h => exact rfl))
  | ((with_reducible refine x_iteFe ?h ?_); (case h => exact rfl))
  | walk_at "use"
  | with_reducible refine x_callS ?_
  | ((with_reducible refine x_lc ?_))
  | ((with_reducible refine x_for ?_))
  | ((with_reducible refine x_iR1 ?_))
  | ((with_reducible refine x_iL ?_))
  | ((with_reducible refine x_iZ ?_))
  | ((with_reducible refine x_yes ?_))
  | ((with_reducible refine' x_NIDt ?hq ?_); (case hq => assumption))
  | ((with_reducible refine' x_NIDf ?hq ?_); (case hq => assumption))
  | ((with_reducible refine' x_IIDf ?hq ?_); (case hq => assumption))
  | ((with_reducible refine' x_IIDt ?hq ?_); (case hq => assumption))
  | ((with_reducible refine' x_ixDs ?hd ?hq ?_); (case hd => assumption); (case hq => assumption))
  | ((with_reducible refine x_InSt ?h ?_); (case h => decide +kernel))
  | ((with_reducible refine x_InSf ?h ?_); (case h => decide +kernel))
  | ((with_reducible refine' x_notInI ?hq ?_); (case hq => walk_at "hk"))
  | ((with_reducible refine' x_inTt ?hq ?hv ?ha ?he ?_); (case hq => walk_at "hk"); (case hv => exact rfl); (case ha => exact rfl); (case he => decide +kernel))
  | ((with_reducible refine' x_inTf ?hq ?hv ?ha ?he ?_); (case hq => walk_at "hk"); (case hv => exact rfl); (case ha => exact rfl); (case he => decide +kernel))
  | ((with_reducible refine' x_slT ?hq ?hw ?_); (case hq => walk_at "hk"); (case hw => with_unfolding_all exact of_decide_eq_true rfl))
  | ((with_reducible refine' x_slL ?hq ?_); (case hq => walk_at "hk"))
  | ((with_reducible refine' x_catT ?hq ?hr ?n1 ?n2 ?hl ?_); (case hq => walk_at "hk"); (case hr => walk_at "hk"); (case n1 => exact List.cons_ne_nil _ _); (case n2 => exact List.cons_ne_nil _ _); (case hl => exact Nat.le_of_ble_eq_true rfl))
  | ((with_reducible refine x_bm ?_))
  | ((with_reducible refine x_lstRg ?_))
  | ((with_reducible refine x_rg1 ?_))
  | ((with_reducible refine And.intro ?h ?_); (case h => exact tyL (by assumption)))
  | dsimp only)
local macro_rules | `(tactic| walk_at "use") => `(tactic| fail)
local macro_rules | `(tactic| walk_at "rd") => `(tactic| repeat' (walk_at "rd1"))
local macro_rules | `(tactic| walk_at "ex") => `(tactic| first | exact Ex.refl _ | assumption | (refine' Ex.trans ?he (by assumption); (case he => walk_at "ex")))

local macro_rules | `(tactic| walk_at "use") => `(tactic| ((with_reducible refine' u_is_straight ?hq ?_); (case hq => walk_at "hk"); intro _ _))
section
variable {P : Program} {w : World} {K : PySem.W.Frag} {mg : Str → Option Value} {base : Heap} {a : Ad} {H : Hp} {Q : VK} {E : XK} {p b : Addr} {q : C}
/-! where a call brings -/
def mvOpen (x : Nat) (fs rs r f : Int) : Int × Int := match x with
  | 0 => ((r * fs + f) % rs, (r * fs + f) / rs)
  | 1 => ((f * rs + r) / fs, (f * rs + r) % fs)
  | 2 => (r / 2 + r % 2 * ((rs + 1) / 2), f)
  | _ => if r < (rs + 1) / 2 then (2 * r, f) else (2 * (r - (rs + 1) / 2) + 1, f)
def wheelAt (y rs g h : Int) : Int × Int := if y < rs then (rs - 1 - y, g) else (y - rs, h)
def wheelTo (g h k rs r f : Int) : Int × Int := wheelAt (((if f = g then rs - 1 - r else rs + r) + k) % (2 * rs)) rs g h
def mv (q : C) (fs rs r f : Int) : Int × Int := match q with
  | .all k => ((r - k) % rs, f)
  | .up g k => if f ∈ [g] then ((r - k) % rs, f) else (r, f)
  | .swap g h => if f ∈ [g, h] then (r, g + h - f) else (r, f)
  | .wheel g h k => if f ∈ [g, h] then wheelTo g h k rs r f else (r, f)
  | .about => (rs - 1 - r, fs - 1 - f)
  | .front g h => if f ∈ [g, h] then (if r ≠ 0 then (r, f) else (r, g + h - f)) else (r, f)
  | .halve => mvOpen 0 fs rs r f
  | .pair => mvOpen 1 fs rs r f
  | .others => mvOpen 2 fs rs r f
  | .fill => mvOpen 3 fs rs r f
theorem mv_out {q : C} {fs rs r f : Int} (h : f ∉ q.named) (hq : q.named ≠ []) : mv q fs rs r f = (r, f) := by
  cases q with
  | all k => exact absurd rfl hq
  | about => exact absurd rfl hq
  | halve => exact absurd rfl hq
  | pair => exact absurd rfl hq
  | others => exact absurd rfl hq
  | fill => exact absurd rfl hq
  | up g k => exact if_neg h
  | swap g k => exact if_neg h
  | wheel g k l => exact if_neg h
  | front g k => exact if_neg h
theorem mv_outP {q : C} {fs rs r f : Int} {ns : List Int} (hp : ns.Perm q.named) (h : ¬ f ∈ ns) (hq : q.named ≠ []) : mv q fs rs r f = (r, f) := mv_out (fun z => h (hp.mem_iff.mpr z)) hq
theorem mv_up {g k fs rs r f : Int} (h : f ∈ (C.up g k).named) : mv (.up g k) fs rs r f = ((r - k) % rs, f) := if_pos h
theorem mv_swap {g k fs rs r f : Int} (h : f ∈ (C.swap g k).named) : mv (.swap g k) fs rs r f = (r, g + k - f) := if_pos h
theorem mv_wheel {g k l fs rs r f : Int} (h : f ∈ (C.wheel g k l).named) : mv (.wheel g k l) fs rs r f = wheelTo g k l rs r f := if_pos h
theorem mv_front1 {g k fs rs r f : Int} (h : f ∈ (C.front g k).named) (h0 : ¬ r = 0) : mv (.front g k) fs rs r f = (r, f) := (if_pos h).trans (if_pos h0)
theorem mv_front0 {g k fs rs r f : Int} (h : f ∈ (C.front g k).named) (h0 : r = 0) : mv (.front g k) fs rs r f = (r, g + k - f) := (if_pos h).trans (if_neg (fun q => q h0))
def pairV (x : Int × Int) : List V := [.int x.1, .int x.2]
def opW : Nat → Str
  | 0 => "halve" | 1 => "pair" | 2 => "others" | _ => "fill"
def sp_moved_by_open_call : Sp := fun vs H Q _ => ∃ (x : Nat) (fs rs r f : Int) (pl : Addr), vs = [.str (opW x), .int fs, .int rs, .ref pl] ∧ H pl = some (.tup [.int r, .int f]) ∧ (fs = 2 ∨ fs = 3) ∧ 0 < rs ∧ rs.natAbs < 2 ^ 200 ∧ (0 ≤ f ∧ f < fs) ∧ ∀ p1 H1, Ex H H1 → H1 p1 = some (.tup (pairV (mvOpen x fs rs r f))) → Q (.ref p1) H1
theorem u_moved_by_open_call (x : Nat) {fs rs r f : Int} {pl : Addr} {z : Str} (hz : z = opW x) (h : H pl = some (.tup [.int r, .int f])) (h1 : fs = 2 ∨ fs = 3) (h2 : 0 < rs) (h3 : rs.natAbs < 2 ^ 200) (h4 : 0 ≤ f ∧ f < fs) (k : ∀ p1 H1, Ex H H1 → H1 p1 = some (.tup (pairV (mvOpen x fs rs r f))) → Q (.ref p1) H1) :
    sp_moved_by_open_call [.str z, .int fs, .int rs, .ref pl] H Q E := ⟨x, fs, rs, r, f, pl, by rw [hz], h, h1, h2, h3, h4, k⟩
theorem ok_moved_by_open_call (T : Txt K w mg a) : FnOk P w K mg base CX0 1 a.a_moved_by_open_call a.fd_moved_by_open_call ["word", "files", "rows", "place"] sp_moved_by_open_call := by
  refine T.F_moved_by_open_call.ok sc_moved_by_open_call (fun vs H Q E h => ?_) (fun cdv A outer s H vs Q E hr h => ?_)
  · obtain ⟨x, fs, rs, r, f, pl, rfl, _⟩ := h; rfl
  · obtain ⟨x, fs, rs, r, f, pl, rfl, hp, hfs, hrs, hbig, hff, k⟩ := h
    have hf0 : 0 < fs := by omega
    have hfb : fs.natAbs < 2 ^ 200 := by rcases hfs with rfl | rfl <;> decide
    refine ⟨_, (pss_cons (ps_asg (pv 3) (pg_tup rfl (pgs_cons (pg_name (i := 4) sc_moved_by_open_call.nd rfl (Or.inl rfl)) (pgs_cons (pg_name (i := 5) sc_moved_by_open_call.nd rfl (Or.inl rfl)) pgs_nil))))
      (pss_cons (ps_if (pt_cmpR op_eq (pv 0) pe_str (nomark _)) (pss_cons (ps_set (i := 6) sc_moved_by_open_call.nd rfl (Or.inl rfl) (pe_op op_add (pe_op op_mul (pv 4) (pv 1)) (pv 5)))
      (pss_one (ps_ret (pe_tup (pa_cons (pe_op op_mod (pv 6) (pv 2)) (pa_cons (pe_op op_fdivW (pv 6) (pv 2)) pa_nil)))))) pss_nil)
      (pss_cons (ps_if (pt_cmpR op_eq (pv 0) pe_str (nomark _)) (pss_cons (ps_set (i := 6) sc_moved_by_open_call.nd rfl (Or.inl rfl) (pe_op op_add (pe_op op_mul (pv 5) (pv 2)) (pv 4)))
      (pss_one (ps_ret (pe_tup (pa_cons (pe_op op_fdivW (pv 6) (pv 1)) (pa_cons (pe_op op_mod (pv 6) (pv 1)) pa_nil)))))) pss_nil)
      (pss_cons (ps_set (i := 7) sc_moved_by_open_call.nd rfl (Or.inl rfl) (pe_op op_fdiv (pe_op op_add (pv 2) pe_int) pe_int))
      (pss_cons (ps_if (pt_cmpR op_eq (pv 0) pe_str (nomark _)) (pss_one (ps_ret (pe_tup (pa_cons (pe_op op_add (pe_op op_fdiv (pv 4) pe_int) (pe_op op_mul (pe_op op_mod (pv 4) pe_int) (pv 7))) (pa_cons (pv 5) pa_nil))))) pss_nil)
      (pss_cons (ps_if (pt_cmpR op_lt (pv 4) (pv 7) (nomark _)) (pss_one (ps_ret (pe_tup (pa_cons (pe_op op_mul pe_int (pv 4)) (pa_cons (pv 5) pa_nil))))) pss_nil)
      (pss_one (ps_ret (pe_tup (pa_cons (pe_op op_add (pe_op op_mul pe_int (pe_op op_sub (pv 4) (pv 7))) pe_int) (pa_cons (pv 5) pa_nil))))))))))), ?_⟩
    match x with
    | 0 => walk_at "rd"; rename_i h; exact k _ _ (by walk_at "ex") h
    | 1 => walk_at "rd";  rename_i h; exact k _ _ (by walk_at "ex") h
    | 2 => walk_at "rd"; rename_i h; exact k _ _ (by walk_at "ex") h
    | n + 3 =>
      have e : opW (n + 3) = Str.ofString "fill" := rfl
      rw [e]
      have km : ∀ p1 H1, Ex H H1 → H1 p1 = some (.tup (pairV (if r < (rs + 1) / 2 then (2 * r, f) else (2 * (r - (rs + 1) / 2) + 1, f)))) → Q (.ref p1) H1 := k
      walk_at "rd"
      · rename_i hlt _ _ _ _ h
        exact km _ _ (by walk_at "ex") (by rw [if_pos hlt]; exact h)
      · rename_i hlt _ _ _ _ h
        exact km _ _ (by walk_at "ex") (by rw [if_neg hlt]; exact h)
/-! cuts of a file -/
abbrev Way := Int × Int × Int
def wayV (w : Way) : List V := [.int w.1, .int w.2.1, .int w.2.2]
/-- a row, the way of the rows ahead of it, that of all others -/
structure CutAt (H : Hp) (t : Addr) (c : Int) (x y : Way) : Prop where
  ex : ∃ p q, H t = some (.tup [.int c, .ref p, .ref q]) ∧ H p = some (.tup (wayV x)) ∧ H q = some (.tup (wayV y))
def sp_whole : Sp := fun vs H Q _ => ∃ (p : Addr) (x : Way), vs = [.ref p] ∧ H p = some (.tup (wayV x)) ∧ ∀ t H1, Ex H H1 → CutAt H1 t 0 x x → Q (.ref t) H1
theorem u_whole (x : Way) (h : H p = some (.tup (wayV x))) (k : ∀ t H1, Ex H H1 → CutAt H1 t 0 x x → Q (.ref t) H1) : sp_whole [.ref p] H Q E := ⟨p, x, rfl, h, k⟩
theorem ok_whole (T : Txt K w mg a) : FnOk P w K mg base CX0 1 a.a_whole a.fd_whole ["way"] sp_whole := by
  refine T.F_whole.ok sc_whole (fun vs H Q E h => ?_) (fun cdv A outer s H vs Q E hr h => ?_)
  · obtain ⟨p, x, rfl, _⟩ := h; rfl
  · obtain ⟨p, x, rfl, hp, k⟩ := h
    refine ⟨_, (pss_one (ps_ret (pe_tup (pa_cons pe_int (pa_cons (pv 0) (pa_cons (pv 0) pa_nil)))))), ?_⟩
    walk_at "rd"
    rename_i t H1 e1 f1 h1
    exact k _ _ e1 ⟨p, p, h1, e1.kp _ _ hp NB.tup, e1.kp _ _ hp NB.tup⟩
def sp_cut_of_up : Sp := fun vs H Q _ => ∃ k rs f : Int, vs = [.int k, .int rs, .int f] ∧ 0 < rs ∧ ∀ t H1, Ex H H1 → CutAt H1 t (k % rs) (f, 1, rs - k % rs) (f, 1, -(k % rs)) → Q (.ref t) H1
theorem u_cut_of_up {k rs f : Int} (h : 0 < rs) (kk : ∀ t H1, Ex H H1 → CutAt H1 t (k % rs) (f, 1, rs - k % rs) (f, 1, -(k % rs)) → Q (.ref t) H1) : sp_cut_of_up [.int k, .int rs, .int f] H Q E := ⟨k, rs, f, rfl, h, kk⟩
theorem ok_cut_of_up (T : Txt K w mg a) : FnOk P w K mg base CX0 1 a.a_cut_of_up a.fd_cut_of_up ["k", "rows", "file"] sp_cut_of_up := by
  refine T.F_cut_of_up.ok sc_cut_of_up (fun vs H Q E h => ?_) (fun cdv A outer s H vs Q E hr h => ?_)
  · obtain ⟨k, rs, f, rfl, _⟩ := h; rfl
  · obtain ⟨k, rs, f, rfl, hrs, kk⟩ := h
    refine ⟨_, (pss_cons (ps_set (i := 3) sc_cut_of_up.nd rfl (Or.inl rfl) (pe_op op_mod (pv 0) (pv 1)))
      (pss_one (ps_ret (pe_tup (pa_cons (pv 3) (pa_cons (pe_tup (pa_cons (pv 2) (pa_cons pe_int (pa_cons (pe_op op_sub (pv 1) (pv 3)) pa_nil)))) (pa_cons (pe_tup (pa_cons (pv 2) (pa_cons pe_int (pa_cons (pe_un un_neg (pv 3)) pa_nil)))) pa_nil))))))), ?_⟩
    walk_at "rd"
    rename_i p1 H1 e1 f1 h1 p2 H2 e2 f2 h2 t H3 e3 f3 h3
    exact kk _ _ ((e1.trans e2).trans e3) ⟨_, _, h3, (e2.trans e3).kp _ _ h1 NB.tup, e3.kp _ _ h2 NB.tup⟩
def cutWheel (g h k rs f : Int) : Int × Way × Way :=
  if f = g then (if k < rs then (k, (h, -1, k - 1), (g, 1, -k)) else (k - rs, (g, 1, 2 * rs - k), (h, -1, k - 1)))
  else (if k < rs then (rs - k, (h, 1, k), (g, -1, 2 * rs - 1 - k)) else (2 * rs - k, (g, -1, 2 * rs - 1 - k), (h, 1, k - 2 * rs)))
def sp_cut_of_wheel : Sp := fun vs H Q _ => ∃ (p : Addr) (g h k rs f : Int), vs = [.ref p, .int rs, .int f] ∧ H p = some (.tup (C.wheel g h k).vals) ∧ 0 < rs ∧ ∀ t H1, Ex H H1 → CutAt H1 t (cutWheel g h (k % (2 * rs)) rs f).1 (cutWheel g h (k % (2 * rs)) rs f).2.1 (cutWheel g h (k % (2 * rs)) rs f).2.2 → Q (.ref t) H1
theorem u_cut_of_wheel {g h k rs f : Int} (hp : H p = some (.tup (C.wheel g h k).vals)) (hr : 0 < rs) (kk : ∀ t H1, Ex H H1 → CutAt H1 t (cutWheel g h (k % (2 * rs)) rs f).1 (cutWheel g h (k % (2 * rs)) rs f).2.1 (cutWheel g h (k % (2 * rs)) rs f).2.2 → Q (.ref t) H1) :
    sp_cut_of_wheel [.ref p, .int rs, .int f] H Q E := ⟨p, g, h, k, rs, f, rfl, hp, hr, kk⟩
theorem ok_cut_of_wheel (T : Txt K w mg a) : FnOk P w K mg base CX0 1 a.a_cut_of_wheel a.fd_cut_of_wheel ["call", "rows", "file"] sp_cut_of_wheel := by
  refine T.F_cut_of_wheel.ok sc_cut_of_wheel (fun vs H Q E h => ?_) (fun cdv A outer s H vs Q E hr h => ?_)
  · obtain ⟨p, g, h, k, rs, f, rfl, _⟩ := h; rfl
  · obtain ⟨p, g, h, k, rs, f, rfl, hp, hrs, kk⟩ := h
    refine ⟨_, (pss_cons (ps_asg (pe_slice sl_tup (pv 0) (po_some pe_int) po_none) (pg_tup rfl (pgs_cons (pg_name (i := 3) sc_cut_of_wheel.nd rfl (Or.inl rfl)) (pgs_cons (pg_name (i := 4) sc_cut_of_wheel.nd rfl (Or.inl rfl)) (pgs_cons (pg_name (i := 5) sc_cut_of_wheel.nd rfl (Or.inl rfl)) pgs_nil)))))
      (pss_cons (ps_set (i := 5) sc_cut_of_wheel.nd rfl (Or.inl rfl) (pe_op op_mod (pv 5) (pe_op op_mul pe_int (pv 1))))
      (pss_cons (ps_if (pt_cmpR op_eq (pv 2) (pv 3) (nomark _)) (pss_cons (ps_set (i := 6) sc_cut_of_wheel.nd rfl (Or.inl rfl) (pe_tup (pa_cons (pv 4) (pa_cons (pe_un un_neg pe_int) (pa_cons (pe_op op_sub (pv 5) pe_int) pa_nil)))))
      (pss_cons (ps_if (pt_cmpR op_lt (pv 5) (pv 1) (nomark _)) (pss_one (ps_ret (pe_tup (pa_cons (pv 5) (pa_cons (pv 6) (pa_cons (pe_tup (pa_cons (pv 3) (pa_cons pe_int (pa_cons (pe_un un_neg (pv 5)) pa_nil)))) pa_nil)))))) pss_nil)
      (pss_one (ps_ret (pe_tup (pa_cons (pe_op op_sub (pv 5) (pv 1)) (pa_cons (pe_tup (pa_cons (pv 3) (pa_cons pe_int (pa_cons (pe_op op_sub (pe_op op_mul pe_int (pv 1)) (pv 5)) pa_nil)))) (pa_cons (pv 6) pa_nil)))))))) pss_nil)
      (pss_cons (ps_set (i := 6) sc_cut_of_wheel.nd rfl (Or.inl rfl) (pe_tup (pa_cons (pv 3) (pa_cons (pe_un un_neg pe_int) (pa_cons (pe_op op_sub (pe_op op_sub (pe_op op_mul pe_int (pv 1)) pe_int) (pv 5)) pa_nil)))))
      (pss_cons (ps_if (pt_cmpR op_lt (pv 5) (pv 1) (nomark _)) (pss_one (ps_ret (pe_tup (pa_cons (pe_op op_sub (pv 1) (pv 5)) (pa_cons (pe_tup (pa_cons (pv 4) (pa_cons pe_int (pa_cons (pv 5) pa_nil)))) (pa_cons (pv 6) pa_nil)))))) pss_nil)
      (pss_one (ps_ret (pe_tup (pa_cons (pe_op op_sub (pe_op op_mul pe_int (pv 1)) (pv 5)) (pa_cons (pv 6) (pa_cons (pe_tup (pa_cons (pv 4) (pa_cons pe_int (pa_cons (pe_op op_sub (pv 5) (pe_op op_mul pe_int (pv 1))) pa_nil)))) pa_nil))))))))))), ?_⟩
    walk_at "rd"
    all_goals (rename_i p0 K0 e0 f0 h0 c1 p1 K1 e1 f1 h1 c2 p2 K2 e2 f2 h2 t K3 e3 f3 h3; refine kk _ _ (by walk_at "ex") ?_; unfold cutWheel)
    · rw [if_pos c1, if_pos c2]
      exact ⟨p1, p2, h3, (e2.trans e3).kp _ _ h1 NB.tup, e3.kp _ _ h2 NB.tup⟩
    · rw [if_pos c1, if_neg c2]
      exact ⟨p2, p1, h3, e3.kp _ _ h2 NB.tup, (e2.trans e3).kp _ _ h1 NB.tup⟩
    · rw [if_neg c1, if_pos c2]
      exact ⟨p2, p1, h3, e3.kp _ _ h2 NB.tup, (e2.trans e3).kp _ _ h1 NB.tup⟩
    · rw [if_neg c1, if_neg c2]
      exact ⟨p1, p2, h3, (e2.trans e3).kp _ _ h1 NB.tup, e3.kp _ _ h2 NB.tup⟩
def cutOf (q : C) (fs rs f : Int) : Int × Way × Way := match q with
  | .all k => (k % rs, (f, 1, rs - k % rs), (f, 1, -(k % rs)))
  | .up g k => if g = f then (k % rs, (f, 1, rs - k % rs), (f, 1, -(k % rs))) else (0, (f, 1, 0), (f, 1, 0))
  | .swap g h => if f ∈ [g, h] then (0, (g + h - f, 1, 0), (g + h - f, 1, 0)) else (0, (f, 1, 0), (f, 1, 0))
  | .wheel g h k => if f ∈ [g, h] then cutWheel g h (k % (2 * rs)) rs f else (0, (f, 1, 0), (f, 1, 0))
  | .front g h => if f ∈ [g, h] then (1, (g + h - f, 1, 0), (f, 1, 0)) else (0, (f, 1, 0), (f, 1, 0))
  | _ => (0, (fs - 1 - f, -1, rs - 1), (fs - 1 - f, -1, rs - 1))
def sp_cut_of : Sp := fun vs H Q _ => ∃ (p : Addr) (q : C) (fs rs f : Int), vs = [.ref p, .int fs, .int rs, .int f] ∧ H p = some (.tup q.vals) ∧ q.straight = true ∧ 0 < rs ∧ ∀ t H1, Ex H H1 → CutAt H1 t (cutOf q fs rs f).1 (cutOf q fs rs f).2.1 (cutOf q fs rs f).2.2 → Q (.ref t) H1
theorem u_cut_of {fs rs f : Int} (hp : H p = some (.tup q.vals)) (hs : q.straight = true) (hr : 0 < rs) (kk : ∀ t H1, Ex H H1 → CutAt H1 t (cutOf q fs rs f).1 (cutOf q fs rs f).2.1 (cutOf q fs rs f).2.2 → Q (.ref t) H1) :
    sp_cut_of [.ref p, .int fs, .int rs, .int f] H Q E := ⟨p, q, fs, rs, f, rfl, hp, hs, hr, kk⟩
theorem x_notInTI {n : Int} (ns : List Int) (h : H p = some (.tup (ns.map V.int))) (k : Q (.bl (!decide (n ∈ ns))) H) : rIn K true (.int n) (.ref p) H Q := ⟨p, _, rfl, .inr (SqT.of h), rfl, flat_ints, by rw [if_pos rfl, inV_ints]; exact k⟩
local macro_rules | `(tactic| walk_at "use") => `(tactic| ((with_reducible refine' u_cut_of_up ?h ?_); (case h => assumption); intro _ _ _ _))
local macro_rules | `(tactic| walk_at "use") => `(tactic| ((with_reducible refine' u_cut_of_wheel ?hq ?h ?_); (case hq => walk_at "hk"); (case h => assumption); intro _ _ _ _))
theorem ok_cut_of (T : Txt K w mg a) : FnOk P w K mg base CX0 2 a.a_cut_of a.fd_cut_of ["call", "files", "rows", "file"] sp_cut_of := by
  refine T.F_cut_of.ok sc_cut_of (fun vs H Q E h => ?_) (fun cdv A outer s H vs Q E hr h => ?_)
  · obtain ⟨p, q, fs, rs, f, rfl, _⟩ := h; rfl
  · obtain ⟨p, q, fs, rs, f, rfl, hp, hs, hrs, kk⟩ := h
    have G_whole := ok_whole (P := P) (base := base) T
    have G_cut_of_up := ok_cut_of_up (P := P) (base := base) T
    have G_cut_of_wheel := ok_cut_of_wheel (P := P) (base := base) T
    refine ⟨_, (pss_cons (ps_set (i := 4) sc_cut_of.nd rfl (Or.inl rfl) (pe_ix ix_tup (pv 0) pe_int (fun _ _ => rfl)))
      (pss_cons (ps_if (PW.pt (pw_or (pt_cmpR op_eq (pv 4) pe_str (nomark _)) (pw_or1 (PW.pt (pw_and (pt_cmpR op_eq (pv 4) pe_str (nomark _)) (pw_and1 (pt_cmpR op_eq (pe_ix ix_tup (pv 0) pe_int (fun _ _ => rfl)) (pv 3) (nomark _)))))))) (pss_one (ps_ret (pe_call G_cut_of_up (hr.mono (by decide)) (by rfl) T.m_cut_of_up T.k_cut_of_up T.b_cut_of_up .nil pass0 (pa_cons (pe_ix ix_tup (pv 0) (pe_un un_neg pe_int) (fun _ _ => rfl)) (pa_cons (pv 2) (pa_cons (pv 3) pa_nil)))))) pss_nil)
      (pss_cons (ps_if (pt_cmpR op_eq (pv 4) pe_str (nomark _)) (pss_one (ps_ret (pe_call G_whole (hr.mono (by decide)) (by rfl) T.m_whole T.k_whole T.b_whole .nil pass0 (pa_cons (pe_tup (pa_cons (pe_op op_sub (pe_op op_sub (pv 1) pe_int) (pv 3)) (pa_cons (pe_un un_neg pe_int) (pa_cons (pe_op op_sub (pv 2) pe_int) pa_nil)))) pa_nil)))) pss_nil)
      (pss_cons (ps_if (PW.pt (pw_or (pt_cmpR op_eq (pv 4) pe_str (nomark _)) (pw_or1 (pt_cmpR op_notIn_seq (pv 3) (pe_slice sl_tup (pv 0) (po_some pe_int) (po_some pe_int)) (by rfl))))) (pss_one (ps_ret (pe_call G_whole (hr.mono (by decide)) (by rfl) T.m_whole T.k_whole T.b_whole .nil pass0 (pa_cons (pe_tup (pa_cons (pv 3) (pa_cons pe_int (pa_cons pe_int pa_nil)))) pa_nil)))) pss_nil)
      (pss_cons (ps_if (pt_cmpR op_eq (pv 4) pe_str (nomark _)) (pss_one (ps_ret (pe_call G_cut_of_wheel (hr.mono (by decide)) (by rfl) T.m_cut_of_wheel T.k_cut_of_wheel T.b_cut_of_wheel .nil pass0 (pa_cons (pv 0) (pa_cons (pv 2) (pa_cons (pv 3) pa_nil)))))) pss_nil)
      (pss_cons (ps_set (i := 5) sc_cut_of.nd rfl (Or.inl rfl) (pe_tup (pa_cons (pe_op op_sub (pe_op op_add (pe_ix ix_tup (pv 0) pe_int (fun _ _ => rfl)) (pe_ix ix_tup (pv 0) pe_int (fun _ _ => rfl))) (pv 3)) (pa_cons pe_int (pa_cons pe_int pa_nil)))))
      (pss_cons (ps_if (pt_cmpR op_eq (pv 4) pe_str (nomark _)) (pss_one (ps_ret (pe_tup (pa_cons pe_int (pa_cons (pv 5) (pa_cons (pe_tup (pa_cons (pv 3) (pa_cons pe_int (pa_cons pe_int pa_nil)))) pa_nil)))))) pss_nil)
      (pss_one (ps_ret (pe_call G_whole (hr.mono (by decide)) (by rfl) T.m_whole T.k_whole T.b_whole .nil pass0 (pa_cons (pv 5) pa_nil))))))))))), ?_⟩
    cases q with
    | halve => cases hs
    | pair => cases hs
    | others => cases hs
    | fill => cases hs
    | all k =>
      walk_at "rd"
      rename_i c
      exact kk _ _ (by walk_at "ex") c
    | up g k =>
      walk_at "rd"
      · rename_i c1 t H1 e1 c
        exact kk _ _ (by walk_at "ex") (by rw [show cutOf (.up g k) fs rs f = (k % rs, (f, 1, rs - k % rs), (f, 1, -(k % rs))) from if_pos c1]; exact c)
      · rename_i c1 p1 H1 e1 f1 h1
        refine u_whole (f, 1, 0) h1 fun t H2 e2 c => ?_
        exact kk _ _ (by walk_at "ex") (by rw [show cutOf (.up g k) fs rs f = (0, (f, 1, 0), (f, 1, 0)) from if_neg c1]; exact c)
    | swap g h =>
      walk_at "rd"
      rename_i p1 H1 e1 f1 h1
      refine x_notInTI [g, h] h1 ?_
      walk_at "rd"
      · rename_i c1 p2 H2 e2 f2 h2
        refine u_whole (f, 1, 0) h2 fun t H3 e3 c => ?_
        exact kk _ _ (by walk_at "ex") (by rw [show cutOf (.swap g h) fs rs f = (0, (f, 1, 0), (f, 1, 0)) from if_neg c1]; exact c)
      · rename_i c1 p2 H2 e2 f2 h2
        refine u_whole (g + h - f, 1, 0) h2 fun t H3 e3 c => ?_
        exact kk _ _ (by walk_at "ex") (by rw [show cutOf (.swap g h) fs rs f = (0, (g + h - f, 1, 0), (g + h - f, 1, 0)) from if_pos c1]; exact c)
    | wheel g h k =>
      walk_at "rd"
      rename_i p1 H1 e1 f1 h1
      refine x_notInTI [g, h] h1 ?_
      walk_at "rd"
      · rename_i c1 p2 H2 e2 f2 h2
        refine u_whole (f, 1, 0) h2 fun t H3 e3 c => ?_
        exact kk _ _ (by walk_at "ex") (by rw [show cutOf (.wheel g h k) fs rs f = (0, (f, 1, 0), (f, 1, 0)) from if_neg c1]; exact c)
      · rename_i c1 t H2 e2 c
        exact kk _ _ (by walk_at "ex") (by rw [show cutOf (.wheel g h k) fs rs f = cutWheel g h (k % (2 * rs)) rs f from if_pos c1]; exact c)
    | about =>
      walk_at "rd"
      rename_i p1 H1 e1 f1 h1
      exact u_whole (fs - 1 - f, -1, rs - 1) h1 fun t H2 e2 c => kk _ _ (by walk_at "ex") c
    | front g h =>
      walk_at "rd"
      rename_i p1 H1 e1 f1 h1
      refine x_notInTI [g, h] h1 ?_
      walk_at "rd"
      · rename_i c1 p2 H2 e2 f2 h2
        refine u_whole (f, 1, 0) h2 fun t H3 e3 c => ?_
        exact kk _ _ (by walk_at "ex") (by rw [show cutOf (.front g h) fs rs f = (0, (f, 1, 0), (f, 1, 0)) from if_neg c1]; exact c)
      · rename_i c1 p2 H2 e2 f2 h2 p3 H3 e3 f3 h3 t H4 e4 f4 h4
        refine kk _ _ (by walk_at "ex") ?_
        rw [show cutOf (.front g h) fs rs f = (1, (g + h - f, 1, 0), (f, 1, 0)) from if_pos c1]
        exact ⟨p2, p3, h4, (e3.trans e4).kp _ _ h2 NB.tup, e4.kp _ _ h3 NB.tup⟩
/-! the cut brings as the call does -/
def wayTo (x : Way) (r : Int) : Int × Int := (x.2.1 * r + x.2.2, x.1)
theorem up_cut {r k rs : Int} (h0 : 0 ≤ r) (h1 : r < rs) : (r - k) % rs = if r < k % rs then r + (rs - k % rs) else r - k % rs := by
  have c0 := Int.emod_nonneg k (show rs ≠ 0 by omega)
  have c1 := Int.emod_lt_of_pos k (show 0 < rs by omega)
  rw [Int.sub_emod, Int.emod_eq_of_lt h0 h1]
  generalize k % rs = c at c0 c1
  by_cases q : r < c
  · rw [if_pos q, show r - c = (r + (rs - c)) + rs * (-1) by omega, Int.add_mul_emod_self_left]
    exact Int.emod_eq_of_lt (by omega) (by omega)
  · rw [if_neg q]
    exact Int.emod_eq_of_lt (by omega) (by omega)
theorem ring_cut {y k n : Int} (h0 : 0 ≤ y) (h1 : y < n) : (y + k) % n = if y + k % n < n then y + k % n else y + k % n - n := by
  have c0 := Int.emod_nonneg k (show n ≠ 0 by omega)
  have c1 := Int.emod_lt_of_pos k (show 0 < n by omega)
  rw [Int.add_emod, Int.emod_eq_of_lt h0 h1]
  generalize k % n = c at c0 c1
  by_cases q : y + c < n
  · rw [if_pos q]
    exact Int.emod_eq_of_lt (by omega) q
  · rw [if_neg q]
    have e := Int.add_mul_emod_self_left (y + c - n) n 1
    rw [show y + c - n + n * 1 = y + c by omega] at e
    rw [e]
    exact Int.emod_eq_of_lt (by omega) (by omega)
theorem cut_mv {q : C} {fs rs r f : Int} (hs : q.straight = true) (h0 : 0 ≤ r) (h1 : r < rs) : wayTo (if r < (cutOf q fs rs f).1 then (cutOf q fs rs f).2.1 else (cutOf q fs rs f).2.2) r = mv q fs rs r f := by
  cases q with
  | halve => cases hs
  | pair => cases hs
  | others => cases hs
  | fill => cases hs
  | all k =>
    show wayTo (if r < k % rs then (f, 1, rs - k % rs) else (f, 1, -(k % rs))) r = ((r - k) % rs, f)
    rw [up_cut h0 h1]
    split <;> simp only [wayTo] <;> congr 1 <;> omega
  | up g k =>
    by_cases c : g = f
    · rw [show cutOf (.up g k) fs rs f = (k % rs, (f, 1, rs - k % rs), (f, 1, -(k % rs))) from if_pos c, mv_up (by simp [C.named, c]), up_cut h0 h1]
      show wayTo (if r < k % rs then (f, 1, rs - k % rs) else (f, 1, -(k % rs))) r = _
      split <;> simp only [wayTo] <;> congr 1 <;> omega
    · rw [show cutOf (.up g k) fs rs f = (0, (f, 1, 0), (f, 1, 0)) from if_neg c, mv_out (q := .up g k) (by simp [C.named]; omega) (List.cons_ne_nil _ _)]
      simp only [ite_self, wayTo]
      congr 1
      omega
  | swap g h =>
    by_cases c : f ∈ [g, h]
    · rw [show cutOf (.swap g h) fs rs f = (0, (g + h - f, 1, 0), (g + h - f, 1, 0)) from if_pos c, mv_swap c]
      simp only [ite_self, wayTo]
      congr 1
      omega
    · rw [show cutOf (.swap g h) fs rs f = (0, (f, 1, 0), (f, 1, 0)) from if_neg c, mv_out (q := .swap g h) c (List.cons_ne_nil _ _)]
      simp only [ite_self, wayTo]
      congr 1
      omega
  | about =>
    show wayTo (if r < 0 then (fs - 1 - f, -1, rs - 1) else (fs - 1 - f, -1, rs - 1)) r = (rs - 1 - r, fs - 1 - f)
    simp only [ite_self, wayTo]
    congr 1
    omega
  | front g h =>
    by_cases c : f ∈ [g, h]
    · rw [show cutOf (.front g h) fs rs f = (1, (g + h - f, 1, 0), (f, 1, 0)) from if_pos c]
      by_cases z : r = 0
      · rw [mv_front0 c z, if_pos (show r < 1 by omega)]
        simp only [wayTo]
        congr 1
        omega
      · rw [mv_front1 c z, if_neg (show ¬ r < 1 by omega)]
        simp only [wayTo]
        congr 1
        omega
    · rw [show cutOf (.front g h) fs rs f = (0, (f, 1, 0), (f, 1, 0)) from if_neg c, mv_out (q := .front g h) c (List.cons_ne_nil _ _)]
      simp only [ite_self, wayTo]
      congr 1
      omega
  | wheel g h k =>
    by_cases c : f ∈ [g, h]
    · rw [show cutOf (.wheel g h k) fs rs f = cutWheel g h (k % (2 * rs)) rs f from if_pos c, mv_wheel c]
      unfold wheelTo
      have y0 : 0 ≤ (if f = g then rs - 1 - r else rs + r) := by split <;> omega
      have y1 : (if f = g then rs - 1 - r else rs + r) < 2 * rs := by split <;> omega
      rw [ring_cut y0 y1]
      have c0 := Int.emod_nonneg k (show 2 * rs ≠ 0 by omega)
      have c1 := Int.emod_lt_of_pos k (show 0 < 2 * rs by omega)
      generalize k % (2 * rs) = m at c0 c1
      unfold cutWheel wheelAt
      by_cases q1 : f = g
      · simp only [if_pos q1]
        by_cases q2 : m < rs
        · simp only [if_pos q2]
          by_cases q3 : r < m
          · rw [if_pos q3, if_pos (show rs - 1 - r + m < 2 * rs by omega), if_neg (show ¬ rs - 1 - r + m < rs by omega)]
            simp only [wayTo]; congr 1; omega
          · rw [if_neg q3, if_pos (show rs - 1 - r + m < 2 * rs by omega), if_pos (show rs - 1 - r + m < rs by omega)]
            simp only [wayTo]; congr 1; omega
        · simp only [if_neg q2]
          by_cases q3 : r < m - rs
          · rw [if_pos q3, if_neg (show ¬ rs - 1 - r + m < 2 * rs by omega), if_pos (show rs - 1 - r + m - 2 * rs < rs by omega)]
            simp only [wayTo]; congr 1; omega
          · rw [if_neg q3, if_pos (show rs - 1 - r + m < 2 * rs by omega), if_neg (show ¬ rs - 1 - r + m < rs by omega)]
            simp only [wayTo]; congr 1; omega
      · simp only [if_neg q1]
        by_cases q2 : m < rs
        · simp only [if_pos q2]
          by_cases q3 : r < rs - m
          · rw [if_pos q3, if_pos (show rs + r + m < 2 * rs by omega), if_neg (show ¬ rs + r + m < rs by omega)]
            simp only [wayTo]; congr 1; omega
          · rw [if_neg q3, if_neg (show ¬ rs + r + m < 2 * rs by omega), if_pos (show rs + r + m - 2 * rs < rs by omega)]
            simp only [wayTo]; congr 1; omega
        · simp only [if_neg q2]
          by_cases q3 : r < 2 * rs - m
          · rw [if_pos q3, if_neg (show ¬ rs + r + m < 2 * rs by omega), if_pos (show rs + r + m - 2 * rs < rs by omega)]
            simp only [wayTo]; congr 1; omega
          · rw [if_neg q3, if_neg (show ¬ rs + r + m < 2 * rs by omega), if_neg (show ¬ rs + r + m - 2 * rs < rs by omega)]
            simp only [wayTo]; congr 1; omega
    · rw [show cutOf (.wheel g h k) fs rs f = (0, (f, 1, 0), (f, 1, 0)) from if_neg c, mv_out (q := .wheel g h k) c (List.cons_ne_nil _ _)]
      simp only [ite_self, wayTo]
      congr 1
      omega
theorem cut_sign {q : C} {fs rs f : Int} : ((cutOf q fs rs f).2.1.2.1 = 1 ∨ (cutOf q fs rs f).2.1.2.1 = -1) ∧ ((cutOf q fs rs f).2.2.2.1 = 1 ∨ (cutOf q fs rs f).2.2.2.1 = -1) := by
  cases q <;> simp only [cutOf, cutWheel] <;> (repeat' split) <;> simp
def sp_moved_by : Sp := fun vs H Q _ => ∃ (p : Addr) (q : C) (fs rs r f : Int) (pl : Addr), vs = [.ref p, .int fs, .int rs, .ref pl] ∧ H p = some (.tup q.vals) ∧ H pl = some (.tup [.int r, .int f]) ∧ (fs = 2 ∨ fs = 3) ∧ 0 < rs ∧ rs.natAbs < 2 ^ 200 ∧ (0 ≤ f ∧ f < fs) ∧ (0 ≤ r ∧ r < rs) ∧ ∀ p1 H1, Ex H H1 → H1 p1 = some (.tup (pairV (mv q fs rs r f))) → Q (.ref p1) H1
theorem u_moved_by {fs rs r f : Int} {pl : Addr} (h0 : H p = some (.tup q.vals)) (h : H pl = some (.tup [.int r, .int f])) (h1 : fs = 2 ∨ fs = 3) (h2 : 0 < rs) (h3 : rs.natAbs < 2 ^ 200) (h4 : 0 ≤ f ∧ f < fs) (h5 : 0 ≤ r ∧ r < rs) (k : ∀ p1 H1, Ex H H1 → H1 p1 = some (.tup (pairV (mv q fs rs r f))) → Q (.ref p1) H1) :
    sp_moved_by [.ref p, .int fs, .int rs, .ref pl] H Q E := ⟨p, q, fs, rs, r, f, pl, rfl, h0, h, h1, h2, h3, h4, h5, k⟩
local macro_rules | `(tactic| walk_at "use") => `(tactic| first
  | ((with_reducible refine' u_moved_by_open_call 0 ?hz ?hq ?h1 ?h2 ?h3 ?h4 ?_); (case hz => exact rfl); (case hq => walk_at "hk"); (case h1 => assumption); (case h2 => assumption); (case h3 => assumption); (case h4 => assumption); intro _ _ _ _)
  | ((with_reducible refine' u_moved_by_open_call 1 ?hz ?hq ?h1 ?h2 ?h3 ?h4 ?_); (case hz => exact rfl); (case hq => walk_at "hk"); (case h1 => assumption); (case h2 => assumption); (case h3 => assumption); (case h4 => assumption); intro _ _ _ _)
  | ((with_reducible refine' u_moved_by_open_call 2 ?hz ?hq ?h1 ?h2 ?h3 ?h4 ?_); (case hz => exact rfl); (case hq => walk_at "hk"); (case h1 => assumption); (case h2 => assumption); (case h3 => assumption); (case h4 => assumption); intro _ _ _ _)
  | ((with_reducible refine' u_moved_by_open_call 3 ?hz ?hq ?h1 ?h2 ?h3 ?h4 ?_); (case hz => exact rfl); (case hq => walk_at "hk"); (case h1 => assumption); (case h2 => assumption); (case h3 => assumption); (case h4 => assumption); intro _ _ _ _))
theorem ok_moved_by (T : Txt K w mg a) : FnOk P w K mg base CX0 3 a.a_moved_by a.fd_moved_by ["call", "files", "rows", "place"] sp_moved_by := by
  refine T.F_moved_by.ok sc_moved_by (fun vs H Q E h => ?_) (fun cdv A outer s H vs Q E hr h => ?_)
  · obtain ⟨p, q, fs, rs, r, f, pl, rfl, _⟩ := h; rfl
  · obtain ⟨p, q, fs, rs, r, f, pl, rfl, hp, hpl, hfs, hrs, hbig, hff, hrr, kk⟩ := h
    have G_is_straight := ok_is_straight (P := P) (base := base) T
    have G_cut_of := ok_cut_of (P := P) (base := base) T
    have G_moved_by_open_call := ok_moved_by_open_call (P := P) (base := base) T
    refine ⟨_, (pss_cons (ps_if (pt_not (pt_val (pe_call G_is_straight (hr.mono (by decide)) (by rfl) T.m_is_straight T.k_is_straight T.b_is_straight .nil pass0 (pa_cons (pv 0) pa_nil)))) (pss_one (ps_ret (pe_call G_moved_by_open_call (hr.mono (by decide)) (by rfl) T.m_moved_by_open_call T.k_moved_by_open_call T.b_moved_by_open_call .nil pass0 (pa_cons (pe_ix ix_tup (pv 0) pe_int (fun _ _ => rfl)) (pa_cons (pv 1) (pa_cons (pv 2) (pa_cons (pv 3) pa_nil))))))) pss_nil)
      (pss_cons (ps_asg (pv 3) (pg_tup rfl (pgs_cons (pg_name (i := 4) sc_moved_by.nd rfl (Or.inl rfl)) (pgs_cons (pg_name (i := 5) sc_moved_by.nd rfl (Or.inl rfl)) pgs_nil))))
      (pss_cons (ps_asg (pe_call G_cut_of (hr.mono (by decide)) (by rfl) T.m_cut_of T.k_cut_of T.b_cut_of .nil pass0 (pa_cons (pv 0) (pa_cons (pv 1) (pa_cons (pv 2) (pa_cons (pv 5) pa_nil))))) (pg_tup rfl (pgs_cons (pg_name (i := 6) sc_moved_by.nd rfl (Or.inl rfl)) (pgs_cons (pg_name (i := 7) sc_moved_by.nd rfl (Or.inl rfl)) (pgs_cons (pg_name (i := 8) sc_moved_by.nd rfl (Or.inl rfl)) pgs_nil)))))
      (pss_cons (ps_asg (pe_ifExp (pt_cmpR op_lt (pv 4) (pv 6) (nomark _)) (pv 7) (pv 8)) (pg_tup rfl (pgs_cons (pg_name (i := 9) sc_moved_by.nd rfl (Or.inl rfl)) (pgs_cons (pg_name (i := 10) sc_moved_by.nd rfl (Or.inl rfl)) (pgs_cons (pg_name (i := 11) sc_moved_by.nd rfl (Or.inl rfl)) pgs_nil)))))
      (pss_one (ps_ret (pe_tup (pa_cons (pe_op op_add (pe_op op_mul (pv 10) (pv 4)) (pv 11)) (pa_cons (pv 9) pa_nil))))))))), ?_⟩
    cases hq : q.straight with
    | false =>
      cases q with
      | halve => walk_at "rd"; rename_i h; exact kk _ _ (by walk_at "ex") h
      | pair => walk_at "rd"; rename_i h; exact kk _ _ (by walk_at "ex") h
      | others => walk_at "rd"; rename_i h; exact kk _ _ (by walk_at "ex") h
      | fill => walk_at "rd"; rename_i h; exact kk _ _ (by walk_at "ex") h
      | _ => cases hq
    | true =>
      walk_at "rd"
      rw [hq]
      walk_at "rd"
      refine u_cut_of (by walk_at "hk") hq hrs fun t H1 e1 c => ?_
      obtain ⟨pa, pb, h0, h1, h2⟩ := c.ex
      have sg := @cut_sign q fs rs f
      have cm := @cut_mv q fs rs r f hq hrr.1 hrr.2
      generalize (cutOf q fs rs f).1 = cc at h0 cm
      generalize (cutOf q fs rs f).2.1 = wa at h1 sg cm
      generalize (cutOf q fs rs f).2.2 = wb at h2 sg cm
      obtain ⟨wa1, wa2, wa3⟩ := wa
      obtain ⟨wb1, wb2, wb3⟩ := wb
      simp only [wayV] at h1 h2
      have sa : -2 < wa2 ∧ wa2 < 2 := by
        have := sg.1
        simp only at this
        omega
      have sb : -2 < wb2 ∧ wb2 < 2 := by
        have := sg.2
        simp only at this
        omega
      walk_at "rd"
      · rename_i c1 t2 H2 e2 f2 h3
        rw [if_pos c1] at cm
        exact kk _ _ (by walk_at "ex") (by rw [← cm]; exact h3)
      · rename_i c1 t2 H2 e2 f2 h3
        rw [if_neg c1] at cm
        exact kk _ _ (by walk_at "ex") (by rw [← cm]; exact h3)
end
end My

set_option Elab.async false
set_option linter.all false
set_option maxRecDepth 100000
set_option maxHeartbeats 8000000
namespace My
open PySem PySem.Spec PyProof.Rows L2 Sx
local macro_rules | `(tactic| walk_at "nb") => `(tactic| first | exact NB.tup | exact NB.ints | exact NB.len (of_decide_eq_true rfl) | exact NB.at0b rfl | exact NB.at3b rfl | exact NB.ins | exact NB.own | exact NB.frz | exact NB.refs (by assumption) | assumption)
local macro_rules | `(tactic| walk_at "ne") => `(tactic| first | assumption | exact Ne.symm (by assumption) | exact ne_of_none (by assumption) (by assumption) | exact Ne.symm (ne_of_none (by assumption) (by assumption)))
local macro_rules | `(tactic| walk_at "hk") => `(tactic| first
  | assumption
  | exact upd_same
  | (refine' (upd_ne ?hkne).trans ?hkq; (case hkne => walk_at "ne"); (case hkq => walk_at "hk"))
  | (refine' Ex.kp (by assumption) _ _ ?hkq ?hkn; (case hkq => walk_at "hk"); (case hkn => walk_at "nb")))
local macro_rules | `(tactic| walk_at "rd1") => `(tactic| first
  | ((with_reducible refine' x_var ?hx ?_); (case hx => exact rfl))
  | with_reducible refine x_c ?_
  | with_reducible refine x_op ?_
  | with_reducible refine x_un ?_
  | with_reducible refine x_I0 ?_
  | with_reducible refine x_U ?_
  | ((with_reducible refine x_I ?hc ?_); (case hc => first | exact (by decide : (0 : Int) < _) | (show (0 : Int) < _; omega) | (show CMul _ _; first | exact .inl ⟨by omega, by omega⟩ | exact .inr ⟨by omega, by omega⟩) | (show CDiv _ _; exact ⟨by omega, by omega⟩) | (show CDivW _ _; exact wide_div (b := 200) (by omega) (by assumption) (by decide) (by decide)) | (show CDivW _ _; exact wide_div (b := 31) (by omega) (by omega) (by decide) (by decide))))
  | with_reducible refine x_EqI ?_
  | with_reducible refine x_NeI ?_
  | ((with_reducible refine x_EqSt ?h ?_); (case h => decide +kernel))
  | ((with_reducible refine x_EqSf ?h ?_); (case h => decide +kernel))
  | ((with_reducible refine x_NeSt ?h ?_); (case h => decide +kernel))
  | ((with_reducible refine x_NeSf ?h ?_); (case h => decide +kernel))
  | with_reducible refine x_EqS ?_
  | with_reducible refine x_NeS ?_
  | ((with_reducible refine' x_ixL ?hq ?hi ?_); (case hq => walk_at "hk"); (case hi => first | exact rfl | assumption))
  | ((with_reducible refine' x_ixT ?hq ?hi ?_); (case hq => walk_at "hk"); (case hi => first | exact rfl | assumption))
  | with_reducible refine x_chain ?_
  | with_reducible refine x_tup ?_
  | with_reducible refine x_lst ?_
  | ((with_reducible refine x_lenNew ?hl ?_); (case hl => exact Nat.le_of_ble_eq_true rfl); intro _ _ _ _ _)
  | ((with_reducible refine x_new ?_); intro _ _ _ _ _)
  | with_reducible refine x_sl ?_
  | with_reducible refine x_noPart ?_
  | with_reducible refine x_part ?_
  | with_reducible refine x_ex_int ?_
  | with_reducible refine x_ex_bl ?_
  | with_reducible refine x_ex_2 ?_
  | with_reducible refine x_test ?_
  | with_reducible refine x_B ?_
  | with_reducible refine x_and ?_
  | with_reducible refine x_or ?_
  | with_reducible refine x_not ?_
  | with_reducible refine x_andV ?_
  | with_reducible refine x_orV ?_
  | with_reducible refine x_notV ?_
  | with_reducible refine x_ifE ?_
  | with_reducible refine x_iteT ?_
  | with_reducible refine x_iteF ?_
  | ((with_reducible refine x_iteD ?_ ?_) <;> intro _)
  | ((with_reducible refine x_iteN ?_ ?_) <;> intro _)
  | with_reducible refine x_if ?_
  | with_reducible refine x_seq ?_
  | with_reducible refine x_next ?_
  | with_reducible refine x_asg ?_
  | with_reducible refine x_gName ?_
  | ((with_reducible refine' x_gTup ?hq ?hn ?_); (case hq => walk_at "hk"); (case hn => exact rfl))
  | with_reducible refine x_gCons ?_
  | with_reducible refine x_gNil ?_
  | ((with_reducible refine' x_gConsE ?h ?_); (case h => exact rfl))
  | ((with_reducible refine x_gNilE ?h ?_); (case h => exact rfl))
  | with_reducible refine x_ret ?_
  | with_reducible refine x_drop ?_
  | with_reducible refine x_par ?_
  | ((with_reducible refine' x_aug ?hx ?_); (case hx => exact rfl))
  | with_reducible refine x_ipI ?_
  | with_reducible refine x_augS ?_
  | with_reducible refine x_gSub ?_
  | ((with_reducible refine' x_setL ?hq ?hi ?_); (case hq => walk_at "hk"); (case hi => first | exact rfl | assumption))
  | with_reducible refine x_cons ?_
  | with_reducible refine x_nil ?_
  | with_reducible refine x_CB ?_
  | with_reducible refine x_abs ?_
  | with_reducible refine x_intI ?_
  | with_reducible refine x_intB ?_
  | ((with_reducible refine' x_lenL ?hq ?_); (case hq => walk_at "hk"))
  | ((with_reducible refine' x_lenT ?hq ?_); (case hq => walk_at "hk"))
  | ((with_reducible refine x_iteTe ?h ?_); (case h => exact rfl))
  | ((with_reducible refine x_iteFe ?h ?_); (case h => exact rfl))
  | walk_at "use"
  | with_reducible refine x_callS ?_
  | ((with_reducible refine x_lc ?_))
  | ((with_reducible refine x_for ?_))
  | ((with_reducible refine x_iR1 ?_))
  | ((with_reducible refine x_iL ?_))
  | ((with_reducible refine x_iZ ?_))
  | ((with_reducible refine x_yes ?_))
  | ((with_reducible refine' x_NIDt ?hq ?_); (case hq => assumption))
  | ((with_reducible refine' x_NIDf ?hq ?_); (case hq => assumption))
  | ((with_reducible refine' x_IIDf ?hq ?_); (case hq => assumption))
  | ((with_reducible refine' x_IIDt ?hq ?_); (case hq => assumption))
  | ((with_reducible refine' x_ixDs ?hd ?hq ?_); (case hd => assumption); (case hq => assumption))
  | ((with_reducible refine x_InSt ?h ?_); (case h => decide +kernel))
  | ((with_reducible refine x_InSf ?h ?_); (case h => decide +kernel))
  | ((with_reducible refine' x_notInI ?hq ?_); (case hq => walk_at "hk"))
  | ((with_reducible refine' x_inTt ?hq ?hv ?ha ?he ?_); (case hq => walk_at "hk"); (case hv => exact rfl); (case ha => exact rfl); (case he => decide +kernel))
  | ((with_reducible refine' x_inTf ?hq ?hv ?ha ?he ?_); (case hq => walk_at "hk"); (case hv => exact rfl); (case ha => exact rfl); (case he => decide +kernel))
  | ((with_reducible refine' x_slT ?hq ?hw ?_); (case hq => walk_at "hk"); (case hw => with_unfolding_all exact of_decide_eq_true rfl))
  | ((with_reducible refine' x_slL ?hq ?_); (case hq => walk_at "hk"))
  | ((with_reducible refine' x_catT ?hq ?hr ?n1 ?n2 ?hl ?_); (case hq => walk_at "hk"); (case hr => walk_at "hk"); (case n1 => exact List.cons_ne_nil _ _); (case n2 => exact List.cons_ne_nil _ _); (case hl => exact Nat.le_of_ble_eq_true rfl))
  | ((with_reducible refine x_bm ?_))
  | ((with_reducible refine x_lstRg ?_))
  | ((with_reducible refine x_rg1 ?_))
  | ((with_reducible refine And.intro ?h ?_); (case h => exact tyL (by assumption)))
  | dsimp only)
local macro_rules | `(tactic| walk_at "use") => `(tactic| fail)
local macro_rules | `(tactic| walk_at "rd") => `(tactic| repeat' (walk_at "rd1"))
local macro_rules | `(tactic| walk_at "ex") => `(tactic| first | exact Ex.refl _ | assumption | (refine' Ex.trans ?he (by assumption); (case he => walk_at "ex")))

local macro_rules | `(tactic| walk_at "bg") => `(tactic| first | assumption | exact Ex.bag (by assumption) (by walk_at "bg"))
section
variable {P : Program} {w : World} {K : PySem.W.Frag} {mg : Str → Option Value} {base : Heap} {a : Ad} {H H1 H' : Hp} {Q : VK} {E : XK} {p b s : Addr} {q : C}
/-! the draws -/
def sp_Ltake : Sp := fun vs H Q _ => ∃ (b : Addr) (m : Int), vs = [.ref b, .int m] ∧ Bag b H ∧ 0 < m ∧ m < 1073741824 ∧ ∀ d H1, Ex H H1 → 0 ≤ d → d < m → Q (.int d) H1
theorem u_Ltake {m : Int} (hb : Bag b H) (h0 : 0 < m) (h1 : m < 1073741824) (k : ∀ d H1, Ex H H1 → 0 ≤ d → d < m → Q (.int d) H1) : sp_Ltake [.ref b, .int m] H Q E := ⟨b, m, rfl, hb, h0, h1, k⟩
theorem ok_Ltake (T : Txt K w mg a) : FnOk P w K mg base CX0 1 a.a_Ltake a.fd_Ltake ["_law_bag_here", "_law_many"] sp_Ltake := by
  refine T.F_Ltake.ok sc_Ltake (fun vs H Q E h => ?_) (fun cdv A outer s H vs Q E hr h => ?_)
  · obtain ⟨b, m, rfl, _⟩ := h; rfl
  · obtain ⟨b, m, rfl, ⟨c, ⟨x, y, z, ns, hb, hc, hx, hy, hy2, hz⟩⟩, hm, hm2, k⟩ := h
    have hcb : c ≠ b := ne_of hc hb (NB.ints x y z c)
    have fin : ∀ (H1 : Hp) (v x' y' z' : Int), (∀ a, a ≠ b → H1 a = H a) → H1 b = some (.lst [.int x', .int y', .int z', .ref c]) → 0 ≤ x' → 0 ≤ y' → y' < 2147483647 → 0 ≤ z' → Q (.int (v % m)) H1 := by
      intro H1 v x' y' z' s1 s2 s3 s4 s5 s6
      exact k _ _ (Ex.bagTo hb s1 s2 s3 s4 s5 s6) (Int.emod_nonneg _ (by omega)) (Int.emod_lt_of_pos _ hm)
    refine ⟨_, (pss_cons (ps_if (pt_cmpR op_eq (pe_ix ix_list (pv 0) pe_int (fun _ _ => rfl)) pe_int (nomark _)) (pss_cons (ps_set (i := 2) sc_Ltake.nd rfl (Or.inl rfl) pe_int)
      (pss_cons (ps_if (pt_cmpR op_lt (pe_ix ix_list (pv 0) pe_int (fun _ _ => rfl)) (pe_callB c_len (by rfl) T.n_len PySem.boot_len (pa_cons (pe_ix ix_list (pv 0) pe_int (fun _ _ => rfl)) pa_nil)) (nomark _)) (pss_one (ps_set (i := 2) sc_Ltake.nd rfl (Or.inl rfl) (pe_ix ix_list (pe_ix ix_list (pv 0) pe_int (fun _ _ => rfl)) (pe_ix ix_list (pv 0) pe_int (fun _ _ => rfl)) (fun _ _ => rfl)))) pss_nil)
      (pss_cons (ps_augS (pv 0) pe_int get_list pe_int ip_add set_list)
      (pss_cons (ps_if (pt_cmpR op_ge (pv 2) pe_int (nomark _)) (pss_one (ps_asg (pv 2) (pg_sub (pv 0) pe_int set_list))) pss_nil)
      (pss_cons (ps_set (i := 3) sc_Ltake.nd rfl (Or.inl rfl) (pe_op op_add (pe_op op_add (pe_op op_mul (pe_ix ix_list (pv 0) pe_int (fun _ _ => rfl)) pe_int) (pe_op op_mod (pe_callTy c_int (by rfl) T.n_int (by decide +kernel) (pa_cons (pv 2) pa_nil)) pe_int)) (pe_op op_mul pe_int (pe_ix ix_list (pv 0) pe_int (fun _ _ => rfl)))))
      (pss_one (ps_asg (pe_op op_mod (pe_callTy c_int (by rfl) T.n_int (by decide +kernel) (pa_cons (pv 3) pa_nil)) pe_int) (pg_sub (pv 0) pe_int set_list)))))))) pss_nil)
      (pss_cons (ps_if (pt_cmpR op_gt (pe_ix ix_list (pv 0) pe_int (fun _ _ => rfl)) pe_int (nomark _)) (pss_cons (ps_set (i := 4) sc_Ltake.nd rfl (Or.inl rfl) (pe_op op_mod (pe_callTy c_int (by rfl) T.n_int (by decide +kernel) (pa_cons (pe_ix ix_list (pv 0) pe_int (fun _ _ => rfl)) pa_nil)) (pv 1)))
      (pss_cons (ps_asg (pe_op op_fdivW (pe_callTy c_int (by rfl) T.n_int (by decide +kernel) (pa_cons (pe_ix ix_list (pv 0) pe_int (fun _ _ => rfl)) pa_nil)) (pv 1)) (pg_sub (pv 0) pe_int set_list))
      (pss_one (ps_ret (pv 4))))) pss_nil)
      (pss_cons (ps_set (i := 5) sc_Ltake.nd rfl (Or.inl rfl) (pe_op op_mod (pe_callTy c_int (by rfl) T.n_int (by decide +kernel) (pa_cons (pe_op op_mul (pe_op op_add (pe_ix ix_list (pv 0) pe_int (fun _ _ => rfl)) pe_int) pe_int) pa_nil)) pe_int))
      (pss_cons (ps_set (i := 6) sc_Ltake.nd rfl (Or.inl rfl) (pe_op op_mod (pe_callTy c_int (by rfl) T.n_int (by decide +kernel) (pa_cons (pe_op op_mul (pe_op op_mod (pe_callTy c_int (by rfl) T.n_int (by decide +kernel) (pa_cons (pe_op op_mul (pv 5) (pv 5)) pa_nil)) pe_int) pe_int) pa_nil)) pe_int))
      (pss_one (ps_ret (pe_op op_mod (pe_callTy c_int (by rfl) T.n_int (by decide +kernel) (pa_cons (pe_op op_fdiv (pv 6) pe_int) pa_nil)) (pv 1)))))))), ?_⟩
    walk_at "rd"
    rotate_left
    all_goals try (exfalso; omega)
    rotate_right
    · rename_i hlt
      obtain ⟨n, hn⟩ := at_map (ns := ns) hz hlt
      refine x_ixL hc hn ?_
      walk_at "rd"
      all_goals try (exfalso; omega)
      all_goals try exact fin _ _ _ _ _ (fun a n => by simp only [upd, if_neg n]) (by first | exact hb | exact upd_same) (by first | omega | exact Int.ediv_nonneg (by omega) (by omega)) (by omega) (by omega) (by omega)
    all_goals try (exfalso; omega)
    all_goals try exact fin _ _ _ _ _ (fun a n => by simp only [upd, if_neg n]) (by first | exact hb | exact upd_same) (by first | omega | exact Int.ediv_nonneg (by omega) (by omega)) (by omega) (by omega) (by omega)
local macro_rules | `(tactic| walk_at "use") => `(tactic| ((with_reducible refine' u_Ltake ?hb ?h0 ?h1 ?_); (case hb => walk_at "bg"); (case h0 => omega); (case h1 => omega); intro _ _ _ _ _))
theorem x_slLq {xs : List V} {lo hi : Option Int} (h : SqL K H s xs) (k : JustNew (.lst (cutV xs lo hi)) H Q) : rSlL K (.ref s) lo hi H Q := ⟨s, xs, rfl, h, k⟩
theorem cut_ints (ns : List Int) (lo hi : Option Int) : ∃ ms : List Int, cutV (ns.map V.int) lo hi = ms.map V.int ∧ ms.length ≤ ns.length := by
  refine ⟨(ns.drop (HT.sIx (ns.map V.int).length 0 lo)).take (HT.sIx (ns.map V.int).length (ns.map V.int).length hi - HT.sIx (ns.map V.int).length 0 lo), ?_, ?_⟩
  · unfold cutV
    rw [List.map_take, List.map_drop]
  · rw [List.length_take, List.length_drop]
    omega
def sp_Lbag (K : PySem.W.Frag) : Sp := fun vs H Q _ => ∃ (s : Addr) (ns : List Int), vs = [.ref s] ∧ SqL K H s (ns.map V.int) ∧ ns.length ≤ 63 ∧ ∀ b H1, Ex H H1 → Bag b H1 → Q (.ref b) H1
theorem u_Lbag {ns : List Int} (h : SqL K H s (ns.map V.int)) (hl : ns.length ≤ 63) (k : ∀ b H1, Ex H H1 → Bag b H1 → Q (.ref b) H1) : sp_Lbag K [.ref s] H Q E := ⟨s, ns, rfl, h, hl, k⟩
theorem ok_Lbag (T : Txt K w mg a) : FnOk P w K mg base CX0 1 a.a_Lbag a.fd_Lbag ["_law_script"] (sp_Lbag K) := by
  refine T.F_Lbag.ok sc_Lbag (fun vs H Q E h => ?_) (fun cdv A outer s H vs Q E hr h => ?_)
  · obtain ⟨s, ns, rfl, _⟩ := h; rfl
  · obtain ⟨s, ns, rfl, hs, hl, k⟩ := h
    refine ⟨_, (pss_one (ps_ret (pe_lst (pa_cons pe_int (pa_cons pe_int (pa_cons pe_int (pa_cons (pe_lc (own := [("_law_cell", 1)]) rfl sc_Lbag.nd (pi_list (pe_slice sl_list (pv 0) po_none (po_some pe_int))) (blkOk_by (own := [("_law_cell", 1)]) (N := ["_law_script", "_law_cell"]) (sc := defScope s_Lbag) (by decide +kernel)) (fun _ _ _ _ _ => (pg_name (i := 1) sc_Lbag.nd rfl (Or.inl rfl) (Or.inr rfl))) (fun _ _ _ _ _ => pts_nil) (fun _ _ _ _ _ => (pe_callB c_abs (by rfl) T.n_abs (by decide +kernel) (pa_cons (pv 1) pa_nil)))) pa_nil))))))), ?_⟩
    walk_at "rd"
    refine x_slLq hs ?_
    walk_at "rd"
    rename_i p1 H1 e1 f1 h1
    obtain ⟨ms, em, lm⟩ := cut_ints ns none (some 63)
    rw [em] at h1
    refine lc_lst h1 NB.ints (fun i acc _ => (∃ ks : List Int, acc = ks.map V.int) ∧ acc.length = i ∧ i ≤ ms.length) ⟨⟨[], rfl⟩, rfl, Nat.zero_le _⟩ (fun _ _ _ _ _ h => h) (fun i acc _ h => ?_) (fun x => rfl) (fun i x acc H' hx e hI kk k1 k2 => ?_) (fun p ys H2 e hp hy hI => ?_)
    · obtain ⟨⟨ks, rfl⟩, h2, h3⟩ := h
      exact ⟨NB.ints, Nat.lt_of_le_of_lt (show _ ≤ 63 by omega) (by decide)⟩
    · rw [List.getElem?_map] at hx
      cases hx' : ms[i]? with
      | none => rw [hx'] at hx; cases hx
      | some n =>
        rw [hx'] at hx
        have en : V.int n = x := Option.some.inj hx
        subst en
        have hi := (List.getElem?_eq_some_iff.mp hx').1
        walk_at "rd"
        obtain ⟨⟨ks, rfl⟩, h2, h3⟩ := hI
        exact k1 _ _ (Ex.refl _) ⟨⟨ks ++ [if n < 0 then -n else n], by rw [List.map_append]; rfl⟩, by simp [h2], hi⟩
    · obtain ⟨⟨ks, rfl⟩, h2, h3⟩ := hI
      walk_at "rd"
      rename_i p3 H3 e3 f3 h3'
      exact k _ _ ((e1.trans e).trans e3) ⟨p, _, _, _, ks, h3', e3.kp _ _ hy NB.ints, by decide, by decide, by decide, by decide⟩
def sp_Lone : Sp := fun vs H Q _ => ∃ (b s : Addr) (xs : List V), vs = [.ref b, .ref s] ∧ Bag b H ∧ H s = some (.lst xs) ∧ NB (.lst xs) ∧ 0 < xs.length ∧ xs.length < 1073741824 ∧ ∀ v H1, Ex H H1 → v ∈ xs → Q v H1
theorem u_Lone {xs : List V} (hb : Bag b H) (hs : H s = some (.lst xs)) (nb : NB (.lst xs)) (h0 : 0 < xs.length) (h1 : xs.length < 1073741824) (k : ∀ v H1, Ex H H1 → v ∈ xs → Q v H1) : sp_Lone [.ref b, .ref s] H Q E := ⟨b, s, xs, rfl, hb, hs, nb, h0, h1, k⟩
theorem ok_Lone (T : Txt K w mg a) : FnOk P w K mg base CX0 2 a.a_Lone a.fd_Lone ["_law_bag_here", "_law_some"] sp_Lone := by
  refine T.F_Lone.ok sc_Lone (fun vs H Q E h => ?_) (fun cdv A outer s H vs Q E hr h => ?_)
  · obtain ⟨b, s, xs, rfl, _⟩ := h; rfl
  · obtain ⟨b, s, xs, rfl, hb, hs, nb, h0, h1, k⟩ := h
    have G_Ltake := ok_Ltake (P := P) (base := base) T
    refine ⟨_, (pss_one (ps_ret (pe_ix ix_list (pv 1) (pe_call G_Ltake (hr.mono (by decide)) (by rfl) T.m_Ltake T.k_Ltake T.b_Ltake .nil pass0 (pa_cons (pv 0) (pa_cons (pe_callB c_len (by rfl) T.n_len PySem.boot_len (pa_cons (pv 1) pa_nil)) pa_nil))) (fun _ _ => rfl)))), ?_⟩
    walk_at "rd"
    rename_i d H1 e1 d0 d1
    have hl : d.toNat < xs.length := by omega
    refine x_ixL (by walk_at "hk") (at_nat d0 (List.getElem?_eq_getElem hl)) ?_
    exact k _ _ e1 (List.getElem_mem hl)
def sp_Lmixed : Sp := fun vs H Q _ => ∃ (b s : Addr) (ns : List Int), vs = [.ref b, .ref s] ∧ Bag b H ∧ H s = some (.lst (ns.map V.int)) ∧ ns.length ≤ 1000 ∧ ∀ p1 (ms : List Int) H1, Ex H H1 → H1 p1 = some (.lst (ms.map V.int)) → ms.Perm ns → Q (.ref p1) H1
theorem u_Lmixed {ns : List Int} (hb : Bag b H) (hs : H s = some (.lst (ns.map V.int))) (hl : ns.length ≤ 1000) (k : ∀ p1 (ms : List Int) H1, Ex H H1 → H1 p1 = some (.lst (ms.map V.int)) → ms.Perm ns → Q (.ref p1) H1) : sp_Lmixed [.ref b, .ref s] H Q E := ⟨b, s, ns, rfl, hb, hs, hl, k⟩
theorem ok_Lmixed (T : Txt K w mg a) : FnOk P w K mg base CX0 2 a.a_Lmixed a.fd_Lmixed ["_law_bag_here", "_law_things"] sp_Lmixed := by
  refine T.F_Lmixed.ok sc_Lmixed (fun vs H Q E h => ?_) (fun cdv A outer s H vs Q E hr h => ?_)
  · obtain ⟨b, s, ns, rfl, _⟩ := h; rfl
  · obtain ⟨b, s, ns, rfl, hb, hs, hl, k⟩ := h
    have G_Ltake := ok_Ltake (P := P) (base := base) T
    refine ⟨_, (pss_cons (ps_set (i := 2) sc_Lmixed.nd rfl (Or.inl rfl) (pe_lst pa_nil))
      (pss_cons (ps_for PassesOwn.never rfl (pi_list (pv 1)) (pg_name (i := 3) sc_Lmixed.nd rfl (Or.inl rfl)) (pss_one (ps_expr (pe_bm PySem.F.plainAttrs_list PySem.F.slot_list_insert PySem.F.type_list_insert c_insert (pv 2) (pa_cons (pe_call G_Ltake (hr.mono (by decide)) (by rfl) T.m_Ltake T.k_Ltake T.b_Ltake .nil pass0 (pa_cons (pv 0) (pa_cons (pe_op op_add (pe_callB c_len (by rfl) T.n_len PySem.boot_len (pa_cons (pv 2) pa_nil)) pe_int) pa_nil))) (pa_cons (pv 3) pa_nil))))))
      (pss_one (ps_ret (pv 2))))), ?_⟩
    walk_at "rd"
    rename_i l H1 e1 f1 h1
    refine for_lst (xs := ns.map V.int) (by walk_at "hk") (fun i σ H' => ∃ (ms : List Int) (v : Option V), σ = [some (.ref b), some (.ref s), some (.ref l), v] ∧ Ex H H' ∧ H' l = some (.lst (ms.map V.int)) ∧ ms.Perm (ns.take i)) ⟨[], none, rfl, e1, h1, List.Perm.refl _⟩
      (fun i σ H' _ h => ?_) (fun i x σ H' hx h => ?_) (fun σ H' h => ?_)
    · obtain ⟨_, _, _, e, _⟩ := h
      exact e.kp _ _ hs NB.ints
    · obtain ⟨ms, v, rfl, e, hL, hp⟩ := h
      rw [List.getElem?_map] at hx
      cases hx' : ns[i]? with
      | none => rw [hx'] at hx; cases hx
      | some n =>
        rw [hx'] at hx
        have en : V.int n = x := Option.some.inj hx
        subst en
        have hi := (List.getElem?_eq_some_iff.mp hx').1
        have hml : ms.length = i := by rw [hp.length_eq, List.length_take]; omega
        have lm : (ms.map V.int).length = i := by rw [List.length_map, hml]
        walk_at "rd"
        rename_i d H2 e2 d0 d1
        refine x_insert (e2.kp _ _ hL NB.ints) (by rw [lm]; exact Nat.lt_of_lt_of_le (show i < 1001 by omega) (by decide)) d0 (by omega) ?_
        refine ⟨ms.take d.toNat ++ [n] ++ ms.drop d.toNat, _, rfl, Ex.mut (e.trans e2) f1, ?_, ?_⟩
        · rw [upd_same, List.map_append, List.map_append, List.map_take, List.map_drop]
          rfl
        · rw [List.take_add_one, hx']
          refine List.Perm.trans ?_ (List.Perm.append_right _ hp)
          have e0 : ms.take d.toNat ++ ms.drop d.toNat = ms := List.take_append_drop _ _
          have : (ms.take d.toNat ++ [n] ++ ms.drop d.toNat).Perm ((ms.take d.toNat ++ ms.drop d.toNat) ++ [n]) := by
            rw [List.append_assoc, List.append_assoc]
            exact List.Perm.append_left _ List.perm_append_comm
          rw [e0] at this
          exact this
    · obtain ⟨ms, v, rfl, e, hL, hp⟩ := h
      walk_at "rd"
      refine k _ _ _ e hL ?_
      rwa [List.length_map, List.take_of_length_le (Nat.le_refl _)] at hp
def sp_Lnumber : Sp := fun vs H Q _ => ∃ (b : Addr) (m : Int), vs = [.ref b, .int m] ∧ Bag b H ∧ 0 < m ∧ m < 1000000 ∧ ∀ n H1, Ex H H1 → n ≠ 0 → n.natAbs ≤ 4 + m.natAbs → Q (.int n) H1
theorem u_Lnumber {m : Int} (hb : Bag b H) (h0 : 0 < m) (h1 : m < 1000000) (k : ∀ n H1, Ex H H1 → n ≠ 0 → n.natAbs ≤ 4 + m.natAbs → Q (.int n) H1) : sp_Lnumber [.ref b, .int m] H Q E := ⟨b, m, rfl, hb, h0, h1, k⟩
theorem ok_Lnumber (T : Txt K w mg a) : FnOk P w K mg base CX0 2 a.a_Lnumber a.fd_Lnumber ["_law_bag_here", "_law_most"] sp_Lnumber := by
  refine T.F_Lnumber.ok sc_Lnumber (fun vs H Q E h => ?_) (fun cdv A outer s H vs Q E hr h => ?_)
  · obtain ⟨b, m, rfl, _⟩ := h; rfl
  · obtain ⟨b, m, rfl, hb, h0, h1, k⟩ := h
    have G_Ltake := ok_Ltake (P := P) (base := base) T
    refine ⟨_, (pss_cons (ps_set (i := 2) sc_Lnumber.nd rfl (Or.inl rfl) (pe_op op_add pe_int (pe_call G_Ltake (hr.mono (by decide)) (by rfl) T.m_Ltake T.k_Ltake T.b_Ltake .nil pass0 (pa_cons (pv 0) (pa_cons (pe_ix ix_list (pe_lst (pa_cons pe_int (pa_cons pe_int (pa_cons pe_int (pa_cons (pv 1) pa_nil))))) (pe_call G_Ltake (hr.mono (by decide)) (by rfl) T.m_Ltake T.k_Ltake T.b_Ltake .nil pass0 (pa_cons (pv 0) (pa_cons pe_int pa_nil))) (fun _ _ => rfl)) pa_nil)))))
      (pss_one (ps_ret (pe_ifExp (pt_cmpR op_eq (pe_call G_Ltake (hr.mono (by decide)) (by rfl) T.m_Ltake T.k_Ltake T.b_Ltake .nil pass0 (pa_cons (pv 0) (pa_cons pe_int pa_nil))) pe_int (nomark _)) (pv 2) (pe_un un_neg (pv 2)))))), ?_⟩
    walk_at "rd"
    rename_i d H2 e2 d0 d1
    have hd : d = 0 ∨ d = 1 ∨ d = 2 ∨ d = 3 := by omega
    rcases hd with hd | hd | hd | hd
    all_goals (rw [hd]; walk_at "rd")
    all_goals exact k _ _ (by walk_at "ex") (by omega) (by omega)
end
end My

set_option Elab.async false
set_option linter.all false
set_option maxRecDepth 100000
set_option maxHeartbeats 8000000
namespace My
open PySem PySem.Spec PyProof.Rows L2 Sx
local macro_rules | `(tactic| walk_at "nb") => `(tactic| first | exact NB.tup | exact NB.ints | exact NB.len (of_decide_eq_true rfl) | exact NB.at0b rfl | exact NB.at3b rfl | exact NB.ins | exact NB.own | exact NB.frz | exact NB.refs (by assumption) | assumption)
local macro_rules | `(tactic| walk_at "ne") => `(tactic| first | assumption | exact Ne.symm (by assumption) | exact ne_of_none (by assumption) (by assumption) | exact Ne.symm (ne_of_none (by assumption) (by assumption)))
local macro_rules | `(tactic| walk_at "hk") => `(tactic| first
  | assumption
  | exact upd_same
  | (refine' (upd_ne ?hkne).trans ?hkq; (case hkne => walk_at "ne"); (case hkq => walk_at "hk"))
  | (refine' Ex.kp (by assumption) _ _ ?hkq ?hkn; (case hkq => walk_at "hk"); (case hkn => walk_at "nb")))
local macro_rules | `(tactic| walk_at "rd1") => `(tactic| first
  | ((with_reducible refine' x_var ?hx ?_); (case hx => exact rfl))
  | with_reducible refine x_c ?_
  | with_reducible refine x_op ?_
  | with_reducible refine x_un ?_
  | with_reducible refine x_I0 ?_
  | with_reducible refine x_U ?_
  | ((with_reducible refine x_I ?hc ?_); (case hc => first | exact (by decide : (0 : Int) < _) | (show (0 : Int) < _; omega) | (show CMul _ _; first | exact .inl ⟨by omega, by omega⟩ | exact .inr ⟨by omega, by omega⟩) | (show CDiv _ _; exact ⟨by omega, by omega⟩) | (show CDivW _ _; exact wide_div (b := 200) (by omega) (by assumption) (by decide) (by decide)) | (show CDivW _ _; exact wide_div (b := 31) (by omega) (by omega) (by decide) (by decide))))
  | with_reducible refine x_EqI ?_
  | with_reducible refine x_NeI ?_
  | ((with_reducible refine x_EqSt ?h ?_); (case h => decide +kernel))
  | ((with_reducible refine x_EqSf ?h ?_); (case h => decide +kernel))
  | ((with_reducible refine x_NeSt ?h ?_); (case h => decide +kernel))
  | ((with_reducible refine x_NeSf ?h ?_); (case h => decide +kernel))
  | with_reducible refine x_EqS ?_
  | with_reducible refine x_NeS ?_
  | ((with_reducible refine' x_ixL ?hq ?hi ?_); (case hq => walk_at "hk"); (case hi => first | exact rfl | assumption))
  | ((with_reducible refine' x_ixT ?hq ?hi ?_); (case hq => walk_at "hk"); (case hi => first | exact rfl | assumption))
  | with_reducible refine x_chain ?_
  | with_reducible refine x_tup ?_
  | with_reducible refine x_lst ?_
  | ((with_reducible refine x_lenNew ?hl ?_); (case hl => exact Nat.le_of_ble_eq_true rfl); intro _ _ _ _ _)
  | ((with_reducible refine x_new ?_); intro _ _ _ _ _)
  | with_reducible refine x_sl ?_
  | with_reducible refine x_noPart ?_
  | with_reducible refine x_part ?_
  | with_reducible refine x_ex_int ?_
  | with_reducible refine x_ex_bl ?_
  | with_reducible refine x_ex_2 ?_
  | with_reducible refine x_test ?_
  | with_reducible refine x_B ?_
  | with_reducible refine x_and ?_
  | with_reducible refine x_or ?_
  | with_reducible refine x_not ?_
  | with_reducible refine x_andV ?_
  | with_reducible refine x_orV ?_
  | with_reducible refine x_notV ?_
  | with_reducible refine x_ifE ?_
  | with_reducible refine x_iteT ?_
  | with_reducible refine x_iteF ?_
  | ((with_reducible refine x_iteD ?_ ?_) <;> intro _)
  | ((with_reducible refine x_iteN ?_ ?_) <;> intro _)
  | with_reducible refine x_if ?_
  | with_reducible refine x_seq ?_
  | with_reducible refine x_next ?_
  | with_reducible refine x_asg ?_
  | with_reducible refine x_gName ?_
  | ((with_reducible refine' x_gTup ?hq ?hn ?_); (case hq => walk_at "hk"); (case hn => exact rfl))
  | with_reducible refine x_gCons ?_
  | with_reducible refine x_gNil ?_
  | ((with_reducible refine' x_gConsE ?h ?_); (case h => exact rfl))
  | ((with_reducible refine x_gNilE ?h ?_); (case h => exact rfl))
  | with_reducible refine x_ret ?_
  | with_reducible refine x_drop ?_
  | with_reducible refine x_par ?_
  | ((with_reducible refine' x_aug ?hx ?_); (case hx => exact rfl))
  | with_reducible refine x_ipI ?_
  | with_reducible refine x_augS ?_
  | with_reducible refine x_gSub ?_
  | ((with_reducible refine' x_setL ?hq ?hi ?_); (case hq => walk_at "hk"); (case hi => first | exact rfl | assumption))
  | with_reducible refine x_cons ?_
  | with_reducible refine x_nil ?_
  | with_reducible refine x_CB ?_
  | with_reducible refine x_abs ?_
  | with_reducible refine x_intI ?_
  | with_reducible refine x_intB ?_
  | ((with_reducible refine' x_lenL ?hq ?_); (case hq => walk_at "hk"))
  | ((with_reducible refine' x_lenT ?hq ?_); (case hq => walk_at "hk"))
  | ((with_reducible refine x_iteTe ?h ?_); (case h => exact rfl))
  | ((with_reducible refine x_iteFe ?h ?_); (case h => exact rfl))
  | walk_at "use"
  | with_reducible refine x_callS ?_
  | ((with_reducible refine x_lc ?_))
  | ((with_reducible refine x_for ?_))
  | ((with_reducible refine x_iR1 ?_))
  | ((with_reducible refine x_iL ?_))
  | ((with_reducible refine x_iZ ?_))
  | ((with_reducible refine x_yes ?_))
  | ((with_reducible refine' x_NIDt ?hq ?_); (case hq => assumption))
  | ((with_reducible refine' x_NIDf ?hq ?_); (case hq => assumption))
  | ((with_reducible refine' x_IIDf ?hq ?_); (case hq => assumption))
  | ((with_reducible refine' x_IIDt ?hq ?_); (case hq => assumption))
  | ((with_reducible refine' x_ixDs ?hd ?hq ?_); (case hd => assumption); (case hq => assumption))
  | ((with_reducible refine x_InSt ?h ?_); (case h => decide +kernel))
  | ((with_reducible refine x_InSf ?h ?_); (case h => decide +kernel))
  | ((with_reducible refine' x_notInI ?hq ?_); (case hq => walk_at "hk"))
  | ((with_reducible refine' x_inTt ?hq ?hv ?ha ?he ?_); (case hq => walk_at "hk"); (case hv => exact rfl); (case ha => exact rfl); (case he => decide +kernel))
  | ((with_reducible refine' x_inTf ?hq ?hv ?ha ?he ?_); (case hq => walk_at "hk"); (case hv => exact rfl); (case ha => exact rfl); (case he => decide +kernel))
  | ((with_reducible refine' x_slT ?hq ?hw ?_); (case hq => walk_at "hk"); (case hw => with_unfolding_all exact of_decide_eq_true rfl))
  | ((with_reducible refine' x_slL ?hq ?_); (case hq => walk_at "hk"))
  | ((with_reducible refine' x_catT ?hq ?hr ?n1 ?n2 ?hl ?_); (case hq => walk_at "hk"); (case hr => walk_at "hk"); (case n1 => exact List.cons_ne_nil _ _); (case n2 => exact List.cons_ne_nil _ _); (case hl => exact Nat.le_of_ble_eq_true rfl))
  | ((with_reducible refine x_bm ?_))
  | ((with_reducible refine x_lstRg ?_))
  | ((with_reducible refine x_rg1 ?_))
  | ((with_reducible refine And.intro ?h ?_); (case h => exact tyL (by assumption)))
  | dsimp only)
local macro_rules | `(tactic| walk_at "use") => `(tactic| fail)
local macro_rules | `(tactic| walk_at "rd") => `(tactic| repeat' (walk_at "rd1"))
local macro_rules | `(tactic| walk_at "ex") => `(tactic| first | exact Ex.refl _ | assumption | (refine' Ex.trans ?he (by assumption); (case he => walk_at "ex")))

local macro_rules | `(tactic| walk_at "bg") => `(tactic| first | assumption | exact Ex.bag (by assumption) (by walk_at "bg"))
local macro_rules | `(tactic| walk_at "use") => `(tactic| ((with_reducible refine' u_Ltake ?hb ?h0 ?h1 ?_); (case hb => walk_at "bg"); (case h0 => omega); (case h1 => omega); intro _ _ _ _ _))
local macro_rules | `(tactic| walk_at "use") => `(tactic| ((with_reducible refine' u_Lnumber ?hb ?h0 ?h1 ?_); (case hb => walk_at "bg"); (case h0 => omega); (case h1 => omega); intro _ _ _ _ _))
section
variable {P : Program} {w : World} {K : PySem.W.Frag} {mg : Str → Option Value} {base : Heap} {a : Ad} {H H1 H' : Hp} {Q : VK} {E : XK} {p b s : Addr} {q : C}
def isFile (fs f : Int) : Prop := 0 ≤ f ∧ f < fs
def sp_Ltwo : Sp := fun vs H Q _ => ∃ (b : Addr) (fs : Int), vs = [.ref b, .int fs] ∧ Bag b H ∧ (fs = 2 ∨ fs = 3) ∧ ∀ p1 f g H1, Ex H H1 → H1 p1 = some (.tup [.int f, .int g]) → isFile fs f → isFile fs g → f ≠ g → Q (.ref p1) H1
theorem u_Ltwo {fs : Int} (hb : Bag b H) (h0 : fs = 2 ∨ fs = 3) (k : ∀ p1 f g H1, Ex H H1 → H1 p1 = some (.tup [.int f, .int g]) → isFile fs f → isFile fs g → f ≠ g → Q (.ref p1) H1) : sp_Ltwo [.ref b, .int fs] H Q E := ⟨b, fs, rfl, hb, h0, k⟩
theorem two_of {ms : List Int} {ns : List Int} {fs : Int} (hp : ms.Perm ns) (h : ∀ x ∈ ns, isFile fs x) (nd : ns.Nodup) (hl : 2 ≤ ns.length) : ∃ f g, atI (ms.map V.int) 0 = some (V.int f) ∧ atI (ms.map V.int) 1 = some (V.int g) ∧ isFile fs f ∧ isFile fs g ∧ f ≠ g := by
  have hl2 : 2 ≤ ms.length := by rw [hp.length_eq]; exact hl
  match ms, hl2 with
  | f :: g :: r, _ =>
    refine ⟨f, g, at_nat (by decide) rfl, at_nat (by decide) rfl, h f (hp.mem_iff.mp (by simp)), h g (hp.mem_iff.mp (by simp)), ?_⟩
    have nd2 : (f :: g :: r).Nodup := hp.nodup_iff.mpr nd
    intro e
    subst e
    simp at nd2
theorem ok_Ltwo (T : Txt K w mg a) : FnOk P w K mg base CX0 3 a.a_Ltwo a.fd_Ltwo ["_law_bag_here", "_law_files"] sp_Ltwo := by
  refine T.F_Ltwo.ok sc_Ltwo (fun vs H Q E h => ?_) (fun cdv A outer s H vs Q E hr h => ?_)
  · obtain ⟨b, m, rfl, _⟩ := h; rfl
  · obtain ⟨b, fs, rfl, hb, hfs, k⟩ := h
    have G_Lmixed := ok_Lmixed (P := P) (base := base) T
    refine ⟨_, (pss_cons (ps_set (i := 2) sc_Ltwo.nd rfl (Or.inl rfl) (pe_call G_Lmixed (hr.mono (by decide)) (by rfl) T.m_Lmixed T.k_Lmixed T.b_Lmixed .nil pass0 (pa_cons (pv 0) (pa_cons (pe_listRg rfl (by rfl) T.n_list (prg_1 (by rfl) T.n_range (pv 1))) pa_nil))))
      (pss_one (ps_ret (pe_tup (pa_cons (pe_ix ix_list (pv 2) pe_int (fun _ _ => rfl)) (pa_cons (pe_ix ix_list (pv 2) pe_int (fun _ _ => rfl)) pa_nil)))))), ?_⟩
    walk_at "rd"
    refine ⟨RgOk.of_le (by omega) (by omega) (by omega) (by omega), x_new ?_⟩
    intro l H1 e1 f1 h1
    have nsx : ∃ ns : List Int, H1 l = some (.lst (ns.map V.int)) ∧ ns.length ≤ 1000 ∧ (∀ x ∈ ns, isFile fs x) ∧ ns.Nodup ∧ 2 ≤ ns.length := by
      rcases hfs with e | e
      · rw [e] at h1
        exact ⟨[0, 1], h1, by decide, by rw [e]; intro x hx; simp at hx; unfold isFile; omega, by decide, by decide⟩
      · rw [e] at h1
        exact ⟨[0, 1, 2], h1, by decide, by rw [e]; intro x hx; simp at hx; unfold isFile; omega, by decide, by decide⟩
    obtain ⟨ns, hs, i0, i1, i2, i3⟩ := nsx
    walk_at "rd"
    refine u_Lmixed (by walk_at "bg") hs i0 fun p2 ms H2 e2 h2 pm => ?_
    obtain ⟨f, g, a1, a2, a3, a4, a5⟩ := two_of pm i1 i2 i3
    walk_at "rd"
    rename_i h3
    exact k _ _ _ _ (by walk_at "ex") h3 a3 a4 a5
def C.word : C → Str
  | .all _ => "all" | .up _ _ => "up" | .swap _ _ => "swap" | .wheel _ _ _ => "wheel" | .about => "about" | .front _ _ => "front" | .halve => "halve" | .pair => "pair" | .others => "others" | .fill => "fill"
/-- a call for so many files -/
def C.ok (q : C) (fs : Int) : Prop := match q with
  | .all k => k ≠ 0
  | .up f k => isFile fs f ∧ k ≠ 0
  | .swap f g => isFile fs f ∧ isFile fs g ∧ f ≠ g
  | .wheel f g k => isFile fs f ∧ isFile fs g ∧ f ≠ g ∧ k ≠ 0
  | .front f g => isFile fs f ∧ isFile fs g ∧ f ≠ g
  | _ => True
def ten : List Str := ["all", "up", "swap", "wheel", "about", "front", "halve", "pair", "others", "fill"]
def sp_Lcall : Sp := fun vs H Q _ => ∃ (b s : Addr) (fs m : Int) (ks : List Str), vs = [.ref b, .int fs, .ref s, .int m] ∧ Bag b H ∧ (fs = 2 ∨ fs = 3) ∧ H s = some (.lst (ks.map V.str)) ∧ 0 < ks.length ∧ ks.length ≤ 1000 ∧ (∀ x ∈ ks, x ∈ ten) ∧ 0 < m ∧ m < 1000000 ∧
  ∀ p1 (q : C) H1, Ex H H1 → H1 p1 = some (.tup q.vals) → q.ok fs → Q (.ref p1) H1
theorem u_Lcall {fs m : Int} (ks : List Str) (hb : Bag b H) (h0 : fs = 2 ∨ fs = 3) (h1 : H s = some (.lst (ks.map V.str))) (h2 : 0 < ks.length) (h3 : ks.length ≤ 1000) (h4 : ∀ x ∈ ks, x ∈ ten) (h5 : 0 < m) (h6 : m < 1000000) (k : ∀ p1 (q : C) H1, Ex H H1 → H1 p1 = some (.tup q.vals) → q.ok fs → Q (.ref p1) H1) :
    sp_Lcall [.ref b, .int fs, .ref s, .int m] H Q E := ⟨b, s, fs, m, ks, rfl, hb, h0, h1, h2, h3, h4, h5, h6, k⟩
theorem NB.strs {ks : List Str} : NB (.lst (ks.map V.str)) := by
  cases ks with
  | nil => exact NB.len (by decide)
  | cons x r => exact NB.at0b rfl
local macro_rules | `(tactic| walk_at "nb") => `(tactic| exact NB.strs)
local macro_rules | `(tactic| walk_at "use") => `(tactic| ((with_reducible refine' u_Ltwo ?hb ?h0 ?_); (case hb => walk_at "bg"); (case h0 => assumption); intro _ _ _ _ _ _ _ _ _))
theorem ok_Lcall (T : Txt K w mg a) : FnOk P w K mg base CX0 4 a.a_Lcall a.fd_Lcall ["_law_bag_here", "_law_files", "_law_kinds", "_law_most"] sp_Lcall := by
  refine T.F_Lcall.ok sc_Lcall (fun vs H Q E h => ?_) (fun cdv A outer s H vs Q E hr h => ?_)
  · obtain ⟨b, s, fs, m, ks, rfl, _⟩ := h; rfl
  · obtain ⟨b, s, fs, m, ks, rfl, hb, hfs, hs, l0, l1, ht, m0, m1, k⟩ := h
    have G_Ltake := ok_Ltake (P := P) (base := base) T
    have G_Lone := ok_Lone (P := P) (base := base) T
    have G_Lnumber := ok_Lnumber (P := P) (base := base) T
    have G_Ltwo := ok_Ltwo (P := P) (base := base) T
    have f0 : 0 < fs := by omega
    have f1 : fs < 1000 := by omega
    refine ⟨_, (pss_cons (ps_set (i := 4) sc_Lcall.nd rfl (Or.inl rfl) (pe_call G_Lone (hr.mono (by decide)) (by rfl) T.m_Lone T.k_Lone T.b_Lone .nil pass0 (pa_cons (pv 0) (pa_cons (pv 2) pa_nil))))
      (pss_cons (ps_if (pt_cmpR op_eq (pv 4) pe_str (nomark _)) (pss_one (ps_ret (pe_tup (pa_cons pe_str (pa_cons (pe_call G_Lnumber (hr.mono (by decide)) (by rfl) T.m_Lnumber T.k_Lnumber T.b_Lnumber .nil pass0 (pa_cons (pv 0) (pa_cons (pv 3) pa_nil))) pa_nil))))) pss_nil)
      (pss_cons (ps_if (pt_cmpR op_eq (pv 4) pe_str (nomark _)) (pss_one (ps_ret (pe_tup (pa_cons pe_str (pa_cons (pe_call G_Ltake (hr.mono (by decide)) (by rfl) T.m_Ltake T.k_Ltake T.b_Ltake .nil pass0 (pa_cons (pv 0) (pa_cons (pv 1) pa_nil))) (pa_cons (pe_call G_Lnumber (hr.mono (by decide)) (by rfl) T.m_Lnumber T.k_Lnumber T.b_Lnumber .nil pass0 (pa_cons (pv 0) (pa_cons (pv 3) pa_nil))) pa_nil)))))) pss_nil)
      (pss_cons (ps_if (pt_cmpR op_in_seq (pv 4) (pe_tup (pa_cons pe_str (pa_cons pe_str pa_nil))) (by rfl)) (pss_one (ps_ret (pe_op op_catT (pe_tup (pa_cons (pv 4) pa_nil)) (pe_call G_Ltwo (hr.mono (by decide)) (by rfl) T.m_Ltwo T.k_Ltwo T.b_Ltwo .nil pass0 (pa_cons (pv 0) (pa_cons (pv 1) pa_nil)))))) pss_nil)
      (pss_cons (ps_if (pt_cmpR op_eq (pv 4) pe_str (nomark _)) (pss_one (ps_ret (pe_op op_catT (pe_op op_catT (pe_tup (pa_cons pe_str pa_nil)) (pe_call G_Ltwo (hr.mono (by decide)) (by rfl) T.m_Ltwo T.k_Ltwo T.b_Ltwo .nil pass0 (pa_cons (pv 0) (pa_cons (pv 1) pa_nil)))) (pe_tup (pa_cons (pe_call G_Lnumber (hr.mono (by decide)) (by rfl) T.m_Lnumber T.k_Lnumber T.b_Lnumber .nil pass0 (pa_cons (pv 0) (pa_cons (pv 3) pa_nil))) pa_nil))))) pss_nil)
      (pss_one (ps_ret (pe_tup (pa_cons (pv 4) pa_nil))))))))), ?_⟩
    walk_at "rd"
    refine u_Lone hb hs NB.strs (by rw [List.length_map]; exact l0) (by rw [List.length_map]; omega) fun v H1 e1 hv => ?_
    obtain ⟨x, hx, rfl⟩ := List.mem_map.mp hv
    have hx := ht x hx
    simp only [ten, List.mem_cons, List.not_mem_nil, or_false] at hx
    rcases hx with rfl | rfl | rfl | rfl | rfl | rfl | rfl | rfl | rfl | rfl
    all_goals walk_at "rd"
    · rename_i h; exact k _ (.all _) _ (by walk_at "ex") h (by assumption)
    · rename_i h; exact k _ (.up _ _) _ (by walk_at "ex") h ⟨⟨by assumption, by assumption⟩, by assumption⟩
    · rename_i h; exact k _ (.swap _ _) _ (by walk_at "ex") h ⟨by assumption, by assumption, by assumption⟩
    · rename_i h; exact k _ (.wheel _ _ _) _ (by walk_at "ex") h ⟨by assumption, by assumption, by assumption, by assumption⟩
    · rename_i h; exact k _ .about _ (by walk_at "ex") h trivial
    · rename_i h; exact k _ (.front _ _) _ (by walk_at "ex") h ⟨by assumption, by assumption, by assumption⟩
    · rename_i h; exact k _ .halve _ (by walk_at "ex") h trivial
    · rename_i h; exact k _ .pair _ (by walk_at "ex") h trivial
    · rename_i h; exact k _ .others _ (by walk_at "ex") h trivial
    · rename_i h; exact k _ .fill _ (by walk_at "ex") h trivial
def sp_Lall_kinds : Sp := fun vs H Q _ => vs = [] ∧ ∀ p1 H1, Ex H H1 → H1 p1 = some (.lst (ten.map V.str)) → Q (.ref p1) H1
theorem u_Lall_kinds (k : ∀ p1 H1, Ex H H1 → H1 p1 = some (.lst (ten.map V.str)) → Q (.ref p1) H1) : sp_Lall_kinds [] H Q E := ⟨rfl, k⟩
theorem ok_Lall_kinds (T : Txt K w mg a) : FnOk P w K mg base CX0 1 a.a_Lall_kinds a.fd_Lall_kinds [] sp_Lall_kinds := by
  refine T.F_Lall_kinds.ok sc_Lall_kinds (fun vs H Q E h => ?_) (fun cdv A outer s H vs Q E hr h => ?_)
  · obtain ⟨rfl, _⟩ := h; rfl
  · obtain ⟨rfl, k⟩ := h
    refine ⟨_, (pss_one (ps_ret (pe_lst (pa_cons pe_str (pa_cons pe_str (pa_cons pe_str (pa_cons pe_str (pa_cons pe_str (pa_cons pe_str (pa_cons pe_str (pa_cons pe_str (pa_cons pe_str (pa_cons pe_str pa_nil))))))))))))), ?_⟩
    walk_at "rd"
    rename_i h
    exact k _ _ (by walk_at "ex") h
def ringOf (q : C) (rs : Int) : Int := match q with
  | .wheel _ _ _ => 2 * rs
  | _ => rs
def sp_Lring : Sp := fun vs H Q _ => ∃ (p : Addr) (q : C) (rs : Int), vs = [.ref p, .int rs] ∧ H p = some (.tup q.vals) ∧ ∀ H1, Ex H H1 → Q (.int (ringOf q rs)) H1
theorem u_Lring {rs : Int} (h : H p = some (.tup q.vals)) (k : ∀ H1, Ex H H1 → Q (.int (ringOf q rs)) H1) : sp_Lring [.ref p, .int rs] H Q E := ⟨p, q, rs, rfl, h, k⟩
theorem ok_Lring (T : Txt K w mg a) : FnOk P w K mg base CX0 1 a.a_Lring a.fd_Lring ["_law_call_here", "_law_rows"] sp_Lring := by
  refine T.F_Lring.ok sc_Lring (fun vs H Q E h => ?_) (fun cdv A outer s H vs Q E hr h => ?_)
  · obtain ⟨p, q, rs, rfl, _⟩ := h; rfl
  · obtain ⟨p, q, rs, rfl, hp, k⟩ := h
    refine ⟨_, (pss_one (ps_ret (pe_ifExp (pt_cmpR op_eq (pe_ix ix_tup (pv 0) pe_int (fun _ _ => rfl)) pe_str (nomark _)) (pe_op op_mul pe_int (pv 1)) (pv 1)))), ?_⟩
    cases q <;> (walk_at "rd"; exact k _ (Ex.refl _))
/-! places -/
/-- a list of tuples of two ints -/
inductive Pts (H : Hp) : List V → List (Int × Int) → Prop
  | nil : Pts H [] []
  | cons {p : Addr} {x : Int × Int} {vs : List V} {xs : List (Int × Int)} (h : H p = some (.tup (pairV x))) (t : Pts H vs xs) : Pts H (.ref p :: vs) (x :: xs)
theorem Pts.mono {vs : List V} {xs : List (Int × Int)} (t : Tx H H1) (h : Pts H vs xs) : Pts H1 vs xs := by
  induction h with
  | nil => exact .nil
  | cons h _ ih => exact .cons (t _ _ h) ih
theorem Pts.app {vs ws : List V} {xs ys : List (Int × Int)} (h : Pts H vs xs) (h2 : Pts H ws ys) : Pts H (vs ++ ws) (xs ++ ys) := by
  induction h with
  | nil => exact h2
  | cons h _ ih => exact .cons h ih
theorem Pts.len {vs : List V} {xs : List (Int × Int)} (h : Pts H vs xs) : vs.length = xs.length := by
  induction h with
  | nil => rfl
  | cons _ _ ih => rw [List.length_cons, List.length_cons, ih]
theorem Pts.refs {vs : List V} {xs : List (Int × Int)} (h : Pts H vs xs) : ∀ v ∈ vs, ∃ a, v = V.ref a := by
  induction h with
  | nil => intro v hv; cases hv
  | cons _ _ ih =>
    intro v hv
    rcases List.mem_cons.mp hv with e | hv
    · exact ⟨_, e⟩
    · exact ih v hv
theorem Pts.get {vs : List V} {xs : List (Int × Int)} (h : Pts H vs xs) : ∀ {i : Nat} {v : V}, vs[i]? = some v → ∃ p x, v = .ref p ∧ xs[i]? = some x ∧ H p = some (.tup (pairV x)) := by
  induction h with
  | nil => intro i v e; simp at e
  | cons h _ ih =>
    intro i v e
    cases i with
    | zero => exact ⟨_, _, by simpa using e.symm, rfl, h⟩
    | succ i => exact ih (by simpa using e)
theorem Pts.nb {vs : List V} {xs : List (Int × Int)} (h : Pts H vs xs) : NB (.lst vs) := NB.refs h.refs
def rowOf (fs r : Nat) : List (Int × Int) := (List.range fs).map fun (f : Nat) => ((r : Int), (f : Int))
def plc (fs : Nat) : Nat → List (Int × Int)
  | 0 => []
  | r + 1 => plc fs r ++ rowOf fs r
theorem plc_len (fs rs : Nat) : (plc fs rs).length = rs * fs := by
  induction rs with
  | zero => simp [plc]
  | succ r ih => rw [plc, List.length_append, ih, rowOf, List.length_map, List.length_range, Nat.succ_mul]
def sp_Lplaces : Sp := fun vs H Q _ => ∃ (fs rs : Nat), vs = [.int fs, .int rs] ∧ fs ≤ 3 ∧ rs ≤ 1000 ∧ ∀ p1 ys H1, Ex H H1 → H1 p1 = some (.lst ys) → Pts H1 ys (plc fs rs) → Q (.ref p1) H1
theorem u_Lplaces {fs rs : Nat} (h0 : fs ≤ 3) (h1 : rs ≤ 1000) (k : ∀ p1 ys H1, Ex H H1 → H1 p1 = some (.lst ys) → Pts H1 ys (plc fs rs) → Q (.ref p1) H1) : sp_Lplaces [.int fs, .int rs] H Q E := ⟨fs, rs, rfl, h0, h1, k⟩
theorem ok_Lplaces (T : Txt K w mg a) : FnOk P w K mg base CX0 1 a.a_Lplaces a.fd_Lplaces ["_law_files", "_law_rows"] sp_Lplaces := by
  refine T.F_Lplaces.ok sc_Lplaces (fun vs H Q E h => ?_) (fun cdv A outer s H vs Q E hr h => ?_)
  · obtain ⟨fs, rs, rfl, _⟩ := h; rfl
  · obtain ⟨fs, rs, rfl, h0, h1, k⟩ := h
    refine ⟨_, (pss_cons (ps_set (i := 2) sc_Lplaces.nd rfl (Or.inl rfl) (pe_lst pa_nil))
      (pss_cons (ps_for PassesOwn.never rfl (pi_range1 (by rfl) T.n_range (pa_cons (pv 1) pa_nil)) (pg_name (i := 3) sc_Lplaces.nd rfl (Or.inr rfl)) (pss_one (ps_set (i := 2) sc_Lplaces.nd rfl (Or.inl rfl) (pe_op op_cat (pv 2) (pe_lc (own := [("_law_file", 4)]) rfl sc_Lplaces.nd (pi_range1 (by rfl) T.n_range (pa_cons (pv 0) pa_nil)) (blkOk_by (own := [("_law_file", 4)]) (N := ["_law_files", "_law_rows", "_law_found", "_law_row", "_law_file"]) (sc := defScope s_Lplaces) (by decide +kernel)) (fun _ _ _ _ _ => (pg_name (i := 4) sc_Lplaces.nd rfl (Or.inl rfl) (Or.inr rfl))) (fun _ _ _ _ _ => pts_nil) (fun _ _ _ _ _ => (pe_tup (pa_cons (pv 3) (pa_cons (pv 4) pa_nil)))))))))
      (pss_one (ps_ret (pv 2))))), ?_⟩
    walk_at "rd"
    rename_i l H1 e1 f1 hl
    refine for_rng (m := (rs : Int)) (by omega) (by omega) (fun i σ H' => ∃ (l : Addr) (ys : List V) (v u : Option V), σ = [some (.int fs), some (.int rs), some (.ref l), v, u] ∧ Ex H H' ∧ H' l = some (.lst ys) ∧ Pts H' ys (plc fs i)) ⟨l, [], none, none, rfl, e1, hl, .nil⟩ (fun i σ H' hi h => ?_) (fun σ H' h => ?_)
    · obtain ⟨l, ys, v, u, rfl, e, h2, hp⟩ := h
      walk_at "rd"
      refine lc_rng (by omega) (by omega) (fun j acc H => Pts H acc ((rowOf fs i).take j) ∧ acc.length = j ∧ j ≤ fs) ⟨.nil, rfl, Nat.zero_le _⟩ (fun j acc H H' t h => ⟨h.1.mono t, h.2⟩) (fun j acc H h => ⟨h.1.nb, Nat.lt_of_lt_of_le (show acc.length < 4 by omega) (by decide)⟩) (fun x => rfl) (fun j acc H2 hj e2 hI kk k1 k2 => ?_) (fun p zs H2 e2 hp2 hz hI => ?_)
      · walk_at "rd"
        rename_i p3 H3 e3 f3 h3
        refine k1 _ _ e3 ⟨?_, by rw [List.length_append, hI.2.1]; rfl, by omega⟩
        have hj' : j < fs := by omega
        have er : (rowOf fs i)[j]? = some ((i : Int), (j : Int)) := by simp [rowOf, hj']
        rw [List.take_add_one, er]
        exact (hI.1.mono e3.tx).app (.cons h3 .nil)
      · have hI1 := hI.1
        rw [Int.toNat_natCast, List.take_of_length_le (by simp [rowOf])] at hI1
        have hl1 := hp.len
        rw [plc_len] at hl1
        have hl2 := hI1.len
        have hl3 : (rowOf fs i).length = fs := by simp [rowOf]
        have hm : i * fs ≤ 1000 * 3 := Nat.mul_le_mul (by omega) h0
        refine x_cat (e2.kp _ _ h2 hp.nb) hz (Nat.le_trans (show ys.length + zs.length ≤ 5000 by omega) (by decide)) ?_
        walk_at "rd"
        rename_i p4 H4 e4 f4 h4
        exact ⟨p4, _, _, _, rfl, ((e.trans e2).trans e4), h4, ((hp.mono e2.tx).app hI1).mono e4.tx⟩
    · obtain ⟨l, ys, v, u, rfl, e, h2, hp⟩ := h
      walk_at "rd"
      exact k _ _ _ e h2 hp
end
end My

set_option Elab.async false
set_option linter.all false
set_option maxRecDepth 100000
set_option maxHeartbeats 4000000
namespace My
open PySem
def onLine (fs rs : Int) (x : Int × Int) : Prop := (0 ≤ x.1 ∧ x.1 < rs) ∧ (0 ≤ x.2 ∧ x.2 < fs)
def seat (g rs r f : Int) : Int := if f = g then rs - 1 - r else rs + r
theorem wheel_range {g h k rs r f : Int} (hrs : 0 < rs) : 0 ≤ (wheelTo g h k rs r f).1 ∧ (wheelTo g h k rs r f).1 < rs ∧ ((wheelTo g h k rs r f).2 = g ∨ (wheelTo g h k rs r f).2 = h) := by
  unfold wheelTo wheelAt
  have h0 := Int.emod_nonneg ((if f = g then rs - 1 - r else rs + r) + k) (show 2 * rs ≠ 0 by omega)
  have h1 := Int.emod_lt_of_pos ((if f = g then rs - 1 - r else rs + r) + k) (show 0 < 2 * rs by omega)
  generalize ((if f = g then rs - 1 - r else rs + r) + k) % (2 * rs) = y at h0 h1
  by_cases c : y < rs
  · rw [if_pos c]; exact ⟨by show 0 ≤ rs - 1 - y; omega, by show rs - 1 - y < rs; omega, .inl rfl⟩
  · rw [if_neg c]; exact ⟨by show 0 ≤ y - rs; omega, by show y - rs < rs; omega, .inr rfl⟩
theorem seat_at {g h rs y : Int} (hgh : g ≠ h) : seat g rs (wheelAt y rs g h).1 (wheelAt y rs g h).2 = y := by
  unfold wheelAt seat
  by_cases c : y < rs
  · rw [if_pos c, if_pos rfl]; show rs - 1 - (rs - 1 - y) = y; omega
  · rw [if_neg c, if_neg (fun e => hgh e.symm)]; show rs + (y - rs) = y; omega
theorem at_seat {g h rs r f : Int} (hf : f = g ∨ f = h) (hgh : g ≠ h) (h0 : 0 ≤ r) (h1 : r < rs) : wheelAt (seat g rs r f) rs g h = (r, f) := by
  unfold wheelAt seat
  by_cases c : f = g
  · rw [if_pos c, if_pos (by omega), c]; congr 1; omega
  · have e : f = h := by rcases hf with q | q; exact absurd q c; exact q
    rw [if_neg c, if_neg (by omega), e]; congr 1; omega
theorem seat_range {g h rs r f : Int} (h0 : 0 ≤ r) (h1 : r < rs) : 0 ≤ seat g rs r f ∧ seat g rs r f < 2 * rs := by
  unfold seat; split <;> omega
theorem wheel_back {g h k rs r f : Int} (hf : f = g ∨ f = h) (hgh : g ≠ h) (h0 : 0 ≤ r) (h1 : r < rs) : wheelTo g h (-k) rs (wheelTo g h k rs r f).1 (wheelTo g h k rs r f).2 = (r, f) := by
  have e1 : wheelTo g h k rs r f = wheelAt ((seat g rs r f + k) % (2 * rs)) rs g h := rfl
  have e2 : ∀ r f, wheelTo g h (-k) rs r f = wheelAt ((seat g rs r f + -k) % (2 * rs)) rs g h := fun _ _ => rfl
  rw [e2, e1, seat_at hgh]
  have sr := seat_range (g := g) (h := h) (f := f) h0 h1
  have : ((seat g rs r f + k) % (2 * rs) + -k) % (2 * rs) = seat g rs r f := by
    rw [Int.emod_add_emod]
    rw [show seat g rs r f + k + -k = seat g rs r f by omega]
    exact Int.emod_eq_of_lt sr.1 sr.2
  rw [this]
  exact at_seat hf hgh h0 h1
theorem emod_back {r k rs : Int} (h0 : 0 ≤ r) (h1 : r < rs) : ((r - k) % rs - -k) % rs = r := by
  rw [show (r - k) % rs - -k = (r - k) % rs + k by omega, Int.emod_add_emod, show r - k + k = r by omega]
  exact Int.emod_eq_of_lt h0 h1
theorem num_range {fs rs r f : Int} (hr : 0 ≤ r ∧ r < rs) (hf : 0 ≤ f ∧ f < fs) : 0 ≤ r * fs + f ∧ r * fs + f < rs * fs := by
  have h1 : 0 ≤ r * fs := Int.mul_nonneg hr.1 (by omega)
  have h2 : (r + 1) * fs ≤ rs * fs := Int.mul_le_mul_of_nonneg_right (by omega) (by omega)
  rw [Int.add_mul, Int.one_mul] at h2
  omega
theorem ediv_of {x a b : Int} (hb : 0 ≤ b ∧ b < x) : (a * x + b) / x = a := by
  rw [Int.add_comm, Int.add_mul_ediv_right _ _ (by omega), Int.ediv_eq_zero_of_lt hb.1 hb.2]; omega
theorem emod_of {x a b : Int} (hb : 0 ≤ b ∧ b < x) : (a * x + b) % x = b := by
  rw [Int.add_comm, Int.add_mul_emod_self_right]
  exact Int.emod_eq_of_lt hb.1 hb.2
theorem mv_range {q : C} {fs rs r f : Int} (hq : q.ok fs) (hr : 0 ≤ r ∧ r < rs) (hf : 0 ≤ f ∧ f < fs) : onLine fs rs (mv q fs rs r f) := by
  have hrs : 0 < rs := by omega
  have em : ∀ x : Int, 0 ≤ x % rs ∧ x % rs < rs := fun x => ⟨Int.emod_nonneg _ (by omega), Int.emod_lt_of_pos _ hrs⟩
  have nr := num_range hr hf
  have nr2 := num_range (fs := rs) (rs := fs) hf hr
  cases q with
  | all k => exact ⟨em _, hf⟩
  | about => exact ⟨by show 0 ≤ rs - 1 - r ∧ rs - 1 - r < rs; omega, by show 0 ≤ fs - 1 - f ∧ fs - 1 - f < fs; omega⟩
  | up g k =>
    by_cases c : f ∈ (C.up g k).named
    · rw [mv_up c]; exact ⟨em _, hf⟩
    · rw [mv_out c (List.cons_ne_nil _ _)]; exact ⟨hr, hf⟩
  | swap g h =>
    by_cases c : f ∈ (C.swap g h).named
    · rw [mv_swap c]
      have c' : f = g ∨ f = h := by simpa [C.named] using c
      obtain ⟨a1, a2, a3⟩ : isFile fs g ∧ isFile fs h ∧ g ≠ h := hq
      unfold isFile at a1 a2
      exact ⟨hr, by show 0 ≤ g + h - f ∧ g + h - f < fs; omega⟩
    · rw [mv_out c (List.cons_ne_nil _ _)]; exact ⟨hr, hf⟩
  | front g h =>
    by_cases c : f ∈ (C.front g h).named
    · by_cases c0 : r = 0
      · rw [mv_front0 c c0]
        have c' : f = g ∨ f = h := by simpa [C.named] using c
        obtain ⟨a1, a2, a3⟩ : isFile fs g ∧ isFile fs h ∧ g ≠ h := hq
        unfold isFile at a1 a2
        exact ⟨hr, by show 0 ≤ g + h - f ∧ g + h - f < fs; omega⟩
      · rw [mv_front1 c c0]; exact ⟨hr, hf⟩
    · rw [mv_out c (List.cons_ne_nil _ _)]; exact ⟨hr, hf⟩
  | wheel g h k =>
    by_cases c : f ∈ (C.wheel g h k).named
    · rw [mv_wheel c]
      obtain ⟨a1, a2, a3, _⟩ : isFile fs g ∧ isFile fs h ∧ g ≠ h ∧ k ≠ 0 := hq
      obtain ⟨b1, b2, b3⟩ := wheel_range (g := g) (h := h) (k := k) (r := r) (f := f) hrs
      refine ⟨⟨b1, b2⟩, ?_⟩
      rcases b3 with e | e
      · rw [e]; exact a1
      · rw [e]; exact a2
    · rw [mv_out c (List.cons_ne_nil _ _)]; exact ⟨hr, hf⟩
  | halve =>
    refine ⟨em _, ?_⟩
    show 0 ≤ (r * fs + f) / rs ∧ (r * fs + f) / rs < fs
    exact ⟨Int.ediv_nonneg nr.1 (by omega), Int.ediv_lt_of_lt_mul hrs (by rw [Int.mul_comm fs rs]; exact nr.2)⟩
  | pair =>
    have hf0 : 0 < fs := by omega
    refine ⟨?_, ⟨Int.emod_nonneg _ (by omega), Int.emod_lt_of_pos _ hf0⟩⟩
    show 0 ≤ (f * rs + r) / fs ∧ (f * rs + r) / fs < rs
    exact ⟨Int.ediv_nonneg nr2.1 (by omega), Int.ediv_lt_of_lt_mul hf0 (by rw [Int.mul_comm rs fs]; exact nr2.2)⟩
  | others =>
    refine ⟨?_, hf⟩
    show 0 ≤ r / 2 + r % 2 * ((rs + 1) / 2) ∧ r / 2 + r % 2 * ((rs + 1) / 2) < rs
    rcases (show r % 2 = 0 ∨ r % 2 = 1 by omega) with e | e
    · rw [e]; omega
    · rw [e]; omega
  | fill =>
    show onLine fs rs (if r < (rs + 1) / 2 then (2 * r, f) else (2 * (r - (rs + 1) / 2) + 1, f))
    by_cases c : r < (rs + 1) / 2
    · rw [if_pos c]; exact ⟨by show 0 ≤ 2 * r ∧ 2 * r < rs; omega, hf⟩
    · rw [if_neg c]; exact ⟨by show 0 ≤ 2 * (r - (rs + 1) / 2) + 1 ∧ 2 * (r - (rs + 1) / 2) + 1 < rs; omega, hf⟩
theorem mv_back {q : C} {fs rs r f : Int} (hq : q.ok fs) (hr : 0 ≤ r ∧ r < rs) (hf : 0 ≤ f ∧ f < fs) : mv q.turned fs rs (mv q fs rs r f).1 (mv q fs rs r f).2 = (r, f) := by
  have hrs : 0 < rs := by omega
  have nr := num_range hr hf
  have nr2 := num_range (fs := rs) (rs := fs) hf hr
  cases q with
  | all k => show (((r - k) % rs - -k) % rs, f) = (r, f); rw [emod_back hr.1 hr.2]
  | about => show (rs - 1 - (rs - 1 - r), fs - 1 - (fs - 1 - f)) = (r, f); congr 1 <;> omega
  | up g k =>
    by_cases c : f ∈ (C.up g k).named
    · rw [mv_up c]
      show mv (.up g (-k)) fs rs ((r - k) % rs) f = _
      rw [mv_up (show f ∈ (C.up g (-k)).named from c), emod_back hr.1 hr.2]
    · rw [mv_out c (List.cons_ne_nil _ _)]
      exact mv_out (q := .up g (-k)) c (List.cons_ne_nil _ _)
  | swap g h =>
    by_cases c : f ∈ (C.swap g h).named
    · rw [mv_swap c]
      have c' : f = g ∨ f = h := by simpa [C.named] using c
      show mv (.swap g h) fs rs r (g + h - f) = _
      rw [mv_swap (by simp [C.named]; omega)]
      congr 1; omega
    · rw [mv_out c (List.cons_ne_nil _ _)]
      exact mv_out (q := .swap g h) c (List.cons_ne_nil _ _)
  | front g h =>
    by_cases c : f ∈ (C.front g h).named
    · by_cases c0 : r = 0
      · rw [mv_front0 c c0]
        have c' : f = g ∨ f = h := by simpa [C.named] using c
        show mv (.front g h) fs rs r (g + h - f) = _
        rw [mv_front0 (by simp [C.named]; omega) c0]
        congr 1; omega
      · rw [mv_front1 c c0]
        exact mv_front1 c c0
    · rw [mv_out c (List.cons_ne_nil _ _)]
      exact mv_out (q := .front g h) c (List.cons_ne_nil _ _)
  | wheel g h k =>
    obtain ⟨a1, a2, a3, _⟩ : isFile fs g ∧ isFile fs h ∧ g ≠ h ∧ k ≠ 0 := hq
    by_cases c : f ∈ (C.wheel g h k).named
    · rw [mv_wheel c]
      have c' : f = g ∨ f = h := by simpa [C.named] using c
      obtain ⟨b1, b2, b3⟩ := wheel_range (g := g) (h := h) (k := k) (r := r) (f := f) hrs
      show mv (.wheel g h (-k)) fs rs (wheelTo g h k rs r f).1 (wheelTo g h k rs r f).2 = _
      rw [mv_wheel (by simp only [C.named, List.mem_cons, List.not_mem_nil, or_false]; exact b3)]
      exact wheel_back c' a3 hr.1 hr.2
    · rw [mv_out c (List.cons_ne_nil _ _)]
      exact mv_out (q := .wheel g h (-k)) c (List.cons_ne_nil _ _)
  | halve =>
    show (((r * fs + f) / rs * rs + (r * fs + f) % rs) / fs, ((r * fs + f) / rs * rs + (r * fs + f) % rs) % fs) = (r, f)
    rw [Int.ediv_mul_add_emod, ediv_of hf, emod_of hf]
  | pair =>
    show (((f * rs + r) / fs * fs + (f * rs + r) % fs) % rs, ((f * rs + r) / fs * fs + (f * rs + r) % fs) / rs) = (r, f)
    rw [Int.ediv_mul_add_emod, ediv_of hr, emod_of hr]
  | others =>
    show mvOpen 3 fs rs (r / 2 + r % 2 * ((rs + 1) / 2)) f = (r, f)
    show (if r / 2 + r % 2 * ((rs + 1) / 2) < (rs + 1) / 2 then (2 * (r / 2 + r % 2 * ((rs + 1) / 2)), f) else (2 * (r / 2 + r % 2 * ((rs + 1) / 2) - (rs + 1) / 2) + 1, f)) = (r, f)
    rcases (show r % 2 = 0 ∨ r % 2 = 1 by omega) with e | e
    · rw [e, if_pos (by omega)]; congr 1; omega
    · rw [e, if_neg (by omega)]; congr 1; omega
  | fill =>
    show mvOpen 2 fs rs (if r < (rs + 1) / 2 then (2 * r, f) else (2 * (r - (rs + 1) / 2) + 1, f)).1 (if r < (rs + 1) / 2 then (2 * r, f) else (2 * (r - (rs + 1) / 2) + 1, f)).2 = (r, f)
    by_cases c : r < (rs + 1) / 2
    · rw [if_pos c]
      show (2 * r / 2 + 2 * r % 2 * ((rs + 1) / 2), f) = (r, f)
      rw [show 2 * r % 2 = 0 by omega]; congr 1; omega
    · rw [if_neg c]
      show ((2 * (r - (rs + 1) / 2) + 1) / 2 + (2 * (r - (rs + 1) / 2) + 1) % 2 * ((rs + 1) / 2), f) = (r, f)
      rw [show (2 * (r - (rs + 1) / 2) + 1) % 2 = 1 by omega]; congr 1; omega
/-- the call with so much more -/
def C.more (q : C) (d : Int) : C := match q with
  | .all k => .all (k + d) | .up f k => .up f (k + d) | .wheel f g k => .wheel f g (k + d) | q => q
theorem mv_more {q : C} {fs rs r f m : Int} : mv (q.more (ringOf q rs * m)) fs rs r f = mv q fs rs r f := by
  have e : ∀ k : Int, (r - (k + rs * m)) % rs = (r - k) % rs := fun k => by
    rw [show r - (k + rs * m) = (r - k) + rs * (-m) by rw [Int.mul_neg]; omega, Int.add_mul_emod_self_left]
  cases q with
  | all k => show ((r - (k + rs * m)) % rs, f) = _; rw [e]; rfl
  | up g k =>
    by_cases c : f ∈ (C.up g k).named
    · show mv (.up g (k + rs * m)) fs rs r f = _
      rw [mv_up c, mv_up (show f ∈ (C.up g (k + rs * m)).named from c), e]
    · show mv (.up g (k + rs * m)) fs rs r f = _
      rw [mv_out c (List.cons_ne_nil _ _), mv_out (q := .up g (k + rs * m)) c (List.cons_ne_nil _ _)]
  | wheel g h k =>
    show mv (.wheel g h (k + 2 * rs * m)) fs rs r f = _
    by_cases c : f ∈ (C.wheel g h k).named
    · rw [mv_wheel c, mv_wheel (show f ∈ (C.wheel g h (k + 2 * rs * m)).named from c)]
      unfold wheelTo
      rw [show (if f = g then rs - 1 - r else rs + r) + (k + 2 * rs * m) = ((if f = g then rs - 1 - r else rs + r) + k) + 2 * rs * m by omega, Int.add_mul_emod_self_left]
    · rw [mv_out c (List.cons_ne_nil _ _), mv_out (q := .wheel g h (k + 2 * rs * m)) c (List.cons_ne_nil _ _)]
  | _ => rfl
end My

set_option Elab.async false
set_option linter.all false
set_option maxRecDepth 100000
set_option maxHeartbeats 4000000
namespace My
open PySem
def near (x y : Int × Int) : Prop := x.2 = y.2 ∧ (x.1 - y.1 = 1 ∨ x.1 - y.1 = -1)
theorem near.symm {x y : Int × Int} (h : near x y) : near y x := ⟨h.1.symm, by rcases h.2 with e | e <;> omega⟩
theorem div_unique {a i j n : Int} (hn : 0 < n) (hi : (a + i) % n = 0) (hj : (a + j) % n = 0) (i0 : 0 ≤ i ∧ i < n) (j0 : 0 ≤ j ∧ j < n) : i = j := by
  have e1 : i = (a + i - (a + j) + j) := by omega
  have h : (i - j) % n = 0 := by
    rw [show i - j = (a + i) - (a + j) by omega, Int.sub_emod, hi, hj]
    simp
  obtain ⟨u, hu⟩ := Int.dvd_of_emod_eq_zero h
  have c : u = 0 ∨ 1 ≤ u ∨ u ≤ -1 := by omega
  rcases c with c | c | c
  · rw [c] at hu; omega
  · have := Int.mul_le_mul_of_nonneg_left c (Int.le_of_lt hn)
    omega
  · have := Int.mul_le_mul_of_nonneg_left c (Int.le_of_lt hn)
    rw [Int.mul_neg] at this
    omega
theorem emod_succ {y n : Int} (hn : 0 < n) (h : (y + 1) % n ≠ 0) : (y + 1) % n = y % n + 1 := by
  have h0 := Int.emod_nonneg y (show n ≠ 0 by omega)
  have h1 := Int.emod_lt_of_pos y hn
  by_cases c : y % n + 1 < n
  · rw [Int.add_emod, show (1 : Int) % n = 1 from Int.emod_eq_of_lt (by omega) (by omega)]
    exact Int.emod_eq_of_lt (by omega) c
  · exfalso
    apply h
    have e : y + 1 = n * (y / n + 1) := by
      have := Int.mul_ediv_add_emod y n
      rw [Int.mul_add]
      omega
    rw [e]
    exact Int.mul_emod_right _ _
theorem wheel_near {y rs g h : Int} (hrs : 0 < rs) (hy : (y + 1) % rs ≠ 0) : near (wheelAt (y % (2 * rs)) rs g h) (wheelAt ((y + 1) % (2 * rs)) rs g h) := by
  have h2 : (y + 1) % (2 * rs) ≠ 0 := fun e => hy (by
    have := Int.emod_emod_of_dvd (y + 1) (show rs ∣ 2 * rs from ⟨2, by omega⟩)
    rw [e] at this
    rw [← this]
    simp)
  have e := emod_succ (show 0 < 2 * rs by omega) h2
  have b0 := Int.emod_nonneg y (show 2 * rs ≠ 0 by omega)
  have b1 := Int.emod_lt_of_pos (y + 1) (show 0 < 2 * rs by omega)
  have ne : y % (2 * rs) + 1 ≠ rs := fun q => hy (by
    have := Int.emod_emod_of_dvd (y + 1) (show rs ∣ 2 * rs from ⟨2, by omega⟩)
    rw [e, q] at this
    rw [← this]
    simp)
  rw [e] at b1 ⊢
  generalize y % (2 * rs) = Y at *
  unfold wheelAt
  by_cases c : Y < rs
  · rw [if_pos c, if_pos (by omega)]; exact ⟨rfl, .inl (by show rs - 1 - Y - (rs - 1 - (Y + 1)) = 1; omega)⟩
  · rw [if_neg c, if_neg (by omega)]; exact ⟨rfl, .inr (by show Y - rs - (Y + 1 - rs) = -1; omega)⟩
theorem breaks_unique {q : C} {fs rs f i j : Int} (hs : q.straight = true) (hq : q.ok fs) (hf : 0 ≤ f ∧ f < fs) (hi : 0 ≤ i ∧ i + 1 < rs) (hj : 0 ≤ j ∧ j + 1 < rs)
    (bi : ¬ near (mv q fs rs i f) (mv q fs rs (i + 1) f)) (bj : ¬ near (mv q fs rs j f) (mv q fs rs (j + 1) f)) : i = j := by
  have hrs : 0 < rs := by omega
  have stay : ∀ i : Int, near ((i, f) : Int × Int) (i + 1, f) := fun i => ⟨rfl, .inr (by show i - (i + 1) = -1; omega)⟩
  have ups : ∀ k i : Int, ¬ near (((i - k) % rs, f) : Int × Int) ((i + 1 - k) % rs, f) → (1 - k + i) % rs = 0 := fun k i b => by
    rw [show 1 - k + i = (i - k) + 1 by omega]
    by_cases c : ((i - k) + 1) % rs = 0
    · exact c
    · exact absurd ⟨rfl, .inr (by show (i - k) % rs - (i + 1 - k) % rs = -1; rw [show i + 1 - k = (i - k) + 1 by omega, emod_succ hrs c]; omega)⟩ b
  cases q with
  | all k => exact div_unique hrs (ups k i bi) (ups k j bj) (by omega) (by omega)
  | about => exact absurd ⟨rfl, .inl (by show rs - 1 - i - (rs - 1 - (i + 1)) = 1; omega)⟩ bi
  | up g k =>
    by_cases c : f ∈ (C.up g k).named
    · rw [mv_up c, mv_up c] at bi bj
      exact div_unique hrs (ups k i bi) (ups k j bj) (by omega) (by omega)
    · rw [mv_out c (List.cons_ne_nil _ _), mv_out c (List.cons_ne_nil _ _)] at bi
      exact absurd (stay i) bi
  | swap g h =>
    by_cases c : f ∈ (C.swap g h).named
    · rw [mv_swap c, mv_swap c] at bi
      exact absurd ⟨rfl, .inr (by show i - (i + 1) = -1; omega)⟩ bi
    · rw [mv_out c (List.cons_ne_nil _ _), mv_out c (List.cons_ne_nil _ _)] at bi
      exact absurd (stay i) bi
  | front g h =>
    have z : ∀ i : Int, 0 ≤ i → ¬ near (mv (.front g h) fs rs i f) (mv (.front g h) fs rs (i + 1) f) → i = 0 := fun i i0 b => by
      by_cases c0 : i = 0
      · exact c0
      · exfalso
        by_cases c : f ∈ (C.front g h).named
        · rw [mv_front1 c c0, mv_front1 c (by omega)] at b
          exact b (stay i)
        · rw [mv_out c (List.cons_ne_nil _ _), mv_out c (List.cons_ne_nil _ _)] at b
          exact b (stay i)
    rw [z i hi.1 bi, z j hj.1 bj]
  | wheel g h k =>
    by_cases c : f ∈ (C.wheel g h k).named
    · by_cases cg : f = g
      · have z : ∀ i : Int, ¬ near (mv (.wheel g h k) fs rs i f) (mv (.wheel g h k) fs rs (i + 1) f) → (-(rs - 1 + k) + i) % rs = 0 := fun i b => by
          rw [mv_wheel c, mv_wheel c] at b
          unfold wheelTo at b
          rw [if_pos cg, if_pos cg] at b
          by_cases d : (rs - 1 - (i + 1) + k + 1) % rs = 0
          · rw [show -(rs - 1 + k) + i = -(rs - 1 - (i + 1) + k + 1) by omega]
            exact Int.emod_eq_zero_of_dvd (Int.dvd_neg.mpr (Int.dvd_of_emod_eq_zero d))
          · have w := (wheel_near (g := g) (h := h) hrs d).symm
            rw [show rs - 1 - (i + 1) + k + 1 = rs - 1 - i + k by omega] at w
            exact absurd w b
        exact div_unique hrs (z i bi) (z j bj) (by omega) (by omega)
      · have z : ∀ i : Int, ¬ near (mv (.wheel g h k) fs rs i f) (mv (.wheel g h k) fs rs (i + 1) f) → ((rs + k + 1) + i) % rs = 0 := fun i b => by
          rw [mv_wheel c, mv_wheel c] at b
          unfold wheelTo at b
          rw [if_neg cg, if_neg cg] at b
          by_cases d : (rs + i + k + 1) % rs = 0
          · rw [show rs + k + 1 + i = rs + i + k + 1 by omega]; exact d
          · have w := (wheel_near (g := g) (h := h) hrs d)
            rw [show rs + i + k + 1 = rs + (i + 1) + k by omega] at w
            exact absurd w b
        exact div_unique hrs (z i bi) (z j bj) (by omega) (by omega)
    · rw [mv_out c (List.cons_ne_nil _ _), mv_out c (List.cons_ne_nil _ _)] at bi
      exact absurd (stay i) bi
  | halve => cases hs
  | pair => cases hs
  | others => cases hs
  | fill => cases hs
/-- how many of the first n -/
def cnt (p : Nat → Bool) : Nat → Int
  | 0 => 0
  | n + 1 => cnt p n + (if p n then 1 else 0)
theorem cnt_le {p : Nat → Bool} {n : Nat} (u : ∀ i j, i < n → j < n → p i = true → p j = true → i = j) : cnt p n ≤ 1 ∧ (0 < cnt p n → ∃ i, i < n ∧ p i = true) := by
  induction n with
  | zero => exact ⟨by show (0 : Int) ≤ 1; decide, fun h => by have h : (0 : Int) < 0 := h; omega⟩
  | succ n ih =>
    obtain ⟨h1, h2⟩ := ih fun i j a b => u i j (by omega) (by omega)
    unfold cnt
    by_cases c : p n = true
    · rw [if_pos c]
      have h0 : ¬ 0 < cnt p n := fun h => by
        obtain ⟨i, a, b⟩ := h2 h
        have := u i n (by omega) (by omega) b c
        omega
      exact ⟨by omega, fun _ => ⟨n, by omega, c⟩⟩
    · rw [if_neg c]
      refine ⟨by omega, fun h => ?_⟩
      obtain ⟨i, a, b⟩ := h2 (by omega)
      exact ⟨i, by omega, b⟩
/-! permutations -/
theorem sub_perm {α : Type} [DecidableEq α] : ∀ (l m : List α), l.Nodup → (∀ x ∈ l, x ∈ m) → ∃ r, (l ++ r).Perm m
  | [], m, _, _ => ⟨m, List.Perm.refl _⟩
  | x :: l, m, nd, h => by
    have nd := List.nodup_cons.mp nd
    have hx : x ∈ m := h x (by simp)
    obtain ⟨r, hr⟩ := sub_perm l (m.erase x) nd.2 fun y hy => (List.mem_erase_of_ne (fun e => nd.1 (by rw [← e]; exact hy))).mpr (h y (by simp [hy]))
    exact ⟨r, (List.Perm.cons x hr).trans (List.perm_cons_erase hx).symm⟩
theorem perm_of {α : Type} [DecidableEq α] {l m : List α} (nd : l.Nodup) (h : ∀ x ∈ l, x ∈ m) (e : l.length = m.length) : l.Perm m := by
  obtain ⟨r, hr⟩ := sub_perm l m nd h
  have := hr.length_eq
  rw [List.length_append] at this
  have : r = [] := List.length_eq_zero_iff.mp (by omega)
  rw [this, List.append_nil] at hr
  exact hr
theorem sorted_eq : ∀ {l m : List (Int × Int)}, l.Perm m → SrtO.Srtd SrtO.lexB l → SrtO.Srtd SrtO.lexB m → l = m
  | [], m, h, _, _ => (List.Perm.nil_eq h)
  | x :: l, [], h, _, _ => by cases h.symm.nil_eq
  | x :: l, y :: m, h, h1, h2 => by
    have e : x = y := by
      have a : y ∈ x :: l := h.mem_iff.mpr (by simp)
      have b : x ∈ y :: m := h.mem_iff.mp (by simp)
      rcases List.mem_cons.mp a with a | a
      · exact a.symm
      rcases List.mem_cons.mp b with b | b
      · exact b
      have c1 := SrtO.lexB_no.mp ((List.pairwise_cons.mp h1).1 y a)
      have c2 := SrtO.lexB_no.mp ((List.pairwise_cons.mp h2).1 x b)
      obtain ⟨x1, x2⟩ := x
      obtain ⟨y1, y2⟩ := y
      simp only at c1 c2
      congr 1 <;> omega
    subst e
    rw [sorted_eq (List.Perm.cons_inv h) (List.pairwise_cons.mp h1).2 (List.pairwise_cons.mp h2).2]
theorem mem_plc {fs rs : Nat} {x : Int × Int} : x ∈ plc fs rs ↔ onLine fs rs x := by
  induction rs with
  | zero => simp only [plc, onLine]; constructor <;> intro h; · cases h
            · omega
  | succ r ih =>
    rw [plc, List.mem_append, ih, rowOf, List.mem_map]
    unfold onLine
    constructor
    · rintro (h | ⟨f, hf, rfl⟩)
      · omega
      · have := List.mem_range.mp hf
        simp only
        omega
    · intro h
      by_cases c : x.1 < (r : Int)
      · left; omega
      · right
        refine ⟨x.2.toNat, List.mem_range.mpr (by omega), ?_⟩
        obtain ⟨x1, x2⟩ := x
        simp only at h c ⊢
        congr 1 <;> omega
theorem plc_sorted (fs rs : Nat) : (plc fs rs).Pairwise fun x y => SrtO.lexB x y = true := by
  induction rs with
  | zero => exact List.Pairwise.nil
  | succ r ih =>
    rw [plc, List.pairwise_append]
    refine ⟨ih, ?_, fun x hx y hy => ?_⟩
    · unfold rowOf
      rw [List.pairwise_map]
      refine List.Pairwise.imp (fun {a b} h => ?_) (List.pairwise_lt_range (n := fs))
      exact SrtO.lexB_iff.mpr (.inr ⟨rfl, by show (a : Int) < b; omega⟩)
    · have h1 := mem_plc.mp hx
      unfold rowOf at hy
      obtain ⟨f, _, rfl⟩ := List.mem_map.mp hy
      exact SrtO.lexB_iff.mpr (.inl h1.1.2)
theorem plc_nodup (fs rs : Nat) : (plc fs rs).Nodup := (plc_sorted fs rs).imp fun {x y} h e => by
  rw [e] at h
  have := SrtO.lexB_iff.mp h
  omega
theorem plc_srtd (fs rs : Nat) : SrtO.Srtd SrtO.lexB (plc fs rs) := (plc_sorted fs rs).imp fun {x y} h => SrtO.lexB_no.mpr fun q => by
  have := SrtO.lexB_iff.mp h
  omega
def mvp (q : C) (fs rs : Int) (x : Int × Int) : Int × Int := mv q fs rs x.1 x.2
theorem back_all {q : C} {fs rs : Nat} (hq : q.ok fs) : ((plc fs rs).map (mvp q fs rs)).map (mvp q.turned fs rs) = plc fs rs := by
  rw [List.map_map]
  conv => rhs; rw [← List.map_id (plc fs rs)]
  refine List.map_congr_left fun x hx => ?_
  have h := mem_plc.mp hx
  exact mv_back hq h.1 h.2
theorem goals_perm {q : C} {fs rs : Nat} (hq : q.ok fs) : ((plc fs rs).map (mvp q fs rs)).Perm (plc fs rs) := by
  have nd : ((plc fs rs).map (mvp q fs rs)).Nodup := by
    rw [List.Nodup, List.pairwise_map]
    refine (List.Pairwise.and_mem.mp (plc_nodup fs rs)).imp fun {x y} ⟨hx, hy, h⟩ e => h ?_
    have h1 := mem_plc.mp hx
    have h2 := mem_plc.mp hy
    have b1 := mv_back hq h1.1 h1.2
    have b2 := mv_back hq h2.1 h2.2
    have e' : mv q fs rs x.1 x.2 = mv q fs rs y.1 y.2 := e
    rw [e'] at b1
    exact b1.symm.trans b2
  refine perm_of nd (fun x hx => ?_) (by rw [List.length_map])
  obtain ⟨y, hy, rfl⟩ := List.mem_map.mp hx
  have h := mem_plc.mp hy
  exact mem_plc.mpr (mv_range hq h.1 h.2)
end My

set_option Elab.async false
set_option linter.all false
set_option maxRecDepth 100000
set_option maxHeartbeats 8000000
namespace My
open PySem PySem.Spec PyProof.Rows L2 Sx
local macro_rules | `(tactic| walk_at "nb") => `(tactic| first | exact NB.tup | exact NB.ints | exact NB.len (of_decide_eq_true rfl) | exact NB.at0b rfl | exact NB.at3b rfl | exact NB.ins | exact NB.own | exact NB.frz | exact NB.refs (by assumption) | assumption)
local macro_rules | `(tactic| walk_at "ne") => `(tactic| first | assumption | exact Ne.symm (by assumption) | exact ne_of_none (by assumption) (by assumption) | exact Ne.symm (ne_of_none (by assumption) (by assumption)))
local macro_rules | `(tactic| walk_at "hk") => `(tactic| first
  | assumption
  | exact upd_same
  | (refine' (upd_ne ?hkne).trans ?hkq; (case hkne => walk_at "ne"); (case hkq => walk_at "hk"))
  | (refine' Ex.kp (by assumption) _ _ ?hkq ?hkn; (case hkq => walk_at "hk"); (case hkn => walk_at "nb")))
local macro_rules | `(tactic| walk_at "rd1") => `(tactic| first
  | ((with_reducible refine' x_var ?hx ?_); (case hx => exact rfl))
  | with_reducible refine x_c ?_
  | with_reducible refine x_op ?_
  | with_reducible refine x_un ?_
  | with_reducible refine x_I0 ?_
  | with_reducible refine x_U ?_
  | ((with_reducible refine x_I ?hc ?_); (case hc => first | exact (by decide : (0 : Int) < _) | (show (0 : Int) < _; omega) | (show CMul _ _; first | exact .inl ⟨by omega, by omega⟩ | exact .inr ⟨by omega, by omega⟩) | (show CDiv _ _; exact ⟨by omega, by omega⟩) | (show CDivW _ _; exact wide_div (b := 200) (by omega) (by assumption) (by decide) (by decide)) | (show CDivW _ _; exact wide_div (b := 31) (by omega) (by omega) (by decide) (by decide))))
  | with_reducible refine x_EqI ?_
  | with_reducible refine x_NeI ?_
  | ((with_reducible refine x_EqSt ?h ?_); (case h => decide +kernel))
  | ((with_reducible refine x_EqSf ?h ?_); (case h => decide +kernel))
  | ((with_reducible refine x_NeSt ?h ?_); (case h => decide +kernel))
  | ((with_reducible refine x_NeSf ?h ?_); (case h => decide +kernel))
  | with_reducible refine x_EqS ?_
  | with_reducible refine x_NeS ?_
  | ((with_reducible refine' x_ixL ?hq ?hi ?_); (case hq => walk_at "hk"); (case hi => first | exact rfl | assumption))
  | ((with_reducible refine' x_ixT ?hq ?hi ?_); (case hq => walk_at "hk"); (case hi => first | exact rfl | assumption))
  | with_reducible refine x_chain ?_
  | with_reducible refine x_tup ?_
  | with_reducible refine x_lst ?_
  | ((with_reducible refine x_lenNew ?hl ?_); (case hl => exact Nat.le_of_ble_eq_true rfl); intro _ _ _ _ _)
  | ((with_reducible refine x_new ?_); intro _ _ _ _ _)
  | with_reducible refine x_sl ?_
  | with_reducible refine x_noPart ?_
  | with_reducible refine x_part ?_
  | with_reducible refine x_ex_int ?_
  | with_reducible refine x_ex_bl ?_
  | with_reducible refine x_ex_2 ?_
  | with_reducible refine x_test ?_
  | with_reducible refine x_B ?_
  | with_reducible refine x_and ?_
  | with_reducible refine x_or ?_
  | with_reducible refine x_not ?_
  | with_reducible refine x_andV ?_
  | with_reducible refine x_orV ?_
  | with_reducible refine x_notV ?_
  | with_reducible refine x_ifE ?_
  | with_reducible refine x_iteT ?_
  | with_reducible refine x_iteF ?_
  | ((with_reducible refine x_iteD ?_ ?_) <;> intro _)
  | ((with_reducible refine x_iteN ?_ ?_) <;> intro _)
  | with_reducible refine x_if ?_
  | with_reducible refine x_seq ?_
  | with_reducible refine x_next ?_
  | with_reducible refine x_asg ?_
  | with_reducible refine x_gName ?_
  | ((with_reducible refine' x_gTup ?hq ?hn ?_); (case hq => walk_at "hk"); (case hn => exact rfl))
  | with_reducible refine x_gCons ?_
  | with_reducible refine x_gNil ?_
  | ((with_reducible refine' x_gConsE ?h ?_); (case h => exact rfl))
  | ((with_reducible refine x_gNilE ?h ?_); (case h => exact rfl))
  | with_reducible refine x_ret ?_
  | with_reducible refine x_drop ?_
  | with_reducible refine x_par ?_
  | ((with_reducible refine' x_aug ?hx ?_); (case hx => exact rfl))
  | with_reducible refine x_ipI ?_
  | with_reducible refine x_augS ?_
  | with_reducible refine x_gSub ?_
  | ((with_reducible refine' x_setL ?hq ?hi ?_); (case hq => walk_at "hk"); (case hi => first | exact rfl | assumption))
  | with_reducible refine x_cons ?_
  | with_reducible refine x_nil ?_
  | with_reducible refine x_CB ?_
  | with_reducible refine x_abs ?_
  | with_reducible refine x_intI ?_
  | with_reducible refine x_intB ?_
  | ((with_reducible refine' x_lenL ?hq ?_); (case hq => walk_at "hk"))
  | ((with_reducible refine' x_lenT ?hq ?_); (case hq => walk_at "hk"))
  | ((with_reducible refine x_iteTe ?h ?_); (case h => exact rfl))
  | ((with_reducible refine x_iteFe ?h ?_); (case h => exact rfl))
  | walk_at "use"
  | with_reducible refine x_callS ?_
  | ((with_reducible refine x_lc ?_))
  | ((with_reducible refine x_for ?_))
  | ((with_reducible refine x_iR1 ?_))
  | ((with_reducible refine x_iL ?_))
  | ((with_reducible refine x_iZ ?_))
  | ((with_reducible refine x_yes ?_))
  | ((with_reducible refine' x_NIDt ?hq ?_); (case hq => assumption))
  | ((with_reducible refine' x_NIDf ?hq ?_); (case hq => assumption))
  | ((with_reducible refine' x_IIDf ?hq ?_); (case hq => assumption))
  | ((with_reducible refine' x_IIDt ?hq ?_); (case hq => assumption))
  | ((with_reducible refine' x_ixDs ?hd ?hq ?_); (case hd => assumption); (case hq => assumption))
  | ((with_reducible refine x_InSt ?h ?_); (case h => decide +kernel))
  | ((with_reducible refine x_InSf ?h ?_); (case h => decide +kernel))
  | ((with_reducible refine' x_notInI ?hq ?_); (case hq => walk_at "hk"))
  | ((with_reducible refine' x_inTt ?hq ?hv ?ha ?he ?_); (case hq => walk_at "hk"); (case hv => exact rfl); (case ha => exact rfl); (case he => decide +kernel))
  | ((with_reducible refine' x_inTf ?hq ?hv ?ha ?he ?_); (case hq => walk_at "hk"); (case hv => exact rfl); (case ha => exact rfl); (case he => decide +kernel))
  | ((with_reducible refine' x_slT ?hq ?hw ?_); (case hq => walk_at "hk"); (case hw => with_unfolding_all exact of_decide_eq_true rfl))
  | ((with_reducible refine' x_slL ?hq ?_); (case hq => walk_at "hk"))
  | ((with_reducible refine' x_catT ?hq ?hr ?n1 ?n2 ?hl ?_); (case hq => walk_at "hk"); (case hr => walk_at "hk"); (case n1 => exact List.cons_ne_nil _ _); (case n2 => exact List.cons_ne_nil _ _); (case hl => exact Nat.le_of_ble_eq_true rfl))
  | ((with_reducible refine x_bm ?_))
  | ((with_reducible refine x_lstRg ?_))
  | ((with_reducible refine x_rg1 ?_))
  | ((with_reducible refine And.intro ?h ?_); (case h => exact tyL (by assumption)))
  | dsimp only)
local macro_rules | `(tactic| walk_at "use") => `(tactic| fail)
local macro_rules | `(tactic| walk_at "rd") => `(tactic| repeat' (walk_at "rd1"))
local macro_rules | `(tactic| walk_at "ex") => `(tactic| first | exact Ex.refl _ | assumption | (refine' Ex.trans ?he (by assumption); (case he => walk_at "ex")))

local macro_rules | `(tactic| walk_at "bg") => `(tactic| first | assumption | exact Ex.bag (by assumption) (by walk_at "bg"))
local macro_rules | `(tactic| walk_at "use") => `(tactic| ((with_reducible refine' u_Ltake ?hb ?h0 ?h1 ?_); (case hb => walk_at "bg"); (case h0 => omega); (case h1 => omega); intro _ _ _ _ _))
local macro_rules | `(tactic| walk_at "use") => `(tactic| ((with_reducible refine' u_Lall_kinds ?_); intro _ _ _ _))
local macro_rules | `(tactic| walk_at "use") => `(tactic| ((with_reducible refine' u_is_straight ?hq ?_); (case hq => walk_at "hk"); intro _ _))
local macro_rules | `(tactic| walk_at "use") => `(tactic| ((with_reducible refine' u_turned ?hq ?_); (case hq => walk_at "hk"); intro _ _ _ _))
local macro_rules | `(tactic| walk_at "use") => `(tactic| ((with_reducible refine' u_Lring ?hq ?_); (case hq => walk_at "hk"); intro _ _))
local macro_rules | `(tactic| walk_at "use") => `(tactic| ((with_reducible refine' u_moved_by ?h0 ?hq ?h1 ?h2 ?h3 ?h4 ?h5 ?_); (case h0 => walk_at "hk"); (case hq => walk_at "hk"); (case h1 => assumption); (case h2 => assumption); (case h3 => assumption); (case h4 => assumption); (case h5 => assumption); intro _ _ _ _))
section
variable {P : Program} {w : World} {K : PySem.W.Frag} {mg : Str → Option Value} {base : Heap} {a : Ad} {H H1 H' : Hp} {Q : VK} {E : XK} {p b s : Addr} {q : C}
/-! lists of pairs: sorted, compared -/
def keyOf (H : Hp) (v : V) : Int × Int := match v with
  | .ref t => match H t with
    | some (.tup [.int i, .int j]) => (i, j)
    | _ => (0, 0)
  | _ => (0, 0)
theorem keyOf_at {x : Int × Int} (h : H p = some (.tup (pairV x))) : keyOf H (.ref p) = x := by
  simp only [keyOf, h, pairV]
theorem Pts.keys {vs : List V} {xs : List (Int × Int)} (h : Pts H vs xs) : vs.map (keyOf H) = xs := by
  induction h with
  | nil => rfl
  | cons h _ ih => rw [List.map_cons, ih, keyOf_at h]
theorem Pts.each {vs : List V} {xs : List (Int × Int)} (h : Pts H vs xs) : ∀ v ∈ vs, ∃ t, v = V.ref t ∧ H t = some (.tup [.int (keyOf H v).1, .int (keyOf H v).2]) := by
  induction h with
  | nil => intro v hv; cases hv
  | cons h _ ih =>
    intro v hv
    rcases List.mem_cons.mp hv with e | hv
    · subst e
      exact ⟨_, rfl, by rw [keyOf_at h]; exact h⟩
    · exact ih v hv
theorem Pts.of_each : ∀ {vs : List V}, (∀ v ∈ vs, ∃ t, v = V.ref t ∧ H t = some (.tup [.int (keyOf H v).1, .int (keyOf H v).2])) → Pts H vs (vs.map (keyOf H))
  | [], _ => .nil
  | v :: vs, h => by
    obtain ⟨t, rfl, e⟩ := h v (by simp)
    exact .cons e (Pts.of_each fun v hv => h v (by simp [hv]))
theorem x_sortedP {vs : List V} {xs : List (Int × Int)} (h : H s = some (.lst vs)) (t : Pts H vs xs) (k : ∀ p ws zs H1, Ex H H1 → H1 p = some (.lst ws) → Pts H1 ws zs → zs.Perm xs → SrtO.Srtd SrtO.lexB zs → Q (.ref p) H1) : rSortedPO K [.ref s] H Q := by
  refine ⟨s, vs, keyOf H, rfl, SqL.of h, t.each, fun ys p hs hb hp => ?_⟩
  have t2 : Pts H ys (ys.map (keyOf H)) := Pts.of_each fun v hv => t.each v (hb.perm.mem_iff.mp hv)
  refine k p ys _ _ (Ex.new hp) upd_same (t2.mono (Tx.new hp)) ?_ ?_
  · have := hb.perm.map (keyOf H)
    rwa [t.keys] at this
  · rw [SrtO.Srtd, List.pairwise_map]
    exact hs
def enc (xs : List (Int × Int)) : PyData := .list (xs.map fun x => .tuple [.int x.1, .int x.2])
theorem Pts.dps {vs : List V} {xs : List (Int × Int)} (h : Pts H vs xs) : DpAll K H vs (xs.map fun x => .tuple [.int x.1, .int x.2]) := by
  induction h with
  | nil => exact .nil
  | cons h _ ih => exact .cons (.tup (SqT.of h) (.cons (.int _) (.cons (.int _) .nil))) ih
theorem enc_lay (xs : List (Int × Int)) : PyData.canLay0 (enc xs) = true := by
  unfold enc
  simp only [PyData.canLay0]
  induction xs with
  | nil => simp [PyData.canLayAll0]
  | cons x xs ih => simp [PyData.canLayAll0, PyData.canLay0, ih]
theorem enc_depth (xs : List (Int × Int)) : PyData.depth (enc xs) ≤ 64 := by
  have : PyData.depthAll (xs.map fun x => PyData.tuple [.int x.1, .int x.2]) ≤ 1 := by
    induction xs with
    | nil => simp [PyData.depthAll]
    | cons x xs ih => simp only [List.map_cons, PyData.depthAll, PyData.depth]; exact Nat.max_le.mpr ⟨by decide, ih⟩
  unfold enc
  simp only [PyData.depth]
  omega
theorem enc_shaped (xs : List (Int × Int)) : SeqAt.shaped (enc xs) = true := by
  unfold SeqAt.shaped
  rw [enc_lay, decide_eq_true (enc_depth xs)]
  rfl
theorem x_NeP {vs ws : List V} {xs : List (Int × Int)} (h1 : H p = some (.lst vs)) (t1 : Pts H vs xs) (h2 : H b = some (.lst ws)) (t2 : Pts H ws xs) (k : Q (.bl false) H) : rNeD K (.ref p) (.ref b) H Q := by
  refine x_NeD (d := enc xs) (e := enc xs) (.lst (SqL.of h1) t1.dps) (.lst (SqL.of h2) t2.dps) (enc_shaped xs) (enc_shaped xs) ?_
  rw [SeqAt.eqv_refl _ (enc_lay xs)]
  exact k
theorem x_cut {t u : TS} {D : Ends} {σ : L2.St} (M : L2.St → Hp → Prop) (h : t { D with nx := M } σ H) (k : ∀ σ' H', M σ' H' → u D σ' H') : Evl.tCut t u D σ H := ⟨M, h, k⟩
/-- what is made so far of a list mapped -/
def Made (xs : List (Int × Int)) (i : Nat) (acc : List V) (H : Hp) : Prop := Pts H acc (xs.take i) ∧ acc.length = i ∧ i ≤ xs.length ∧ xs.length ≤ 5000
theorem Made.mono (xs : List (Int × Int)) : ∀ i acc (H H' : Hp), Tx H H' → Made xs i acc H → Made xs i acc H' := fun _ _ _ _ t h => ⟨h.1.mono t, h.2⟩
theorem Made.nb (xs : List (Int × Int)) : ∀ i acc (H : Hp), Made xs i acc H → NB (.lst acc) ∧ acc.length < sizeLine := fun _ _ _ h => ⟨h.1.nb, Nat.lt_of_lt_of_le (show _ < 5001 by have := h.2; omega) (by decide)⟩
theorem Made.start {xs : List (Int × Int)} (h : xs.length ≤ 5000) : Made xs 0 [] H := ⟨.nil, rfl, Nat.zero_le _, h⟩
theorem Made.next {xs : List (Int × Int)} {i : Nat} {acc : List V} {x : Int × Int} (h : Made xs i acc H) (e : Tx H H1) (hx : xs[i]? = some x) (hp : H1 p = some (.tup (pairV x))) : Made xs (i + 1) (acc ++ [.ref p]) H1 := by
  refine ⟨?_, by rw [List.length_append, h.2.1]; rfl, (List.getElem?_eq_some_iff.mp hx).1, h.2.2.2⟩
  rw [List.take_add_one, hx]
  exact (h.1.mono e).app (.cons hp .nil)
theorem Made.all {xs : List (Int × Int)} {n : Nat} {acc : List V} (h : Made xs n acc H) (e : n = xs.length) : Pts H acc xs := by
  have := h.1
  rwa [e, List.take_of_length_le (Nat.le_refl _)] at this
def Sl (s b : Addr) (σ : L2.St) : Prop := ∃ v2 v3 v4 v5 v6 v7 v8 v9 v10 v11 v12 v13 v14 v15 v16 : Option V, σ = [some (.ref s), some (.ref b), v2, v3, v4, v5, v6, v7, v8, v9, v10, v11, v12, v13, v14, v15, v16]
def Sm (s b : Addr) (F R : Nat) (pc pe pg : Addr) (σ : L2.St) : Prop := ∃ v2 v8 v9 v10 v11 v12 v13 v14 v15 v16 : Option V, σ = [some (.ref s), some (.ref b), v2, some (.int F), some (.int R), some (.ref pc), some (.ref pe), some (.ref pg), v8, v9, v10, v11, v12, v13, v14, v15, v16]
def brk (x y : Int × Int) : Bool := !(decide (x.2 = y.2) && decide ((if x.1 - y.1 < 0 then -(x.1 - y.1) else x.1 - y.1) = 1))
theorem brk_not {x y : Int × Int} (h : brk x y = true) : ¬ near x y := by
  rintro ⟨h1, h2⟩
  have e : (if x.1 - y.1 < 0 then -(x.1 - y.1) else x.1 - y.1) = 1 := by
    rcases h2 with e | e
    · rw [if_neg (by omega)]; exact e
    · rw [if_pos (by omega)]; omega
  unfold brk at h
  rw [decide_eq_true h1, decide_eq_true e] at h
  cases h
def sp_law (K : PySem.W.Frag) : Sp := fun vs H Q _ => ∃ (s : Addr) (ns : List Int), vs = [.ref s] ∧ SqL K H s (ns.map V.int) ∧ ns.length ≤ 63 ∧ ∀ H1, Q (.bl true) H1
theorem law_start {ns : List Int} {E : XK} (hl : ns.length ≤ 63) (hS : SqL K H s (ns.map V.int)) : sp_law K [.ref s] H (fun v _ => v = .bl true) E := ⟨s, ns, rfl, hS, hl, fun _ => rfl⟩
theorem ok_law (T : Txt K w mg a) : FnOk P w K mg base CX0 5 a.a_law a.fd_law ["_law_script"] (sp_law K) := by
  refine T.F_law.ok sc_law (fun vs H Q E h => ?_) (fun cdv A outer s H vs Q E hr h => ?_)
  · obtain ⟨s, ns, rfl, _⟩ := h; rfl
  · obtain ⟨s, ns, rfl, hs, hl, k⟩ := h
    have G_Ltake := ok_Ltake (P := P) (base := base) T
    have G_Lbag := ok_Lbag (P := P) (base := base) T
    have G_Lcall := ok_Lcall (P := P) (base := base) T
    have G_Lall_kinds := ok_Lall_kinds (P := P) (base := base) T
    have G_Lplaces := ok_Lplaces (P := P) (base := base) T
    have G_Lring := ok_Lring (P := P) (base := base) T
    have G_moved_by := ok_moved_by (P := P) (base := base) T
    have G_turned := ok_turned (P := P) (base := base) T
    have G_is_straight := ok_is_straight (P := P) (base := base) T
    refine ⟨_, (pss_cons (ps_set (i := 1) sc_law.nd rfl (Or.inl rfl) (pe_call G_Lbag (hr.mono (by decide)) (by rfl) T.m_Lbag T.k_Lbag T.b_Lbag .nil pass0 (pa_cons (pv 0) pa_nil)))
      (pss_cons (ps_for PassesOwn.never rfl (pi_range1 (by rfl) T.n_range (pa_cons pe_int pa_nil)) (pg_name (i := 2) sc_law.nd rfl (Or.inl rfl)) (pss_cons (ps_asg (pe_tup (pa_cons (pe_op op_add pe_int (pe_call G_Ltake (hr.mono (by decide)) (by rfl) T.m_Ltake T.k_Ltake T.b_Ltake .nil pass0 (pa_cons (pv 1) (pa_cons pe_int pa_nil)))) (pa_cons (pe_op op_add pe_int (pe_call G_Ltake (hr.mono (by decide)) (by rfl) T.m_Ltake T.k_Ltake T.b_Ltake .nil pass0 (pa_cons (pv 1) (pa_cons pe_int pa_nil)))) pa_nil))) (pg_tup rfl (pgs_cons (pg_name (i := 3) sc_law.nd rfl (Or.inr rfl)) (pgs_cons (pg_name (i := 4) sc_law.nd rfl (Or.inr rfl)) pgs_nil))))
      (pss_cons (ps_asg (pe_tup (pa_cons (pe_call G_Lcall (hr.mono (by decide)) (by rfl) T.m_Lcall T.k_Lcall T.b_Lcall .nil pass0 (pa_cons (pv 1) (pa_cons (pv 3) (pa_cons (pe_call0 G_Lall_kinds (hr.mono (by decide)) (by rfl) T.m_Lall_kinds T.k_Lall_kinds T.b_Lall_kinds .nil pass0) (pa_cons pe_int pa_nil))))) (pa_cons (pe_call G_Lplaces (hr.mono (by decide)) (by rfl) T.m_Lplaces T.k_Lplaces T.b_Lplaces .nil pass0 (pa_cons (pv 3) (pa_cons (pv 4) pa_nil))) pa_nil))) (pg_tup rfl (pgs_cons (pg_name (i := 5) sc_law.nd rfl (Or.inr rfl)) (pgs_cons (pg_name (i := 6) sc_law.nd rfl (Or.inl rfl)) pgs_nil))))
      (pss_cons (ps_setLc (i := 7) (own := [("_law_place", 14)]) rfl sc_law.nd rfl rfl (sw_true rfl rfl rfl (by decide +kernel)) (pi_list (pv 6)) (blkOk_by (own := [("_law_place", 14)]) (N := ["_law_script", "_law_bag_here", "_law_turn", "_law_files", "_law_rows", "_law_call_here", "_law_every", "_law_goals", "_law_more", "_law_file", "_law_breaks", "_law_one_here", "_law_k", "_law_near", "_law_place", "_law_goal", "_law_row"]) (sc := defScope s_law) (by decide +kernel)) (fun _ _ _ _ _ => (pg_name (i := 14) sc_law.nd rfl (Or.inl rfl) (Or.inr rfl))) (fun _ _ _ _ _ => pts_nil) (fun _ _ _ _ _ => (pe_call G_moved_by (hr.mono (by decide)) (by rfl) T.m_moved_by T.k_moved_by T.b_moved_by .nil pass0 (pa_cons (pv 5) (pa_cons (pv 3) (pa_cons (pv 4) (pa_cons (pv 14) pa_nil)))))))
      (pss_cons (ps_if (pt_cmpR (op_neD hr.units) (pe_callB cr_sortedPO (by rfl) T.n_sorted (by decide +kernel) (pa_cons (pv 7) pa_nil)) (pv 6) (nomark _)) (pss_one (ps_ret pe_bl)) pss_nil)
      (pss_cons (ps_if (pt_cmpR (op_neD hr.units) (pe_lc (own := [("_law_goal", 15)]) rfl sc_law.nd (pi_list (pv 7)) (blkOk_by (own := [("_law_goal", 15)]) (N := ["_law_script", "_law_bag_here", "_law_turn", "_law_files", "_law_rows", "_law_call_here", "_law_every", "_law_goals", "_law_more", "_law_file", "_law_breaks", "_law_one_here", "_law_k", "_law_near", "_law_place", "_law_goal", "_law_row"]) (sc := defScope s_law) (by decide +kernel)) (fun _ _ _ _ _ => (pg_name (i := 15) sc_law.nd rfl (Or.inl rfl) (Or.inr rfl))) (fun _ _ _ _ _ => pts_nil) (fun _ _ _ _ _ => (pe_call G_moved_by (hr.mono (by decide)) (by rfl) T.m_moved_by T.k_moved_by T.b_moved_by .nil pass0 (pa_cons (pe_call G_turned (hr.mono (by decide)) (by rfl) T.m_turned T.k_turned T.b_turned .nil pass0 (pa_cons (pv 5) pa_nil)) (pa_cons (pv 3) (pa_cons (pv 4) (pa_cons (pv 15) pa_nil))))))) (pv 6) (nomark _)) (pss_one (ps_ret pe_bl)) pss_nil)
      (Evl.pss_cut (ps_if (pt_cmpR op_in_seq (pe_ix ix_tup (pv 5) pe_int (fun _ _ => rfl)) (pe_tup (pa_cons pe_str (pa_cons pe_str (pa_cons pe_str pa_nil)))) (by rfl)) (pss_cons (ps_set (i := 8) sc_law.nd rfl (Or.inr rfl) (pe_op op_catT (pe_slice sl_tup (pv 5) po_none (po_some (pe_un un_neg pe_int))) (pe_tup (pa_cons (pe_op op_add (pe_ix ix_tup (pv 5) (pe_un un_neg pe_int) (fun _ _ => rfl)) (pe_op op_mul (pe_call G_Lring (hr.mono (by decide)) (by rfl) T.m_Lring T.k_Lring T.b_Lring .nil pass0 (pa_cons (pv 5) (pa_cons (pv 4) pa_nil))) (pe_op op_add pe_int (pe_call G_Ltake (hr.mono (by decide)) (by rfl) T.m_Ltake T.k_Ltake T.b_Ltake .nil pass0 (pa_cons (pv 1) (pa_cons pe_int pa_nil)))))) pa_nil))))
      (pss_one (ps_if (PW.pt (pw_and (pt_cmpR op_ne (pe_ix ix_tup (pv 8) (pe_un un_neg pe_int) (fun _ _ => rfl)) pe_int (nomark _)) (pw_and1 (pt_cmpR (op_neD hr.units) (pe_lc (own := [("_law_place", 14)]) rfl sc_law.nd (pi_list (pv 6)) (blkOk_by (own := [("_law_place", 14)]) (N := ["_law_script", "_law_bag_here", "_law_turn", "_law_files", "_law_rows", "_law_call_here", "_law_every", "_law_goals", "_law_more", "_law_file", "_law_breaks", "_law_one_here", "_law_k", "_law_near", "_law_place", "_law_goal", "_law_row"]) (sc := defScope s_law) (by decide +kernel)) (fun _ _ _ _ _ => (pg_name (i := 14) sc_law.nd rfl (Or.inl rfl) (Or.inr rfl))) (fun _ _ _ _ _ => pts_nil) (fun _ _ _ _ _ => (pe_call G_moved_by (hr.mono (by decide)) (by rfl) T.m_moved_by T.k_moved_by T.b_moved_by .nil pass0 (pa_cons (pv 8) (pa_cons (pv 3) (pa_cons (pv 4) (pa_cons (pv 14) pa_nil))))))) (pv 7) (nomark _))))) (pss_one (ps_ret pe_bl)) pss_nil))) pss_nil)
      (Evl.pss_cut (ps_if (pt_cmpR op_in_seq (pe_ix ix_tup (pv 5) pe_int (fun _ _ => rfl)) (pe_tup (pa_cons pe_str (pa_cons pe_str (pa_cons pe_str pa_nil)))) (by rfl)) (pss_one (ps_if (pt_cmpR (op_neD hr.units) (pe_lc (own := [("_law_goal", 15)]) rfl sc_law.nd (pi_list (pv 7)) (blkOk_by (own := [("_law_goal", 15)]) (N := ["_law_script", "_law_bag_here", "_law_turn", "_law_files", "_law_rows", "_law_call_here", "_law_every", "_law_goals", "_law_more", "_law_file", "_law_breaks", "_law_one_here", "_law_k", "_law_near", "_law_place", "_law_goal", "_law_row"]) (sc := defScope s_law) (by decide +kernel)) (fun _ _ _ _ _ => (pg_name (i := 15) sc_law.nd rfl (Or.inl rfl) (Or.inr rfl))) (fun _ _ _ _ _ => pts_nil) (fun _ _ _ _ _ => (pe_call G_moved_by (hr.mono (by decide)) (by rfl) T.m_moved_by T.k_moved_by T.b_moved_by .nil pass0 (pa_cons (pv 5) (pa_cons (pv 3) (pa_cons (pv 4) (pa_cons (pv 15) pa_nil))))))) (pv 6) (nomark _)) (pss_one (ps_ret pe_bl)) pss_nil)) pss_nil)
      (pss_one (ps_if (pt_val (pe_call G_is_straight (hr.mono (by decide)) (by rfl) T.m_is_straight T.k_is_straight T.b_is_straight .nil pass0 (pa_cons (pv 5) pa_nil))) (pss_one (ps_for PassesOwn.never rfl (pi_range1 (by rfl) T.n_range (pa_cons (pv 3) pa_nil)) (pg_name (i := 9) sc_law.nd rfl (Or.inr rfl)) (pss_cons (ps_set (i := 10) sc_law.nd rfl (Or.inl rfl) pe_int)
      (pss_cons (ps_setLc (i := 11) (own := [("_law_row", 16)]) rfl sc_law.nd rfl rfl (sw_true rfl rfl rfl (by decide +kernel)) (pi_range1 (by rfl) T.n_range (pa_cons (pv 4) pa_nil)) (blkOk_by (own := [("_law_row", 16)]) (N := ["_law_script", "_law_bag_here", "_law_turn", "_law_files", "_law_rows", "_law_call_here", "_law_every", "_law_goals", "_law_more", "_law_file", "_law_breaks", "_law_one_here", "_law_k", "_law_near", "_law_place", "_law_goal", "_law_row"]) (sc := defScope s_law) (by decide +kernel)) (fun _ _ _ _ _ => (pg_name (i := 16) sc_law.nd rfl (Or.inl rfl) (Or.inr rfl))) (fun _ _ _ _ _ => pts_nil) (fun _ _ _ _ _ => (pe_call G_moved_by (hr.mono (by decide)) (by rfl) T.m_moved_by T.k_moved_by T.b_moved_by .nil pass0 (pa_cons (pv 5) (pa_cons (pv 3) (pa_cons (pv 4) (pa_cons (pe_tup (pa_cons (pv 16) (pa_cons (pv 9) pa_nil))) pa_nil)))))))
      (pss_cons (ps_for PassesOwn.never rfl (pi_range1 (by rfl) T.n_range (pa_cons (pe_op op_sub (pv 4) pe_int) pa_nil)) (pg_name (i := 12) sc_law.nd rfl (Or.inl rfl)) (pss_cons (ps_set (i := 13) sc_law.nd rfl (Or.inl rfl) (pe_and (pe_cmpR op_eq (pe_ix ix_tup (pe_ix ix_list (pv 11) (pv 12) (fun _ _ => rfl)) pe_int (fun _ _ => rfl)) (pe_ix ix_tup (pe_ix ix_list (pv 11) (pe_op op_add (pv 12) pe_int) (fun _ _ => rfl)) pe_int (fun _ _ => rfl)) (nomark _)) (pe_one (pe_cmpR op_eq (pe_callB c_abs (by rfl) T.n_abs (by decide +kernel) (pa_cons (pe_op op_sub (pe_ix ix_tup (pe_ix ix_list (pv 11) (pv 12) (fun _ _ => rfl)) pe_int (fun _ _ => rfl)) (pe_ix ix_tup (pe_ix ix_list (pv 11) (pe_op op_add (pv 12) pe_int) (fun _ _ => rfl)) pe_int (fun _ _ => rfl))) pa_nil)) pe_int (nomark _)))))
      (pss_one (ps_aug (i := 10) sc_law.nd rfl (Or.inl rfl) (pe_callTy c_int (by rfl) T.n_int (by decide +kernel) (pa_cons (pe_not (pv 13)) pa_nil)) ip_add))))
      (pss_one (ps_if (pt_cmpR op_gt (pv 10) pe_int (nomark _)) (pss_one (ps_ret pe_bl)) pss_nil))))))) pss_nil))))))))))
      (pss_one (ps_ret pe_bl)))), ?_⟩
    walk_at "rd"
    refine u_Lbag hs hl fun b H1 e1 hb => ?_
    walk_at "rd"
    refine for_rng (m := 8) (by decide) (by decide) (fun i σ H' => Sl s b σ ∧ Bag b H') ⟨⟨_, _, _, _, _, _, _, _, _, _, _, _, _, _, _, rfl⟩, hb⟩ (fun i σ H1 hi h => ?_) (fun σ H' h => ?_)
    rotate_left
    · obtain ⟨⟨_, _, _, _, _, _, _, _, _, _, _, _, _, _, _, rfl⟩, hb⟩ := h
      walk_at "rd"
      exact k _
    · obtain ⟨⟨v2, v3, v4, v5, v6, v7, v8, v9, v10, v11, v12, v13, v14, v15, v16, rfl⟩, hb⟩ := h
      walk_at "rd"
      rename_i d1 H2 e2 a0 a1 d2 H3 e3 b0 b1 p4 H4 e4 f4 h4 p5 H5 e5 h5
      obtain ⟨F, hF⟩ : ∃ F : Nat, 2 + d1 = (F : Int) := ⟨(2 + d1).toNat, by omega⟩
      obtain ⟨R, hR⟩ : ∃ R : Nat, 1 + d2 = (R : Int) := ⟨(1 + d2).toNat, by omega⟩
      rw [hF, hR]
      have hF2 : (F : Int) = 2 ∨ (F : Int) = 3 := by omega
      have hR0 : 0 < (R : Int) := by omega
      have hR1 : R ≤ 14 := by omega
      have hRb : (R : Int).natAbs < 2 ^ 200 := Nat.lt_of_le_of_lt (show (R : Int).natAbs ≤ 14 by omega) (by decide)
      clear hF hR
      refine u_Lcall ten (by walk_at "bg") hF2 h5 (by decide) (by decide) (fun x h => h) (by decide) (by decide) fun pc q H6 e6 hc hq => ?_
      walk_at "rd"
      refine u_Lplaces (by omega) (by omega) fun pe ys H7 e7 hy hp => ?_
      have nby := hp.nb
      have hlp : (plc F R).length ≤ 5000 := by
        rw [plc_len]
        exact Nat.le_trans (Nat.mul_le_mul hR1 (show F ≤ 3 by omega)) (by decide)
      walk_at "rd"
      rename_i p8 H8 e8 f8 h8
      have mkMade : ∀ (g : Int × Int → Int × Int), ((plc F R).map g).length ≤ 5000 := fun g => by rw [List.length_map]; exact hlp
      refine lc_lst (xs := ys) (by walk_at "hk") nby (Made ((plc F R).map (mvp q F R))) (Made.start (mkMade _)) (Made.mono _) (Made.nb _) (fun x => rfl) (fun i x acc H9 hx e9 hI kk k1 k2 => ?_) (fun pg gs H9 e9 f9 hg hI => ?_)
      · obtain ⟨pz, z, rfl, hz, hpz⟩ := hp.get hx
        have hpz' : H7 pz = some (.tup [.int z.1, .int z.2]) := hpz
        have hzr := (mem_plc.mp (List.mem_of_getElem? hz)).2
        have hzr1 := (mem_plc.mp (List.mem_of_getElem? hz)).1
        walk_at "rd"
        rename_i p10 H10 e10 h10
        exact k1 _ _ e10 (hI.next e10.tx (x := mvp q F R z) (by rw [List.getElem?_map, hz]; rfl) h10)
      · have hG : Pts H9 gs ((plc F R).map (mvp q F R)) := hI.all (by rw [List.length_map]; exact hp.len)
        have nbg := hG.nb
        clear hI
        walk_at "rd"
        refine x_sortedP hg hG fun ps ws zs H10 e10 hw hZ hperm hsrt => ?_
        have ez : zs = plc F R := sorted_eq (hperm.trans (goals_perm hq)) hsrt (plc_srtd F R)
        subst ez
        walk_at "rd"
        refine x_NeP hw hZ (by walk_at "hk") (hp.mono ((e8.trans (e9.trans e10)).tx)) ?_
        walk_at "rd"
        refine lc_lst (xs := gs) (by walk_at "hk") nbg (Made (((plc F R).map (mvp q F R)).map (mvp q.turned F R))) (Made.start (by rw [List.length_map]; exact mkMade _)) (Made.mono _) (Made.nb _) (fun x => rfl) (fun i x acc H11 hx e11 hI kk k1 k2 => ?_) (fun pb bs H11 e11 f11 hb11 hI => ?_)
        · obtain ⟨pz, z, rfl, hz, hpz⟩ := hG.get hx
          have hpz' : H9 pz = some (.tup [.int z.1, .int z.2]) := hpz
          have hzr := (mem_plc.mp ((goals_perm hq).mem_iff.mp (List.mem_of_getElem? hz))).2
          have hzr1 := (mem_plc.mp ((goals_perm hq).mem_iff.mp (List.mem_of_getElem? hz))).1
          walk_at "rd"
          rename_i p12 H12 e12 h12 p13 H13 e13 h13
          exact k1 _ _ (e12.trans e13) (hI.next (e12.trans e13).tx (x := mvp q.turned F R z) (by rw [List.getElem?_map, hz]; rfl) h13)
        · have hB : Pts H11 bs (plc F R) := by
            have := hI.all (by rw [List.length_map, List.length_map, hG.len, List.length_map])
            rwa [back_all hq] at this
          clear hI
          walk_at "rd"
          refine x_NeP hb11 hB (by walk_at "hk") (hp.mono ((e8.trans (e9.trans (e10.trans e11))).tx)) ?_
          walk_at "rd"
          have midM : ∀ {σ' : L2.St} {H' : Hp}, Sm s b F R pc pe pg σ' → Ex H11 H' → Sm s b F R pc pe pg σ' ∧ Ex H11 H' := fun x y => ⟨x, y⟩
          refine x_cut (fun σ' H' => Sm s b F R pc pe pg σ' ∧ Ex H11 H') ?_ (fun σ' H12 hM => ?_)
          · obtain ⟨zs, hzs⟩ : ∃ zs, zs = (plc F R).map (mvp q F R) := ⟨_, rfl⟩
            rw [← hzs] at hG
            have hzl : zs.length ≤ 5000 := by rw [hzs]; exact mkMade _
            have hzl2 : ys.length = zs.length := by rw [hzs, List.length_map]; exact hp.len
            have hmore : ∀ (m : Int) (i : Nat) (z : Int × Int), (plc F R)[i]? = some z → zs[i]? = some (mvp (q.more (ringOf q R * m)) F R z) := fun m i z hz => by
              rw [hzs, List.getElem?_map, hz]
              exact congrArg some (mv_more (m := m)).symm
            clear hperm hsrt hzs mkMade
            cases q <;> walk_at "rd"
            all_goals first
              | exact midM ⟨_, _, _, _, _, _, _, _, _, _, rfl⟩ (by walk_at "ex")
              | skip
            · rename_i d Hd ed da db pt Ht et ft ht pm Hm em fm hm hne
              have hm' : Hm pm = some (.tup ((C.all _).more (ringOf (C.all 0) R * (1 + d))).vals) := hm
              refine lc_lst (xs := ys) (by walk_at "hk") nby (Made zs) (Made.start hzl) (Made.mono _) (Made.nb _) (fun x => rfl) (fun i x acc H9 hx e9 hI kk k1 k2 => ?_) (fun pn bs H12 e12 f12 hb12 hI => ?_)
              · obtain ⟨pz, z, rfl, hz, hpz⟩ := hp.get hx
                have hpz' : H7 pz = some (.tup [.int z.1, .int z.2]) := hpz
                have hzr := (mem_plc.mp (List.mem_of_getElem? hz)).2
                have hzr1 := (mem_plc.mp (List.mem_of_getElem? hz)).1
                walk_at "rd"
                rename_i p10 H10 e10 h10
                exact k1 _ _ e10 (hI.next e10.tx (hmore _ _ _ hz) h10)
              · have hB2 := hI.all hzl2
                clear hI
                walk_at "rd"
                refine x_NeP hb12 hB2 (by walk_at "hk") (hG.mono (Ex.tx (by walk_at "ex"))) ?_
                walk_at "rd"
                exact midM ⟨_, _, _, _, _, _, _, _, _, _, rfl⟩ (by walk_at "ex")
            · rename_i d Hd ed da db pt Ht et ft ht pm Hm em fm hm hne
              have hm' : Hm pm = some (.tup ((C.up _ _).more (ringOf (C.up 0 0) R * (1 + d))).vals) := hm
              refine lc_lst (xs := ys) (by walk_at "hk") nby (Made zs) (Made.start hzl) (Made.mono _) (Made.nb _) (fun x => rfl) (fun i x acc H9 hx e9 hI kk k1 k2 => ?_) (fun pn bs H12 e12 f12 hb12 hI => ?_)
              · obtain ⟨pz, z, rfl, hz, hpz⟩ := hp.get hx
                have hpz' : H7 pz = some (.tup [.int z.1, .int z.2]) := hpz
                have hzr := (mem_plc.mp (List.mem_of_getElem? hz)).2
                have hzr1 := (mem_plc.mp (List.mem_of_getElem? hz)).1
                walk_at "rd"
                rename_i p10 H10 e10 h10
                exact k1 _ _ e10 (hI.next e10.tx (hmore _ _ _ hz) h10)
              · have hB2 := hI.all hzl2
                clear hI
                walk_at "rd"
                refine x_NeP hb12 hB2 (by walk_at "hk") (hG.mono (Ex.tx (by walk_at "ex"))) ?_
                walk_at "rd"
                exact midM ⟨_, _, _, _, _, _, _, _, _, _, rfl⟩ (by walk_at "ex")
            · rename_i d Hd ed da db pt Ht et ft ht pm Hm em fm hm hne
              have hm' : Hm pm = some (.tup ((C.wheel _ _ _).more (ringOf (C.wheel 0 0 0) R * (1 + d))).vals) := hm
              refine lc_lst (xs := ys) (by walk_at "hk") nby (Made zs) (Made.start hzl) (Made.mono _) (Made.nb _) (fun x => rfl) (fun i x acc H9 hx e9 hI kk k1 k2 => ?_) (fun pn bs H12 e12 f12 hb12 hI => ?_)
              · obtain ⟨pz, z, rfl, hz, hpz⟩ := hp.get hx
                have hpz' : H7 pz = some (.tup [.int z.1, .int z.2]) := hpz
                have hzr := (mem_plc.mp (List.mem_of_getElem? hz)).2
                have hzr1 := (mem_plc.mp (List.mem_of_getElem? hz)).1
                walk_at "rd"
                rename_i p10 H10 e10 h10
                exact k1 _ _ e10 (hI.next e10.tx (hmore _ _ _ hz) h10)
              · have hB2 := hI.all hzl2
                clear hI
                walk_at "rd"
                refine x_NeP hb12 hB2 (by walk_at "hk") (hG.mono (Ex.tx (by walk_at "ex"))) ?_
                walk_at "rd"
                exact midM ⟨_, _, _, _, _, _, _, _, _, _, rfl⟩ (by walk_at "ex")
          · obtain ⟨⟨v2', v8', v9', v10', v11', v12', v13', v14', v15', v16', rfl⟩, e12⟩ := hM
            have midM2 : ∀ {σ' : L2.St} {H' : Hp}, Sm s b F R pc pe pg σ' → Ex H12 H' → Sm s b F R pc pe pg σ' ∧ Ex H12 H' := fun x y => ⟨x, y⟩
            refine x_cut (fun σ' H' => Sm s b F R pc pe pg σ' ∧ Ex H12 H') ?_ (fun σ' H13 hM => ?_)
            · obtain ⟨zs, hzs⟩ : ∃ zs, zs = (plc F R).map (mvp q F R) := ⟨_, rfl⟩
              have hgr : ∀ (i : Nat) (z : Int × Int), zs[i]? = some z → (0 ≤ z.1 ∧ z.1 < (R : Int)) ∧ (0 ≤ z.2 ∧ z.2 < (F : Int)) := fun i z hz => by
                rw [hzs] at hz
                exact mem_plc.mp ((goals_perm hq).mem_iff.mp (List.mem_of_getElem? hz))
              have hbk : zs.map (mvp q.turned F R) = plc F R := by rw [hzs]; exact back_all hq
              rw [← hzs] at hG
              have hnx : ∀ (i : Nat) (z : Int × Int), zs[i]? = some z → (plc F R)[i]? = some (mvp q.turned F R z) := fun i z hz => by
                rw [← hbk, List.getElem?_map, hz]
                rfl
              have hgl : gs.length = (plc F R).length := by rw [hG.len, hzs, List.length_map]
              clear hperm hsrt hzs mkMade
              cases q <;> walk_at "rd"
              all_goals first
                | exact midM2 ⟨_, _, _, _, _, _, _, _, _, _, rfl⟩ (by walk_at "ex")
                | skip
              all_goals
                refine lc_lst (xs := gs) (by walk_at "hk") nbg (Made (plc F R)) (Made.start hlp) (Made.mono _) (Made.nb _) (fun x => rfl) (fun i x acc H9 hx e9 hI kk k1 k2 => ?_) (fun pn bs H12 e12 f12 hb12 hI => ?_)
                · obtain ⟨pz, z, rfl, hz, hpz⟩ := hG.get hx
                  have hpz' := hpz
                  unfold pairV at hpz'
                  have hzr := (hgr _ _ hz).2
                  have hzr1 := (hgr _ _ hz).1
                  walk_at "rd"
                  rename_i p10 H10 e10 h10
                  exact k1 _ _ e10 (hI.next e10.tx (hnx _ _ hz) h10)
                · have hB2 := hI.all hgl
                  clear hI
                  walk_at "rd"
                  refine x_NeP hb12 hB2 (by walk_at "hk") (hp.mono (Ex.tx (by walk_at "ex"))) ?_
                  walk_at "rd"
                  exact midM2 ⟨_, _, _, _, _, _, _, _, _, _, rfl⟩ (by walk_at "ex")
            · obtain ⟨⟨v2a, v8a, v9a, v10a, v11a, v12a, v13a, v14a, v15a, v16a, rfl⟩, e13⟩ := hM
              walk_at "rd"
              rename_i H14 e14
              refine x_iteB (fun hst => ?_) (fun _ => ?_)
              · walk_at "rd"
                refine for_rng (m := (F : Int)) (by omega) (by omega) (fun i σ H' => Sm s b F R pc pe pg σ ∧ Ex H14 H') ⟨⟨_, _, _, _, _, _, _, _, _, _, rfl⟩, Ex.refl _⟩ (fun f σ H15 hf h => ?_) (fun σ H15 h => ?_)
                · obtain ⟨⟨v2b, v8b, v9b, v10b, v11b, v12b, v13b, v14b, v15b, v16b, rfl⟩, e15⟩ := h
                  have hff : 0 ≤ (f : Int) ∧ (f : Int) < (F : Int) := ⟨by omega, hf⟩
                  walk_at "rd"
                  refine lc_rng (m := (R : Int)) (by omega) (by omega) (Made ((List.range R).map fun (r : Nat) => mvp q F R ((r : Int), (f : Int)))) (Made.start (by rw [List.length_map, List.length_range]; omega)) (Made.mono _) (Made.nb _) (fun x => rfl) (fun r acc H16 hr16 e16 hI kk k1 k2 => ?_) (fun po os H16 e16 f16 ho hI => ?_)
                  · have hrr : 0 ≤ (r : Int) ∧ (r : Int) < (R : Int) := ⟨by omega, by omega⟩
                    walk_at "rd"
                    rename_i p17 H17 e17 f17 h17 p18 H18 e18 h18
                    have hrR : r < R := by omega
                    exact k1 _ _ (e17.trans e18) (hI.next (e17.trans e18).tx (x := mvp q F R ((r : Int), (f : Int))) (by simp [hrR]) h18)
                  · have hO := hI.all (by rw [List.length_map, List.length_range]; omega)
                    have hol : os.length = R := by rw [hO.len, List.length_map, List.length_range]
                    have nbo := hO.nb
                    clear hI
                    obtain ⟨pb, hpb⟩ : ∃ pb : Nat → Bool, ∀ j : Nat, pb j = brk (mvp q F R ((j : Int), (f : Int))) (mvp q F R ((j : Int) + 1, (f : Int))) := ⟨_, fun _ => rfl⟩
                    walk_at "rd"
                    refine for_rng (m := (R : Int) - 1) (by omega) (by omega) (fun j σ H' => (∃ v2 v8 v12 v13 v14 v15 v16 : Option V, σ = [some (.ref s), some (.ref b), v2, some (.int F), some (.int R), some (.ref pc), some (.ref pe), some (.ref pg), v8, some (.int f), some (.int (cnt pb j)), some (.ref po), v12, v13, v14, v15, v16]) ∧ Ex H16 H') ⟨⟨_, _, _, _, _, _, _, rfl⟩, Ex.refl _⟩ (fun j σ H17 hj h => ?_) (fun σ H17 h => ?_)
                    · obtain ⟨⟨v2c, v8c, v12c, v13c, v14c, v15c, v16c, rfl⟩, e17⟩ := h
                      have hj1 : j < os.length := by omega
                      have hj2 : j + 1 < os.length := by omega
                      obtain ⟨p1, z1, eo1, hz1, hp1⟩ := hO.get (List.getElem?_eq_getElem hj1)
                      obtain ⟨p2, z2, eo2, hz2, hp2⟩ := hO.get (List.getElem?_eq_getElem hj2)
                      have a1 : atI os (j : Int) = some (.ref p1) := at_nat (by omega) (by rw [Int.toNat_natCast, List.getElem?_eq_getElem hj1, eo1])
                      have a2 : atI os ((j : Int) + 1) = some (.ref p2) := at_nat (by omega) (by rw [show ((j : Int) + 1).toNat = j + 1 by omega, List.getElem?_eq_getElem hj2, eo2])
                      have jR : j < R := by omega
                      have jR2 : j + 1 < R := by omega
                      have ez1 : mvp q F R ((j : Int), (f : Int)) = z1 := by simpa [jR] using hz1
                      have ez2 : mvp q F R ((j : Int) + 1, (f : Int)) = z2 := by simpa [jR2] using hz2
                      have hc1 : cnt pb (j + 1) = cnt pb j + (if pb j = true then 1 else 0) := rfl
                      have hpj := hpb j
                      rw [ez1, ez2] at hpj
                      unfold pairV at hp1 hp2
                      walk_at "rd"
                      · rename_i hcol
                        have hcc : cnt pb (j + 1) = cnt pb j + (if (!decide ((if z1.1 - z2.1 < 0 then -(z1.1 - z2.1) else z1.1 - z2.1) = 1)) = true then 1 else 0) := by
                          rw [hc1, hpj]
                          unfold brk
                          rw [decide_eq_true hcol, Bool.true_and]
                        rw [hcc]
                        exact ⟨⟨_, _, _, _, _, _, _, rfl⟩, by walk_at "ex"⟩
                      · rename_i hcol
                        have hcc : cnt pb (j + 1) = cnt pb j + (if (!false) = true then 1 else 0) := by
                          rw [hc1, hpj]
                          unfold brk
                          rw [decide_eq_false hcol, Bool.false_and]
                        rw [hcc]
                        exact ⟨⟨_, _, _, _, _, _, _, rfl⟩, by walk_at "ex"⟩
                    · obtain ⟨⟨v2c, v8c, v12c, v13c, v14c, v15c, v16c, rfl⟩, e17⟩ := h
                      have hcn : cnt pb ((R : Int) - 1).toNat ≤ 1 := (cnt_le fun i j hi hj p1 p2 => by
                        rw [hpb] at p1 p2
                        have := breaks_unique hst hq hff (i := (i : Int)) (j := (j : Int)) (by omega) (by omega) (brk_not p1) (brk_not p2)
                        omega).1
                      walk_at "rd"
                      · exfalso; omega
                      · exact ⟨⟨_, _, _, _, _, _, _, _, _, _, rfl⟩, by walk_at "ex"⟩
                · obtain ⟨⟨v2b, v8b, v9b, v10b, v11b, v12b, v13b, v14b, v15b, v16b, rfl⟩, e15⟩ := h
                  walk_at "rd"
                  exact ⟨⟨_, _, _, _, _, _, _, _, _, _, _, _, _, _, _, rfl⟩, by walk_at "bg"⟩
              · walk_at "rd"
                exact ⟨⟨_, _, _, _, _, _, _, _, _, _, _, _, _, _, _, rfl⟩, by walk_at "bg"⟩
end
end My

set_option Elab.async false
set_option linter.all false
set_option maxRecDepth 100000
set_option maxHeartbeats 8000000
namespace My
open PySem PySem.Spec PyProof.Rows L2 Sx
local macro_rules | `(tactic| walk_at "nb") => `(tactic| first | exact NB.tup | exact NB.ints | exact NB.len (of_decide_eq_true rfl) | exact NB.at0b rfl | exact NB.at3b rfl | exact NB.ins | exact NB.own | exact NB.frz | exact NB.refs (by assumption) | assumption)
local macro_rules | `(tactic| walk_at "ne") => `(tactic| first | assumption | exact Ne.symm (by assumption) | exact ne_of_none (by assumption) (by assumption) | exact Ne.symm (ne_of_none (by assumption) (by assumption)))
local macro_rules | `(tactic| walk_at "hk") => `(tactic| first
  | assumption
  | exact upd_same
  | (refine' (upd_ne ?hkne).trans ?hkq; (case hkne => walk_at "ne"); (case hkq => walk_at "hk"))
  | (refine' Ex.kp (by assumption) _ _ ?hkq ?hkn; (case hkq => walk_at "hk"); (case hkn => walk_at "nb")))
local macro_rules | `(tactic| walk_at "rd1") => `(tactic| first
  | ((with_reducible refine' x_var ?hx ?_); (case hx => exact rfl))
  | with_reducible refine x_c ?_
  | with_reducible refine x_op ?_
  | with_reducible refine x_un ?_
  | with_reducible refine x_I0 ?_
  | with_reducible refine x_U ?_
  | ((with_reducible refine x_I ?hc ?_); (case hc => first | exact (by decide : (0 : Int) < _) | (show (0 : Int) < _; omega) | (show CMul _ _; first | exact .inl ⟨by omega, by omega⟩ | exact .inr ⟨by omega, by omega⟩) | (show CDiv _ _; exact ⟨by omega, by omega⟩) | (show CDivW _ _; exact wide_div (b := 200) (by omega) (by assumption) (by decide) (by decide)) | (show CDivW _ _; exact wide_div (b := 31) (by omega) (by omega) (by decide) (by decide))))
  | with_reducible refine x_EqI ?_
  | with_reducible refine x_NeI ?_
  | ((with_reducible refine x_EqSt ?h ?_); (case h => decide +kernel))
  | ((with_reducible refine x_EqSf ?h ?_); (case h => decide +kernel))
  | ((with_reducible refine x_NeSt ?h ?_); (case h => decide +kernel))
  | ((with_reducible refine x_NeSf ?h ?_); (case h => decide +kernel))
  | with_reducible refine x_EqS ?_
  | with_reducible refine x_NeS ?_
  | ((with_reducible refine' x_ixL ?hq ?hi ?_); (case hq => walk_at "hk"); (case hi => first | exact rfl | assumption))
  | ((with_reducible refine' x_ixT ?hq ?hi ?_); (case hq => walk_at "hk"); (case hi => first | exact rfl | assumption))
  | with_reducible refine x_chain ?_
  | with_reducible refine x_tup ?_
  | with_reducible refine x_lst ?_
  | ((with_reducible refine x_lenNew ?hl ?_); (case hl => exact Nat.le_of_ble_eq_true rfl); intro _ _ _ _ _)
  | ((with_reducible refine x_new ?_); intro _ _ _ _ _)
  | with_reducible refine x_sl ?_
  | with_reducible refine x_noPart ?_
  | with_reducible refine x_part ?_
  | with_reducible refine x_ex_int ?_
  | with_reducible refine x_ex_bl ?_
  | with_reducible refine x_ex_2 ?_
  | with_reducible refine x_test ?_
  | with_reducible refine x_B ?_
  | with_reducible refine x_and ?_
  | with_reducible refine x_or ?_
  | with_reducible refine x_not ?_
  | with_reducible refine x_andV ?_
  | with_reducible refine x_orV ?_
  | with_reducible refine x_notV ?_
  | with_reducible refine x_ifE ?_
  | with_reducible refine x_iteT ?_
  | with_reducible refine x_iteF ?_
  | ((with_reducible refine x_iteD ?_ ?_) <;> intro _)
  | ((with_reducible refine x_iteN ?_ ?_) <;> intro _)
  | with_reducible refine x_if ?_
  | with_reducible refine x_seq ?_
  | with_reducible refine x_next ?_
  | with_reducible refine x_asg ?_
  | with_reducible refine x_gName ?_
  | ((with_reducible refine' x_gTup ?hq ?hn ?_); (case hq => walk_at "hk"); (case hn => exact rfl))
  | with_reducible refine x_gCons ?_
  | with_reducible refine x_gNil ?_
  | ((with_reducible refine' x_gConsE ?h ?_); (case h => exact rfl))
  | ((with_reducible refine x_gNilE ?h ?_); (case h => exact rfl))
  | with_reducible refine x_ret ?_
  | with_reducible refine x_drop ?_
  | with_reducible refine x_par ?_
  | ((with_reducible refine' x_aug ?hx ?_); (case hx => exact rfl))
  | with_reducible refine x_ipI ?_
  | with_reducible refine x_augS ?_
  | with_reducible refine x_gSub ?_
  | ((with_reducible refine' x_setL ?hq ?hi ?_); (case hq => walk_at "hk"); (case hi => first | exact rfl | assumption))
  | with_reducible refine x_cons ?_
  | with_reducible refine x_nil ?_
  | with_reducible refine x_CB ?_
  | with_reducible refine x_abs ?_
  | with_reducible refine x_intI ?_
  | with_reducible refine x_intB ?_
  | ((with_reducible refine' x_lenL ?hq ?_); (case hq => walk_at "hk"))
  | ((with_reducible refine' x_lenT ?hq ?_); (case hq => walk_at "hk"))
  | ((with_reducible refine x_iteTe ?h ?_); (case h => exact rfl))
  | ((with_reducible refine x_iteFe ?h ?_); (case h => exact rfl))
  | walk_at "use"
  | with_reducible refine x_callS ?_
  | ((with_reducible refine x_lc ?_))
  | ((with_reducible refine x_for ?_))
  | ((with_reducible refine x_iR1 ?_))
  | ((with_reducible refine x_iL ?_))
  | ((with_reducible refine x_iZ ?_))
  | ((with_reducible refine x_yes ?_))
  | ((with_reducible refine' x_NIDt ?hq ?_); (case hq => assumption))
  | ((with_reducible refine' x_NIDf ?hq ?_); (case hq => assumption))
  | ((with_reducible refine' x_IIDf ?hq ?_); (case hq => assumption))
  | ((with_reducible refine' x_IIDt ?hq ?_); (case hq => assumption))
  | ((with_reducible refine' x_ixDs ?hd ?hq ?_); (case hd => assumption); (case hq => assumption))
  | ((with_reducible refine x_InSt ?h ?_); (case h => decide +kernel))
  | ((with_reducible refine x_InSf ?h ?_); (case h => decide +kernel))
  | ((with_reducible refine' x_notInI ?hq ?_); (case hq => walk_at "hk"))
  | ((with_reducible refine' x_inTt ?hq ?hv ?ha ?he ?_); (case hq => walk_at "hk"); (case hv => exact rfl); (case ha => exact rfl); (case he => decide +kernel))
  | ((with_reducible refine' x_inTf ?hq ?hv ?ha ?he ?_); (case hq => walk_at "hk"); (case hv => exact rfl); (case ha => exact rfl); (case he => decide +kernel))
  | ((with_reducible refine' x_slT ?hq ?hw ?_); (case hq => walk_at "hk"); (case hw => with_unfolding_all exact of_decide_eq_true rfl))
  | ((with_reducible refine' x_slL ?hq ?_); (case hq => walk_at "hk"))
  | ((with_reducible refine' x_catT ?hq ?hr ?n1 ?n2 ?hl ?_); (case hq => walk_at "hk"); (case hr => walk_at "hk"); (case n1 => exact List.cons_ne_nil _ _); (case n2 => exact List.cons_ne_nil _ _); (case hl => exact Nat.le_of_ble_eq_true rfl))
  | ((with_reducible refine x_bm ?_))
  | ((with_reducible refine x_lstRg ?_))
  | ((with_reducible refine x_rg1 ?_))
  | ((with_reducible refine And.intro ?h ?_); (case h => exact tyL (by assumption)))
  | dsimp only)
local macro_rules | `(tactic| walk_at "use") => `(tactic| fail)
local macro_rules | `(tactic| walk_at "rd") => `(tactic| repeat' (walk_at "rd1"))
local macro_rules | `(tactic| walk_at "ex") => `(tactic| first | exact Ex.refl _ | assumption | (refine' Ex.trans ?he (by assumption); (case he => walk_at "ex")))

theorem all_mk {l : PySem.W.OpenLaw} {w : World} {K : PySem.W.Frag} {h : Heap} {mg : Str → Option Value} {fa : Addr} (X : K.In h) (G : h.Ns mainGlobals mg) (hfa : mg "law" = some (.ref fa))
    {f_is_straight : Addr} {od_is_straight an_is_straight : Option Addr} {sl_is_straight : Array (Option Value)} {oc_is_straight kV_is_straight dc_is_straight pm_is_straight cd_is_straight ct_is_straight : Value}
    {f_turned : Addr} {od_turned an_turned : Option Addr} {sl_turned : Array (Option Value)} {oc_turned kV_turned dc_turned pm_turned cd_turned ct_turned : Value}
    {f_moved_by : Addr} {od_moved_by an_moved_by : Option Addr} {sl_moved_by : Array (Option Value)} {oc_moved_by kV_moved_by dc_moved_by pm_moved_by cd_moved_by ct_moved_by : Value}
    {f_cut_of : Addr} {od_cut_of an_cut_of : Option Addr} {sl_cut_of : Array (Option Value)} {oc_cut_of kV_cut_of dc_cut_of pm_cut_of cd_cut_of ct_cut_of : Value}
    {f_whole : Addr} {od_whole an_whole : Option Addr} {sl_whole : Array (Option Value)} {oc_whole kV_whole dc_whole pm_whole cd_whole ct_whole : Value}
    {f_cut_of_up : Addr} {od_cut_of_up an_cut_of_up : Option Addr} {sl_cut_of_up : Array (Option Value)} {oc_cut_of_up kV_cut_of_up dc_cut_of_up pm_cut_of_up cd_cut_of_up ct_cut_of_up : Value}
    {f_cut_of_wheel : Addr} {od_cut_of_wheel an_cut_of_wheel : Option Addr} {sl_cut_of_wheel : Array (Option Value)} {oc_cut_of_wheel kV_cut_of_wheel dc_cut_of_wheel pm_cut_of_wheel cd_cut_of_wheel ct_cut_of_wheel : Value}
    {f_moved_by_open_call : Addr} {od_moved_by_open_call an_moved_by_open_call : Option Addr} {sl_moved_by_open_call : Array (Option Value)} {oc_moved_by_open_call kV_moved_by_open_call dc_moved_by_open_call pm_moved_by_open_call cd_moved_by_open_call ct_moved_by_open_call : Value}
    {f_Lbag : Addr} {od_Lbag an_Lbag : Option Addr} {sl_Lbag : Array (Option Value)} {oc_Lbag kV_Lbag dc_Lbag pm_Lbag cd_Lbag ct_Lbag : Value}
    {f_Ltake : Addr} {od_Ltake an_Ltake : Option Addr} {sl_Ltake : Array (Option Value)} {oc_Ltake kV_Ltake dc_Ltake pm_Ltake cd_Ltake ct_Ltake : Value}
    {f_Lone : Addr} {od_Lone an_Lone : Option Addr} {sl_Lone : Array (Option Value)} {oc_Lone kV_Lone dc_Lone pm_Lone cd_Lone ct_Lone : Value}
    {f_Lmixed : Addr} {od_Lmixed an_Lmixed : Option Addr} {sl_Lmixed : Array (Option Value)} {oc_Lmixed kV_Lmixed dc_Lmixed pm_Lmixed cd_Lmixed ct_Lmixed : Value}
    {f_Lnumber : Addr} {od_Lnumber an_Lnumber : Option Addr} {sl_Lnumber : Array (Option Value)} {oc_Lnumber kV_Lnumber dc_Lnumber pm_Lnumber cd_Lnumber ct_Lnumber : Value}
    {f_Ltwo : Addr} {od_Ltwo an_Ltwo : Option Addr} {sl_Ltwo : Array (Option Value)} {oc_Ltwo kV_Ltwo dc_Ltwo pm_Ltwo cd_Ltwo ct_Ltwo : Value}
    {f_Lcall : Addr} {od_Lcall an_Lcall : Option Addr} {sl_Lcall : Array (Option Value)} {oc_Lcall kV_Lcall dc_Lcall pm_Lcall cd_Lcall ct_Lcall : Value}
    {f_Lall_kinds : Addr} {od_Lall_kinds an_Lall_kinds : Option Addr} {sl_Lall_kinds : Array (Option Value)} {oc_Lall_kinds kV_Lall_kinds dc_Lall_kinds pm_Lall_kinds cd_Lall_kinds ct_Lall_kinds : Value}
    {f_Lplaces : Addr} {od_Lplaces an_Lplaces : Option Addr} {sl_Lplaces : Array (Option Value)} {oc_Lplaces kV_Lplaces dc_Lplaces pm_Lplaces cd_Lplaces ct_Lplaces : Value}
    {f_Lring : Addr} {od_Lring an_Lring : Option Addr} {sl_Lring : Array (Option Value)} {oc_Lring kV_Lring dc_Lring pm_Lring cd_Lring ct_Lring : Value}
    {f_law : Addr} {od_law an_law : Option Addr} {sl_law : Array (Option Value)} {oc_law kV_law dc_law pm_law cd_law ct_law : Value}
    {q_PARTS : Addr} {qe_PARTS : Array DictEntry} {qn_PARTS : Nat}
    {t_PARTS_all : Tok}
    {t_PARTS_up : Tok}
    {t_PARTS_swap : Tok}
    {t_PARTS_wheel : Tok}
    {t_PARTS_about : Tok}
    {t_PARTS_front : Tok}
    {t_PARTS_halve : Tok}
    {t_PARTS_pair : Tok}
    {t_PARTS_others : Tok}
    {t_PARTS_fill : Tok}
    {q_UNDOING : Addr} {qe_UNDOING : Array DictEntry} {qn_UNDOING : Nat}
    {t_UNDOING_halve : Tok}
    {t_UNDOING_pair : Tok}
    {t_UNDOING_others : Tok}
    {t_UNDOING_fill : Tok}
    (a_is_straight : PySem.W.nsIn K mainGlobals "is_straight" = some (some (.ref f_is_straight)))
    (l_is_straight : K.lookup f_is_straight = some ⟨oc_is_straight, od_is_straight, .func (PySem.W.fnOf "is_straight" "is_straight" (defArgs s_is_straight) (defBody s_is_straight) (defScope s_is_straight) .none kV_is_straight dc_is_straight pm_is_straight an_is_straight cd_is_straight ct_is_straight), sl_is_straight⟩)
    (c_is_straight : PySem.W.codeIn K cd_is_straight "is_straight" = true)
    (k_is_straight : PySem.W.keepIn K (.ref f_is_straight) = true)
    (a_turned : PySem.W.nsIn K mainGlobals "turned" = some (some (.ref f_turned)))
    (l_turned : K.lookup f_turned = some ⟨oc_turned, od_turned, .func (PySem.W.fnOf "turned" "turned" (defArgs s_turned) (defBody s_turned) (defScope s_turned) .none kV_turned dc_turned pm_turned an_turned cd_turned ct_turned), sl_turned⟩)
    (c_turned : PySem.W.codeIn K cd_turned "turned" = true)
    (k_turned : PySem.W.keepIn K (.ref f_turned) = true)
    (a_moved_by : PySem.W.nsIn K mainGlobals "moved_by" = some (some (.ref f_moved_by)))
    (l_moved_by : K.lookup f_moved_by = some ⟨oc_moved_by, od_moved_by, .func (PySem.W.fnOf "moved_by" "moved_by" (defArgs s_moved_by) (defBody s_moved_by) (defScope s_moved_by) .none kV_moved_by dc_moved_by pm_moved_by an_moved_by cd_moved_by ct_moved_by), sl_moved_by⟩)
    (c_moved_by : PySem.W.codeIn K cd_moved_by "moved_by" = true)
    (k_moved_by : PySem.W.keepIn K (.ref f_moved_by) = true)
    (a_cut_of : PySem.W.nsIn K mainGlobals "cut_of" = some (some (.ref f_cut_of)))
    (l_cut_of : K.lookup f_cut_of = some ⟨oc_cut_of, od_cut_of, .func (PySem.W.fnOf "cut_of" "cut_of" (defArgs s_cut_of) (defBody s_cut_of) (defScope s_cut_of) .none kV_cut_of dc_cut_of pm_cut_of an_cut_of cd_cut_of ct_cut_of), sl_cut_of⟩)
    (c_cut_of : PySem.W.codeIn K cd_cut_of "cut_of" = true)
    (k_cut_of : PySem.W.keepIn K (.ref f_cut_of) = true)
    (a_whole : PySem.W.nsIn K mainGlobals "whole" = some (some (.ref f_whole)))
    (l_whole : K.lookup f_whole = some ⟨oc_whole, od_whole, .func (PySem.W.fnOf "whole" "whole" (defArgs s_whole) (defBody s_whole) (defScope s_whole) .none kV_whole dc_whole pm_whole an_whole cd_whole ct_whole), sl_whole⟩)
    (c_whole : PySem.W.codeIn K cd_whole "whole" = true)
    (k_whole : PySem.W.keepIn K (.ref f_whole) = true)
    (a_cut_of_up : PySem.W.nsIn K mainGlobals "cut_of_up" = some (some (.ref f_cut_of_up)))
    (l_cut_of_up : K.lookup f_cut_of_up = some ⟨oc_cut_of_up, od_cut_of_up, .func (PySem.W.fnOf "cut_of_up" "cut_of_up" (defArgs s_cut_of_up) (defBody s_cut_of_up) (defScope s_cut_of_up) .none kV_cut_of_up dc_cut_of_up pm_cut_of_up an_cut_of_up cd_cut_of_up ct_cut_of_up), sl_cut_of_up⟩)
    (c_cut_of_up : PySem.W.codeIn K cd_cut_of_up "cut_of_up" = true)
    (k_cut_of_up : PySem.W.keepIn K (.ref f_cut_of_up) = true)
    (a_cut_of_wheel : PySem.W.nsIn K mainGlobals "cut_of_wheel" = some (some (.ref f_cut_of_wheel)))
    (l_cut_of_wheel : K.lookup f_cut_of_wheel = some ⟨oc_cut_of_wheel, od_cut_of_wheel, .func (PySem.W.fnOf "cut_of_wheel" "cut_of_wheel" (defArgs s_cut_of_wheel) (defBody s_cut_of_wheel) (defScope s_cut_of_wheel) .none kV_cut_of_wheel dc_cut_of_wheel pm_cut_of_wheel an_cut_of_wheel cd_cut_of_wheel ct_cut_of_wheel), sl_cut_of_wheel⟩)
    (c_cut_of_wheel : PySem.W.codeIn K cd_cut_of_wheel "cut_of_wheel" = true)
    (k_cut_of_wheel : PySem.W.keepIn K (.ref f_cut_of_wheel) = true)
    (a_moved_by_open_call : PySem.W.nsIn K mainGlobals "moved_by_open_call" = some (some (.ref f_moved_by_open_call)))
    (l_moved_by_open_call : K.lookup f_moved_by_open_call = some ⟨oc_moved_by_open_call, od_moved_by_open_call, .func (PySem.W.fnOf "moved_by_open_call" "moved_by_open_call" (defArgs s_moved_by_open_call) (defBody s_moved_by_open_call) (defScope s_moved_by_open_call) .none kV_moved_by_open_call dc_moved_by_open_call pm_moved_by_open_call an_moved_by_open_call cd_moved_by_open_call ct_moved_by_open_call), sl_moved_by_open_call⟩)
    (c_moved_by_open_call : PySem.W.codeIn K cd_moved_by_open_call "moved_by_open_call" = true)
    (k_moved_by_open_call : PySem.W.keepIn K (.ref f_moved_by_open_call) = true)
    (a_Lbag : PySem.W.nsIn K mainGlobals "_law_bag" = some (some (.ref f_Lbag)))
    (l_Lbag : K.lookup f_Lbag = some ⟨oc_Lbag, od_Lbag, .func (PySem.W.fnOf "_law_bag" "_law_bag" (defArgs s_Lbag) (defBody s_Lbag) (defScope s_Lbag) .none kV_Lbag dc_Lbag pm_Lbag an_Lbag cd_Lbag ct_Lbag), sl_Lbag⟩)
    (c_Lbag : PySem.W.codeIn K cd_Lbag "_law_bag" = true)
    (k_Lbag : PySem.W.keepIn K (.ref f_Lbag) = true)
    (a_Ltake : PySem.W.nsIn K mainGlobals "_law_take" = some (some (.ref f_Ltake)))
    (l_Ltake : K.lookup f_Ltake = some ⟨oc_Ltake, od_Ltake, .func (PySem.W.fnOf "_law_take" "_law_take" (defArgs s_Ltake) (defBody s_Ltake) (defScope s_Ltake) .none kV_Ltake dc_Ltake pm_Ltake an_Ltake cd_Ltake ct_Ltake), sl_Ltake⟩)
    (c_Ltake : PySem.W.codeIn K cd_Ltake "_law_take" = true)
    (k_Ltake : PySem.W.keepIn K (.ref f_Ltake) = true)
    (a_Lone : PySem.W.nsIn K mainGlobals "_law_one" = some (some (.ref f_Lone)))
    (l_Lone : K.lookup f_Lone = some ⟨oc_Lone, od_Lone, .func (PySem.W.fnOf "_law_one" "_law_one" (defArgs s_Lone) (defBody s_Lone) (defScope s_Lone) .none kV_Lone dc_Lone pm_Lone an_Lone cd_Lone ct_Lone), sl_Lone⟩)
    (c_Lone : PySem.W.codeIn K cd_Lone "_law_one" = true)
    (k_Lone : PySem.W.keepIn K (.ref f_Lone) = true)
    (a_Lmixed : PySem.W.nsIn K mainGlobals "_law_mixed" = some (some (.ref f_Lmixed)))
    (l_Lmixed : K.lookup f_Lmixed = some ⟨oc_Lmixed, od_Lmixed, .func (PySem.W.fnOf "_law_mixed" "_law_mixed" (defArgs s_Lmixed) (defBody s_Lmixed) (defScope s_Lmixed) .none kV_Lmixed dc_Lmixed pm_Lmixed an_Lmixed cd_Lmixed ct_Lmixed), sl_Lmixed⟩)
    (c_Lmixed : PySem.W.codeIn K cd_Lmixed "_law_mixed" = true)
    (k_Lmixed : PySem.W.keepIn K (.ref f_Lmixed) = true)
    (a_Lnumber : PySem.W.nsIn K mainGlobals "_law_number" = some (some (.ref f_Lnumber)))
    (l_Lnumber : K.lookup f_Lnumber = some ⟨oc_Lnumber, od_Lnumber, .func (PySem.W.fnOf "_law_number" "_law_number" (defArgs s_Lnumber) (defBody s_Lnumber) (defScope s_Lnumber) .none kV_Lnumber dc_Lnumber pm_Lnumber an_Lnumber cd_Lnumber ct_Lnumber), sl_Lnumber⟩)
    (c_Lnumber : PySem.W.codeIn K cd_Lnumber "_law_number" = true)
    (k_Lnumber : PySem.W.keepIn K (.ref f_Lnumber) = true)
    (a_Ltwo : PySem.W.nsIn K mainGlobals "_law_two" = some (some (.ref f_Ltwo)))
    (l_Ltwo : K.lookup f_Ltwo = some ⟨oc_Ltwo, od_Ltwo, .func (PySem.W.fnOf "_law_two" "_law_two" (defArgs s_Ltwo) (defBody s_Ltwo) (defScope s_Ltwo) .none kV_Ltwo dc_Ltwo pm_Ltwo an_Ltwo cd_Ltwo ct_Ltwo), sl_Ltwo⟩)
    (c_Ltwo : PySem.W.codeIn K cd_Ltwo "_law_two" = true)
    (k_Ltwo : PySem.W.keepIn K (.ref f_Ltwo) = true)
    (a_Lcall : PySem.W.nsIn K mainGlobals "_law_call" = some (some (.ref f_Lcall)))
    (l_Lcall : K.lookup f_Lcall = some ⟨oc_Lcall, od_Lcall, .func (PySem.W.fnOf "_law_call" "_law_call" (defArgs s_Lcall) (defBody s_Lcall) (defScope s_Lcall) .none kV_Lcall dc_Lcall pm_Lcall an_Lcall cd_Lcall ct_Lcall), sl_Lcall⟩)
    (c_Lcall : PySem.W.codeIn K cd_Lcall "_law_call" = true)
    (k_Lcall : PySem.W.keepIn K (.ref f_Lcall) = true)
    (a_Lall_kinds : PySem.W.nsIn K mainGlobals "_law_all_kinds" = some (some (.ref f_Lall_kinds)))
    (l_Lall_kinds : K.lookup f_Lall_kinds = some ⟨oc_Lall_kinds, od_Lall_kinds, .func (PySem.W.fnOf "_law_all_kinds" "_law_all_kinds" (defArgs s_Lall_kinds) (defBody s_Lall_kinds) (defScope s_Lall_kinds) .none kV_Lall_kinds dc_Lall_kinds pm_Lall_kinds an_Lall_kinds cd_Lall_kinds ct_Lall_kinds), sl_Lall_kinds⟩)
    (c_Lall_kinds : PySem.W.codeIn K cd_Lall_kinds "_law_all_kinds" = true)
    (k_Lall_kinds : PySem.W.keepIn K (.ref f_Lall_kinds) = true)
    (a_Lplaces : PySem.W.nsIn K mainGlobals "_law_places" = some (some (.ref f_Lplaces)))
    (l_Lplaces : K.lookup f_Lplaces = some ⟨oc_Lplaces, od_Lplaces, .func (PySem.W.fnOf "_law_places" "_law_places" (defArgs s_Lplaces) (defBody s_Lplaces) (defScope s_Lplaces) .none kV_Lplaces dc_Lplaces pm_Lplaces an_Lplaces cd_Lplaces ct_Lplaces), sl_Lplaces⟩)
    (c_Lplaces : PySem.W.codeIn K cd_Lplaces "_law_places" = true)
    (k_Lplaces : PySem.W.keepIn K (.ref f_Lplaces) = true)
    (a_Lring : PySem.W.nsIn K mainGlobals "_law_ring" = some (some (.ref f_Lring)))
    (l_Lring : K.lookup f_Lring = some ⟨oc_Lring, od_Lring, .func (PySem.W.fnOf "_law_ring" "_law_ring" (defArgs s_Lring) (defBody s_Lring) (defScope s_Lring) .none kV_Lring dc_Lring pm_Lring an_Lring cd_Lring ct_Lring), sl_Lring⟩)
    (c_Lring : PySem.W.codeIn K cd_Lring "_law_ring" = true)
    (k_Lring : PySem.W.keepIn K (.ref f_Lring) = true)
    (a_law : PySem.W.nsIn K mainGlobals "law" = some (some (.ref f_law)))
    (l_law : K.lookup f_law = some ⟨oc_law, od_law, .func (PySem.W.fnOf "law" "law" (defArgs s_law) (defBody s_law) (defScope s_law) .none kV_law dc_law pm_law an_law cd_law ct_law), sl_law⟩)
    (c_law : PySem.W.codeIn K cd_law "law" = true)
    (k_law : PySem.W.keepIn K (.ref f_law) = true)
    (a_PARTS : PySem.W.nsIn K mainGlobals "PARTS" = some (some (.ref q_PARTS)))
    (l_PARTS : K.lookup q_PARTS = some ⟨.type "dict", none, .dict qe_PARTS qn_PARTS, #[]⟩)
    (v_PARTS_all : PySem.W.nsIn K q_PARTS "all" = some (some (.str "k" t_PARTS_all)))
    (v_PARTS_up : PySem.W.nsIn K q_PARTS "up" = some (some (.str "fk" t_PARTS_up)))
    (v_PARTS_swap : PySem.W.nsIn K q_PARTS "swap" = some (some (.str "ff" t_PARTS_swap)))
    (v_PARTS_wheel : PySem.W.nsIn K q_PARTS "wheel" = some (some (.str "ffk" t_PARTS_wheel)))
    (v_PARTS_about : PySem.W.nsIn K q_PARTS "about" = some (some (.str "" t_PARTS_about)))
    (v_PARTS_front : PySem.W.nsIn K q_PARTS "front" = some (some (.str "ff" t_PARTS_front)))
    (v_PARTS_halve : PySem.W.nsIn K q_PARTS "halve" = some (some (.str "" t_PARTS_halve)))
    (v_PARTS_pair : PySem.W.nsIn K q_PARTS "pair" = some (some (.str "" t_PARTS_pair)))
    (v_PARTS_others : PySem.W.nsIn K q_PARTS "others" = some (some (.str "" t_PARTS_others)))
    (v_PARTS_fill : PySem.W.nsIn K q_PARTS "fill" = some (some (.str "" t_PARTS_fill)))
    (li_PARTS : PySem.W.KeysLit w.params qe_PARTS.toList)
    (lo_PARTS : (q_PARTS == sysModules) = false)
    (a_UNDOING : PySem.W.nsIn K mainGlobals "UNDOING" = some (some (.ref q_UNDOING)))
    (l_UNDOING : K.lookup q_UNDOING = some ⟨.type "dict", none, .dict qe_UNDOING qn_UNDOING, #[]⟩)
    (v_UNDOING_halve : PySem.W.nsIn K q_UNDOING "halve" = some (some (.str "pair" t_UNDOING_halve)))
    (v_UNDOING_pair : PySem.W.nsIn K q_UNDOING "pair" = some (some (.str "halve" t_UNDOING_pair)))
    (v_UNDOING_others : PySem.W.nsIn K q_UNDOING "others" = some (some (.str "fill" t_UNDOING_others)))
    (v_UNDOING_fill : PySem.W.nsIn K q_UNDOING "fill" = some (some (.str "others" t_UNDOING_fill)))
    (o_UNDOING_all : PySem.W.nsIn K q_UNDOING "all" = some none)
    (o_UNDOING_up : PySem.W.nsIn K q_UNDOING "up" = some none)
    (o_UNDOING_swap : PySem.W.nsIn K q_UNDOING "swap" = some none)
    (o_UNDOING_wheel : PySem.W.nsIn K q_UNDOING "wheel" = some none)
    (o_UNDOING_about : PySem.W.nsIn K q_UNDOING "about" = some none)
    (o_UNDOING_front : PySem.W.nsIn K q_UNDOING "front" = some none)
    (li_UNDOING : PySem.W.KeysLit w.params qe_UNDOING.toList)
    (lo_UNDOING : (q_UNDOING == sysModules) = false)
    (z_len : PySem.W.nsIn K mainGlobals "len" = some none)
    (z_abs : PySem.W.nsIn K mainGlobals "abs" = some none)
    (z_int : PySem.W.nsIn K mainGlobals "int" = some none)
    (z_sorted : PySem.W.nsIn K mainGlobals "sorted" = some none)
    (z_list : PySem.W.nsIn K mainGlobals "list" = some none)
    (z_range : PySem.W.nsIn K mainGlobals "range" = some none) :
    ∃ fd : FuncData, (∀ (s : Shared) (v : Value), BindsTo s fd ⟨[v], []⟩ [("_law_script", v)]) ∧ ∀ base : Heap, K.In base → base.Ns mainGlobals mg → FnOk l.prog w K mg base CX0 5 fa fd ["_law_script"] (sp_law K) := by
  have e := hfa.symm.trans (PySem.W.mg_of X G a_law)
  cases e
  have T : Txt K w mg { a_is_straight := f_is_straight, fd_is_straight := PySem.W.fnOf "is_straight" "is_straight" (defArgs s_is_straight) (defBody s_is_straight) (defScope s_is_straight) .none kV_is_straight dc_is_straight pm_is_straight an_is_straight cd_is_straight ct_is_straight, a_turned := f_turned, fd_turned := PySem.W.fnOf "turned" "turned" (defArgs s_turned) (defBody s_turned) (defScope s_turned) .none kV_turned dc_turned pm_turned an_turned cd_turned ct_turned, a_moved_by := f_moved_by, fd_moved_by := PySem.W.fnOf "moved_by" "moved_by" (defArgs s_moved_by) (defBody s_moved_by) (defScope s_moved_by) .none kV_moved_by dc_moved_by pm_moved_by an_moved_by cd_moved_by ct_moved_by, a_cut_of := f_cut_of, fd_cut_of := PySem.W.fnOf "cut_of" "cut_of" (defArgs s_cut_of) (defBody s_cut_of) (defScope s_cut_of) .none kV_cut_of dc_cut_of pm_cut_of an_cut_of cd_cut_of ct_cut_of, a_whole := f_whole, fd_whole := PySem.W.fnOf "whole" "whole" (defArgs s_whole) (defBody s_whole) (defScope s_whole) .none kV_whole dc_whole pm_whole an_whole cd_whole ct_whole, a_cut_of_up := f_cut_of_up, fd_cut_of_up := PySem.W.fnOf "cut_of_up" "cut_of_up" (defArgs s_cut_of_up) (defBody s_cut_of_up) (defScope s_cut_of_up) .none kV_cut_of_up dc_cut_of_up pm_cut_of_up an_cut_of_up cd_cut_of_up ct_cut_of_up, a_cut_of_wheel := f_cut_of_wheel, fd_cut_of_wheel := PySem.W.fnOf "cut_of_wheel" "cut_of_wheel" (defArgs s_cut_of_wheel) (defBody s_cut_of_wheel) (defScope s_cut_of_wheel) .none kV_cut_of_wheel dc_cut_of_wheel pm_cut_of_wheel an_cut_of_wheel cd_cut_of_wheel ct_cut_of_wheel, a_moved_by_open_call := f_moved_by_open_call, fd_moved_by_open_call := PySem.W.fnOf "moved_by_open_call" "moved_by_open_call" (defArgs s_moved_by_open_call) (defBody s_moved_by_open_call) (defScope s_moved_by_open_call) .none kV_moved_by_open_call dc_moved_by_open_call pm_moved_by_open_call an_moved_by_open_call cd_moved_by_open_call ct_moved_by_open_call, a_Lbag := f_Lbag, fd_Lbag := PySem.W.fnOf "_law_bag" "_law_bag" (defArgs s_Lbag) (defBody s_Lbag) (defScope s_Lbag) .none kV_Lbag dc_Lbag pm_Lbag an_Lbag cd_Lbag ct_Lbag, a_Ltake := f_Ltake, fd_Ltake := PySem.W.fnOf "_law_take" "_law_take" (defArgs s_Ltake) (defBody s_Ltake) (defScope s_Ltake) .none kV_Ltake dc_Ltake pm_Ltake an_Ltake cd_Ltake ct_Ltake, a_Lone := f_Lone, fd_Lone := PySem.W.fnOf "_law_one" "_law_one" (defArgs s_Lone) (defBody s_Lone) (defScope s_Lone) .none kV_Lone dc_Lone pm_Lone an_Lone cd_Lone ct_Lone, a_Lmixed := f_Lmixed, fd_Lmixed := PySem.W.fnOf "_law_mixed" "_law_mixed" (defArgs s_Lmixed) (defBody s_Lmixed) (defScope s_Lmixed) .none kV_Lmixed dc_Lmixed pm_Lmixed an_Lmixed cd_Lmixed ct_Lmixed, a_Lnumber := f_Lnumber, fd_Lnumber := PySem.W.fnOf "_law_number" "_law_number" (defArgs s_Lnumber) (defBody s_Lnumber) (defScope s_Lnumber) .none kV_Lnumber dc_Lnumber pm_Lnumber an_Lnumber cd_Lnumber ct_Lnumber, a_Ltwo := f_Ltwo, fd_Ltwo := PySem.W.fnOf "_law_two" "_law_two" (defArgs s_Ltwo) (defBody s_Ltwo) (defScope s_Ltwo) .none kV_Ltwo dc_Ltwo pm_Ltwo an_Ltwo cd_Ltwo ct_Ltwo, a_Lcall := f_Lcall, fd_Lcall := PySem.W.fnOf "_law_call" "_law_call" (defArgs s_Lcall) (defBody s_Lcall) (defScope s_Lcall) .none kV_Lcall dc_Lcall pm_Lcall an_Lcall cd_Lcall ct_Lcall, a_Lall_kinds := f_Lall_kinds, fd_Lall_kinds := PySem.W.fnOf "_law_all_kinds" "_law_all_kinds" (defArgs s_Lall_kinds) (defBody s_Lall_kinds) (defScope s_Lall_kinds) .none kV_Lall_kinds dc_Lall_kinds pm_Lall_kinds an_Lall_kinds cd_Lall_kinds ct_Lall_kinds, a_Lplaces := f_Lplaces, fd_Lplaces := PySem.W.fnOf "_law_places" "_law_places" (defArgs s_Lplaces) (defBody s_Lplaces) (defScope s_Lplaces) .none kV_Lplaces dc_Lplaces pm_Lplaces an_Lplaces cd_Lplaces ct_Lplaces, a_Lring := f_Lring, fd_Lring := PySem.W.fnOf "_law_ring" "_law_ring" (defArgs s_Lring) (defBody s_Lring) (defScope s_Lring) .none kV_Lring dc_Lring pm_Lring an_Lring cd_Lring ct_Lring, a_law := fa, fd_law := PySem.W.fnOf "law" "law" (defArgs s_law) (defBody s_law) (defScope s_law) .none kV_law dc_law pm_law an_law cd_law ct_law, d_PARTS := q_PARTS, es_PARTS := qe_PARTS, n_PARTS := qn_PARTS, d_UNDOING := q_UNDOING, es_UNDOING := qe_UNDOING, n_UNDOING := qn_UNDOING } := { m_is_straight := PySem.W.mg_of X G a_is_straight, F_is_straight := fun_mk (st := s_is_straight) l_is_straight c_is_straight k_is_straight, k_is_straight := k_is_straight, b_is_straight := (fun_mk (st := s_is_straight) l_is_straight c_is_straight k_is_straight).binds (ps := ["call"]) fun _ _ _ _ _ _ us hl => match us, hl with | [_], _ => rfl, m_turned := PySem.W.mg_of X G a_turned, F_turned := fun_mk (st := s_turned) l_turned c_turned k_turned, k_turned := k_turned, b_turned := (fun_mk (st := s_turned) l_turned c_turned k_turned).binds (ps := ["call"]) fun _ _ _ _ _ _ us hl => match us, hl with | [_], _ => rfl, m_moved_by := PySem.W.mg_of X G a_moved_by, F_moved_by := fun_mk (st := s_moved_by) l_moved_by c_moved_by k_moved_by, k_moved_by := k_moved_by, b_moved_by := (fun_mk (st := s_moved_by) l_moved_by c_moved_by k_moved_by).binds (ps := ["call", "files", "rows", "place"]) fun _ _ _ _ _ _ us hl => match us, hl with | [_, _, _, _], _ => rfl, m_cut_of := PySem.W.mg_of X G a_cut_of, F_cut_of := fun_mk (st := s_cut_of) l_cut_of c_cut_of k_cut_of, k_cut_of := k_cut_of, b_cut_of := (fun_mk (st := s_cut_of) l_cut_of c_cut_of k_cut_of).binds (ps := ["call", "files", "rows", "file"]) fun _ _ _ _ _ _ us hl => match us, hl with | [_, _, _, _], _ => rfl, m_whole := PySem.W.mg_of X G a_whole, F_whole := fun_mk (st := s_whole) l_whole c_whole k_whole, k_whole := k_whole, b_whole := (fun_mk (st := s_whole) l_whole c_whole k_whole).binds (ps := ["way"]) fun _ _ _ _ _ _ us hl => match us, hl with | [_], _ => rfl, m_cut_of_up := PySem.W.mg_of X G a_cut_of_up, F_cut_of_up := fun_mk (st := s_cut_of_up) l_cut_of_up c_cut_of_up k_cut_of_up, k_cut_of_up := k_cut_of_up, b_cut_of_up := (fun_mk (st := s_cut_of_up) l_cut_of_up c_cut_of_up k_cut_of_up).binds (ps := ["k", "rows", "file"]) fun _ _ _ _ _ _ us hl => match us, hl with | [_, _, _], _ => rfl, m_cut_of_wheel := PySem.W.mg_of X G a_cut_of_wheel, F_cut_of_wheel := fun_mk (st := s_cut_of_wheel) l_cut_of_wheel c_cut_of_wheel k_cut_of_wheel, k_cut_of_wheel := k_cut_of_wheel, b_cut_of_wheel := (fun_mk (st := s_cut_of_wheel) l_cut_of_wheel c_cut_of_wheel k_cut_of_wheel).binds (ps := ["call", "rows", "file"]) fun _ _ _ _ _ _ us hl => match us, hl with | [_, _, _], _ => rfl, m_moved_by_open_call := PySem.W.mg_of X G a_moved_by_open_call, F_moved_by_open_call := fun_mk (st := s_moved_by_open_call) l_moved_by_open_call c_moved_by_open_call k_moved_by_open_call, k_moved_by_open_call := k_moved_by_open_call, b_moved_by_open_call := (fun_mk (st := s_moved_by_open_call) l_moved_by_open_call c_moved_by_open_call k_moved_by_open_call).binds (ps := ["word", "files", "rows", "place"]) fun _ _ _ _ _ _ us hl => match us, hl with | [_, _, _, _], _ => rfl, m_Lbag := PySem.W.mg_of X G a_Lbag, F_Lbag := fun_mk (st := s_Lbag) l_Lbag c_Lbag k_Lbag, k_Lbag := k_Lbag, b_Lbag := (fun_mk (st := s_Lbag) l_Lbag c_Lbag k_Lbag).binds (ps := ["_law_script"]) fun _ _ _ _ _ _ us hl => match us, hl with | [_], _ => rfl, m_Ltake := PySem.W.mg_of X G a_Ltake, F_Ltake := fun_mk (st := s_Ltake) l_Ltake c_Ltake k_Ltake, k_Ltake := k_Ltake, b_Ltake := (fun_mk (st := s_Ltake) l_Ltake c_Ltake k_Ltake).binds (ps := ["_law_bag_here", "_law_many"]) fun _ _ _ _ _ _ us hl => match us, hl with | [_, _], _ => rfl, m_Lone := PySem.W.mg_of X G a_Lone, F_Lone := fun_mk (st := s_Lone) l_Lone c_Lone k_Lone, k_Lone := k_Lone, b_Lone := (fun_mk (st := s_Lone) l_Lone c_Lone k_Lone).binds (ps := ["_law_bag_here", "_law_some"]) fun _ _ _ _ _ _ us hl => match us, hl with | [_, _], _ => rfl, m_Lmixed := PySem.W.mg_of X G a_Lmixed, F_Lmixed := fun_mk (st := s_Lmixed) l_Lmixed c_Lmixed k_Lmixed, k_Lmixed := k_Lmixed, b_Lmixed := (fun_mk (st := s_Lmixed) l_Lmixed c_Lmixed k_Lmixed).binds (ps := ["_law_bag_here", "_law_things"]) fun _ _ _ _ _ _ us hl => match us, hl with | [_, _], _ => rfl, m_Lnumber := PySem.W.mg_of X G a_Lnumber, F_Lnumber := fun_mk (st := s_Lnumber) l_Lnumber c_Lnumber k_Lnumber, k_Lnumber := k_Lnumber, b_Lnumber := (fun_mk (st := s_Lnumber) l_Lnumber c_Lnumber k_Lnumber).binds (ps := ["_law_bag_here", "_law_most"]) fun _ _ _ _ _ _ us hl => match us, hl with | [_, _], _ => rfl, m_Ltwo := PySem.W.mg_of X G a_Ltwo, F_Ltwo := fun_mk (st := s_Ltwo) l_Ltwo c_Ltwo k_Ltwo, k_Ltwo := k_Ltwo, b_Ltwo := (fun_mk (st := s_Ltwo) l_Ltwo c_Ltwo k_Ltwo).binds (ps := ["_law_bag_here", "_law_files"]) fun _ _ _ _ _ _ us hl => match us, hl with | [_, _], _ => rfl, m_Lcall := PySem.W.mg_of X G a_Lcall, F_Lcall := fun_mk (st := s_Lcall) l_Lcall c_Lcall k_Lcall, k_Lcall := k_Lcall, b_Lcall := (fun_mk (st := s_Lcall) l_Lcall c_Lcall k_Lcall).binds (ps := ["_law_bag_here", "_law_files", "_law_kinds", "_law_most"]) fun _ _ _ _ _ _ us hl => match us, hl with | [_, _, _, _], _ => rfl, m_Lall_kinds := PySem.W.mg_of X G a_Lall_kinds, F_Lall_kinds := fun_mk (st := s_Lall_kinds) l_Lall_kinds c_Lall_kinds k_Lall_kinds, k_Lall_kinds := k_Lall_kinds, b_Lall_kinds := (fun_mk (st := s_Lall_kinds) l_Lall_kinds c_Lall_kinds k_Lall_kinds).binds (ps := []) fun _ _ _ _ _ _ us hl => match us, hl with | [], _ => rfl, m_Lplaces := PySem.W.mg_of X G a_Lplaces, F_Lplaces := fun_mk (st := s_Lplaces) l_Lplaces c_Lplaces k_Lplaces, k_Lplaces := k_Lplaces, b_Lplaces := (fun_mk (st := s_Lplaces) l_Lplaces c_Lplaces k_Lplaces).binds (ps := ["_law_files", "_law_rows"]) fun _ _ _ _ _ _ us hl => match us, hl with | [_, _], _ => rfl, m_Lring := PySem.W.mg_of X G a_Lring, F_Lring := fun_mk (st := s_Lring) l_Lring c_Lring k_Lring, k_Lring := k_Lring, b_Lring := (fun_mk (st := s_Lring) l_Lring c_Lring k_Lring).binds (ps := ["_law_call_here", "_law_rows"]) fun _ _ _ _ _ _ us hl => match us, hl with | [_, _], _ => rfl, m_law := PySem.W.mg_of X G a_law, F_law := fun_mk (st := s_law) l_law c_law k_law, k_law := k_law, b_law := (fun_mk (st := s_law) l_law c_law k_law).binds (ps := ["_law_script"]) fun _ _ _ _ _ _ us hl => match us, hl with | [_], _ => rfl, g_PARTS := PySem.W.mg_of X G a_PARTS, d_PARTS := ⟨l_PARTS, li_PARTS, lo_PARTS⟩, v_PARTS_all := ⟨_, v_PARTS_all⟩, v_PARTS_up := ⟨_, v_PARTS_up⟩, v_PARTS_swap := ⟨_, v_PARTS_swap⟩, v_PARTS_wheel := ⟨_, v_PARTS_wheel⟩, v_PARTS_about := ⟨_, v_PARTS_about⟩, v_PARTS_front := ⟨_, v_PARTS_front⟩, v_PARTS_halve := ⟨_, v_PARTS_halve⟩, v_PARTS_pair := ⟨_, v_PARTS_pair⟩, v_PARTS_others := ⟨_, v_PARTS_others⟩, v_PARTS_fill := ⟨_, v_PARTS_fill⟩, g_UNDOING := PySem.W.mg_of X G a_UNDOING, d_UNDOING := ⟨l_UNDOING, li_UNDOING, lo_UNDOING⟩, v_UNDOING_halve := ⟨_, v_UNDOING_halve⟩, v_UNDOING_pair := ⟨_, v_UNDOING_pair⟩, v_UNDOING_others := ⟨_, v_UNDOING_others⟩, v_UNDOING_fill := ⟨_, v_UNDOING_fill⟩, o_UNDOING_all := o_UNDOING_all, o_UNDOING_up := o_UNDOING_up, o_UNDOING_swap := o_UNDOING_swap, o_UNDOING_wheel := o_UNDOING_wheel, o_UNDOING_about := o_UNDOING_about, o_UNDOING_front := o_UNDOING_front, n_len := PySem.W.mg_none_of X G z_len, n_abs := PySem.W.mg_none_of X G z_abs, n_int := PySem.W.mg_none_of X G z_int, n_sorted := PySem.W.mg_none_of X G z_sorted, n_list := PySem.W.mg_none_of X G z_list, n_range := PySem.W.mg_none_of X G z_range }
  exact ⟨_, fun s v => .of_eq rfl, fun base _ _ => ok_law T⟩
theorem walk {l : PySem.W.OpenLaw} {q : Program} {loose : List Str} {XP : (Str → Option Value) → Heap → Prop} {YP : World → Heap → Prop} {d : DefRec} {K : Params → PySem.W.Frag} (hn : l.most = some 63) (hdf : d.params.defaults = [])
    (hY : ∀ (w : World) (h : Heap), YP w h → (K w.params).In h)
    (F : ∀ (w : World) (mg : Str → Option Value) (fa : Addr) (h : Heap), (K w.params).In h → h.Ns mainGlobals mg → mg d.name = some (.ref fa) →
      ∃ fd : FuncData, (∀ (s : Shared) (u : Value), BindsTo s fd ⟨[u], []⟩ [("_law_script", u)]) ∧ ∀ base : Heap, (K w.params).In base → base.Ns mainGlobals mg → FnOk l.prog w (K w.params) mg base CX0 5 fa fd ["_law_script"] (sp_law (K w.params))) :
    PySem.W.WalkO q loose XP YP l.row.toRowW d [] (fun f vs => PySem.call f vs) :=
  L2.walk_of (n := 63) (k := 5) (x := "_law_script") (CX := fun _ => CX0) (sp := fun w => sp_law (K w.params)) hn (by decide) hdf ⟨rfl, by decide, by decide⟩ hY F (fun w H a ns hl _ hS => law_start hl hS) fun _ _ _ _ _ z => z
end My
open PySem PySem.W PyProof.Rows in
set_option maxRecDepth 100000 in
set_option maxHeartbeats 0 in
theorem PySem.Challenge.cw_pupilpairs_k17_whole_calls_one_to_one_holds : PySem.Challenge.rw_pupilpairs_k17_whole_calls_one_to_one.Holds := by
  w_on; o_law; k_head; (case hw => w_witness2)
  k_fill
  refine My.walk (l := PySem.Challenge.rw_pupilpairs_k17_whole_calls_one_to_one) rfl rfl (fun w h Y => PySem.W.kIn_of Y) ?F
  case F =>
    intro w mg fa h KX G hmg
    refine' My.all_mk KX G hmg ?a_is_straight ?l_is_straight ?c_is_straight ?k_is_straight ?a_turned ?l_turned ?c_turned ?k_turned ?a_moved_by ?l_moved_by ?c_moved_by ?k_moved_by ?a_cut_of ?l_cut_of ?c_cut_of ?k_cut_of ?a_whole ?l_whole ?c_whole ?k_whole ?a_cut_of_up ?l_cut_of_up ?c_cut_of_up ?k_cut_of_up ?a_cut_of_wheel ?l_cut_of_wheel ?c_cut_of_wheel ?k_cut_of_wheel ?a_moved_by_open_call ?l_moved_by_open_call ?c_moved_by_open_call ?k_moved_by_open_call ?a_Lbag ?l_Lbag ?c_Lbag ?k_Lbag ?a_Ltake ?l_Ltake ?c_Ltake ?k_Ltake ?a_Lone ?l_Lone ?c_Lone ?k_Lone ?a_Lmixed ?l_Lmixed ?c_Lmixed ?k_Lmixed ?a_Lnumber ?l_Lnumber ?c_Lnumber ?k_Lnumber ?a_Ltwo ?l_Ltwo ?c_Ltwo ?k_Ltwo ?a_Lcall ?l_Lcall ?c_Lcall ?k_Lcall ?a_Lall_kinds ?l_Lall_kinds ?c_Lall_kinds ?k_Lall_kinds ?a_Lplaces ?l_Lplaces ?c_Lplaces ?k_Lplaces ?a_Lring ?l_Lring ?c_Lring ?k_Lring ?a_law ?l_law ?c_law ?k_law ?a_PARTS ?l_PARTS ?v_PARTS_all ?v_PARTS_up ?v_PARTS_swap ?v_PARTS_wheel ?v_PARTS_about ?v_PARTS_front ?v_PARTS_halve ?v_PARTS_pair ?v_PARTS_others ?v_PARTS_fill ?li_PARTS ?lo_PARTS ?a_UNDOING ?l_UNDOING ?v_UNDOING_halve ?v_UNDOING_pair ?v_UNDOING_others ?v_UNDOING_fill ?o_UNDOING_all ?o_UNDOING_up ?o_UNDOING_swap ?o_UNDOING_wheel ?o_UNDOING_about ?o_UNDOING_front ?li_UNDOING ?lo_UNDOING ?z_len ?z_abs ?z_int ?z_sorted ?z_list ?z_range
    (case a_is_straight => k_is)
    (case l_is_straight => k_is)
    (case c_is_straight => k_is)
    (case k_is_straight => k_is)
    (case a_turned => k_is)
    (case l_turned => k_is)
    (case c_turned => k_is)
    (case k_turned => k_is)
    (case a_moved_by => k_is)
    (case l_moved_by => k_is)
    (case c_moved_by => k_is)
    (case k_moved_by => k_is)
    (case a_cut_of => k_is)
    (case l_cut_of => k_is)
    (case c_cut_of => k_is)
    (case k_cut_of => k_is)
    (case a_whole => k_is)
    (case l_whole => k_is)
    (case c_whole => k_is)
    (case k_whole => k_is)
    (case a_cut_of_up => k_is)
    (case l_cut_of_up => k_is)
    (case c_cut_of_up => k_is)
    (case k_cut_of_up => k_is)
    (case a_cut_of_wheel => k_is)
    (case l_cut_of_wheel => k_is)
    (case c_cut_of_wheel => k_is)
    (case k_cut_of_wheel => k_is)
    (case a_moved_by_open_call => k_is)
    (case l_moved_by_open_call => k_is)
    (case c_moved_by_open_call => k_is)
    (case k_moved_by_open_call => k_is)
    (case a_Lbag => k_is)
    (case l_Lbag => k_is)
    (case c_Lbag => k_is)
    (case k_Lbag => k_is)
    (case a_Ltake => k_is)
    (case l_Ltake => k_is)
    (case c_Ltake => k_is)
    (case k_Ltake => k_is)
    (case a_Lone => k_is)
    (case l_Lone => k_is)
    (case c_Lone => k_is)
    (case k_Lone => k_is)
    (case a_Lmixed => k_is)
    (case l_Lmixed => k_is)
    (case c_Lmixed => k_is)
    (case k_Lmixed => k_is)
    (case a_Lnumber => k_is)
    (case l_Lnumber => k_is)
    (case c_Lnumber => k_is)
    (case k_Lnumber => k_is)
    (case a_Ltwo => k_is)
    (case l_Ltwo => k_is)
    (case c_Ltwo => k_is)
    (case k_Ltwo => k_is)
    (case a_Lcall => k_is)
    (case l_Lcall => k_is)
    (case c_Lcall => k_is)
    (case k_Lcall => k_is)
    (case a_Lall_kinds => k_is)
    (case l_Lall_kinds => k_is)
    (case c_Lall_kinds => k_is)
    (case k_Lall_kinds => k_is)
    (case a_Lplaces => k_is)
    (case l_Lplaces => k_is)
    (case c_Lplaces => k_is)
    (case k_Lplaces => k_is)
    (case a_Lring => k_is)
    (case l_Lring => k_is)
    (case c_Lring => k_is)
    (case k_Lring => k_is)
    (case a_law => k_is)
    (case l_law => k_is)
    (case c_law => k_is)
    (case k_law => k_is)
    (case a_PARTS => k_is)
    (case l_PARTS => k_is)
    (case v_PARTS_all => k_is)
    (case v_PARTS_up => k_is)
    (case v_PARTS_swap => k_is)
    (case v_PARTS_wheel => k_is)
    (case v_PARTS_about => k_is)
    (case v_PARTS_front => k_is)
    (case v_PARTS_halve => k_is)
    (case v_PARTS_pair => k_is)
    (case v_PARTS_others => k_is)
    (case v_PARTS_fill => k_is)
    (case li_PARTS => exact ⟨⟨_, _, rfl, rfl⟩, ⟨_, _, rfl, rfl⟩, ⟨_, _, rfl, rfl⟩, ⟨_, _, rfl, rfl⟩, ⟨_, _, rfl, rfl⟩, ⟨_, _, rfl, rfl⟩, ⟨_, _, rfl, rfl⟩, ⟨_, _, rfl, rfl⟩, ⟨_, _, rfl, rfl⟩, ⟨_, _, rfl, rfl⟩, trivial⟩)
    (case lo_PARTS => decide +kernel)
    (case a_UNDOING => k_is)
    (case l_UNDOING => k_is)
    (case v_UNDOING_halve => k_is)
    (case v_UNDOING_pair => k_is)
    (case v_UNDOING_others => k_is)
    (case v_UNDOING_fill => k_is)
    (case o_UNDOING_all => k_is)
    (case o_UNDOING_up => k_is)
    (case o_UNDOING_swap => k_is)
    (case o_UNDOING_wheel => k_is)
    (case o_UNDOING_about => k_is)
    (case o_UNDOING_front => k_is)
    (case li_UNDOING => exact ⟨⟨_, _, rfl, rfl⟩, ⟨_, _, rfl, rfl⟩, ⟨_, _, rfl, rfl⟩, ⟨_, _, rfl, rfl⟩, trivial⟩)
    (case lo_UNDOING => decide +kernel)
    (case z_len => k_is)
    (case z_abs => k_is)
    (case z_int => k_is)
    (case z_sorted => k_is)
    (case z_list => k_is)
    (case z_range => k_is)


