import PyProof.Rows.All
import Wide.All
import OpenK.AllK
import Wide.FinOn
import HandS.ForMost
import HandS.Gcd
import HandS.Wide
import HandS.IsInst
import HandS.Walk
import HandS.Evl
import HandS.Zip
import HandS.Style
import HandS.Star
import HandS.TupAny
import HandS.TupMul
import HandS.Text
import KE.GoesNew
import KE.GoesMore
import HandS.Iter
import PyProof.WalksMore
import PySem.Challenge.RW_slopeyard_k10_sums_of_rows_and_papers_ju
set_option Elab.async false
set_option linter.all false
set_option maxRecDepth 100000
set_option maxHeartbeats 4000000
/-! DL: the readings of the hand layer told by data: G is the part of the heap that stands still (all data are told by it),
the box (the law's own drawing list) and lists that a def makes and grows stand outside of it. -/
namespace DL
open PySem PySem.Spec PyProof.Rows L2
open Evl (Ex)

/-! ### data stay told where the heap grows -/
theorem rd_mono {H H' : Hp} {a : Addr} {u : HO} (e : Ex H H') (h : Rd H a u) : Rd H' a u := Evl.ex_rd e h
mutual
theorem dp_mono {K : PySem.W.Frag} {H H' : Hp} (e : Ex H H') : ∀ (d : PyData) (v : V), Dp K H v d → Dp K H' v d
  | .none, _, h => by cases h; exact .non
  | .bool b, _, h => by cases h; exact .bl b
  | .int i, _, h => by cases h; exact .int i
  | .str x, _, h => by cases h; exact .str x
  | .list ds, _, h => by
    cases h with
    | lst hs ha => exact .lst (Evl.ex_l e hs) (dpa_mono e ds _ ha)
  | .tuple ds, _, h => by
    cases h with
    | tup hs ha => exact .tup (Evl.ex_t e hs) (dpa_mono e ds _ ha)
  | .dict _, _, h => by cases h
theorem dpa_mono {K : PySem.W.Frag} {H H' : Hp} (e : Ex H H') : ∀ (ds : List PyData) (vs : List V), DpAll K H vs ds → DpAll K H' vs ds
  | [], _, h => by cases h; exact .nil
  | d :: ds, _, h => by
    cases h with
    | cons h1 h2 => exact .cons (dp_mono e d _ h1) (dpa_mono e ds _ h2)
end
theorem dpa_len {K : PySem.W.Frag} {G : Hp} : ∀ {vs : List V} {ds : List PyData}, DpAll K G vs ds → vs.length = ds.length
  | _, _, .nil => rfl
  | _, _, .cons _ t => congrArg (· + 1) (dpa_len t)
theorem dpa_app {K : PySem.W.Frag} {G : Hp} : ∀ {vs ws : List V} {ds es : List PyData}, DpAll K G vs ds → DpAll K G ws es → DpAll K G (vs ++ ws) (ds ++ es)
  | _, _, _, _, .nil, h => h
  | _, _, _, _, .cons a t, h => .cons a (dpa_app t h)
theorem dpa_at {K : PySem.W.Frag} {G : Hp} : ∀ {vs : List V} {ds : List PyData} {i : Nat} {v : V}, DpAll K G vs ds → vs[i]? = some v → ∃ d, ds[i]? = some d ∧ Dp K G v d
  | _, _, i, _, .nil, e => by simp at e
  | _, _, 0, _, .cons a _, e => by
    simp at e
    subst e
    exact ⟨_, rfl, a⟩
  | _, _, i + 1, _, .cons _ t, e => by
    obtain ⟨d, h1, h2⟩ := dpa_at (i := i) t (by simpa using e)
    exact ⟨d, by simpa using h1, h2⟩
theorem dpa_atd {K : PySem.W.Frag} {G : Hp} {vs : List V} {ds : List PyData} {i : Nat} {d : PyData} (h : DpAll K G vs ds) (e : ds[i]? = some d) : ∃ v, vs[i]? = some v ∧ Dp K G v d := by
  have hl := dpa_len h
  have hi : i < ds.length := (List.getElem?_eq_some_iff.mp e).1
  have hv : vs[i]? = some vs[i] := List.getElem?_eq_getElem (by omega)
  obtain ⟨d', h1, h2⟩ := dpa_at h hv
  rw [e] at h1
  cases h1
  exact ⟨_, hv, h2⟩
theorem dpa_set {K : PySem.W.Frag} {G : Hp} {v : V} {d : PyData} (hd : Dp K G v d) : ∀ {vs : List V} {ds : List PyData} (i : Nat), DpAll K G vs ds → DpAll K G (vs.set i v) (ds.set i d)
  | _, _, _, .nil => .nil
  | _, _, 0, .cons _ t => .cons hd t
  | _, _, i + 1, .cons a t => .cons a (dpa_set hd i t)
theorem dpa_drop {K : PySem.W.Frag} {G : Hp} : ∀ {vs : List V} {ds : List PyData} (n : Nat), DpAll K G vs ds → DpAll K G (vs.drop n) (ds.drop n)
  | _, _, 0, h => h
  | _, _, _ + 1, .nil => .nil
  | _, _, n + 1, .cons _ t => dpa_drop n t
theorem dpa_take {K : PySem.W.Frag} {G : Hp} : ∀ {vs : List V} {ds : List PyData} (n : Nat), DpAll K G vs ds → DpAll K G (vs.take n) (ds.take n)
  | _, _, 0, _ => .nil
  | _, _, _ + 1, .nil => .nil
  | _, _, n + 1, .cons a t => .cons a (dpa_take n t)
theorem dpa_ints {K : PySem.W.Frag} {G : Hp} : ∀ {ns : List Int}, DpAll K G (ns.map V.int) (ns.map PyData.int)
  | [] => .nil
  | n :: _ => .cons (.int n) dpa_ints
theorem dpa_ints_inv {K : PySem.W.Frag} {G : Hp} : ∀ {ns : List Int} {vs : List V}, DpAll K G vs (ns.map PyData.int) → vs = ns.map V.int
  | [], _, .nil => rfl
  | n :: ns, _, .cons a t => by
    cases a
    rw [dpa_ints_inv t]
    rfl

/-! ### the box -/
def BoxOk (K : PySem.W.Frag) (b : Addr) (G H : Hp) : Prop := ∃ (c : Addr) (ns : List Int) (i x sd : Int), H b = some (.lst [.ref c, .int i, .int x, .int sd]) ∧ G b = none ∧ SqL K G c (ns.map V.int) ∧ ns.length ≤ 63 ∧
  0 ≤ i ∧ i ≤ 63 ∧ 0 ≤ x ∧ 0 ≤ sd ∧ sd < 2147483399
def BoxO (K : PySem.W.Frag) (s : Option Addr) (G H : Hp) : Prop := ∀ b, s = some b → BoxOk K b G H

/-! ### slots, lists that are one's own, the state -/
inductive Sk where
  | no | d (x : PyData) | v (u : V)
def SkOk (K : PySem.W.Frag) (G : Hp) : Sk → Option V → Prop
  | .no, _ => True
  | .d x, o => ∃ v, o = some v ∧ Dp K G v x
  | .v u, o => o = some u
theorem SkOk.mono {K : PySem.W.Frag} {G G' : Hp} (e : Ex G G') : ∀ {k : Sk} {o : Option V}, SkOk K G k o → SkOk K G' k o
  | .no, _, _ => True.intro
  | .d x, _, ⟨v, h, q⟩ => ⟨v, h, dp_mono e x v q⟩
  | .v _, _, h => h
abbrev Own := List (Addr × List PyData)
structure Fb where
  M : Addr → Prop
  G : Hp
  H : Hp
structure Cfg (K : PySem.W.Frag) (F : Fb) (s : Option Addr) (Z : List Sk) (O : Own) (σ : L2.St) (G H : Hp) : Prop where
  len : σ.length = Z.length
  sl : ∀ (i : Nat) (k : Sk), Z[i]? = some k → ∃ o, σ[i]? = some o ∧ SkOk K G k o
  ex : Ex G H
  box : BoxO K s G H
  bxM : ∀ b, s = some b → F.M b ∨ F.H b = none
  own : ∀ p ds, (p, ds) ∈ O → G p = none ∧ s ≠ some p ∧ (F.H p = none) ∧ ∃ vs, H p = some (.lst vs) ∧ DpAll K G vs ds
  nd : (O.map (·.1)).Nodup
  e0 : Ex F.G G
  h0 : ∀ a o, ¬ F.M a → F.H a = some o → H a = some o
  h1 : ∀ a o, F.H a = some o → ∃ o', H a = some o'
  g0 : ∀ a o, F.H a = some o → G a = F.G a

section
variable {K : PySem.W.Frag} {F : Fb} {s : Option Addr} {Z : List Sk} {O : Own} {σ : L2.St} {G H : Hp}
/-- the heap grows, the still part grows, what stood stands -/
theorem Cfg.grow (c : Cfg K F s Z O σ G H) {G' H' : Hp} (e : Ex G G') (e' : Ex G' H') (h : Ex H H') (k : ∀ a o, H a = some o → G' a = G a) : Cfg K F s Z O σ G' H' := by
  refine ⟨c.len, fun i k' hk => ?_, e', fun b hb => ?_, c.bxM, fun p ds hp => ?_, c.nd, c.e0.trans e, fun a o hm ha => h a o (c.h0 a o hm ha), fun a o ha => ?_, fun a o ha => ?_⟩
  · obtain ⟨o, h1, h2⟩ := c.sl i k' hk
    exact ⟨o, h1, h2.mono e⟩
  · obtain ⟨cc, ns, i, x, sd, b1, b2, b3, b4⟩ := c.box b hb
    exact ⟨cc, ns, i, x, sd, h _ _ b1, by rw [k _ _ b1]; exact b2, Evl.ex_l e b3, b4⟩
  · obtain ⟨o1, o2, o3, vs, o4, o5⟩ := c.own p ds hp
    exact ⟨by rw [k _ _ o4]; exact o1, o2, o3, vs, h _ _ o4, dpa_mono e ds vs o5⟩
  · obtain ⟨o', h'⟩ := c.h1 a o ha
    exact ⟨o', h _ _ h'⟩
  · obtain ⟨o', h'⟩ := c.h1 a o ha
    rw [k a o' h']
    exact c.g0 a o ha
/-- the same where the box has turned -/
theorem Cfg.growB {b : Addr} (c : Cfg K F (some b) Z O σ G H) {G' H' : Hp} (e : Ex G G') (e' : Ex G' H') (h : ∀ a o, a ≠ b → H a = some o → H' a = some o) (k : ∀ a o, H a = some o → G' a = G a) (hb : BoxOk K b G' H') : Cfg K F (some b) Z O σ G' H' := by
  refine ⟨c.len, fun i k' hk => ?_, e', fun b' hb' => ?_, c.bxM, fun p ds hp => ?_, c.nd, c.e0.trans e, fun a o hm ha => ?_, fun a o ha => ?_, fun a o ha => ?_⟩
  · obtain ⟨o, h1, h2⟩ := c.sl i k' hk
    exact ⟨o, h1, h2.mono e⟩
  · cases hb'
    exact hb
  · obtain ⟨o1, o2, o3, vs, o4, o5⟩ := c.own p ds hp
    exact ⟨by rw [k _ _ o4]; exact o1, o2, o3, vs, h _ _ (fun z => o2 (by rw [z])) o4, dpa_mono e ds vs o5⟩
  · refine h a o (fun z => ?_) (c.h0 a o hm ha)
    rcases c.bxM b rfl with q | q
    · exact hm (by rw [z]; exact q)
    · rw [z, q] at ha
      cases ha
  · obtain ⟨o', h'⟩ := c.h1 a o ha
    by_cases z : a = b
    · obtain ⟨_, _, _, _, _, b1, _⟩ := hb
      exact ⟨_, by rw [z]; exact b1⟩
    · exact ⟨o', h _ _ z h'⟩
  · obtain ⟨o', h'⟩ := c.h1 a o ha
    rw [k a o' h']
    exact c.g0 a o ha
/-- a new thing that stands still -/
theorem Cfg.new (c : Cfg K F s Z O σ G H) {p : Addr} {o : HO} (hp : H p = none) : Cfg K F s Z O σ (upd G p o) (upd H p o) ∧ Ex G (upd G p o) := by
  have hg : G p = none := by
    cases q : G p with
    | none => rfl
    | some u =>
      rw [c.ex p u q] at hp
      cases hp
  refine ⟨c.grow (Evl.Ex.new hg) (fun a u hu => ?_) (Evl.Ex.new hp) (fun a u hu => ?_), Evl.Ex.new hg⟩
  · by_cases z : a = p
    · subst z
      rw [upd_same] at hu ⊢
      exact hu
    · rw [upd_ne z] at hu ⊢
      exact c.ex a u hu
  · rw [upd_ne (ne_of_none hu hp)]
theorem Cfg.gnone (c : Cfg K F s Z O σ G H) {p : Addr} (hp : H p = none) : G p = none := by
  cases q : G p with
  | none => rfl
  | some u =>
    rw [c.ex p u q] at hp
    cases hp
theorem Cfg.hnone (c : Cfg K F s Z O σ G H) {p : Addr} (hp : H p = none) : F.H p = none := by
  cases q : F.H p with
  | none => rfl
  | some u =>
    obtain ⟨o', h'⟩ := c.h1 p u q
    rw [h'] at hp
    cases hp
/-- a new list of one's own -/
theorem Cfg.newOwn (c : Cfg K F s Z O σ G H) {p : Addr} {vs : List V} {ds : List PyData} (hp : H p = none) (hd : DpAll K G vs ds) : Cfg K F s Z ((p, ds) :: O) σ G (upd H p (.lst vs)) := by
  have hg : G p = none := c.gnone hp
  have c' := c.grow (G' := G) (H' := upd H p (.lst vs)) (Evl.Ex.refl _) (c.ex.trans (Evl.Ex.new hp)) (Evl.Ex.new hp) (fun _ _ _ => rfl)
  refine ⟨c'.len, c'.sl, c'.ex, c'.box, c'.bxM, fun q es hq => ?_, ?_, c'.e0, c'.h0, c'.h1, c'.g0⟩
  · rcases List.mem_cons.mp hq with z | z
    · cases z
      refine ⟨hg, fun z => ?_, c.hnone hp, vs, upd_same, hd⟩
      obtain ⟨_, _, _, _, _, b1, _⟩ := c.box p z
      rw [hp] at b1
      cases b1
    · exact c'.own q es z
  · rw [List.map_cons, List.nodup_cons]
    refine ⟨fun z => ?_, c.nd⟩
    obtain ⟨⟨q, es⟩, hq, e⟩ := List.mem_map.mp z
    obtain ⟨_, _, _, ws, o4, _⟩ := c.own q es hq
    have e : q = p := e
    rw [e, hp] at o4
    cases o4
/-- the own list at the head changes -/
theorem Cfg.setOwn {p : Addr} {ds es : List PyData} {ws : List V} (c : Cfg K F s Z ((p, ds) :: O) σ G H) (hd : DpAll K G ws es) : Cfg K F s Z ((p, es) :: O) σ G (upd H p (.lst ws)) := by
  obtain ⟨o1, o2, o3, vs, o4, o5⟩ := c.own p ds (List.mem_cons_self ..)
  have nd := c.nd
  rw [List.map_cons, List.nodup_cons] at nd
  have keep : ∀ a o, a ≠ p → H a = some o → (upd H p (.lst ws)) a = some o := fun a o ha h => by
    rw [upd_ne ha]
    exact h
  refine ⟨c.len, c.sl, fun a u hu => keep a u (fun z => by rw [z, o1] at hu; cases hu) (c.ex a u hu), fun b hb => ?_, c.bxM, fun q fs hq => ?_, ?_, c.e0, fun a o hm ha => keep a o (fun z => by rw [z, o3] at ha; cases ha) (c.h0 a o hm ha), fun a o ha => ?_, c.g0⟩
  · obtain ⟨cc, ns, i, x, sd, b1, b2, b3, b4⟩ := c.box b hb
    exact ⟨cc, ns, i, x, sd, keep _ _ (fun z => o2 (by rw [← z]; exact hb)) b1, b2, b3, b4⟩
  · rcases List.mem_cons.mp hq with z | z
    · cases z
      exact ⟨o1, o2, o3, ws, upd_same, hd⟩
    · obtain ⟨p1, p2, p3, us, p4, p5⟩ := c.own q fs (List.mem_cons_of_mem _ z)
      refine ⟨p1, p2, p3, us, keep _ _ (fun e => nd.1 ?_) p4, p5⟩
      exact List.mem_map.mpr ⟨(q, fs), z, e⟩
  · rw [List.map_cons, List.nodup_cons]
    exact nd
  · obtain ⟨o', h'⟩ := c.h1 a o ha
    exact ⟨o', keep _ _ (fun z => by rw [z, o3] at ha; cases ha) h'⟩
/-- an own list at the head comes to stand still -/
theorem Cfg.freeze {p : Addr} {ds : List PyData} (c : Cfg K F s Z ((p, ds) :: O) σ G H) : ∃ G', Cfg K F s Z O σ G' H ∧ Ex G G' ∧ Dp K G' (.ref p) (.list ds) := by
  obtain ⟨o1, o2, o3, vs, o4, o5⟩ := c.own p ds (List.mem_cons_self ..)
  have nd := c.nd
  rw [List.map_cons, List.nodup_cons] at nd
  have e : Ex G (upd G p (.lst vs)) := Evl.Ex.new o1
  refine ⟨upd G p (.lst vs), ⟨c.len, fun i k hk => ?_, fun a u hu => ?_, fun b hb => ?_, c.bxM, fun q fs hq => ?_, nd.2, c.e0.trans e, c.h0, c.h1, fun a o ha => ?_⟩, e, .lst (.inl (.inl upd_same)) (dpa_mono e ds vs o5)⟩
  · obtain ⟨o, h1, h2⟩ := c.sl i k hk
    exact ⟨o, h1, h2.mono e⟩
  · by_cases z : a = p
    · subst z
      rw [upd_same] at hu
      cases hu
      exact o4
    · rw [upd_ne z] at hu
      exact c.ex a u hu
  · obtain ⟨cc, ns, i, x, sd, b1, b2, b3, b4⟩ := c.box b hb
    exact ⟨cc, ns, i, x, sd, b1, by rw [upd_ne (fun z => o2 (by rw [← z]; exact hb))]; exact b2, Evl.ex_l e b3, b4⟩
  · obtain ⟨p1, p2, p3, us, p4, p5⟩ := c.own q fs (List.mem_cons_of_mem _ hq)
    refine ⟨?_, p2, p3, us, p4, dpa_mono e fs us p5⟩
    rw [upd_ne (fun z => nd.1 (List.mem_map.mpr ⟨(q, fs), hq, z⟩))]
    exact p1
  · rw [upd_ne (fun z => by rw [z, o3] at ha; cases ha)]
    exact c.g0 a o ha
theorem Cfg.set (c : Cfg K F s Z O σ G H) {i : Nat} {k : Sk} {v : V} (h : SkOk K G k (some v)) : Cfg K F s (Z.set i k) O (σ.set i (some v)) G H := by
  refine ⟨by rw [List.length_set, List.length_set]; exact c.len, fun j k' hj => ?_, c.ex, c.box, c.bxM, c.own, c.nd, c.e0, c.h0, c.h1, c.g0⟩
  by_cases z : i = j
  · subst z
    have hi : i < Z.length := by
      have := (List.getElem?_eq_some_iff.mp hj).1
      rwa [List.length_set] at this
    rw [List.getElem?_set_self hi] at hj
    cases hj
    exact ⟨_, List.getElem?_set_self (by rw [c.len]; exact hi), h⟩
  · rw [List.getElem?_set_ne z] at hj ⊢
    exact c.sl j k' hj
theorem Cfg.forget (c : Cfg K F s Z O σ G H) : Cfg K F s [] [] [] G H :=
  ⟨rfl, fun i k h => by simp at h, c.ex, c.box, c.bxM, fun p ds h => by simp at h, List.nodup_nil, c.e0, c.h0, c.h1, c.g0⟩
/-- slots told again, of another list of places -/
theorem Cfg.slots (c : Cfg K F s Z O σ G H) {Z' : List Sk} {σ' : L2.St} (hl : σ'.length = Z'.length) (h : ∀ (i : Nat) (k : Sk), Z'[i]? = some k → ∃ o, σ'[i]? = some o ∧ SkOk K G k o) : Cfg K F s Z' O σ' G H :=
  ⟨hl, h, c.ex, c.box, c.bxM, c.own, c.nd, c.e0, c.h0, c.h1, c.g0⟩
end

/-! ### what an expression comes to, by data -/
section
variable (K : PySem.W.Frag) (s : Option Addr)
def WE (te : TE) (Z : List Sk) (O : Own) (P : PyData → Prop) : Prop :=
  ∀ (F : Fb) σ G H, Cfg K F s Z O σ G H → ∀ Q : VK, (∀ v d G' H', Cfg K F s Z O σ G' H' → Ex G G' → Dp K G' v d → P d → Q v H') → te σ H Q
def WT (tt : TT) (Z : List Sk) (O : Own) (P : Bool → Prop) : Prop :=
  ∀ (F : Fb) σ G H, Cfg K F s Z O σ G H → ∀ Q : Bool → Hp → Prop, (∀ b G' H', Cfg K F s Z O σ G' H' → Ex G G' → P b → Q b H') → tt σ H Q
/-- a new list that is nobody's yet -/
def WL (te : TE) (Z : List Sk) (O : Own) (P : List PyData → Prop) : Prop :=
  ∀ (F : Fb) σ G H, Cfg K F s Z O σ G H → ∀ Q : VK, (∀ p ds G' H', Cfg K F s Z ((p, ds) :: O) σ G' H' → Ex G G' → P ds → Q (.ref p) H') → te σ H Q
def ArgOk (G : Hp) : List V → List Sk → Prop
  | [], [] => True
  | v :: vs, k :: ks => SkOk K G k (some v) ∧ ArgOk G vs ks
  | _, _ => False
def WA (ta : TA) (Z : List Sk) (O : Own) (P : List Sk → Prop) : Prop :=
  ∀ (F : Fb) σ G H, Cfg K F s Z O σ G H → ∀ Q : List V → Hp → Prop, (∀ vs ks G' H', Cfg K F s Z O σ G' H' → Ex G G' → ArgOk K G' vs ks → P ks → Q vs H') → ta σ H Q
end
theorem argOk_mono {K : PySem.W.Frag} {G G' : Hp} (e : Ex G G') : ∀ {vs : List V} {ks : List Sk}, ArgOk K G vs ks → ArgOk K G' vs ks
  | [], [], _ => True.intro
  | _ :: _, _ :: _, h => ⟨h.1.mono e, argOk_mono e h.2⟩
  | [], _ :: _, h => h.elim
  | _ :: _, [], h => h.elim

section
variable {K : PySem.W.Frag} {F : Fb} {s : Option Addr} {Z : List Sk} {O : Own} {P : PyData → Prop} {PB : Bool → Prop} {ta tb te : TE} {t u : TT}
theorem we_imp {P' : PyData → Prop} (h : WE K s te Z O P') (k : ∀ d, P' d → P d) : WE K s te Z O P := fun F σ G H c Q q => h F σ G H c Q fun v d G' H' c' e hd hp => q v d G' H' c' e hd (k d hp)
theorem wt_imp {P' : Bool → Prop} (h : WT K s t Z O P') (k : ∀ d, P' d → PB d) : WT K s t Z O PB := fun F σ G H c Q q => h F σ G H c Q fun b G' H' c' e hp => q b G' H' c' e (k b hp)
theorem we_var {i : Nat} {d : PyData} (h : Z[i]? = some (.d d)) (p : P d) : WE K s (tVar i) Z O P := fun F σ G H c Q q => by
  obtain ⟨o, h1, v, h2, h3⟩ := c.sl i _ h
  subst h2
  exact ⟨v, h1, q v d G H c (Evl.Ex.refl _) h3 p⟩
theorem we_int {i : Int} (p : P (.int i)) : WE K s (tC (.int i)) Z O P := fun F σ G H c Q q => q _ _ G H c (Evl.Ex.refl _) (.int i) p
theorem we_bl {b : Bool} (p : P (.bool b)) : WE K s (tC (.bl b)) Z O P := fun F σ G H c Q q => q _ _ G H c (Evl.Ex.refl _) (.bl b) p
theorem we_non (p : P .none) : WE K s (tC .non) Z O P := fun F σ G H c Q q => q _ _ G H c (Evl.Ex.refl _) .non p
theorem we_str {x : Str} (p : P (.str x)) : WE K s (tC (.str x)) Z O P := fun F σ G H c Q q => q _ _ G H c (Evl.Ex.refl _) (.str x) p
/-- a new list that comes to stand still at once -/
theorem we_of {P : PyData → Prop} (h : WL K s te Z O fun ds => P (.list ds)) : WE K s te Z O P := fun F σ G H c Q q => h F σ G H c Q fun p ds G' H' c' e hp => by
  obtain ⟨G2, c2, e2, hd⟩ := c'.freeze
  exact q (.ref p) _ G2 H' c2 (e.trans e2) hd hp

/-- an operation of two values that leaves the heap -/
def NOp (K : PySem.W.Frag) (r : R2) (x y z : PyData) : Prop := ∀ v w G H (Q : VK), Ex G H → Dp K G v x → Dp K G w y → (∀ u, Dp K G u z → Q u H) → r v w H Q
theorem we_nop {r : R2} (h : WE K s ta Z O fun x => WE K s tb Z O fun y => ∃ z, NOp K r x y z ∧ P z) : WE K s (tOp r ta tb) Z O P := fun F σ G H c Q q =>
  h F σ G H c _ fun v x G1 H1 c1 e1 hx hp => hp F σ G1 H1 c1 _ fun w y G2 H2 c2 e2 hy ⟨z, hz, p⟩ =>
    hz v w G2 H2 Q c2.ex (dp_mono e2 _ _ hx) hy fun u hu => q u z G2 H2 c2 (e1.trans e2) hu p
theorem nop_I0 {g : Int → Int → V} {i j : Int} {z : PyData} (hz : ∀ G, Dp K G (g i j) z) : NOp K (rI0 g) (.int i) (.int j) z := fun v w G H Q _ hv hw q => by
  cases hv
  cases hw
  exact ⟨i, j, rfl, rfl, q _ (hz G)⟩
theorem nop_I {C : Int → Int → Prop} {g : Int → Int → V} {i j : Int} {z : PyData} (hc : C i j) (hz : ∀ G, Dp K G (g i j) z) : NOp K (rI C g) (.int i) (.int j) z := fun v w G H Q _ hv hw q => by
  cases hv
  cases hw
  exact ⟨i, j, rfl, rfl, hc, q _ (hz G)⟩
theorem we_opI {f : Int → Int → Int} (h : WE K s ta Z O fun x => WE K s tb Z O fun y => ∃ i j, x = .int i ∧ y = .int j ∧ P (.int (f i j))) : WE K s (tOp (rI0 fun i j => .int (f i j)) ta tb) Z O P :=
  we_nop (we_imp h fun x hx => we_imp hx fun y ⟨i, j, e1, e2, p⟩ => ⟨_, by subst e1; subst e2; exact nop_I0 fun G => .int _, p⟩)
theorem we_opB {f : Int → Int → Bool} (h : WE K s ta Z O fun x => WE K s tb Z O fun y => ∃ i j, x = .int i ∧ y = .int j ∧ P (.bool (f i j))) : WE K s (tOp (rI0 fun i j => .bl (f i j)) ta tb) Z O P :=
  we_nop (we_imp h fun x hx => we_imp hx fun y ⟨i, j, e1, e2, p⟩ => ⟨_, by subst e1; subst e2; exact nop_I0 fun G => .bl _, p⟩)
theorem we_opC {C : Int → Int → Prop} {f : Int → Int → Int} (h : WE K s ta Z O fun x => WE K s tb Z O fun y => ∃ i j, x = .int i ∧ y = .int j ∧ C i j ∧ P (.int (f i j))) : WE K s (tOp (rI C fun i j => .int (f i j)) ta tb) Z O P :=
  we_nop (we_imp h fun x hx => we_imp hx fun y ⟨i, j, e1, e2, hc, p⟩ => ⟨_, by subst e1; subst e2; exact nop_I hc fun G => .int _, p⟩)
theorem we_neg (h : WE K s ta Z O fun x => ∃ i, x = .int i ∧ P (.int (-i))) : WE K s (tUn (rU fun i => .int (-i)) ta) Z O P := fun F σ G H c Q q =>
  h F σ G H c _ fun v x G1 H1 c1 e1 hx ⟨i, ex, p⟩ => by
    subst ex
    cases hx
    exact ⟨i, rfl, q _ _ G1 H1 c1 e1 (.int _) p⟩
/-- == of data -/
theorem we_eqD (h : WE K s ta Z O fun x => WE K s tb Z O fun y => SeqAt.shaped x = true ∧ SeqAt.shaped y = true ∧ P (.bool (PyData.eqv x y))) : WE K s (tOp (rEqD K) ta tb) Z O P :=
  we_nop (we_imp h fun x hx => we_imp hx fun y ⟨s1, s2, p⟩ => ⟨_, fun v w G H Q e hv hw q => ⟨x, y, dp_mono e _ _ hv, dp_mono e _ _ hw, s1, s2, q _ (.bl _)⟩, p⟩)
theorem we_neD (h : WE K s ta Z O fun x => WE K s tb Z O fun y => SeqAt.shaped x = true ∧ SeqAt.shaped y = true ∧ P (.bool (!PyData.eqv x y))) : WE K s (tOp (rNeD K) ta tb) Z O P :=
  we_nop (we_imp h fun x hx => we_imp hx fun y ⟨s1, s2, p⟩ => ⟨_, fun v w G H Q e hv hw q => ⟨x, y, dp_mono e _ _ hv, dp_mono e _ _ hw, s1, s2, q _ (.bl _)⟩, p⟩)
/-- an item, by what the thing is -/
inductive ItemAt : PyData → Int → PyData → Prop where
  | lst {ds : List PyData} {i : Int} {d : PyData} : atI ds i = some d → ItemAt (.list ds) i d
  | tup {ds : List PyData} {i : Int} {d : PyData} : atI ds i = some d → ItemAt (.tuple ds) i d
  | str {z : Str} {i : Int} {c : Nat} : z.length ≤ sizeLine → atI z.cps.toList i = some c → ItemAt (.str z) i (.str ⟨#[c]⟩)
theorem dpa_atI {G : Hp} {vs : List V} {ds : List PyData} {i : Int} {d : PyData} (h : DpAll K G vs ds) (e : atI ds i = some d) : ∃ v, atI vs i = some v ∧ Dp K G v d := by
  unfold atI at e ⊢
  rw [dpa_len h]
  cases q : ixN ds.length i with
  | none => rw [q] at e; cases e
  | some j =>
    rw [q] at e
    obtain ⟨v, h1, h2⟩ := dpa_atd h e
    exact ⟨v, h1, h2⟩
theorem we_ix (h : WE K s ta Z O fun x => WE K s tb Z O fun y => ∃ i d, y = .int i ∧ ItemAt x i d ∧ P d) : WE K s (tOp (rIx K) ta tb) Z O P :=
  we_nop (we_imp h fun x hx => we_imp hx fun y ⟨i, d, e1, hi, p⟩ => ⟨d, fun v w G H Q e hv hw q => by
    subst e1
    cases hw
    cases hi with
    | lst hi =>
      cases hv with
      | lst hs ha =>
        obtain ⟨u, h1, h2⟩ := dpa_atI ha hi
        exact .inl ⟨_, _, i, u, rfl, rfl, Evl.ex_l e hs, h1, q u h2⟩
    | tup hi =>
      cases hv with
      | tup hs ha =>
        obtain ⟨u, h1, h2⟩ := dpa_atI ha hi
        exact .inr (.inl ⟨_, _, i, u, rfl, rfl, Evl.ex_t e hs, h1, q u h2⟩)
    | str hz hi =>
      cases hv
      exact .inr (.inr ⟨_, i, _, rfl, rfl, hz, hi, q _ (.str _)⟩), p⟩)

/-! ### tests -/
theorem wt_test (h : WE K s te Z O fun x => ∃ b, x = .bool b ∧ PB b) : WT K s (tTest te) Z O PB := fun F σ G H c Q q => h F σ G H c _ fun v x G1 H1 c1 e1 hx ⟨b, ex, p⟩ => by
  subst ex
  cases hx
  exact ⟨b, rfl, q b G1 H1 c1 e1 p⟩
theorem wt_B (h : WE K s te Z O fun x => ∃ b, x = .bool b ∧ PB b) : WT K s (tB te) Z O PB := fun F σ G H c Q q => h F σ G H c _ fun v x G1 H1 c1 e1 hx ⟨b, ex, p⟩ => by
  subst ex
  cases hx
  exact ⟨b, rfl, q b G1 H1 c1 e1 p⟩
theorem wt_and (h : WT K s t Z O fun b => if b = true then WT K s u Z O PB else PB false) : WT K s (tAnd t u) Z O PB := fun F σ G H c Q q => h F σ G H c _ fun b G1 H1 c1 e1 p => by
  cases b with
  | true =>
    rw [if_pos rfl] at p ⊢
    exact p F σ G1 H1 c1 Q fun b2 G2 H2 c2 e2 p2 => q b2 G2 H2 c2 (e1.trans e2) p2
  | false =>
    rw [if_neg Bool.false_ne_true] at p ⊢
    exact q false G1 H1 c1 e1 p
theorem wt_or (h : WT K s t Z O fun b => if b = true then PB true else WT K s u Z O PB) : WT K s (tOr t u) Z O PB := fun F σ G H c Q q => h F σ G H c _ fun b G1 H1 c1 e1 p => by
  cases b with
  | true =>
    rw [if_pos rfl] at p ⊢
    exact q true G1 H1 c1 e1 p
  | false =>
    rw [if_neg Bool.false_ne_true] at p ⊢
    exact p F σ G1 H1 c1 Q fun b2 G2 H2 c2 e2 p2 => q b2 G2 H2 c2 (e1.trans e2) p2
theorem wt_not (h : WT K s t Z O fun b => PB (!b)) : WT K s (tNot t) Z O PB := fun F σ G H c Q q => h F σ G H c _ fun b G1 H1 c1 e1 p => q (!b) G1 H1 c1 e1 p
theorem we_andV (h : WE K s ta Z O fun x => ∃ b, x = .bool b ∧ if b = true then WE K s tb Z O P else P (.bool false)) : WE K s (tAndV ta tb) Z O P := fun F σ G H c Q q => h F σ G H c _ fun v x G1 H1 c1 e1 hx ⟨b, ex, p⟩ => by
  subst ex
  cases hx
  refine ⟨b, rfl, ?_⟩
  cases b with
  | true =>
    rw [if_pos rfl] at p ⊢
    exact p F σ G1 H1 c1 Q fun w d G2 H2 c2 e2 hd p2 => q w d G2 H2 c2 (e1.trans e2) hd p2
  | false =>
    rw [if_neg Bool.false_ne_true] at p ⊢
    exact q _ _ G1 H1 c1 e1 (.bl false) p
theorem we_orV (h : WE K s ta Z O fun x => ∃ b, x = .bool b ∧ if b = true then P (.bool true) else WE K s tb Z O P) : WE K s (tOrV ta tb) Z O P := fun F σ G H c Q q => h F σ G H c _ fun v x G1 H1 c1 e1 hx ⟨b, ex, p⟩ => by
  subst ex
  cases hx
  refine ⟨b, rfl, ?_⟩
  cases b with
  | true =>
    rw [if_pos rfl] at p ⊢
    exact q _ _ G1 H1 c1 e1 (.bl true) p
  | false =>
    rw [if_neg Bool.false_ne_true] at p ⊢
    exact p F σ G1 H1 c1 Q fun w d G2 H2 c2 e2 hd p2 => q w d G2 H2 c2 (e1.trans e2) hd p2
theorem we_notV (h : WE K s ta Z O fun x => ∃ b, x = .bool b ∧ P (.bool (!b))) : WE K s (tNotV ta) Z O P := fun F σ G H c Q q => h F σ G H c _ fun v x G1 H1 c1 e1 hx ⟨b, ex, p⟩ => by
  subst ex
  cases hx
  exact ⟨b, rfl, q _ _ G1 H1 c1 e1 (.bl _) p⟩
theorem we_if (h : WT K s t Z O fun b => if b = true then WE K s ta Z O P else WE K s tb Z O P) : WE K s (tIf t ta tb) Z O P := fun F σ G H c Q q => h F σ G H c _ fun b G1 H1 c1 e1 p => by
  cases b with
  | true =>
    rw [if_pos rfl] at p ⊢
    exact p F σ G1 H1 c1 Q fun w d G2 H2 c2 e2 hd p2 => q w d G2 H2 c2 (e1.trans e2) hd p2
  | false =>
    rw [if_neg Bool.false_ne_true] at p ⊢
    exact p F σ G1 H1 c1 Q fun w d G2 H2 c2 e2 hd p2 => q w d G2 H2 c2 (e1.trans e2) hd p2
theorem dp_none_iff {G : Hp} {v : V} {x : PyData} (h : Dp K G v x) : (v = .non) ↔ x = .none := by
  cases h <;> simp
def isNone : PyData → Bool
  | .none => true
  | _ => false
theorem dp_isNone {G : Hp} {v : V} {x : PyData} (h : Dp K G v x) : decide (v = .non) = isNone x := by
  cases h <;> rfl
theorem we_isN (h : WE K s ta Z O fun x => P (.bool (isNone x))) : WE K s (tIsN ta) Z O P := fun F σ G H c Q q => h F σ G H c _ fun v x G1 H1 c1 e1 hx p => by
  show Q (.bl (decide (v = .non))) H1
  rw [dp_isNone hx]
  exact q _ _ G1 H1 c1 e1 (.bl _) p
theorem we_notN (h : WE K s ta Z O fun x => P (.bool (!isNone x))) : WE K s (tNotN ta) Z O P := fun F σ G H c Q q => h F σ G H c _ fun v x G1 H1 c1 e1 hx p => by
  show Q (.bl (!decide (v = .non))) H1
  rw [dp_isNone hx]
  exact q _ _ G1 H1 c1 e1 (.bl _) p

/-! ### arguments, displays -/
variable {PA : List Sk → Prop} {tr : TA}
theorem wa_nil (p : PA []) : WA K s tNil Z O PA := fun F σ G H c Q q => q [] [] G H c (Evl.Ex.refl _) True.intro p
theorem wa_cons (h : WE K s ta Z O fun x => WA K s tr Z O fun ks => PA (.d x :: ks)) : WA K s (tCons ta tr) Z O PA := fun F σ G H c Q q =>
  h F σ G H c _ fun v x G1 H1 c1 e1 hx hp => hp F σ G1 H1 c1 _ fun vs ks G2 H2 c2 e2 hk p => q (v :: vs) (.d x :: ks) G2 H2 c2 (e1.trans e2) ⟨⟨v, rfl, dp_mono e2 _ _ hx⟩, hk⟩ p
/-- an argument that is no data: the box -/
theorem wa_raw {i : Nat} {w : V} (hi : Z[i]? = some (.v w)) (h : WA K s tr Z O fun ks => PA (.v w :: ks)) : WA K s (tCons (tVar i) tr) Z O PA := fun F σ G H c Q q => by
  obtain ⟨o, h1, h2⟩ := c.sl i _ hi
  have h2 : o = some w := h2
  subst h2
  exact ⟨w, h1, h F σ G H c _ fun vs ks G2 H2 c2 e2 hk p => q (w :: vs) (.v w :: ks) G2 H2 c2 e2 ⟨rfl, hk⟩ p⟩
/-- a built-in class as an argument -/
theorem wa_ty {n : String} (h : WA K s tr Z O fun ks => PA (.v (.ty n) :: ks)) : WA K s (tCons (tC (.ty n)) tr) Z O PA := fun F σ G H c Q q =>
  h F σ G H c _ fun vs ks G2 H2 c2 e2 hk p => q (.ty n :: vs) (.v (.ty n) :: ks) G2 H2 c2 e2 ⟨rfl, hk⟩ p
/-- kinds that are all data -/
def datas : List Sk → Option (List PyData)
  | [] => some []
  | .d x :: r => (datas r).map (x :: ·)
  | _ :: _ => none
theorem datas_ok {G : Hp} : ∀ {ks : List Sk} {vs : List V} {ds : List PyData}, datas ks = some ds → ArgOk K G vs ks → DpAll K G vs ds
  | [], [], _, h, _ => by
    cases h
    exact .nil
  | [], _ :: _, _, _, z => z.elim
  | .d x :: r, [], _, _, z => z.elim
  | .d x :: r, v :: vs, ds, h, z => by
    unfold datas at h
    cases q : datas r with
    | none => rw [q] at h; cases h
    | some es =>
      rw [q] at h
      cases h
      obtain ⟨⟨w, e, hd⟩, z2⟩ := z
      cases e
      exact .cons hd (datas_ok q z2)
  | .no :: r, _, _, h, _ => by cases h
  | .v _ :: r, _, _, h, _ => by cases h
theorem wl_lst (h : WA K s tr Z O fun ks => ∃ ds, datas ks = some ds ∧ ds.length ≤ 100000 ∧ PL ds) : WL K s (tLst tr) Z O PL := fun F σ G H c Q q =>
  h F σ G H c _ fun vs ks G1 H1 c1 e1 ha ⟨ds, hd, hl, p⟩ => by
    have da := datas_ok hd ha
    refine ⟨Evl.sz_of (by rw [dpa_len da]; exact hl), fun pp hp => q pp ds G1 _ (c1.newOwn hp da) e1 p⟩
theorem we_tup (h : WA K s tr Z O fun ks => ∃ ds, datas ks = some ds ∧ ds.length ≤ 100000 ∧ P (.tuple ds)) : WE K s (tTup tr) Z O P := fun F σ G H c Q q =>
  h F σ G H c _ fun vs ks G1 H1 c1 e1 ha ⟨ds, hd, hl, p⟩ => by
    have da := datas_ok hd ha
    refine ⟨Evl.sz_of (by rw [dpa_len da]; exact hl), fun pp hp => ?_⟩
    obtain ⟨c2, e2⟩ := c1.new (o := .tup vs) hp
    exact q (.ref pp) (.tuple ds) _ _ c2 (e1.trans e2) (.tup (.inl (.inl upd_same)) (dpa_mono e2 ds vs da)) p
end

/-! ### what a def promises, by data -/
/-- a def of data alone -/
def spP (K : PySem.W.Frag) (R : List PyData → (PyData → Prop) → Prop) : Sp := fun vs H Q _ => ∃ G ds, Ex G H ∧ DpAll K G vs ds ∧
  R ds fun d => ∀ v G' H', Ex G G' → Ex G' H' → Ex H H' → (∀ a o, H a = some o → G' a = G a) → Dp K G' v d → Q v H'
/-- a def whose first argument is the box -/
def spB (K : PySem.W.Frag) (R : List PyData → (PyData → Prop) → Prop) : Sp := fun vs H Q _ => ∃ b us G ds, vs = .ref b :: us ∧ Ex G H ∧ BoxOk K b G H ∧ DpAll K G us ds ∧
  R ds fun d => ∀ v G' H', Ex G G' → Ex G' H' → (∀ a o, a ≠ b → H a = some o → H' a = some o) → (∀ a o, H a = some o → G' a = G a) → BoxOk K b G' H' → Dp K G' v d → Q v H'
section
variable {K : PySem.W.Frag} {F : Fb} {s : Option Addr} {Z : List Sk} {O : Own} {P : PyData → Prop} {tr : TA} {R : List PyData → (PyData → Prop) → Prop} {E : XK}
theorem we_call (h : WA K s tr Z O fun ks => ∃ ds, datas ks = some ds ∧ R ds P) (mono : ∀ ds P Q, (∀ d, P d → Q d) → R ds P → R ds Q) : WE K s (tCall (spP K R) [] E tr) Z O P := fun F σ G H c Q q =>
  h F σ G H c _ fun vs ks G1 H1 c1 e1 ha ⟨ds, hd, hr⟩ => by
    show spP K R (vs ++ []) H1 Q E
    rw [List.append_nil]
    exact ⟨G1, ds, c1.ex, datas_ok hd ha, mono ds _ _ (fun d p v G' H' e e' hh k hv => q v d G' H' (c1.grow e e' hh k) (e1.trans e) hv p) hr⟩
theorem we_callB {b : Addr} (h : WA K (some b) tr Z O fun ks => ∃ ks' ds, ks = .v (.ref b) :: ks' ∧ datas ks' = some ds ∧ R ds P) (mono : ∀ ds P Q, (∀ d, P d → Q d) → R ds P → R ds Q) : WE K (some b) (tCall (spB K R) [] E tr) Z O P := fun F σ G H c Q q =>
  h F σ G H c _ fun vs ks G1 H1 c1 e1 ha ⟨ks', ds, ek, hd, hr⟩ => by
    show spB K R (vs ++ []) H1 Q E
    rw [List.append_nil]
    subst ek
    match vs, ha with
    | v :: us, ha =>
      obtain ⟨ev, ha⟩ := ha
      have ev : some v = some (.ref b) := ev
      cases ev
      exact ⟨b, us, G1, ds, rfl, c1.ex, c1.box b rfl, datas_ok hd ha, mono ds _ _ (fun d p v G' H' e e' hh k hb hv => q v d G' H' (c1.growB e e' hh k hb) (e1.trans e) hv p) hr⟩
/-- a built-in by what it does to data, the heap left -/
def NCall (K : PySem.W.Frag) (r : List V → Hp → VK → Prop) (ks : List Sk) (z : PyData) : Prop := ∀ vs G H (Q : VK), Ex G H → ArgOk K G vs ks → (∀ u, Dp K G u z → Q u H) → r vs H Q
theorem we_ncall {r : List V → Hp → VK → Prop} (h : WA K s tr Z O fun ks => ∃ z, NCall K r ks z ∧ P z) : WE K s (tCB r tr) Z O P := fun F σ G H c Q q =>
  h F σ G H c _ fun vs ks G1 H1 c1 e1 ha ⟨z, hz, p⟩ => hz vs G1 H1 Q c1.ex ha fun u hu => q u z G1 H1 c1 e1 hu p
theorem nc_gcd {i j : Int} : NCall K rGcd [.d (.int i), .d (.int j)] (.int ((Nat.gcd i.natAbs j.natAbs : Nat) : Int)) := fun vs G H Q _ ha q => by
  match vs, ha with
  | [v, w], ⟨⟨_, e1, h1⟩, ⟨_, e2, h2⟩, _⟩ =>
    cases e1
    cases e2
    cases h1
    cases h2
    exact ⟨i, j, rfl, q _ (.int _)⟩
end
end DL

/-! DLs: statements by data. -/
namespace DL
open PySem PySem.Spec PyProof.Rows L2
open Evl (Ex)

structure DE where
  nx : List Sk → Own → Prop
  rt : PyData → Prop
  bk : List Sk → Own → Prop := fun _ _ => False
  ct : List Sk → Own → Prop := fun _ _ => False
structure Conv (K : PySem.W.Frag) (F : Fb) (s : Option Addr) (D : DE) (E : Ends) : Prop where
  nx : ∀ Z O σ G H, Cfg K F s Z O σ G H → D.nx Z O → E.nx σ H
  rt : ∀ v d G H, Cfg K F s [] [] [] G H → Dp K G v d → D.rt d → E.rt v H
  bk : ∀ Z O σ G H, Cfg K F s Z O σ G H → D.bk Z O → E.bk σ H
  ct : ∀ Z O σ G H, Cfg K F s Z O σ G H → D.ct Z O → E.ct σ H
def SW (K : PySem.W.Frag) (s : Option Addr) (t : TS) (Z : List Sk) (O : Own) (D : DE) : Prop := ∀ (F : Fb) σ G H E, Cfg K F s Z O σ G H → Conv K F s D E → t E σ H

section
variable {K : PySem.W.Frag} {F : Fb} {s : Option Addr} {Z : List Sk} {O : Own} {D : DE} {t u : TS} {te ta tb : TE} {tt : TT}
theorem Conv.seq {E : Ends} (c : Conv K F s D E) : Conv K F s { D with nx := fun Z O => SW K s u Z O D } { E with nx := u E } :=
  ⟨fun Z O σ G H cf h => h F σ G H E cf c, c.rt, c.bk, c.ct⟩
theorem sw_seq (h : SW K s t Z O { D with nx := fun Z O => SW K s u Z O D }) : SW K s (tSeq t u) Z O D := fun F σ G H E c cv => h F σ G H _ c cv.seq
theorem sw_next (h : D.nx Z O) : SW K s tNext Z O D := fun F σ G H E c cv => cv.nx Z O σ G H c h
theorem sw_break (h : D.bk Z O) : SW K s tBreak Z O D := fun F σ G H E c cv => cv.bk Z O σ G H c h
theorem sw_cont (h : D.ct Z O) : SW K s tCont Z O D := fun F σ G H E c cv => cv.ct Z O σ G H c h
theorem sw_ret (h : WE K s te Z O D.rt) : SW K s (tRet te) Z O D := fun F σ G H E c cv => h F σ G H c _ fun v d G' H' c' e hd p => cv.rt v d G' H' c'.forget hd p
theorem sw_retN (h : D.rt .none) : SW K s tRetN Z O D := fun F σ G H E c cv => cv.rt .non .none G H c.forget .non h
theorem sw_drop (h : WE K s te Z O fun _ => D.nx Z O) : SW K s (tDrop te) Z O D := fun F σ G H E c cv => h F σ G H c _ fun v d G' H' c' e hd p => cv.nx Z O σ G' H' c' p
theorem sw_asg {i : Nat} (h : WE K s te Z O fun d => D.nx (Z.set i (.d d)) O) : SW K s (tAsg te (gName i)) Z O D := fun F σ G H E c cv =>
  h F σ G H c _ fun v d G' H' c' e hd p => cv.nx _ _ _ G' H' (c'.set (k := .d d) ⟨v, rfl, hd⟩) p
/-- a new list, kept as one's own -/
theorem sw_asgL {i : Nat} (h : WL K s te Z O fun ds => ∀ p, D.nx (Z.set i (.v (.ref p))) ((p, ds) :: O)) : SW K s (tAsg te (gName i)) Z O D := fun F σ G H E c cv =>
  h F σ G H c _ fun p ds G' H' c' e q => cv.nx _ _ _ G' H' (c'.set (k := .v (.ref p)) rfl) (q p)
theorem sw_if (h : WT K s tt Z O fun b => if b = true then SW K s t Z O D else SW K s u Z O D) : SW K s (tIfS tt t u) Z O D := fun F σ G H E c cv =>
  h F σ G H c _ fun b G1 H1 c1 e1 p => by
    cases b with
    | true =>
      rw [if_pos rfl] at p ⊢
      exact p F σ G1 H1 E c1 cv
    | false =>
      rw [if_neg Bool.false_ne_true] at p ⊢
      exact p F σ G1 H1 E c1 cv
/-- the own list at the head stands still from here on -/
theorem sw_freeze {p : Addr} {ds : List PyData} {i : Nat} (hi : Z[i]? = some (.v (.ref p))) (h : SW K s t (Z.set i (.d (.list ds))) O D) : SW K s t Z ((p, ds) :: O) D := fun F σ G H E c cv => by
  obtain ⟨G', c', e, hd⟩ := c.freeze
  obtain ⟨o, h1, h2⟩ := c'.sl i _ hi
  have h2 : o = some (.ref p) := h2
  subst h2
  have c2 := c'.set (i := i) (k := .d (.list ds)) (v := .ref p) ⟨.ref p, rfl, hd⟩
  have e2 : σ.set i (some (.ref p)) = σ := by
    apply List.ext_getElem?
    intro j
    by_cases z : i = j
    · subst z
      have hl := (List.getElem?_eq_some_iff.mp h1).1
      rw [List.getElem?_set_self hl, h1]
    · rw [List.getElem?_set_ne z]
  rw [e2] at c2
  exact h F σ G' H E c2 cv
/-- xs.append(e) on the own list at the head -/
theorem sw_app {p : Addr} {ds : List PyData} {i : Nat} (hi : Z[i]? = some (.v (.ref p))) (hl : ds.length < 100000) (h : WE K s te Z ((p, ds) :: O) fun d => D.nx Z ((p, ds ++ [d]) :: O)) :
    SW K s (tDrop (tBM K "list" rAppend (tVar i) (tCons te tNil))) Z ((p, ds) :: O) D := fun F σ G H E c cv => by
  obtain ⟨o, h1, h2⟩ := c.sl i _ hi
  have h2 : o = some (.ref p) := h2
  subst h2
  obtain ⟨_, _, _, vs0, b4, _⟩ := c.own p ds (List.mem_cons_self ..)
  refine ⟨.ref p, h1, .inl ⟨rfl, vs0, Evl.sq_of b4⟩, ?_⟩
  refine h F σ G H c _ fun v d G' H' c' e hd p' => ?_
  obtain ⟨_, _, _, vs, o4, o5⟩ := c'.own p ds (List.mem_cons_self ..)
  refine ⟨p, vs, v, rfl, rfl, o4, Evl.sz_lt (by rw [dpa_len o5]; exact hl), ?_⟩
  exact cv.nx _ _ _ _ _ (c'.setOwn (dpa_app o5 (.cons hd .nil))) p'
/-- xs[i] = e on the own list at the head -/
theorem sw_setL {p : Addr} {ds : List PyData} {i : Nat} (hi : Z[i]? = some (.v (.ref p)))
    (h : WE K s te Z ((p, ds) :: O) fun d => WE K s tb Z ((p, ds) :: O) fun y => ∃ k j, y = .int k ∧ ixN ds.length k = some j ∧ D.nx Z ((p, ds.set j d) :: O)) :
    SW K s (tAsg te (gSub (tVar i) tb rSetL)) Z ((p, ds) :: O) D := fun F σ G H E c cv => by
  obtain ⟨o, h1, h2⟩ := c.sl i _ hi
  have h2 : o = some (.ref p) := h2
  subst h2
  refine h F σ G H c _ fun v d G' H' c' e hd p' => ?_
  refine ⟨.ref p, h1, ?_⟩
  refine p' F σ G' H' c' _ fun w y G2 H2 c2 e2 hy ⟨k, j, ey, hj, q⟩ => ?_
  subst ey
  cases hy
  obtain ⟨_, _, _, vs, o4, o5⟩ := c2.own p ds (List.mem_cons_self ..)
  refine ⟨p, vs, k, j, rfl, rfl, o4, by rw [dpa_len o5]; exact hj, ?_⟩
  exact cv.nx _ _ _ _ _ (c2.setOwn (dpa_set (dp_mono e2 _ _ hd) j o5)) q
/-- the same of the next own list but one -/
theorem Cfg.swap {p q : Addr × List PyData} {σ : L2.St} {G H : Hp} (c : Cfg K F s Z (p :: q :: O) σ G H) : Cfg K F s Z (q :: p :: O) σ G H := by
  refine ⟨c.len, c.sl, c.ex, c.box, c.bxM, fun a ds h => c.own a ds ?_, ?_, c.e0, c.h0, c.h1, c.g0⟩
  · simp only [List.mem_cons] at h ⊢
    rcases h with h | h | h
    · exact .inr (.inl h)
    · exact .inl h
    · exact .inr (.inr h)
  · have nd := c.nd
    simp only [List.map_cons, List.nodup_cons, List.mem_cons, not_or] at nd ⊢
    exact ⟨⟨fun z => nd.1.1 z.symm, nd.2.1⟩, nd.1.2, nd.2.2⟩
theorem sw_swap {p q : Addr × List PyData} (h : SW K s t Z (q :: p :: O) D) : SW K s t Z (p :: q :: O) D := fun F σ G H E c cv => h F σ G H E c.swap cv
/-- a slot's word let go of, or told otherwise -/
theorem sw_imp {D' : DE} (h : SW K s t Z O D') (hn : ∀ Z O, D'.nx Z O → D.nx Z O) (hr : ∀ d, D'.rt d → D.rt d) (hb : ∀ Z O, D'.bk Z O → D.bk Z O) (hc : ∀ Z O, D'.ct Z O → D.ct Z O) : SW K s t Z O D := fun F σ G H E c cv =>
  h F σ G H E c ⟨fun Z O σ G H c h => cv.nx Z O σ G H c (hn Z O h), fun v d G H c hd h => cv.rt v d G H c hd (hr d h), fun Z O σ G H c h => cv.bk Z O σ G H c (hb Z O h), fun Z O σ G H c h => cv.ct Z O σ G H c (hc Z O h)⟩

/-- a statement, then the rest, by a word between them -/
theorem sw_cut (M : List Sk → Own → Prop) (h : SW K s t Z O { D with nx := M }) (k : ∀ Z' O', M Z' O' → SW K s u Z' O' D) : SW K s (tSeq t u) Z O D :=
  sw_seq (sw_imp h k (fun _ h => h) (fun _ _ h => h) (fun _ _ h => h))
/-! ### targets -/
/-- what a target does with a datum -/
def GW (K : PySem.W.Frag) (s : Option Addr) (g : TG) (d : PyData) (Z : List Sk) (O : Own) (N : List Sk → Own → Prop) : Prop :=
  ∀ (F : Fb) v σ G H, Cfg K F s Z O σ G H → Dp K G v d → ∀ Q : L2.St → Hp → Prop, (∀ Z' O' σ' G' H', Cfg K F s Z' O' σ' G' H' → Ex G G' → N Z' O' → Q σ' H') → g v σ H Q
theorem gw_name {i : Nat} {d : PyData} {N : List Sk → Own → Prop} (h : N (Z.set i (.d d)) O) : GW K s (gName i) d Z O N := fun F v σ G H c hd Q q => q _ _ _ G H (c.set (k := .d d) ⟨v, rfl, hd⟩) (Evl.Ex.refl _) h
def GWs (K : PySem.W.Frag) (s : Option Addr) (g : TGs) (ds : List PyData) (Z : List Sk) (O : Own) (N : List Sk → Own → Prop) : Prop :=
  ∀ (F : Fb) vs σ G H, Cfg K F s Z O σ G H → DpAll K G vs ds → ∀ Q : L2.St → Hp → Prop, (∀ Z' O' σ' G' H', Cfg K F s Z' O' σ' G' H' → Ex G G' → N Z' O' → Q σ' H') → g vs σ H Q
theorem gws_nil {N : List Sk → Own → Prop} (h : N Z O) : GWs K s gNil [] Z O N := fun F vs σ G H c hd Q q => by
  cases hd
  exact ⟨rfl, q _ _ _ G H c (Evl.Ex.refl _) h⟩
theorem gws_name {i : Nat} {g : TGs} {d : PyData} {ds : List PyData} {N : List Sk → Own → Prop} (h : GWs K s g ds (Z.set i (.d d)) O N) : GWs K s (gCons (gName i) g) (d :: ds) Z O N := fun F vs σ G H c hd Q q => by
  cases hd with
  | cons h1 h2 => exact ⟨_, _, rfl, h F _ _ G H (c.set (k := .d d) ⟨_, rfl, h1⟩) h2 Q q⟩
theorem gw_tup {n : Nat} {g : TGs} {ds : List PyData} {N : List Sk → Own → Prop} (hn : ds.length = n) (h : GWs K s g ds Z O N) : GW K s (gTup K n g) (.tuple ds) Z O N := fun F v σ G H c hd Q q => by
  cases hd with
  | tup hs ha => exact ⟨_, _, rfl, Evl.ex_t c.ex hs, by rw [dpa_len ha]; exact hn, h F _ σ G H c ha Q q⟩
theorem sw_asgG {g : TG} (h : WE K s te Z O fun d => GW K s g d Z O D.nx) : SW K s (tAsg te g) Z O D := fun F σ G H E c cv =>
  h F σ G H c _ fun v d G' H' c' e hd p => p F v σ G' H' c' hd _ fun Z' O' σ' G2 H2 c2 _ n => cv.nx _ _ _ _ _ c2 n
/-- a, b = e1, e2 -/
theorem sw_par {i j : Nat} (h : WE K s ta Z O fun x => WE K s tb Z O fun y => D.nx ((Z.set i (.d x)).set j (.d y)) O) : SW K s (tPar i j (tCons ta (tCons tb tNil))) Z O D := fun F σ G H E c cv =>
  h F σ G H c _ fun v x G1 H1 c1 e1 hx p => p F σ G1 H1 c1 _ fun w y G2 H2 c2 e2 hy q =>
    ⟨v, w, rfl, cv.nx _ _ _ G2 H2 ((c2.set (k := .d x) ⟨v, rfl, dp_mono e2 _ _ hx⟩).set (k := .d y) ⟨w, rfl, hy⟩) q⟩
theorem sw_par3 {i j l : Nat} {tc : TE} (h : WE K s ta Z O fun x => WE K s tb Z O fun y => WE K s tc Z O fun z => D.nx (((Z.set i (.d x)).set j (.d y)).set l (.d z)) O) : SW K s (tPar3 i j l (tCons ta (tCons tb (tCons tc tNil)))) Z O D := fun F σ G H E c cv =>
  h F σ G H c _ fun v x G1 H1 c1 e1 hx p => p F σ G1 H1 c1 _ fun w y G2 H2 c2 e2 hy q => q F σ G2 H2 c2 _ fun u z G3 H3 c3 e3 hz r =>
    ⟨v, w, u, rfl, cv.nx _ _ _ G3 H3 (((c3.set (k := .d x) ⟨v, rfl, dp_mono (e2.trans e3) _ _ hx⟩).set (k := .d y) ⟨w, rfl, dp_mono e3 _ _ hy⟩).set (k := .d z) ⟨u, rfl, hz⟩) r⟩
theorem sw_aug {i : Nat} {f : Int → Int → Int} {a : Int} (hi : Z[i]? = some (.d (.int a))) (h : WE K s te Z O fun y => ∃ b, y = .int b ∧ D.nx (Z.set i (.d (.int (f a b)))) O) : SW K s (tAug i te (ipI f)) Z O D := fun F σ G H E c cv => by
  obtain ⟨o, h1, v, h2, h3⟩ := c.sl i _ hi
  subst h2
  cases h3
  exact ⟨.int a, h1, h F σ G H c _ fun w y G1 H1 c1 e1 hy ⟨b, ey, p⟩ => by
    subst ey
    cases hy
    exact ⟨a, b, rfl, rfl, cv.nx _ _ _ G1 H1 (c1.set (k := .d (.int (f a b))) ⟨_, rfl, .int _⟩) p⟩⟩

/-! ### loops -/
/-- what is walked, by data: n turns, the i-th datum -/
def IW (K : PySem.W.Frag) (s : Option Addr) (wi : TI) (Z : List Sk) (O : Own) (P : Nat → (Nat → PyData → Prop) → Prop) : Prop :=
  ∀ (F : Fb) σ G H, Cfg K F s Z O σ G H → ∀ R : It → Hp → Prop, (∀ (J : It) (n : Nat) (Yd : Nat → PyData → Prop) (G1 H1 : Hp), Cfg K F s Z O σ G1 H1 → Ex G G1 → P n Yd →
    (∀ i G2 H2, Ex G1 G2 → Ex G2 H2 → (i < n → J.go i H2) ∧ (i = n → J.stop i H2) ∧ ∀ x H3, i < n → J.yld i H2 x H3 →
      ∃ d, Yd i d ∧ ((H3 = H2 ∧ Dp K G2 x d) ∨ ∃ T vs, x = .ref T ∧ H2 T = none ∧ H3 = upd H2 T (.tup vs) ∧ ∃ ds, d = .tuple ds ∧ DpAll K G2 vs ds)) → R J H1) → wi σ H R
theorem Cfg.rebase {Z' : List Sk} {O' : Own} {σ σ' : L2.St} {G1 H1 G2 H2 : Hp} (c : Cfg K F s Z O σ G2 H2) (c1 : Cfg K F s Z' O' σ' G1 H1) (e : Ex G1 G2) : Cfg K { F with G := G1 } s Z O σ G2 H2 :=
  ⟨c.len, c.sl, c.ex, c.box, c.bxM, c.own, c.nd, e, c.h0, c.h1, fun a o h => (c.g0 a o h).trans (c1.g0 a o h).symm⟩
theorem Cfg.unbase {Z' : List Sk} {O' : Own} {σ σ' : L2.St} {G1 H1 G2 H2 : Hp} (c : Cfg K { F with G := G1 } s Z O σ G2 H2) (c1 : Cfg K F s Z' O' σ' G1 H1) : Cfg K F s Z O σ G2 H2 :=
  ⟨c.len, c.sl, c.ex, c.box, c.bxM, c.own, c.nd, c1.e0.trans c.e0, c.h0, c.h1, fun a o h => (c.g0 a o h).trans (c1.g0 a o h)⟩
/-- for: an invariant over the turn, the slots' words and the own lists -/
theorem sw_for {wi : TI} {g : TG} {tb : TS} (I : Nat → List Sk → Own → Prop) (n : Nat) (Yd : Nat → PyData → Prop) (hw : IW K s wi Z O fun n' Y' => n' = n ∧ Y' = Yd) (h0 : I 0 Z O)
    (hs : ∀ i d Z' O', i < n → Yd i d → I i Z' O' → GW K s g d Z' O' fun Z2 O2 => SW K s tb Z2 O2 { D with nx := I (i + 1), ct := I (i + 1), bk := D.nx }) (hd : ∀ Z' O', I n Z' O' → D.nx Z' O') : SW K s (tFor wi g tb) Z O D := fun F σ G H E c cv =>
  hw F σ G H c _ fun J n' Y' G1 H1 c1 e1 ⟨en, ey⟩ hj => by
    subst en ey
    refine ⟨fun i m σ2 H2 => m = n' - i ∧ i ≤ n' ∧ ∃ Z2 O2 G2, Cfg K { F with G := G1 } s Z2 O2 σ2 G2 H2 ∧ I i Z2 O2, ⟨_, rfl, Nat.zero_le _, Z, O, G1, c1.rebase c1 (Evl.Ex.refl _), h0⟩, ?_⟩
    rintro i m σ2 H2 ⟨rfl, hi, Z2, O2, G2, c2, inv⟩
    obtain ⟨j1, j2, j3⟩ := hj i G2 H2 c2.e0 c2.ex
    by_cases hlt : i < n'
    · refine .inr ⟨j1 hlt, fun σ' H' => ∃ Z2 O2 G2, Cfg K { F with G := G1 } s Z2 O2 σ' G2 H' ∧ I (i + 1) Z2 O2, fun σ' H' p' => ⟨n' - (i + 1), by omega, rfl, hlt, p'⟩, fun x H3 hy => ?_⟩
      obtain ⟨d, hd', hcase⟩ := j3 x H3 hlt hy
      have main : ∀ (G3 : Hp), Cfg K { F with G := G1 } s Z2 O2 σ2 G3 H3 → Dp K G3 x d → g x σ2 H3 fun σ4 H4 => tb { E with nx := fun σ' H' => ∃ Z2 O2 G2, Cfg K { F with G := G1 } s Z2 O2 σ' G2 H' ∧ I (i + 1) Z2 O2, ct := fun σ' H' => ∃ Z2 O2 G2, Cfg K { F with G := G1 } s Z2 O2 σ' G2 H' ∧ I (i + 1) Z2 O2, bk := E.nx } σ4 H4 := fun G3 c3 hx =>
        hs i d Z2 O2 hlt hd' inv _ x σ2 G3 H3 c3 hx _ fun Z4 O4 σ4 G4 H4 c4 _ body => body _ σ4 G4 H4 _ c4
          ⟨fun Z O σ G H c h => ⟨Z, O, G, c, h⟩, fun v d G H c hd h => cv.rt v d G H (c.unbase c1) hd h, fun Z O σ G H c h => cv.nx Z O σ G H (c.unbase c1) h, fun Z O σ G H c h => ⟨Z, O, G, c, h⟩⟩
      rcases hcase with ⟨e3, hx⟩ | ⟨T, vs, ex, hT, e3, ds, ed, hds⟩
      · subst e3
        exact main G2 c2 hx
      · subst e3 ex ed
        obtain ⟨c3, e4⟩ := c2.new (o := .tup vs) hT
        exact main _ c3 (.tup (.inl (.inl upd_same)) (dpa_mono e4 ds vs hds))
    · have e : i = n' := by omega
      subst e
      exact .inl ⟨j2 rfl, cv.nx _ _ _ _ _ (c2.unbase c1) (hd _ _ inv)⟩
/-- the same by data and slots: W, a word over the turn and the slots -/
theorem iw_list {tl : TE} {P : Nat → (Nat → PyData → Prop) → Prop} (h : WE K s tl Z O fun x => ∃ ds, x = .list ds ∧ P ds.length fun i d => ds[i]? = some d) : IW K s (iList K tl) Z O P := fun F σ G H c R r =>
  h F σ G H c _ fun v x G1 H1 c1 e1 hx ⟨ds, ex, p⟩ => by
    subst ex
    cases hx with
    | @lst a vs _ hs ha =>
      refine ⟨a, rfl, ⟨vs, Evl.ex_l c1.ex hs⟩, r _ _ _ G1 H1 c1 e1 p fun i G2 H2 e2 e3 => ⟨fun hi => ?_, fun hi => ?_, fun x H3 hi hy => ?_⟩⟩
      · exact ⟨vs, vs[i]'(by rw [dpa_len ha]; exact hi), Evl.ex_l (e2.trans e3) hs, List.getElem?_eq_getElem _⟩
      · exact ⟨vs, Evl.ex_l (e2.trans e3) hs, by rw [dpa_len ha, hi]; exact Nat.le_refl _⟩
      · obtain ⟨h1, h2⟩ := hy
        obtain ⟨d, q1, q2⟩ := dpa_at ha (h2 vs (Evl.ex_l (e2.trans e3) hs))
        exact ⟨d, q1, .inl ⟨h1, dp_mono e2 _ _ q2⟩⟩
theorem iw_tup {tl : TE} {P : Nat → (Nat → PyData → Prop) → Prop} (h : WE K s tl Z O fun x => ∃ ds, x = .tuple ds ∧ P ds.length fun i d => ds[i]? = some d) : IW K s (iTup K tl) Z O P := fun F σ G H c R r =>
  h F σ G H c _ fun v x G1 H1 c1 e1 hx ⟨ds, ex, p⟩ => by
    subst ex
    cases hx with
    | @tup a vs _ hs ha =>
      refine ⟨a, rfl, ⟨vs, Evl.ex_t c1.ex hs⟩, r _ _ _ G1 H1 c1 e1 p fun i G2 H2 e2 e3 => ⟨fun hi => ?_, fun hi => ?_, fun x H3 hi hy => ?_⟩⟩
      · exact ⟨vs, vs[i]'(by rw [dpa_len ha]; exact hi), Evl.ex_t (e2.trans e3) hs, List.getElem?_eq_getElem _⟩
      · exact ⟨vs, Evl.ex_t (e2.trans e3) hs, by rw [dpa_len ha, hi]; exact Nat.le_refl _⟩
      · obtain ⟨h1, h2⟩ := hy
        obtain ⟨d, q1, q2⟩ := dpa_at ha (h2 vs (Evl.ex_t (e2.trans e3) hs))
        exact ⟨d, q1, .inl ⟨h1, dp_mono e2 _ _ q2⟩⟩
theorem iw_rng1 {ta : TA} {P : Nat → (Nat → PyData → Prop) → Prop} (h : WA K s ta Z O fun ks => ∃ j : Int, ks = [.d (.int j)] ∧ (-(2 ^ 62) ≤ j ∧ j < 2 ^ 62) ∧ P j.toNat fun i d => d = .int (i : Nat)) : IW K s (iRng1 ta) Z O P := fun F σ G H c R r =>
  h F σ G H c _ fun vs ks G1 H1 c1 e1 ha ⟨j, ek, ⟨hj1, hj2⟩, p⟩ => by
    subst ek
    match vs, ha with
    | [v], ⟨⟨_, ev, hv⟩, _⟩ =>
      cases ev
      cases hv
      refine ⟨j, rfl, hj1, hj2, r _ _ _ G1 H1 c1 e1 p fun i G2 H2 e2 e3 => ⟨fun hi => hi, fun hi => Nat.le_of_eq hi.symm, fun x H3 hi hy => ?_⟩⟩
      obtain ⟨h1, h2⟩ := hy
      subst h2
      exact ⟨_, rfl, .inl ⟨h1, by rw [Int.zero_add]; exact .int _⟩⟩
theorem iw_rng2 {ta : TA} {P : Nat → (Nat → PyData → Prop) → Prop} (h : WA K s ta Z O fun ks => ∃ l j : Int, ks = [.d (.int l), .d (.int j)] ∧ (-(2 ^ 62) ≤ l ∧ l < 2 ^ 62 ∧ -(2 ^ 62) ≤ j ∧ j < 2 ^ 62) ∧ P (j - l).toNat fun i d => d = .int (l + (i : Nat))) : IW K s (iRng2 ta) Z O P := fun F σ G H c R r =>
  h F σ G H c _ fun vs ks G1 H1 c1 e1 ha ⟨l, j, ek, hb, p⟩ => by
    subst ek
    match vs, ha with
    | [v, w], ⟨⟨_, ev, hv⟩, ⟨_, ew, hw⟩, _⟩ =>
      cases ev
      cases ew
      cases hv
      cases hw
      refine ⟨l, j, rfl, hb, r _ _ _ G1 H1 c1 e1 p fun i G2 H2 e2 e3 => ⟨fun hi => hi, fun hi => Nat.le_of_eq hi.symm, fun x H3 hi hy => ?_⟩⟩
      obtain ⟨h1, h2⟩ := hy
      subst h2
      exact ⟨_, rfl, .inl ⟨h1, .int _⟩⟩
/-- zip of two lists or of two tuples -/
theorem iw_zipA {ta : TA} {P : Nat → (Nat → PyData → Prop) → Prop} (h : WA K s ta Z O fun ks => ∃ ds es, (ks = [.d (.list ds), .d (.list es)] ∨ ks = [.d (.tuple ds), .d (.tuple es)]) ∧
    P (min ds.length es.length) fun i d => ∃ x y, ds[i]? = some x ∧ es[i]? = some y ∧ d = .tuple [x, y]) : IW K s (RZ.iZipA K ta) Z O P := fun F σ G H c R r =>
  h F σ G H c _ fun vs ks G1 H1 c1 e1 ha ⟨ds, es, ek, p⟩ => by
    rcases ek with ek | ek
    · subst ek
      match vs, ha with
      | [v, w], ⟨⟨_, ev, hv⟩, ⟨_, ew, hw⟩, _⟩ =>
        cases ev
        cases ew
        cases hv with
        | @lst a xs _ hs ha =>
          cases hw with
          | @lst b ys _ ht hb =>
            refine ⟨a, b, xs, ys, rfl, .inl ⟨Evl.ex_l c1.ex hs, Evl.ex_l c1.ex ht, r _ _ _ G1 H1 c1 e1 p fun i G2 H2 e2 e3 => ?_⟩⟩
            have W := walk_zip (K := K) (a := a) (b := b) (xs := xs) (ys := ys) (n := min ds.length es.length) (by rw [dpa_len ha, dpa_len hb])
            have GG : SqL K H2 a xs ∧ SqL K H2 b ys := ⟨Evl.ex_l (e2.trans e3) hs, Evl.ex_l (e2.trans e3) ht⟩
            refine ⟨fun hi => W.goes i H2 hi GG, fun hi => by rw [hi]; exact W.stops H2 GG, fun x H3 hi hy => ?_⟩
            obtain ⟨T, x1, y1, q1, q2, q3, q4, q5⟩ := W.yields i H2 x H3 hi GG hy
            obtain ⟨dx, r1, r2⟩ := dpa_at ha q4
            obtain ⟨dy, s1, s2⟩ := dpa_at hb q5
            exact ⟨_, ⟨dx, dy, r1, s1, rfl⟩, .inr ⟨T, [x1, y1], q1, q2, q3, _, rfl, .cons (dp_mono e2 _ _ r2) (.cons (dp_mono e2 _ _ s2) .nil)⟩⟩
    · subst ek
      match vs, ha with
      | [v, w], ⟨⟨_, ev, hv⟩, ⟨_, ew, hw⟩, _⟩ =>
        cases ev
        cases ew
        cases hv with
        | @tup a xs _ hs ha =>
          cases hw with
          | @tup b ys _ ht hb =>
            refine ⟨a, b, xs, ys, rfl, .inr ⟨Evl.ex_t c1.ex hs, Evl.ex_t c1.ex ht, r _ _ _ G1 H1 c1 e1 p fun i G2 H2 e2 e3 => ?_⟩⟩
            have qa := Evl.ex_t (e2.trans e3) hs
            have qb := Evl.ex_t (e2.trans e3) ht
            have la := dpa_len ha
            have lb := dpa_len hb
            refine ⟨fun hi => ?_, fun hi => ?_, fun x H3 hi hy => ?_⟩
            · exact ⟨xs, ys, xs[i]'(by omega), ys[i]'(by omega), qa, qb, List.getElem?_eq_getElem _, List.getElem?_eq_getElem _⟩
            · exact ⟨xs, ys, qa, qb, by omega⟩
            · obtain ⟨T, x1, y1, q1, q2, q3, q4, q5⟩ := hy
              obtain ⟨dx, r1, r2⟩ := dpa_at ha (q4 xs qa)
              obtain ⟨dy, s1, s2⟩ := dpa_at hb (q5 ys qb)
              exact ⟨_, ⟨dx, dy, r1, s1, rfl⟩, .inr ⟨T, [x1, y1], q1, q2, q3, _, rfl, .cons (dp_mono e2 _ _ r2) (.cons (dp_mono e2 _ _ s2) .nil)⟩⟩
/-- while: an invariant and a measure over the slots' words -/
theorem sw_while {tb : TS} (I : Nat → List Sk → Own → Prop) (m0 : Nat) (h0 : I m0 Z O)
    (hs : ∀ m Z' O', I m Z' O' → WT K s tt Z' O' fun b => if b = true then SW K s tb Z' O' { D with nx := fun Z2 O2 => ∃ m', m' < m ∧ I m' Z2 O2, ct := fun Z2 O2 => ∃ m', m' < m ∧ I m' Z2 O2, bk := D.nx } else D.nx Z' O') : SW K s (tWhile tt tb) Z O D := fun F σ G H E c cv => by
  refine ⟨fun m σ2 H2 => ∃ Z2 O2 G2, Cfg K F s Z2 O2 σ2 G2 H2 ∧ I m Z2 O2, ⟨m0, Z, O, G, c, h0⟩, ?_⟩
  rintro m σ2 H2 ⟨Z2, O2, G2, c2, inv⟩
  refine hs m Z2 O2 inv F σ2 G2 H2 c2 _ fun b G3 H3 c3 e3 p => ?_
  cases b with
  | true =>
    rw [if_pos rfl] at p ⊢
    refine ⟨fun σ' H' => ∃ m', m' < m ∧ ∃ Z2 O2 G2, Cfg K F s Z2 O2 σ' G2 H' ∧ I m' Z2 O2, fun σ' H' ⟨m', hm, q⟩ => ⟨m', hm, q⟩, ?_⟩
    exact p F σ2 G3 H3 _ c3 ⟨fun Z O σ G H c ⟨m', hm, h⟩ => ⟨m', hm, Z, O, G, c, h⟩, cv.rt, fun Z O σ G H c h => cv.nx Z O σ G H c h, fun Z O σ G H c ⟨m', hm, h⟩ => ⟨m', hm, Z, O, G, c, h⟩⟩
  | false =>
    rw [if_neg Bool.false_ne_true] at p ⊢
    exact cv.nx _ _ _ _ _ c3 p

/-! ### comprehensions -/
/-- the slots' words with the block's own forgotten -/
def wipeZ (Z : List Sk) : List Nat → List Sk
  | [] => Z
  | v :: vs => (wipeZ Z vs).set v .no
theorem wipe_cfg {σ : L2.St} {G H : Hp} (c : Cfg K F s Z O σ G H) : ∀ vs, Cfg K F s (wipeZ Z vs) O (wipe σ vs) G H
  | [] => c
  | v :: vs => by
    have c2 := wipe_cfg c vs
    refine c2.slots ?_ fun i k hk => ?_
    · show ((wipe σ vs).set v none).length = ((wipeZ Z vs).set v .no).length
      rw [List.length_set, List.length_set]
      exact c2.len
    · show ∃ o, ((wipe σ vs).set v none)[i]? = some o ∧ SkOk K G k o
      have hk : ((wipeZ Z vs).set v .no)[i]? = some k := hk
      by_cases z : v = i
      · subst z
        have hi : v < (wipeZ Z vs).length := by
          have := (List.getElem?_eq_some_iff.mp hk).1
          rwa [List.length_set] at this
        rw [List.getElem?_set_self hi] at hk
        cases hk
        exact ⟨none, List.getElem?_set_self (by rw [c2.len]; exact hi), True.intro⟩
      · rw [List.getElem?_set_ne z] at hk ⊢
        exact c2.sl i k hk
/-- [e for target in iter if test]: I by the turn and what is made so far; ow: the target's stores touch the block's own names alone -/
theorem wl_lc {wi : TI} {g : TG} {tt : TT} {te : TE} {vs : List Nat} {PL : List PyData → Prop} (I : Nat → List PyData → Prop) (n : Nat) (Yd : Nat → PyData → Prop) (hw : IW K s wi Z O fun n' Y' => n' = n ∧ Y' = Yd) (h0 : I 0 []) (hn : n ≤ 50000)
    (hil : ∀ i acc, I i acc → acc.length ≤ i)
    (ow : ∀ x σ H (Q : L2.St → Hp → Prop), g x (wipe σ vs) H (fun σ2 H2 => wipe σ2 vs = wipe σ vs → Q σ2 H2) → g x (wipe σ vs) H fun σ2 H2 => wipe σ2 vs = wipe σ vs ∧ Q σ2 H2)
    (hs : ∀ i d acc p, i < n → Yd i d → I i acc → GW K s g d (wipeZ Z vs) ((p, acc) :: O) fun Z2 O2 => O2 = (p, acc) :: O ∧ WT K s tt Z2 O2 fun b => if b = true then WE K s te Z2 O2 fun y => I (i + 1) (acc ++ [y]) else I (i + 1) acc)
    (hd : ∀ acc, I n acc → PL acc) : WL K s (tLc wi g tt te vs) Z O PL := fun F σ G H c Q q =>
  hw F σ G H c _ fun J n' Y' G1 H1 c1 e1 ⟨en, ey⟩ hj => by
    subst en ey
    intro Dl hD
    have c1r := (c1.rebase c1 (Evl.Ex.refl _)).newOwn (vs := []) hD .nil
    refine ⟨fun i m H2 => m = n' - i ∧ i ≤ n' ∧ ∃ acc G2, Cfg K { F with G := G1 } s Z ((Dl, acc) :: O) σ G2 H2 ∧ I i acc, ⟨_, rfl, Nat.zero_le _, [], G1, c1r, h0⟩, ?_⟩
    rintro i m H2 ⟨rfl, hi, acc, G2, c2, inv⟩
    obtain ⟨j1, j2, j3⟩ := hj i G2 H2 c2.e0 c2.ex
    by_cases hlt : i < n'
    · refine .inr ⟨j1 hlt, fun H' => ∃ acc G2, Cfg K { F with G := G1 } s Z ((Dl, acc) :: O) σ G2 H' ∧ I (i + 1) acc, fun H' p' => ⟨n' - (i + 1), by omega, rfl, hlt, p'⟩, fun x H3 hy => ?_⟩
      obtain ⟨d, hd', hcase⟩ := j3 x H3 hlt hy
      have main : ∀ (G3 : Hp), Cfg K { F with G := G1 } s Z ((Dl, acc) :: O) σ G3 H3 → Dp K G3 x d → g x (wipe σ vs) H3 fun σ2 H2 => wipe σ2 vs = wipe σ vs ∧ tt σ2 H2 fun b H3 =>
          if b = true then te σ2 H3 fun y H4 => ∃ acc, H4 Dl = some (.lst acc) ∧ acc.length < sizeLine ∧ (∃ acc2 G2, Cfg K { F with G := G1 } s Z ((Dl, acc2) :: O) σ G2 (upd H4 Dl (.lst (acc ++ [y]))) ∧ I (i + 1) acc2) else ∃ acc G2, Cfg K { F with G := G1 } s Z ((Dl, acc) :: O) σ G2 H3 ∧ I (i + 1) acc := fun G3 c3 hx => by
        refine ow x σ H3 _ ?_
        refine hs i d acc Dl hlt hd' inv _ x (wipe σ vs) G3 H3 (wipe_cfg c3 vs) hx _ fun Z4 O4 σ4 G4 H4 c4 e34 ⟨eo, body⟩ hwp => ?_
        subst eo
        have back : ∀ {acc' : List PyData} {G5 H5 : Hp}, Cfg K { F with G := G1 } s Z4 ((Dl, acc') :: O) σ4 G5 H5 → Ex G3 G5 → Cfg K { F with G := G1 } s Z ((Dl, acc') :: O) σ G5 H5 := fun c5 e5 =>
          c5.slots c3.len fun j k hk => by
            obtain ⟨o, h1, h2⟩ := c3.sl j k hk
            exact ⟨o, h1, h2.mono e5⟩
        refine body _ σ4 G4 H4 c4 _ fun b G5 H5 c5 e5 pb => ?_
        cases b with
        | false =>
          rw [if_neg Bool.false_ne_true] at pb ⊢
          exact ⟨acc, G5, back c5 (e34.trans e5), pb⟩
        | true =>
          rw [if_pos rfl] at pb ⊢
          refine pb _ σ4 G5 H5 c5 _ fun y dy G6 H6 c6 e6 hy pi => ?_
          obtain ⟨_, _, _, us, o4, o5⟩ := c6.own Dl acc (List.mem_cons_self ..)
          refine ⟨us, o4, Evl.sz_lt ?_, acc ++ [dy], G6, (back c6 ((e34.trans e5).trans e6)).setOwn (dpa_app o5 (.cons hy .nil)), pi⟩
          have := hil i acc inv
          rw [dpa_len o5]
          omega
      rcases hcase with ⟨e3, hx⟩ | ⟨T, vs, ex, hT, e3, ds, ed, hds⟩
      · subst e3
        exact main G2 c2 hx
      · subst e3 ex ed
        obtain ⟨c3, e4⟩ := c2.new (o := .tup vs) hT
        exact main _ c3 (.tup (.inl (.inl upd_same)) (dpa_mono e4 ds vs hds))
    · have e : i = n' := by omega
      subst e
      exact .inl ⟨j2 rfl, q _ _ _ _ (c2.unbase c1) (e1.trans c2.e0) (hd _ inv)⟩
end
end DL

/-! DLf: defs by data, built-ins by data, the box. -/
namespace DL
open PySem PySem.Spec PyProof.Rows L2
open Evl (Ex)

/-! ### a def that may be called -/
structure Def (P : Program) (w : World) (K : PySem.W.Frag) (mg : Str → Option Value) (base : Heap) (x : Str) (k : Nat) (ps : List Str) (sp : Sp) : Prop where
  ex : ∃ f fd, mg x = some (.ref f) ∧ PySem.W.keepIn K (.ref f) = true ∧ Binds K fd ps [] ∧ FnOk P w K mg base CX0 k f fd ps sp
/-- a def as it stands behind the top -/
structure FunAt (K : PySem.W.Frag) (mg : Str → Option Value) (x : Str) (st : Stmt) (ps : List Str) : Prop where
  ex : ∃ f fd, Fun K x x st f fd ∧ mg x = some (.ref f) ∧ Binds K fd ps []
section
variable {X : Cx} {k j : Nat} {ps : List Str} {sp : Sp} {x : Str} {p pos : Pos} {e : Expr} {es : List Expr} {t : TA}
theorem pe_def (D : Def X.prog X.w X.K X.mg X.base x k ps sp) (hr : Room j X.A) (hk : k ≤ j) (hg : Gl X x) (ha : PA X (e :: es) t) (hdb : (x == ("__debug__" : Str)) = false := by decide)
    (he : starEach (e :: es) X.env = (false, eval e X.env) :: starEach es X.env := by rfl) (hpl : (backTo pos (starEach es X.env)).any (·.1) = false := by rfl) : PE X (.Call (.Name x p) (e :: es) [] pos) (tCall sp [] E0 t) := by
  obtain ⟨f, fd, h1, h2, h3, h4⟩ := D.ex
  exact pe_call h4 (hr.mono hk) hg h1 h2 h3 .nil pass0 ha hdb he hpl
end
section
variable {P : Program} {w : World} {K : PySem.W.Frag} {mg : Str → Option Value} {base : Heap} {x : Str} {st : Stmt} {N ps : List Str} {k : Nat} {R : List PyData → (PyData → Prop) → Prop}
/-- the slots at the start -/
def Z0 (N : List Str) (ks : List Sk) : List Sk := ks ++ List.replicate (N.length - ks.length) .no
theorem sl_start {G : Hp} {N : List Str} : ∀ {ks : List Sk} {vs : List V}, ArgOk K G vs ks → (L2.start N vs).length = (Z0 N ks).length ∧ ∀ (i : Nat) (k : Sk), (Z0 N ks)[i]? = some k → ∃ o, (L2.start N vs)[i]? = some o ∧ SkOk K G k o := fun {ks vs} h => by
  have hl : ∀ {ks : List Sk} {vs : List V}, ArgOk K G vs ks → vs.length = ks.length := by
    intro ks
    induction ks with
    | nil => intro vs h; cases vs with
      | nil => rfl
      | cons _ _ => exact h.elim
    | cons k ks ih => intro vs h; cases vs with
      | nil => exact h.elim
      | cons v vs => exact congrArg (· + 1) (ih h.2)
  have at' : ∀ {ks : List Sk} {vs : List V} {i : Nat} {k : Sk}, ArgOk K G vs ks → ks[i]? = some k → ∃ o, (vs.map some)[i]? = some o ∧ SkOk K G k o := by
    intro ks
    induction ks with
    | nil => intro vs i k _ h; simp at h
    | cons k ks ih =>
      intro vs i k' h e
      cases vs with
      | nil => exact h.elim
      | cons v vs =>
        cases i with
        | zero =>
          simp at e
          subst e
          exact ⟨some v, rfl, h.1⟩
        | succ i =>
          obtain ⟨o, q1, q2⟩ := ih (vs := vs) (i := i) (k := k') h.2 (by simpa using e)
          exact ⟨o, by simpa using q1, q2⟩
  have l := hl h
  refine ⟨by simp [L2.start, Z0, l], fun i k e => ?_⟩
  unfold Z0 at e
  unfold L2.start
  by_cases hi : i < ks.length
  · rw [List.getElem?_append_left hi] at e
    obtain ⟨o, h1, h2⟩ := at' h e
    exact ⟨o, by rw [List.getElem?_append_left (by simp [l, hi])]; exact h1, h2⟩
  · rw [List.getElem?_append_right (by omega)] at e
    have e3 := List.mem_replicate.mp (List.mem_of_getElem? e)
    have e4 := (List.getElem?_eq_some_iff.mp e).1
    rw [List.length_replicate] at e4
    obtain ⟨_, e3⟩ := e3
    subst e3
    refine ⟨none, ?_, True.intro⟩
    rw [List.getElem?_append_right (by simp [l]; omega)]
    simp only [List.length_map, l]
    rw [List.getElem?_replicate, if_pos e4]
theorem argOk_datas {G : Hp} : ∀ {vs : List V} {ds : List PyData}, DpAll K G vs ds → ArgOk K G vs (ds.map .d)
  | _, _, .nil => True.intro
  | _, _, .cons a t => ⟨⟨_, rfl, a⟩, argOk_datas t⟩
/-- a def of data: its body's term and what it comes to -/
theorem fn_P (Fn : FunAt K mg x st ps) (S : FnScope N ps (defScope st)) (hl : ∀ ds Q, R ds Q → ds.length = ps.length)
    (hb : ∀ (f : Addr) (cdv : Value) (A : Around) (outer : List Env) (s : Shared) (H : Hp) (E : XK), Room k (A.deeper (envOfC x (defScope st) s.heap.objs.size f cdv)) →
      ∃ t, PSs (cxOf CX0 P w K mg base N x (defScope st) f cdv A outer s H E).nox (defBody st) t ∧ ∀ ds Q, R ds Q → SW K none t (Z0 N (ds.map .d)) [] { nx := fun _ _ => Q .none, rt := Q }) :
    Def P w K mg base x (k + 1) ps (spP K R) := by
  obtain ⟨f, fd, hf, hm, hbd⟩ := Fn.ex
  refine ⟨f, fd, hm, hf.kp, hbd, hf.ok S (fun vs H Q E h => ?_) fun cdv A outer s H vs Q E hr h => ?_⟩
  · obtain ⟨G, ds, _, hd, hR⟩ := h
    rw [dpa_len hd, hl _ _ hR]
  · obtain ⟨G, ds, e, hd, hR⟩ := h
    obtain ⟨t, ht, sw⟩ := hb f cdv A outer s H E hr
    refine ⟨t, ht, sw ds _ hR ⟨fun _ => False, G, H⟩ _ G H _ ?_ ?_⟩
    · obtain ⟨h1, h2⟩ := sl_start (N := N) (argOk_datas hd)
      exact ⟨h1, h2, e, fun b z => (by cases z), fun b z => (by cases z), fun p ds z => (by simp at z), List.nodup_nil, Evl.Ex.refl _, fun a o _ h => h, fun a o h => ⟨o, h⟩, fun _ _ _ => rfl⟩
    · have fin : ∀ (v : V) (d : PyData) (G' H' : Hp), Cfg K ⟨fun _ => False, G, H⟩ none [] [] [] G' H' → Dp K G' v d → (∀ v G' H', Ex G G' → Ex G' H' → Ex H H' → (∀ a o, H a = some o → G' a = G a) → Dp K G' v d → Q v H') → Q v H' := fun v d G' H' c hv q =>
        q v G' H' c.e0 c.ex (fun a o h => c.h0 a o (fun z => z) h) c.g0 hv
      exact ⟨fun Z O σ G' H' c q => fin _ _ _ _ c.forget .non q, fun v d G' H' c hv q => fin _ _ _ _ c hv q, fun _ _ _ _ _ _ z => z.elim, fun _ _ _ _ _ _ z => z.elim⟩
/-- a def whose first argument is the box -/
theorem fn_B (Fn : FunAt K mg x st ps) (S : FnScope N ps (defScope st)) (hl : ∀ ds Q, R ds Q → ds.length + 1 = ps.length)
    (hb : ∀ (f : Addr) (cdv : Value) (A : Around) (outer : List Env) (s : Shared) (H : Hp) (E : XK), Room k (A.deeper (envOfC x (defScope st) s.heap.objs.size f cdv)) →
      ∃ t, PSs (cxOf CX0 P w K mg base N x (defScope st) f cdv A outer s H E).nox (defBody st) t ∧ ∀ b ds Q, R ds Q → SW K (some b) t (Z0 N (.v (.ref b) :: ds.map .d)) [] { nx := fun _ _ => Q .none, rt := Q }) :
    Def P w K mg base x (k + 1) ps (spB K R) := by
  obtain ⟨f, fd, hf, hm, hbd⟩ := Fn.ex
  refine ⟨f, fd, hm, hf.kp, hbd, hf.ok S (fun vs H Q E h => ?_) fun cdv A outer s H vs Q E hr h => ?_⟩
  · obtain ⟨b, us, G, ds, ev, _, _, hd, hR⟩ := h
    rw [ev, List.length_cons, dpa_len hd, hl _ _ hR]
  · obtain ⟨b, us, G, ds, ev, e, bx, hd, hR⟩ := h
    subst ev
    obtain ⟨t, ht, sw⟩ := hb f cdv A outer s H E hr
    refine ⟨t, ht, sw b ds _ hR ⟨fun a => a = b, G, H⟩ _ G H _ ?_ ?_⟩
    · obtain ⟨h1, h2⟩ := sl_start (N := N) (ks := .v (.ref b) :: ds.map .d) (vs := .ref b :: us) ⟨rfl, argOk_datas hd⟩
      exact ⟨h1, h2, e, fun b' z => (by cases z; exact bx), fun b' z => (by cases z; exact .inl rfl), fun p ds z => (by simp at z), List.nodup_nil, Evl.Ex.refl _, fun a o _ h => h, fun a o h => ⟨o, h⟩, fun _ _ _ => rfl⟩
    · have fin : ∀ (v : V) (d : PyData) (G' H' : Hp), Cfg K ⟨fun a => a = b, G, H⟩ (some b) [] [] [] G' H' → Dp K G' v d → (∀ v G' H', Ex G G' → Ex G' H' → (∀ a o, a ≠ b → H a = some o → H' a = some o) → (∀ a o, H a = some o → G' a = G a) → BoxOk K b G' H' → Dp K G' v d → Q v H') → Q v H' := fun v d G' H' c hv q =>
        q v G' H' c.e0 c.ex (fun a o z h => c.h0 a o z h) c.g0 (c.box b rfl) hv
      exact ⟨fun Z O σ G' H' c q => fin _ _ _ _ c.forget .non q, fun v d G' H' c hv q => fin _ _ _ _ c hv q, fun _ _ _ _ _ _ z => z.elim, fun _ _ _ _ _ _ z => z.elim⟩
theorem Def.mono {sp : Sp} {j : Nat} (d : Def P w K mg base x k ps sp) (h : k ≤ j) : Def P w K mg base x j ps sp := by
  obtain ⟨f, fd, h1, h2, h3, h4⟩ := d.ex
  exact ⟨f, fd, h1, h2, h3, h4.mono h⟩
end

/-! ### built-ins by data -/
section
variable {K : PySem.W.Frag} {s : Option Addr} {Z : List Sk} {O : Own} {P : PyData → Prop} {PL : List PyData → Prop} {ta tr : TA}
theorem nc1 {r : List V → Hp → VK → Prop} {d z : PyData} (h : ∀ v G H (Q : VK), Ex G H → Dp K G v d → (∀ u, Dp K G u z → Q u H) → r [v] H Q) : NCall K r [.d d] z := fun vs G H Q e ha q => by
  match vs, ha with
  | [v], ⟨⟨_, ev, hv⟩, _⟩ =>
    cases ev
    exact h v G H Q e hv q
def lenD : PyData → Option Nat
  | .str y => if y.length ≤ sizeLine then some y.length else none
  | .list ds => some ds.length
  | .tuple ds => some ds.length
  | _ => none
theorem nc_len {d : PyData} {n : Nat} (h : lenD d = some n) : NCall K (fun xs H Q => ∃ x n, xs = [x] ∧ LenV K x H n ∧ Q (.int n) H) [.d d] (.int n) := nc1 fun v G H Q e hv q => by
  refine ⟨v, n, rfl, ?_, q _ (.int _)⟩
  cases hv with
  | str y =>
    simp only [lenD] at h
    split at h
    · rename_i hy
      cases h
      exact ⟨hy, rfl⟩
    · cases h
  | lst hs ha =>
    cases h
    exact .inl ⟨_, Evl.ex_l e hs, (dpa_len ha).symm⟩
  | tup hs ha =>
    cases h
    exact .inr ⟨_, Evl.ex_t e hs, (dpa_len ha).symm⟩
  | non => cases h
  | bl b => cases h
  | int i => cases h
theorem nc_abs {i : Int} : NCall K (fun xs H Q => ∃ i, xs = [.int i] ∧ Q (.int (if i < 0 then -i else i)) H) [.d (.int i)] (.int (if i < 0 then -i else i)) := nc1 fun v G H Q e hv q => by
  cases hv
  exact ⟨i, rfl, q _ (.int _)⟩
theorem nc_int {i : Int} : NCall K (fun xs H Q => (∃ i, xs = [.int i] ∧ Q (.int i) H) ∨ ∃ k, xs = [.bl k] ∧ Q (.int (if k then 1 else 0)) H) [.d (.int i)] (.int i) := nc1 fun v G H Q e hv q => by
  cases hv
  exact .inl ⟨i, rfl, q _ (.int _)⟩
theorem nc_intb {b : Bool} : NCall K (fun xs H Q => (∃ i, xs = [.int i] ∧ Q (.int i) H) ∨ ∃ k, xs = [.bl k] ∧ Q (.int (if k then 1 else 0)) H) [.d (.bool b)] (.int (if b then 1 else 0)) := nc1 fun v G H Q e hv q => by
  cases hv
  exact .inr ⟨b, rfl, q _ (.int _)⟩
theorem dpa_bools {G : Hp} : ∀ {bs : List Bool} {vs : List V}, DpAll K G vs (bs.map PyData.bool) → vs = bs.map V.bl
  | [], _, .nil => rfl
  | b :: bs, _, .cons a t => by
    cases a
    rw [dpa_bools t]
    rfl
theorem nc_all {bs : List Bool} : NCall K (rAll K) [.d (.list (bs.map .bool))] (.bool (bs.all id)) := nc1 fun v G H Q e hv q => by
  cases hv with
  | lst hs ha =>
    rw [dpa_bools ha] at hs
    exact ⟨_, bs, rfl, Evl.ex_l e hs, q _ (.bl _)⟩
theorem nc_any {bs : List Bool} : NCall K (rAny K) [.d (.list (bs.map .bool))] (.bool (bs.any id)) := nc1 fun v G H Q e hv q => by
  cases hv with
  | lst hs ha =>
    rw [dpa_bools ha] at hs
    exact ⟨_, bs, rfl, Evl.ex_l e hs, q _ (.bl _)⟩
theorem nc_sum {ns : List Int} : NCall K (rSum K) [.d (.list (ns.map .int))] (.int ns.sum) := nc1 fun v G H Q e hv q => by
  cases hv with
  | lst hs ha =>
    rw [dpa_ints_inv ha] at hs
    exact ⟨_, ns, rfl, Evl.ex_l e hs, q _ (.int _)⟩
/-- tuple(xs) -/
theorem we_tuple (h : WA K s tr Z O fun ks => ∃ ds, (ks = [.d (.list ds)] ∨ ks = [.d (.tuple ds)]) ∧ P (.tuple ds)) :
    WE K s (tCB (fun xs H Q => ∃ p ys, xs = [.ref p] ∧ ((SqL K H p ys ∧ ∀ l, H l = none → Q (.ref l) (upd H l (.tup ys))) ∨ (SqT K H p ys ∧ Q (.ref p) H))) tr) Z O P := fun F σ G H c Q q =>
  h F σ G H c _ fun vs ks G1 H1 c1 e1 ha ⟨ds, ek, p⟩ => by
    rcases ek with ek | ek
    · subst ek
      match vs, ha with
      | [v], ⟨⟨_, ev, hv⟩, _⟩ =>
        cases ev
        cases hv with
        | @lst a ys _ hs ha =>
          refine ⟨a, ys, rfl, .inl ⟨Evl.ex_l c1.ex hs, fun l hl => ?_⟩⟩
          obtain ⟨c2, e2⟩ := c1.new (o := .tup ys) hl
          exact q (.ref l) _ _ _ c2 (e1.trans e2) (.tup (.inl (.inl upd_same)) (dpa_mono e2 ds ys ha)) p
    · subst ek
      match vs, ha with
      | [v], ⟨⟨_, ev, hv⟩, _⟩ =>
        cases ev
        cases hv with
        | @tup a ys _ hs ha => exact ⟨a, ys, rfl, .inr ⟨Evl.ex_t c1.ex hs, q (.ref a) _ G1 H1 c1 e1 (.tup hs ha) p⟩⟩
/-- list(xs) -/
theorem wl_list (h : WA K s tr Z O fun ks => ∃ ds, (ks = [.d (.list ds)] ∨ ks = [.d (.tuple ds)]) ∧ PL ds) :
    WL K s (tCB (fun xs H Q => ∃ p ys, xs = [.ref p] ∧ (SqL K H p ys ∨ SqT K H p ys) ∧ ∀ l, H l = none → Q (.ref l) (upd H l (.lst ys))) tr) Z O PL := fun F σ G H c Q q =>
  h F σ G H c _ fun vs ks G1 H1 c1 e1 ha ⟨ds, ek, p⟩ => by
    rcases ek with ek | ek
    · subst ek
      match vs, ha with
      | [v], ⟨⟨_, ev, hv⟩, _⟩ =>
        cases ev
        cases hv with
        | @lst a ys _ hs ha => exact ⟨a, ys, rfl, .inl (Evl.ex_l c1.ex hs), fun l hl => q l ds G1 _ (c1.newOwn hl ha) e1 p⟩
    · subst ek
      match vs, ha with
      | [v], ⟨⟨_, ev, hv⟩, _⟩ =>
        cases ev
        cases hv with
        | @tup a ys _ hs ha => exact ⟨a, ys, rfl, .inr (Evl.ex_t c1.ex hs), fun l hl => q l ds G1 _ (c1.newOwn hl ha) e1 p⟩
theorem we_listB (h : WA K s tr Z O fun ks => ∃ ds, (ks = [.d (.list ds)] ∨ ks = [.d (.tuple ds)]) ∧ P (.list ds)) :
    WE K s (tCB (fun xs H Q => ∃ p ys, xs = [.ref p] ∧ (SqL K H p ys ∨ SqT K H p ys) ∧ ∀ l, H l = none → Q (.ref l) (upd H l (.lst ys))) tr) Z O P := we_of (wl_list h)
/-! isinstance -/
def tyD : PyData → String
  | .none => "NoneType" | .bool _ => "bool" | .int _ => "int" | .str _ => "str" | .list _ => "list" | .tuple _ => "tuple" | .dict _ => "dict"
def isTy (t T : String) : Bool := (t == T) || (T == "int" && t == "bool")
def isD (d : PyData) (T : String) : Bool := isTy (tyD d) T
theorem kit_all {T : String} (hT : T = "list" ∨ T = "tuple" ∨ T = "int" ∨ T = "bool" ∨ T = "str") :
    kitB "NoneType" T = some (isTy "NoneType" T) ∧ kitB "bool" T = some (isTy "bool" T) ∧ kitB "int" T = some (isTy "int" T) ∧ kitB "str" T = some (isTy "str" T) ∧ kitB "list" T = some (isTy "list" T) ∧ kitB "tuple" T = some (isTy "tuple" T) := by
  rcases hT with h | h | h | h | h <;> subst h <;> decide +kernel
theorem seqL_ty {H : Hp} {a : Addr} {xs : List V} (h : SqL K H a xs) : TyX K H (.ref a) (.type "list") := by
  rcases h with (h | ⟨o, h⟩) | ⟨o, its, n, h, hc, _⟩
  · exact .base (.lst h)
  · exact .base (.frz h)
  · exact .kList h hc
theorem seqT_ty {H : Hp} {a : Addr} {xs : List V} (h : SqT K H a xs) : TyX K H (.ref a) (.type "tuple") := by
  rcases h with (h | ⟨o, h⟩) | ⟨o, its, n, h, hc, _⟩
  · exact .base (.tup h)
  · exact .fTuple h
  · exact .kTuple h hc
theorem nc_isi {d : PyData} {T : String} (hT : T = "list" ∨ T = "tuple" ∨ T = "int" ∨ T = "bool" ∨ T = "str") : NCall K (rIsi K) [.d d, .v (.ty T)] (.bool (isD d T)) := fun vs G H Q e ha q => by
  match vs, ha with
  | [v, w], ⟨⟨_, ev, hv⟩, ew, _⟩ =>
    cases ev
    have ew : some w = some (.ty T) := ew
    cases ew
    cases hv with
    | non => exact ⟨_, _, _, _, isD .none T, rfl, .ty T, .base .non, kit_ty (kit_all hT).1, q _ (.bl _)⟩
    | bl b => exact ⟨_, _, _, _, isD (.bool b) T, rfl, .ty T, .base (.bl b), kit_ty (kit_all hT).2.1, q _ (.bl _)⟩
    | int b => exact ⟨_, _, _, _, isD (.int b) T, rfl, .ty T, .base (.int b), kit_ty (kit_all hT).2.2.1, q _ (.bl _)⟩
    | str b => exact ⟨_, _, _, _, isD (.str b) T, rfl, .ty T, .base (.str b), kit_ty (kit_all hT).2.2.2.1, q _ (.bl _)⟩
    | @lst a xs ds hs ha => exact ⟨_, _, _, _, isD (.list ds) T, rfl, .ty T, seqL_ty (Evl.ex_l e hs), kit_ty (kit_all hT).2.2.2.2.1, q _ (.bl _)⟩
    | @tup a xs ds hs ha => exact ⟨_, _, _, _, isD (.tuple ds) T, rfl, .ty T, seqT_ty (Evl.ex_t e hs), kit_ty (kit_all hT).2.2.2.2.2, q _ (.bl _)⟩
end

/-! ### the rules with the written part named (within a comprehension no term may hang on the block) -/
section
variable {X : Cx} {K : PySem.W.Frag}
theorem ix_seqK (h : X.K = K) : IxR X (rIx K) := h ▸ ix_seq
theorem op_eqDK (h : X.K = K) (hu : X.A.units + 64 < cLine) : OpR X (compareOp .Eq) (rEqD K) := h ▸ op_eqD hu
theorem op_neDK (h : X.K = K) (hu : X.A.units + 64 < cLine) : OpR X (compareOp .NotEq) (rNeD K) := h ▸ op_neD hu
theorem call_lenK (h : X.K = K) : CallR X (.builtin "len") (fun xs H Q => ∃ x n, xs = [x] ∧ LenV K x H n ∧ Q (.int n) H) := h ▸ call_len
theorem call_isiKK (h : X.K = K) : CallR X (.builtin "isinstance") (rIsi K) := h ▸ call_isi
theorem cr_allK (h : X.K = K) (hc : X.calm = true) : CallR X (.builtin "all") (rAll K) := h ▸ cr_all hc
theorem cr_anyK (h : X.K = K) (hc : X.calm = true) : CallR X (.builtin "any") (rAny K) := h ▸ cr_any hc
theorem cr_sumK (h : X.K = K) (hc : X.calm = true) : CallR X (.builtin "sum") (rSum K) := h ▸ cr_sum hc
theorem call_tuple_ofK (h : X.K = K) : CallR X (.type "tuple") (fun xs H Q => ∃ p ys, xs = [.ref p] ∧ ((SqL K H p ys ∧ ∀ l, H l = none → Q (.ref l) (upd H l (.tup ys))) ∨ (SqT K H p ys ∧ Q (.ref p) H))) := h ▸ call_tuple_of
theorem call_list_ofK (h : X.K = K) : CallR X (.type "list") (fun xs H Q => ∃ p ys, xs = [.ref p] ∧ (SqL K H p ys ∨ SqT K H p ys) ∧ ∀ l, H l = none → Q (.ref l) (upd H l (.lst ys))) := h ▸ call_list_of
theorem pi_listK {tg e : Expr} {t : TE} (h : X.K = K) (he : PE X e t) : PI X tg e (iList K t) := h ▸ pi_list he
theorem pi_tupK {tg e : Expr} {t : TE} (h : X.K = K) (he : PE X e t) : PI X tg e (iTup K t) := h ▸ pi_tup he
end
end DL

/-! DLx: the law's own drawing: _law_box, _law_take by their readings. -/
namespace DL
open PySem PySem.Spec PyProof.Rows L2
open Evl (Ex)

theorem mulS {i j : Int} (ha : i.natAbs < 2 ^ 250) (hb : j.natAbs < 2 ^ 250) : CMulW i j := wide_mul ha hb (by decide) (by decide) (by decide)
theorem divS {i j : Int} (h : 0 < j) (hb : j.natAbs < 2 ^ 250) : CDivW i j := wide_div h hb (by decide) (by decide)

/-! ### readings that leave the heap -/
def RE (te : TE) (σ : L2.St) (H : Hp) (v : V) : Prop := ∀ Q : VK, Q v H → te σ H Q
def RT (tt : TT) (σ : L2.St) (H : Hp) (b : Bool) : Prop := ∀ Q : Bool → Hp → Prop, Q b H → tt σ H Q
section
variable {K : PySem.W.Frag} {σ : L2.St} {H : Hp} {ta tb te : TE} {x y z v : V} {t u : TT}
theorem re_var {i : Nat} (h : σ[i]? = some (some v)) : RE (tVar i) σ H v := fun Q q => ⟨v, h, q⟩
theorem re_c : RE (tC v) σ H v := fun Q q => q
theorem re_I {f : Int → Int → Int} {i j : Int} (ha : RE ta σ H (.int i)) (hb : RE tb σ H (.int j)) : RE (tOp (rI0 fun i j => .int (f i j)) ta tb) σ H (.int (f i j)) := fun Q q => ha _ (hb _ ⟨i, j, rfl, rfl, q⟩)
theorem re_B {f : Int → Int → Bool} {i j : Int} (ha : RE ta σ H (.int i)) (hb : RE tb σ H (.int j)) : RE (tOp (rI0 fun i j => .bl (f i j)) ta tb) σ H (.bl (f i j)) := fun Q q => ha _ (hb _ ⟨i, j, rfl, rfl, q⟩)
theorem re_C {C : Int → Int → Prop} {f : Int → Int → Int} {i j : Int} (ha : RE ta σ H (.int i)) (hb : RE tb σ H (.int j)) (hc : C i j) : RE (tOp (rI C fun i j => .int (f i j)) ta tb) σ H (.int (f i j)) := fun Q q => ha _ (hb _ ⟨i, j, rfl, rfl, hc, q⟩)
theorem re_eq {i j : Int} (ha : RE ta σ H (.int i)) (hb : RE tb σ H (.int j)) : RE (tOp (rEqD K) ta tb) σ H (.bl (PyData.eqv (.int i) (.int j))) := fun Q q => ha _ (hb _ ⟨.int i, .int j, .int i, .int j, rfl, rfl, q⟩)
theorem re_ix {p : Addr} {xs : List V} {i : Int} (ha : RE ta σ H (.ref p)) (hs : SqL K H p xs) (hb : RE tb σ H (.int i)) (h : atI xs i = some v) : RE (tOp (rIx K) ta tb) σ H v := fun Q q => ha _ (hb _ (.inl ⟨p, xs, i, v, rfl, rfl, hs, h, q⟩))
theorem re_len {p : Addr} {xs : List V} (ha : RE ta σ H (.ref p)) (hs : SqL K H p xs) : RE (tCB (fun xs H Q => ∃ x n, xs = [x] ∧ LenV K x H n ∧ Q (.int n) H) (tCons ta tNil)) σ H (.int xs.length) := fun Q q => ha _ ⟨_, _, rfl, .inl ⟨xs, hs, rfl⟩, q⟩
theorem rt_test {b : Bool} (h : RE te σ H (.bl b)) : RT (tTest te) σ H b := fun Q q => h _ ⟨b, rfl, q⟩
theorem rt_and {a b : Bool} (h1 : RT t σ H a) (h2 : RT u σ H b) : RT (tAnd t u) σ H (a && b) := fun Q q => h1 _ (by
  cases a with
  | true => exact h2 _ q
  | false => exact q)
theorem rs_if {tt : TT} {t u : TS} {D : Ends} {b : Bool} (h : RT tt σ H b) (h1 : b = true → t D σ H) (h2 : b = false → u D σ H) : tIfS tt t u D σ H := h _ (by
  cases b with
  | true => exact h1 rfl
  | false => exact h2 rfl)
theorem rs_asg {D : Ends} {i : Nat} (h : RE te σ H v) (k : D.nx (σ.set i (some v)) H) : tAsg te (gName i) D σ H := h _ k
theorem rs_set {D : Ends} {p : Addr} {xs : List V} {i : Int} {j : Nat} (h : RE te σ H v) (ha : RE ta σ H (.ref p)) (hb : RE tb σ H (.int i)) (hp : H p = some (.lst xs)) (hj : ixN xs.length i = some j) (k : D.nx σ (upd H p (.lst (xs.set j v)))) :
    tAsg te (gSub ta tb rSetL) D σ H := h _ (ha _ (hb _ ⟨p, xs, i, j, rfl, rfl, hp, hj, k⟩))
theorem rs_ret {D : Ends} (h : RE te σ H v) (k : D.rt v H) : tRet te D σ H := h _ k
theorem seq_tail {t u : TS} {D : Ends} (M : L2.St → Hp → Prop) (tail : ∀ σ' H', M σ' H' → u D σ' H') (main : ∀ N : L2.St → Hp → Prop, (∀ σ' H', M σ' H' → N σ' H') → t { D with nx := N } σ H) : tSeq t u D σ H := main (u D) tail
theorem rs_seq {t u : TS} {D : Ends} (h : t { D with nx := u D } σ H) : tSeq t u D σ H := h
end

/-! ### _law_take -/
def R_take (ds : List PyData) (P : PyData → Prop) : Prop := ∃ m : Int, ds = [.int m] ∧ 0 < m ∧ m < 2 ^ 250 ∧ ∀ r : Int, 0 ≤ r → r < m → P (.int r)
theorem R_take_mono : ∀ ds P Q, (∀ d, P d → Q d) → R_take ds P → R_take ds Q := fun _ _ _ h ⟨m, e, h1, h2, k⟩ => ⟨m, e, h1, h2, fun r a b => h _ (k r a b)⟩
structure TkTxt (mg : Str → Option Value) : Prop where
  len : mg "len" = none

abbrev tIx (K : PySem.W.Frag) (k : Int) : TE := tOp (rIx K) (tVar 0) (tC (.int k))
theorem atI4 {a b c d : V} : atI [a, b, c, d] 0 = some a ∧ atI [a, b, c, d] 1 = some b ∧ atI [a, b, c, d] 2 = some c ∧ atI [a, b, c, d] 3 = some d := ⟨rfl, rfl, rfl, rfl⟩

/-! ### arguments that are all data -/
section
variable {K : PySem.W.Frag} {s : Option Addr} {Z : List Sk} {O : Own} {P : PyData → Prop} {PD PL : List PyData → Prop} {ta te : TE} {tr : TA} {R : List PyData → (PyData → Prop) → Prop} {E : XK}
theorem wa_imp {PA PA' : List Sk → Prop} (h : WA K s tr Z O PA') (k : ∀ d, PA' d → PA d) : WA K s tr Z O PA := fun F σ G H c Q q => h F σ G H c Q fun v d G' H' c' e hd hp => q v d G' H' c' e hd (k d hp)
def WD (K : PySem.W.Frag) (s : Option Addr) (ta : TA) (Z : List Sk) (O : Own) (P : List PyData → Prop) : Prop := WA K s ta Z O fun ks => ∃ ds, datas ks = some ds ∧ P ds
theorem wd_nil (p : PD []) : WD K s tNil Z O PD := wa_nil ⟨[], rfl, p⟩
theorem wd_cons (h : WE K s ta Z O fun x => WD K s tr Z O fun ds => PD (x :: ds)) : WD K s (tCons ta tr) Z O PD :=
  wa_cons (we_imp h fun x hx => wa_imp hx fun ks ⟨ds, e, p⟩ => ⟨x :: ds, by
    show (datas ks).map (x :: ·) = _
    rw [e]
    rfl, p⟩)
theorem we_tupD (h : WD K s tr Z O fun ds => Nat.ble ds.length 100000 = true ∧ P (.tuple ds)) : WE K s (tTup tr) Z O P :=
  we_tup (wa_imp h fun ks ⟨ds, e, hl, p⟩ => ⟨ds, e, Nat.le_of_ble_eq_true hl, p⟩)
theorem wl_lstD (h : WD K s tr Z O fun ds => Nat.ble ds.length 100000 = true ∧ PL ds) : WL K s (tLst tr) Z O PL :=
  wl_lst (wa_imp h fun ks ⟨ds, e, hl, p⟩ => ⟨ds, e, Nat.le_of_ble_eq_true hl, p⟩)
theorem we_lstD (h : WD K s tr Z O fun ds => Nat.ble ds.length 100000 = true ∧ P (.list ds)) : WE K s (tLst tr) Z O P := we_of (wl_lstD h)
/-- a contract grows with what is wanted -/
class MonoR (R : List PyData → (PyData → Prop) → Prop) : Prop where
  mono : ∀ ds P Q, (∀ d, P d → Q d) → R ds P → R ds Q
theorem we_callP [m : MonoR R] (h : WD K s tr Z O fun ds => R ds P) : WE K s (tCall (spP K R) [] E tr) Z O P :=
  we_call (wa_imp h fun ks ⟨ds, e, p⟩ => ⟨ds, e, p⟩) m.mono
theorem we_callX [m : MonoR R] {b : Addr} {i : Nat} (hi : Z[i]? = some (.v (.ref b))) (h : WD K (some b) tr Z O fun ds => R ds P) : WE K (some b) (tCall (spB K R) [] E (tCons (tVar i) tr)) Z O P :=
  we_callB (wa_raw hi (wa_imp h fun ks ⟨ds, e, p⟩ => ⟨ks, ds, rfl, e, p⟩)) m.mono
instance : MonoR R_take := ⟨R_take_mono⟩
end
theorem mono_ex {α : Type} {A B : α → Prop} (h : ∀ x, A x → B x) : (∃ x, A x) → ∃ x, B x := fun ⟨x, a⟩ => ⟨x, h x a⟩
theorem mono_and {a b b' : Prop} (h : b → b') : a ∧ b → a ∧ b' := fun ⟨x, y⟩ => ⟨x, h y⟩
theorem mono_imp {a b b' : Prop} (h : b → b') : (a → b) → a → b' := fun f x => h (f x)
theorem mono_all {α : Type} {A B : α → Prop} (h : ∀ x, A x → B x) : (∀ x, A x) → ∀ x, B x := fun f x => h x (f x)

/-! ### a target that stores a block's own names alone -/
def Ow (g : TG) (vs : List Nat) : Prop := ∀ x σ H (Q Q' : L2.St → Hp → Prop), (∀ σ2 H2, wipe σ2 vs = wipe σ vs → Q σ2 H2 → Q' σ2 H2) → g x σ H Q → g x σ H Q'
def Ows (g : TGs) (vs : List Nat) : Prop := ∀ x σ H (Q Q' : L2.St → Hp → Prop), (∀ σ2 H2, wipe σ2 vs = wipe σ vs → Q σ2 H2 → Q' σ2 H2) → g x σ H Q → g x σ H Q'
theorem wipe_at : ∀ (vs : List Nat) (σ : L2.St) (i : Nat), (wipe σ vs)[i]? = if i ∈ vs ∧ i < σ.length then some none else σ[i]?
  | [], σ, i => by simp [wipe]
  | v :: vs, σ, i => by
    show ((wipe σ vs).set v none)[i]? = _
    rw [List.getElem?_set, wipe_at vs σ i, wipe_length]
    by_cases h : v = i
    · subst h
      by_cases h2 : v < σ.length
      · simp [h2]
      · simp [h2]
    · have h' : i ≠ v := fun z => h z.symm
      simp [h, h']
theorem wipe_set {vs : List Nat} {σ : L2.St} {i : Nat} {x : Option V} (h : i ∈ vs) : wipe (σ.set i x) vs = wipe σ vs := by
  apply List.ext_getElem?
  intro j
  rw [wipe_at, wipe_at, List.length_set, List.getElem?_set]
  by_cases hj : i = j
  · subst hj
    by_cases h2 : i < σ.length
    · simp [h, h2]
    · simp [h, h2]
  · simp [hj]
theorem wipe_wipe {vs : List Nat} {σ : L2.St} : wipe (wipe σ vs) vs = wipe σ vs := by
  apply List.ext_getElem?
  intro j
  rw [wipe_at, wipe_length, wipe_at]
  split <;> rfl
theorem ow_name {i : Nat} {vs : List Nat} (h : i ∈ vs) : Ow (gName i) vs := fun x σ H Q Q' k q => k _ _ (wipe_set h) q
theorem ows_nil {vs : List Nat} : Ows gNil vs := fun x σ H Q Q' k ⟨e, q⟩ => ⟨e, k _ _ rfl q⟩
theorem ows_cons {g : TG} {u : TGs} {vs : List Nat} (hg : Ow g vs) (hu : Ows u vs) : Ows (gCons g u) vs := fun x σ H Q Q' k ⟨v, r, e, q⟩ =>
  ⟨v, r, e, hg v σ H _ _ (fun σ1 H1 e1 q1 => hu r σ1 H1 _ _ (fun σ2 H2 e2 q2 => k σ2 H2 (e2.trans e1) q2) q1) q⟩
theorem ow_tup {K : PySem.W.Frag} {n : Nat} {u : TGs} {vs : List Nat} (hu : Ows u vs) : Ow (gTup K n u) vs := fun x σ H Q Q' k ⟨a, xs, e, h, hl, q⟩ => ⟨a, xs, e, h, hl, hu xs σ H _ _ k q⟩
section
variable {K : PySem.W.Frag} {s : Option Addr} {Z : List Sk} {O : Own} {P : PyData → Prop}
theorem wl_comp {wi : TI} {g : TG} {tt : TT} {te : TE} {vs : List Nat} {PL : List PyData → Prop} (og : Ow g vs) (I : Nat → List PyData → Prop) (n : Nat) (Yd : Nat → PyData → Prop) (hw : IW K s wi Z O fun n' Y' => n' = n ∧ Y' = Yd) (h0 : I 0 []) (hn : n ≤ 50000)
    (hil : ∀ i acc, I i acc → acc.length ≤ i)
    (hs : ∀ i d acc p, i < n → Yd i d → I i acc → GW K s g d (wipeZ Z vs) ((p, acc) :: O) fun Z2 O2 => O2 = (p, acc) :: O ∧ WT K s tt Z2 O2 fun b => if b = true then WE K s te Z2 O2 fun y => I (i + 1) (acc ++ [y]) else I (i + 1) acc)
    (hd : ∀ acc, I n acc → PL acc) : WL K s (tLc wi g tt te vs) Z O PL :=
  wl_lc I n Yd hw h0 hn hil (fun x σ H Q h => og x _ H _ _ (fun σ2 H2 e q => ⟨e.trans wipe_wipe, q (e.trans wipe_wipe)⟩) h) hs hd
/-- no test, each element by a function of the turn's datum: the list is told -/
theorem wl_map {wi : TI} {g : TG} {te : TE} {vs : List Nat} {PL : List PyData → Prop} (og : Ow g vs) (n : Nat) (Yd : Nat → PyData → Prop) (out : List PyData) (hw : IW K s wi Z O fun n' Y' => n' = n ∧ Y' = Yd) (hn : n ≤ 50000) (ho : out.length = n)
    (hs : ∀ i d y p acc, i < n → Yd i d → out[i]? = some y → GW K s g d (wipeZ Z vs) ((p, acc) :: O) fun Z2 O2 => O2 = (p, acc) :: O ∧ WE K s te Z2 O2 fun z => z = y)
    (hd : PL out) : WL K s (tLc wi g tYes te vs) Z O PL := by
  refine wl_comp og (fun i acc => acc = out.take i) n Yd hw rfl hn (fun i acc e => by rw [e, List.length_take]; omega) (fun i d acc p hi hy e => ?_) (fun acc e => ?_)
  · have hi2 : i < out.length := by omega
    have h1 : out[i]? = some out[i] := List.getElem?_eq_getElem hi2
    intro F v σ G H c hx Q q
    refine hs i d _ p acc hi hy h1 F v σ G H c hx Q fun Z' O' σ' G' H' c' e' ⟨eo, h2⟩ => q Z' O' σ' G' H' c' e' ⟨eo, ?_⟩
    intro F2 σ2 G2 H2 c2 Q2 q2
    refine q2 true G2 H2 c2 (Evl.Ex.refl _) ?_
    show if true = true then _ else _
    rw [if_pos rfl]
    refine we_imp h2 fun z hz => ?_
    rw [hz, e, List.take_succ, h1]
    rfl
  · have e2 : acc = out := by rw [e, ← ho, List.take_length]
    rw [e2]
    exact hd
end

section
variable {K : PySem.W.Frag} {s : Option Addr} {Z : List Sk} {O : Own} {PB : Bool → Prop} {t : TT} {te : TE} {P : PyData → Prop}
theorem wt_true (h : WT K s t Z O fun b => b = true) (k : PB true) : WT K s t Z O PB := wt_imp h fun b e => by
  subst e
  exact k
theorem wt_false (h : WT K s t Z O fun b => b = false) (k : PB false) : WT K s t Z O PB := wt_imp h fun b e => by
  subst e
  exact k
theorem wt_is {c : Bool} (h : WT K s t Z O fun b => b = c) (k : PB c) : WT K s t Z O PB := wt_imp h fun b e => by
  subst e
  exact k
theorem we_is {d : PyData} (h : WE K s te Z O fun x => x = d) (k : P d) : WE K s te Z O P := we_imp h fun b e => by
  subst e
  exact k
end

theorem wl_imp {K : PySem.W.Frag} {s : Option Addr} {Z : List Sk} {O : Own} {te : TE} {PL PL' : List PyData → Prop} (h : WL K s te Z O PL') (k : ∀ d, PL' d → PL d) : WL K s te Z O PL := fun F σ G H c Q q => h F σ G H c Q fun p ds G' H' c' e hp => q p ds G' H' c' e (k ds hp)

section
variable {K : PySem.W.Frag} {s : Option Addr} {Z : List Sk} {O : Own} {P : PyData → Prop} {ta tb tc : TE} {tr : TA}
theorem we_ixV {i : Nat} (h : WE K s (tVar i) Z O fun x => WE K s tb Z O fun y => ∃ i d, y = .int i ∧ ItemAt x i d ∧ P d) : WE K s (tOp (rIx K) (tVar i) tb) Z O P := we_ix h
theorem we_ixI (h : WE K s (tOp (rIx K) ta tc) Z O fun x => WE K s tb Z O fun y => ∃ i d, y = .int i ∧ ItemAt x i d ∧ P d) : WE K s (tOp (rIx K) (tOp (rIx K) ta tc) tb) Z O P := we_ix h
theorem we_ixC {sp : Sp} {dvs : List V} {E : XK} (h : WE K s (tCall sp dvs E tr) Z O fun x => WE K s tb Z O fun y => ∃ i d, y = .int i ∧ ItemAt x i d ∧ P d) : WE K s (tOp (rIx K) (tCall sp dvs E tr) tb) Z O P := we_ix h
/-- an item of a display by a drawn place: what holds of each -/
theorem we_pick (P' : PyData → Prop) (h : WE K s (tLst tr) Z O fun x => WE K s tb Z O fun y => ∃ i d, y = .int i ∧ ItemAt x i d ∧ P' d) (k : ∀ d, P' d → P d) : WE K s (tOp (rIx K) (tLst tr) tb) Z O P := we_imp (we_ix h) k
end

theorem wt_yes {K : PySem.W.Frag} {s : Option Addr} {Z : List Sk} {O : Own} {PB : Bool → Prop} (p : PB true) : WT K s tYes Z O PB := fun F σ G H c Q q => q true G H c (Evl.Ex.refl _) p
end DL

/-! DLm: more operators by data: stars in displays, slices, sums and multiples of lists and tuples, chains of comparisons. -/
namespace DL
open PySem PySem.Spec PyProof.Rows L2
open Evl (Ex)
section
variable {K : PySem.W.Frag} {F : Fb} {s : Option Addr} {Z : List Sk} {O : Own} {P : PyData → Prop} {PB : Bool → Prop} {PD PL : List PyData → Prop} {ta tb tc te : TE} {tr : TA} {σ : L2.St} {G H : Hp}
theorem Cfg.tail {p : Addr × List PyData} (c : Cfg K F s Z (p :: O) σ G H) : Cfg K F s Z O σ G H :=
  ⟨c.len, c.sl, c.ex, c.box, c.bxM, fun q ds h => c.own q ds (List.mem_cons_of_mem _ h), (List.nodup_cons.mp (by have := c.nd; rwa [List.map_cons] at this)).2, c.e0, c.h0, c.h1, c.g0⟩
/-- *e in a display -/
theorem wd_star (h : WE K s ta Z O fun x => ∃ ds, (x = .list ds ∨ x = .tuple ds) ∧ WD K s tr Z O fun es => PD (ds ++ es)) : WD K s (StX.tStar K ta tr) Z O PD := fun F σ G H c Q q =>
  h F σ G H c _ fun v x G1 H1 c1 e1 hx ⟨ds, ex, hp⟩ => by
    have dapp : ∀ {a : List Sk} {b : List PyData} (as : List PyData), datas a = some b → datas (as.map Sk.d ++ a) = some (as ++ b) := by
      intro a b as e
      induction as with
      | nil => exact e
      | cons y ys ih =>
        show (datas (ys.map Sk.d ++ a)).map (y :: ·) = _
        rw [ih]
        rfl
    have aapp : ∀ {G : Hp} {us vs : List V} {as : List PyData} {b : List Sk}, DpAll K G us as → ArgOk K G vs b → ArgOk K G (us ++ vs) (as.map Sk.d ++ b) := by
      intro G us vs as b h1 h2
      induction as generalizing us with
      | nil => cases h1; exact h2
      | cons y ys ih =>
        cases h1 with
        | cons q1 q2 => exact ⟨⟨_, rfl, q1⟩, ih q2⟩
    rcases ex with ex | ex <;> subst ex
    · cases hx with
      | @lst a vs _ hs ha =>
        refine ⟨a, vs, rfl, .inr (Evl.ex_l c1.ex hs), hp F σ G1 H1 c1 _ fun us ks G2 H2 c2 e2 hk ⟨es, he, p⟩ => ?_⟩
        exact q (vs ++ us) (ds.map Sk.d ++ ks) G2 H2 c2 (e1.trans e2) (aapp (dpa_mono e2 _ _ ha) hk) ⟨_, dapp ds he, p⟩
    · cases hx with
      | @tup a vs _ hs ha =>
        refine ⟨a, vs, rfl, .inl (Evl.ex_t c1.ex hs), hp F σ G1 H1 c1 _ fun us ks G2 H2 c2 e2 hk ⟨es, he, p⟩ => ?_⟩
        exact q (vs ++ us) (ds.map Sk.d ++ ks) G2 H2 c2 (e1.trans e2) (aapp (dpa_mono e2 _ _ ha) hk) ⟨_, dapp ds he, p⟩

/-! ### slices -/
def WO (K : PySem.W.Frag) (s : Option Addr) (to : TO) (Z : List Sk) (O : Own) (P : Option Int → Prop) : Prop :=
  ∀ (F : Fb) σ G H, Cfg K F s Z O σ G H → ∀ Q : Option Int → Hp → Prop, (∀ o G' H', Cfg K F s Z O σ G' H' → Ex G G' → P o → Q o H') → to σ H Q
theorem wo_no {PO : Option Int → Prop} (p : PO none) : WO K s tNoPart Z O PO := fun F σ G H c Q q => q none G H c (Evl.Ex.refl _) p
theorem wo_part {PO : Option Int → Prop} (h : WE K s te Z O fun x => ∃ i, x = .int i ∧ PO (some i)) : WO K s (tPart te) Z O PO := fun F σ G H c Q q =>
  h F σ G H c _ fun v x G1 H1 c1 e1 hx ⟨i, ex, p⟩ => by
    subst ex
    cases hx
    exact ⟨i, rfl, q _ G1 H1 c1 e1 p⟩
def sliceD (ds : List PyData) (lo hi : Option Int) : List PyData := (ds.drop (HT.sIx ds.length 0 lo)).take (HT.sIx ds.length ds.length hi - HT.sIx ds.length 0 lo)
theorem dpa_cut {vs : List V} {ds : List PyData} {lo hi : Option Int} (h : DpAll K G vs ds) : DpAll K G (cutV vs lo hi) (sliceD ds lo hi) := by
  unfold cutV sliceD
  rw [dpa_len h]
  exact dpa_take _ (dpa_drop _ h)
theorem wl_slice {tl th : TO} (h : WE K s ta Z O fun x => ∃ ds, x = .list ds ∧ WO K s tl Z O fun lo => WO K s th Z O fun hi => PL (sliceD ds lo hi)) : WL K s (tSl (rSlL K) ta tl th) Z O PL := fun F σ G H c Q q =>
  h F σ G H c _ fun v x G1 H1 c1 e1 hx ⟨ds, ex, hl⟩ => hl F σ G1 H1 c1 _ fun lo G2 H2 c2 e2 hh => hh F σ G2 H2 c2 _ fun hi G3 H3 c3 e3 p => by
    subst ex
    cases hx with
    | @lst a vs _ hs ha =>
      have e23 := e2.trans e3
      refine ⟨a, vs, rfl, Evl.ex_l (e23.trans c3.ex) hs, fun pp hp => q pp _ G3 _ (c3.newOwn hp (dpa_cut (dpa_mono e23 _ _ ha))) (e1.trans e23) p⟩
theorem we_slTup {tl th : TO} (h : WE K s ta Z O fun x => ∃ ds, x = .tuple ds ∧ WO K s tl Z O fun lo => WO K s th Z O fun hi => P (.tuple (sliceD ds lo hi))) : WE K s (tSl (rSlA K) ta tl th) Z O P := fun F σ G H c Q q =>
  h F σ G H c _ fun v x G1 H1 c1 e1 hx ⟨ds, ex, hl⟩ => hl F σ G1 H1 c1 _ fun lo G2 H2 c2 e2 hh => hh F σ G2 H2 c2 _ fun hi G3 H3 c3 e3 p => by
    subst ex
    cases hx with
    | @tup a vs _ hs ha =>
      have e23 := e2.trans e3
      have hs3 := Evl.ex_t e23 hs
      have ha3 := dpa_mono e23 _ _ ha
      refine ⟨a, vs, rfl, Evl.ex_t c3.ex hs3, fun hw => ?_, fun hw pp hp => ?_⟩
      · refine q (.ref a) _ G3 H3 c3 (e1.trans e23) ?_ p
        have e : sliceD ds lo hi = ds := by
          have hl := dpa_len ha
          unfold sliceD
          rw [← hl, hw.1, hw.2, List.drop_zero, Nat.sub_zero, hl, List.take_length]
        rw [e]
        exact .tup hs3 ha3
      · obtain ⟨c4, e4⟩ := c3.new (o := .tup (cutV vs lo hi)) hp
        exact q (.ref pp) _ _ _ c4 ((e1.trans e23).trans e4) (.tup (.inl (.inl upd_same)) (dpa_mono e4 _ _ (dpa_cut ha3))) p
theorem we_slStr {tl th : TO} (h : WE K s ta Z O fun x => ∃ z, x = .str z ∧ z.length ≤ 100000 ∧ WO K s tl Z O fun lo => WO K s th Z O fun hi => P (.str (cutS z lo hi))) : WE K s (tSl rSlS ta tl th) Z O P := fun F σ G H c Q q =>
  h F σ G H c _ fun v x G1 H1 c1 e1 hx ⟨z, ex, hz, hl⟩ => hl F σ G1 H1 c1 _ fun lo G2 H2 c2 e2 hh => hh F σ G2 H2 c2 _ fun hi G3 H3 c3 e3 p => by
    subst ex
    cases hx
    exact ⟨z, rfl, Evl.sz_of hz, q _ _ G3 H3 c3 ((e1.trans e2).trans e3) (.str _) p⟩

/-! ### sums and multiples -/
theorem wl_cat (h : WL K s ta Z O fun xs => ∀ p, WL K s tb Z ((p, xs) :: O) fun ys => xs.length + ys.length ≤ 100000 ∧ PL (xs ++ ys)) : WL K s (tOp rCat ta tb) Z O PL := fun F σ G H c Q q =>
  h F σ G H c _ fun p xs G1 H1 c1 e1 hp => hp p F σ G1 H1 c1 _ fun r ys G2 H2 c2 e2 ⟨hl, pl⟩ => by
    obtain ⟨_, _, _, us, u4, u5⟩ := c2.own r ys (List.mem_cons_self ..)
    obtain ⟨_, _, _, vs, v4, v5⟩ := c2.own p xs (List.mem_cons_of_mem _ (List.mem_cons_self ..))
    refine ⟨p, r, vs, us, rfl, rfl, v4, u4, Evl.sz_of (by rw [dpa_len u5, dpa_len v5]; exact hl), fun t ht => q t _ G2 _ (c2.tail.tail.newOwn ht (dpa_app v5 u5)) (e1.trans e2) pl⟩
theorem dpa_rep {vs : List V} {ds : List PyData} (h : DpAll K G vs ds) : ∀ n : Nat, DpAll K G (List.replicate n vs).flatten (List.replicate n ds).flatten
  | 0 => .nil
  | n + 1 => by
    rw [List.replicate_succ, List.replicate_succ, List.flatten_cons, List.flatten_cons]
    exact dpa_app h (dpa_rep h n)
theorem wl_rep (h : WL K s ta Z O fun xs => ∀ p, WE K s tb Z ((p, xs) :: O) fun y => ∃ k : Int, y = .int k ∧ -(2 ^ 62) ≤ k ∧ k < 2 ^ 62 ∧ xs.length * k.toNat ≤ 100000 ∧ PL (List.replicate k.toNat xs).flatten) : WL K s (tOp rRep ta tb) Z O PL := fun F σ G H c Q q =>
  h F σ G H c _ fun p xs G1 H1 c1 e1 hp => hp p F σ G1 H1 c1 _ fun w y G2 H2 c2 e2 hy ⟨k, ey, k1, k2, hl, pl⟩ => by
    subst ey
    cases hy
    obtain ⟨_, _, _, vs, v4, v5⟩ := c2.own p xs (List.mem_cons_self ..)
    refine ⟨p, k, vs, rfl, rfl, v4, by omega, by omega, Evl.sz_of (by rw [dpa_len v5]; exact hl), fun t ht => q t _ G2 _ (c2.tail.newOwn ht (dpa_rep v5 _)) (e1.trans e2) pl⟩
theorem we_catT (h : WE K s ta Z O fun x => WE K s tb Z O fun y => ∃ ds es, x = .tuple ds ∧ y = .tuple es ∧ ds.length + es.length ≤ 100000 ∧ P (.tuple (ds ++ es))) : WE K s (tOp (rCatA K) ta tb) Z O P := fun F σ G H c Q q =>
  h F σ G H c _ fun v x G1 H1 c1 e1 hx hp => hp F σ G1 H1 c1 _ fun w y G2 H2 c2 e2 hy ⟨ds, es, ex, ey, hl, p⟩ => by
    subst ex ey
    cases hx with
    | @tup a vs _ hs ha =>
      cases hy with
      | @tup b ws _ ht hb =>
        have ha2 := dpa_mono e2 _ _ ha
        have hs2 := Evl.ex_t e2 hs
        refine ⟨a, b, vs, ws, rfl, rfl, Evl.ex_t c2.ex hs2, Evl.ex_t c2.ex ht, Evl.sz_of (by rw [dpa_len ha, dpa_len hb]; exact hl), fun e => ?_, fun _ e => ?_, fun _ _ t hn => ?_⟩
        · subst e
          cases ha
          exact q _ _ G2 H2 c2 (e1.trans e2) (.tup ht hb) p
        · subst e
          cases hb
          rw [List.append_nil] at p
          exact q _ _ G2 H2 c2 (e1.trans e2) (.tup hs2 ha2) p
        · obtain ⟨c3, e3⟩ := c2.new (o := .tup (vs ++ ws)) hn
          exact q (.ref t) _ _ _ c3 ((e1.trans e2).trans e3) (.tup (.inl (.inl upd_same)) (dpa_mono e3 _ _ (dpa_app ha2 hb))) p

/-! ### a < b < c of ints -/
theorem we_chainI {f g : Int → Int → Bool} (h : WE K s ta Z O fun x => WE K s tb Z O fun y => ∃ i j, x = .int i ∧ y = .int j ∧ if f i j = true then WE K s tc Z O fun z => ∃ l, z = .int l ∧ P (.bool (g j l)) else P (.bool false)) :
    WE K s (tChain (rI0 fun i j => .bl (f i j)) (rI0 fun i j => .bl (g i j)) ta tb tc) Z O P := fun F σ G H c Q q =>
  h F σ G H c _ fun v x G1 H1 c1 e1 hx hp => hp F σ G1 H1 c1 _ fun w y G2 H2 c2 e2 hy ⟨i, j, ex, ey, p⟩ => by
    subst ex ey
    cases hx
    cases hy
    refine ⟨i, j, rfl, rfl, f i j, rfl, ?_⟩
    cases hf : f i j with
    | true =>
      rw [hf, if_pos rfl] at p
      rw [if_pos rfl]
      exact p F σ G2 H2 c2 _ fun u z G3 H3 c3 e3 hz ⟨l, ez, p3⟩ => by
        subst ez
        cases hz
        exact ⟨j, l, rfl, rfl, q _ _ G3 H3 c3 ((e1.trans e2).trans e3) (.bl _) p3⟩
    | false =>
      rw [hf, if_neg Bool.false_ne_true] at p
      rw [if_neg Bool.false_ne_true]
      exact q _ _ G2 H2 c2 (e1.trans e2) (.bl false) p
theorem nc_max {hc : True} {i j : Int} : NCall K (fun xs H Q => ∃ i j, xs = [.int i, .int j] ∧ Q (.int (if j > i then j else i)) H) [.d (.int i), .d (.int j)] (.int (if j > i then j else i)) := fun vs G H Q _ ha q => by
  match vs, ha with
  | [v, w], ⟨⟨_, e1, h1⟩, ⟨_, e2, h2⟩, _⟩ =>
    cases e1
    cases e2
    cases h1
    cases h2
    exact ⟨i, j, rfl, q _ (.int _)⟩
end
section
variable {X : Cx} {K : PySem.W.Frag}
theorem sl_listK (h : X.K = K) : SlR X (rSlL K) := h ▸ sl_list
theorem sl_tupK (h : X.K = K) : SlR X (rSlA K) := h ▸ sl_tupA
theorem op_catAK (h : X.K = K) : OpR X (binaryOp .Add) (rCatA K) := h ▸ op_catA
theorem pa_starK {e : Expr} {es : List Expr} {te : TE} {t : TA} {p : Pos} (h : X.K = K) (he : PE X e te) (hr : PA X es t) (hs : starEach (.Starred e p :: es) X.env = (true, eval e X.env) :: starEach es X.env := by rfl) : PA X (.Starred e p :: es) (StX.tStar K te t) := h ▸ StX.pa_star he hr hs
end
end DL

/-! DLz: zip of two sequences of any kinds (a list and a tuple, too). -/
namespace DL
open PySem PySem.Spec PyProof.Rows L2
open Evl (Ex)
/-- a list (false) or a tuple (true) that is read -/
def SqB (K : PySem.W.Frag) (b : Bool) (H : Hp) (a : Addr) (xs : List V) : Prop := match b with
  | false => SqL K H a xs
  | true => SqT K H a xs
/-- the place of its iterator -/
def ItAt (b : Bool) (h : Heap) (it a : Addr) (i : Nat) : Prop := match b with
  | false => h.IsListIter it a i
  | true => h.IsTupleIter it a i
def SeqIs (b : Bool) (h : Heap) (a : Addr) (its : Array Value) : Prop := match b with
  | false => h.IsList a its
  | true => h.IsTuple a its
theorem SqB.mono {K : PySem.W.Frag} {b : Bool} {H H' : Hp} {a : Addr} {xs : List V} (e : Ex H H') (h : SqB K b H a xs) : SqB K b H' a xs := by
  cases b with
  | false => exact Evl.ex_l e h
  | true => exact Evl.ex_t e h
theorem ItAt.at {b : Bool} {h h' : Heap} {it a : Addr} {i : Nat} (x : ItAt b h it a i) (k : ∀ o, h.get? it = some o → h'.get? it = some o) : ItAt b h' it a i := by
  cases b with
  | false => exact Heap.IsListIter.at x k
  | true => exact Heap.IsTupleIter.at x k
theorem ItAt.obj {b : Bool} {h : Heap} {it a : Addr} {i : Nat} (x : ItAt b h it a i) : ∃ o, h.get? it = some o ∧ ∀ v, o.data ≠ .cell v := by
  cases b with
  | false =>
    obtain ⟨o, e, _, d⟩ := x
    exact ⟨o, e, fun v z => by rw [d] at z; cases z⟩
  | true =>
    obtain ⟨o, e, _, d⟩ := x
    exact ⟨o, e, fun v z => by rw [d] at z; cases z⟩
theorem draws {prog : Program} {w : World} {A : Around} (b : Bool) (hh : A.handled = none) (it l : Addr) (hne : l ≠ it) (items : Array Value) :
    Draws prog w A it [it, l] items.size (fun i v => items[i]? = some v) (fun i h => ItAt b h it l i ∧ SeqIs b h l items) := by
  cases b with
  | false => exact Draws.list hh it l hne items
  | true => exact Draws.tuple hh it l hne items
theorem seq_inv {X : Cx} {pins : List (Addr × Obj)} {σ : L2.St} {H : Hp} {s : Shared} {b : Bool} {a : Addr} {xs : List V} (I : Inv X pins σ H s) (h : SqB X.K b H a xs) : ∃ its : List Value, Vals xs its ∧ SeqIs b s.heap a its.toArray ∧ a < s.heap.objs.size := by
  cases b with
  | false =>
    obtain ⟨its, r, p, _⟩ := I.list h
    exact ⟨its, r, p.isList, p.lt⟩
  | true =>
    obtain ⟨its, r, p, _⟩ := I.tuple h
    obtain ⟨o, ho, _⟩ := id p
    exact ⟨its, r, p, Heap.lt_size ho⟩
theorem begins {b : Bool} (a : Addr) (its : Array Value) : ∃ o, Begins (.ref a) o (fun h => SeqIs b h a its) ∧ ∀ h it, h.get? it = some o → ItAt b h it a 0 := by
  cases b with
  | false => exact ⟨_, begins_list a its, fun h it e => ⟨_, e, rfl, rfl⟩⟩
  | true => exact ⟨_, begins_tuple a its, fun h it e => ⟨_, e, rfl, rfl⟩⟩
/-- both, as they stand all along: a new pair at each turn -/
def ItzB (K : PySem.W.Frag) (b1 b2 : Bool) (a1 a2 : Addr) (xs ys : List V) : It :=
  ⟨fun i H => SqB K b1 H a1 xs ∧ SqB K b2 H a2 ys ∧ i < min xs.length ys.length,
    fun i H v H' => ∃ T x y, v = .ref T ∧ H T = none ∧ H' = upd H T (.tup [x, y]) ∧ xs[i]? = some x ∧ ys[i]? = some y,
    fun i H => SqB K b1 H a1 xs ∧ SqB K b2 H a2 ys ∧ i = min xs.length ys.length⟩
/-- the five cells of a zip that were made at N -/
abbrev zfp (N : Nat) : List Addr := [N + 4, N + 2, N + 3, N, N + 1]
theorem turn_zipB {P : Program} {w : World} {K : PySem.W.Frag} {elts : List Expr} {kk : Nat} {tpos : Pos} {b1 b2 : Bool} {a1 a2 : Addr} {xs ys : List V} {N : Nat} (l1 : a1 < N) (l2 : a2 < N) :
    Turn P w K (.Tuple elts kk tpos) (ItzB K b1 b2 a1 a2 xs ys) (zfp N) (N + 4 : Nat)
      (fun i h => IsZip h (N + 4 : Nat) (N + 2 : Nat) (N + 3 : Nat) .none ∧ IsTupOf2 h (N + 2 : Nat) (.ref N) (.ref (N + 1 : Nat)) ∧ (∃ x y, IsTupOf2 h (N + 3 : Nat) x y) ∧ ItAt b1 h N a1 i ∧ ItAt b2 h (N + 1 : Nat) a2 i) where
  mem := List.mem_cons_self ..
  obj := fun i h st c hc => by
    obtain ⟨hz, hTI, ⟨x, y, hTO⟩, h1, h2⟩ := st
    simp only [zfp, List.mem_cons, List.mem_nil_iff, or_false] at hc
    rcases hc with q | q | q | q | q
    · rw [q]; exact ⟨_, hz, fun v z => nomatch z⟩
    · rw [q]; exact ⟨_, hTI, fun v z => nomatch z⟩
    · rw [q]; exact ⟨_, hTO, fun v z => nomatch z⟩
    · rw [q]; exact h1.obj
    · rw [q]; exact h2.obj
  keep := fun i h h' st k => by
    obtain ⟨hz, hTI, ⟨x, y, hTO⟩, h1, h2⟩ := st
    exact ⟨k _ (by simp [zfp]) _ hz, k _ (by simp [zfp]) _ hTI, ⟨x, y, k _ (by simp [zfp]) _ hTO⟩, h1.at fun o q => k _ (by simp [zfp]) o q, h2.at fun o q => k _ (by simp [zfp]) o q⟩
  item := by
    intro X hP hw hK hc i pins s σ H E I hf st hg
    subst hP hw hK
    obtain ⟨hz, hTI, hTO, h1, h2⟩ := st
    obtain ⟨hqx, hqy, hi⟩ := hg
    obtain ⟨its1, r1, p1, _⟩ := seq_inv I hqx
    obtain ⟨its2, r2, p2, _⟩ := seq_inv I hqy
    have hh : X.A.in1.handled = none := I.ok.hd hc
    have S := zip_sep2 (N := N) (fp1 := [a1]) (fp2 := [a2]) (fun b hb => by rw [List.mem_singleton.mp hb]; exact l1) (fun b hb => by rw [List.mem_singleton.mp hb]; exact l2)
    have W := GoesN.zip2 (elts := elts) (x1 := kk) (pos := tpos) S (draws (prog := X.prog) (w := X.w) b1 hh N a1 (Nat.ne_of_lt l1) its1.toArray) (draws (prog := X.prog) (w := X.w) b2 hh (N + 1 : Nat) a2 (Nat.ne_of_lt (Nat.lt_succ_of_lt l2)) its2.toArray)
    have hn : i < min its1.toArray.size its2.toArray.size := by
      rw [List.size_toArray, List.size_toArray, ← r1.length, ← r2.length]
      exact hi
    have hgo := W.goes i s (fun u s2 => ∃ x H', Inv X pins σ H' s2 ∧ RelV x u ∧ (ItzB X.K b1 b2 a1 a2 xs ys).yld i H x H' ∧ (IsZip s2.heap (N + 4 : Nat) (N + 2 : Nat) (N + 3 : Nat) .none ∧ IsTupOf2 s2.heap (N + 2 : Nat) (.ref N) (.ref (N + 1 : Nat)) ∧ (∃ x y, IsTupOf2 s2.heap (N + 3 : Nat) x y) ∧ ItAt b1 s2.heap N a1 (i + 1) ∧ ItAt b2 s2.heap (N + 1 : Nat) a2 (i + 1)) ∧ ∀ b ∈ zfp N, H' b = none) E hn ⟨hz, hTI, hTO, ⟨h1, p1⟩, ⟨h2, p2⟩⟩ ?_
    · exact wpAny_mono hgo (fun r s1 q => q) fun _ _ e => e
    intro v h' tk hy st' hk htk
    obtain ⟨T, u1, u2, ev, hT, hu1, hu2, hTup⟩ := hy
    obtain ⟨hz', hTI', hTO', ⟨h1', _⟩, ⟨h2', _⟩⟩ := st'
    have e1 : xs[i]? = some xs[i] := List.getElem?_eq_getElem (by omega)
    have e2 : ys[i]? = some ys[i] := List.getElem?_eq_getElem (by omega)
    obtain ⟨w1, g1, rv1⟩ := r1.get e1
    obtain ⟨w2, g2, rv2⟩ := r2.get e2
    have f1 : w1 = u1 := by
      have : its1[i]? = some u1 := by simpa using hu1
      rw [g1] at this
      exact Option.some.inj this
    have f2 : w2 = u2 := by
      have : its2[i]? = some u2 := by simpa using hu2
      rw [g2] at this
      exact Option.some.inj this
    subst f1 f2
    have new : ObjOk X.prog X.w (upd H T (.tup [xs[i], ys[i]])) h' T (.tup [xs[i], ys[i]]) := by
      refine ⟨by show 2 ≤ sizeLine; decide, [w1, w2], .cons rv1 (.cons rv2 .nil), ?_⟩
      exact hTup
    have I1 := I.turnedNew (t' := tk) (ch := zfp N) (fun c o hb q => hk c o (fun z => hb (by
      simp only [List.mem_cons, List.mem_nil_iff, or_false] at z
      simp only [zfp, List.mem_cons, List.mem_nil_iff, or_false]
      rcases z with z | z | z | z <;> simp [z])) q) hf hT new
    refine ⟨.ref T, _, I1, ev, ⟨T, _, _, rfl, I.hok.fresh hT, rfl, e1, e2⟩, ⟨hz', hTI', hTO', h1', h2'⟩, fun c hcm => ?_⟩
    have hlt : c < s.heap.objs.size := by
      obtain ⟨x0, y0, hTO0⟩ := hTO
      obtain ⟨o1, q1, _⟩ := h1.obj
      obtain ⟨o2, q2, _⟩ := h2.obj
      simp only [zfp, List.mem_cons, List.mem_nil_iff, or_false] at hcm
      rcases hcm with q | q | q | q | q
      · rw [q]; exact Heap.lt_size hz
      · rw [q]; exact Heap.lt_size hTI
      · rw [q]; exact Heap.lt_size hTO0
      · rw [q]; exact Heap.lt_size q1
      · rw [q]; exact Heap.lt_size q2
    rw [upd_ne (Nat.ne_of_lt (Nat.lt_of_lt_of_le hlt hT))]
    exact (hf c hcm).1
  done := by
    intro X hP hw hK hc i pins s σ H E I hf st hg
    subst hP hw hK
    obtain ⟨hz, hTI, hTO, h1, h2⟩ := st
    obtain ⟨hqx, hqy, hi⟩ := hg
    obtain ⟨its1, r1, p1, _⟩ := seq_inv I hqx
    obtain ⟨its2, r2, p2, _⟩ := seq_inv I hqy
    have hh : X.A.in1.handled = none := I.ok.hd hc
    have S := zip_sep2 (N := N) (fp1 := [a1]) (fp2 := [a2]) (fun b hb => by rw [List.mem_singleton.mp hb]; exact l1) (fun b hb => by rw [List.mem_singleton.mp hb]; exact l2)
    have W := GoesN.zip2 (elts := elts) (x1 := kk) (pos := tpos) S (draws (prog := X.prog) (w := X.w) b1 hh N a1 (Nat.ne_of_lt l1) its1.toArray) (draws (prog := X.prog) (w := X.w) b2 hh (N + 1 : Nat) a2 (Nat.ne_of_lt (Nat.lt_succ_of_lt l2)) its2.toArray)
    have hn : i = min its1.toArray.size its2.toArray.size := by
      rw [List.size_toArray, List.size_toArray, ← r1.length, ← r2.length]
      exact hi
    subst hn
    refine W.stops s (fun s1 => Inv X pins σ H s1) E ⟨hz, hTI, hTO, ⟨h1, p1⟩, ⟨h2, p2⟩⟩ fun h' tk hk htk => ?_
    exact I.turnedL (t' := tk) (ch := zfp N) (fun c o hb q => hk c o (fun z => hb (by
      simp only [List.mem_cons, List.mem_nil_iff, or_false] at z
      simp only [zfp, List.mem_cons, List.mem_nil_iff, or_false]
      rcases z with z | z | z | z <;> simp [z])) q) hf
  self := fun A i s Q E st h => wpAny_pyIter_zip st.1 h
/-- zip(.., ..) to a target of several names -/
def iZipB (K : PySem.W.Frag) (ta : TA) : TI := fun σ H R => ta σ H fun vs H1 => ∃ b1 b2 a1 a2 xs ys, vs = [.ref a1, .ref a2] ∧ SqB K b1 H1 a1 xs ∧ SqB K b2 H1 a2 ys ∧ R (ItzB K b1 b2 a1 a2 xs ys) H1
theorem pi_zipB {X : Cx} {e e2 : Expr} {ta : TA} {p pos tpos : Pos} {elts : List Expr} {kk : Nat} (hg : Gl X "zip") (hm : X.mg "zip" = none) (ha : PA X [e, e2] ta)
    (hs : starEach [e, e2] X.env = (false, eval e X.env) :: starEach [e2] X.env := by rfl) (hpl : (backTo pos (starEach [e2] X.env)).any (·.1) = false := by rfl) :
    PI X (.Tuple elts kk tpos) (.Call (.Name "zip" p) [e, e2] [] pos) (iZipB X.K ta) := by
  refine ⟨fun pins s σ H R I h => ?_⟩
  refine Call_ (ld_blt I hg hm boot_zip (callWith_type1 (thn (ha.run pos pins s σ H _ I h) fun us s1 ⟨vs, H1, I1, rr, q1⟩ => ?_) hs hpl))
  obtain ⟨b1, b2, a1, a2, xs, ys, ex, hqx, hqy, q⟩ := q1
  subst ex
  obtain ⟨u1, u2, eu, r1, r2⟩ := vals2 rr
  subst eu
  cases r1
  cases r2
  obtain ⟨its1, rv1, p1, lt1⟩ := seq_inv I1 hqx
  obtain ⟨its2, rv2, p2, lt2⟩ := seq_inv I1 hqy
  obtain ⟨o1, B1, g1⟩ := begins (b := b1) a1 its1.toArray
  obtain ⟨o2, B2, g2⟩ := begins (b := b2) a2 its2.toArray
  refine zip_begins2 B1 B2 p1 p2 fun h' hz hTI hTO c1 c2 hsz hk => wpAny_pyIter_zip hz ?_
  have I2 : Inv X pins σ H1 { s1 with heap := h' } := I1.kept (t' := s1.toks) hk
  have big : ∀ c, c ∈ zfp s1.heap.objs.size → s1.heap.objs.size ≤ c := fun c hc => by
    simp only [zfp, List.mem_cons, List.mem_nil_iff, or_false] at hc
    rcases hc with q | q | q | q | q <;> rw [q] <;> first | exact Nat.le_refl _ | exact Nat.le_add_right _ _
  exact ⟨_, zfp s1.heap.objs.size, _, _, H1, rfl, I2, turn_zipB lt1 lt2, ⟨hz, hTI, ⟨_, _, hTO⟩, g1 _ _ c1, g2 _ _ c2⟩, fun c hc => I1.fpOk (big c hc) (I1.hok.fresh (big c hc)), q⟩
theorem pi_zipK {X : Cx} {K : PySem.W.Frag} {e e2 : Expr} {ta : TA} {p pos tpos : Pos} {elts : List Expr} {kk : Nat} (h : X.K = K) (hg : Gl X "zip") (hm : X.mg "zip" = none) (ha : PA X [e, e2] ta)
    (hs : starEach [e, e2] X.env = (false, eval e X.env) :: starEach [e2] X.env := by rfl) (hpl : (backTo pos (starEach [e2] X.env)).any (·.1) = false := by rfl) :
    PI X (.Tuple elts kk tpos) (.Call (.Name "zip" p) [e, e2] [] pos) (iZipB K ta) := h ▸ pi_zipB hg hm ha hs hpl
/-- the items of a list or a tuple -/
def itemsD : PyData → Option (List PyData)
  | .list ds => some ds
  | .tuple ds => some ds
  | _ => none
theorem items_sq {K : PySem.W.Frag} {G : Hp} {v : V} {d : PyData} {ds : List PyData} (hd : Dp K G v d) (hi : itemsD d = some ds) : ∃ b a xs, v = .ref a ∧ SqB K b G a xs ∧ DpAll K G xs ds := by
  cases hd with
  | lst hs ha =>
    cases hi
    exact ⟨false, _, _, rfl, hs, ha⟩
  | tup hs ha =>
    cases hi
    exact ⟨true, _, _, rfl, hs, ha⟩
  | non => cases hi
  | bl _ => cases hi
  | int _ => cases hi
  | str _ => cases hi
theorem iw_zip {K : PySem.W.Frag} {s : Option Addr} {Z : List Sk} {O : Own} {ta : TA} {P : Nat → (Nat → PyData → Prop) → Prop} (h : WA K s ta Z O fun ks => ∃ x y ds es, ks = [.d x, .d y] ∧ itemsD x = some ds ∧ itemsD y = some es ∧
    P (min ds.length es.length) fun i d => ∃ x y, ds[i]? = some x ∧ es[i]? = some y ∧ d = .tuple [x, y]) : IW K s (iZipB K ta) Z O P := fun F σ G H c R r =>
  h F σ G H c _ fun vs ks G1 H1 c1 e1 ha ⟨x, y, ds, es, ek, hx, hy, p⟩ => by
    subst ek
    match vs, ha with
    | [v, w], ⟨⟨_, ev, hv⟩, ⟨_, ew, hw⟩, _⟩ =>
      cases ev
      cases ew
      obtain ⟨b1, a1, xs, rfl, q1, d1⟩ := items_sq hv hx
      obtain ⟨b2, a2, ys, rfl, q2, d2⟩ := items_sq hw hy
      have n1 := dpa_len d1
      have n2 := dpa_len d2
      refine ⟨b1, b2, a1, a2, xs, ys, rfl, q1.mono c1.ex, q2.mono c1.ex, r _ _ _ G1 H1 c1 e1 p fun i G2 H2 e2 e3 => ⟨fun hi => ⟨q1.mono (e2.trans e3), q2.mono (e2.trans e3), by rw [n1, n2]; exact hi⟩, fun hi => ⟨q1.mono (e2.trans e3), q2.mono (e2.trans e3), by rw [n1, n2]; exact hi⟩, fun x H3 hi hy => ?_⟩⟩
      obtain ⟨T, x1, y1, f1, f2, f3, f4, f5⟩ := hy
      obtain ⟨dx, r1, r2⟩ := dpa_at d1 f4
      obtain ⟨dy, s1, s2⟩ := dpa_at d2 f5
      exact ⟨_, ⟨dx, dy, r1, s1, rfl⟩, .inr ⟨T, [x1, y1], f1, f2, f3, _, rfl, .cons (dp_mono e2 _ _ r2) (.cons (dp_mono e2 _ _ s2) .nil)⟩⟩
end DL

/-! DLk: zip of three, enumerate, ranges with a step, own lists read and popped, truth of ints and lists, any of ints, in of a tuple, a tuple times a number from one on. -/
namespace DL
open PySem PySem.Spec PyProof.Rows L2
open Evl (Ex)
/-! ### zip of three sequences -/
def Itz3 (K : PySem.W.Frag) (b1 b2 b3 : Bool) (a1 a2 a3 : Addr) (xs ys zs : List V) : It :=
  ⟨fun i H => SqB K b1 H a1 xs ∧ SqB K b2 H a2 ys ∧ SqB K b3 H a3 zs ∧ i < min (min xs.length ys.length) zs.length,
    fun i H v H' => ∃ T x y z, v = .ref T ∧ H T = none ∧ H' = upd H T (.tup [x, y, z]) ∧ xs[i]? = some x ∧ ys[i]? = some y ∧ zs[i]? = some z,
    fun i H => SqB K b1 H a1 xs ∧ SqB K b2 H a2 ys ∧ SqB K b3 H a3 zs ∧ i = min (min xs.length ys.length) zs.length⟩
abbrev zfp3 (N : Nat) : List Addr := [N + 5, N + 3, N + 4, N, N + 1, N + 2]
theorem turn_zip3 {P : Program} {w : World} {K : PySem.W.Frag} {elts : List Expr} {kk : Nat} {tpos : Pos} {b1 b2 b3 : Bool} {a1 a2 a3 : Addr} {xs ys zs : List V} {N : Nat} (l1 : a1 < N) (l2 : a2 < N) (l3 : a3 < N) :
    Turn P w K (.Tuple elts kk tpos) (Itz3 K b1 b2 b3 a1 a2 a3 xs ys zs) (zfp3 N) (N + 5 : Nat)
      (fun i h => IsZip h (N + 5 : Nat) (N + 3 : Nat) (N + 4 : Nat) .none ∧ IsTupOf3 h (N + 3 : Nat) (.ref N) (.ref (N + 1 : Nat)) (.ref (N + 2 : Nat)) ∧ (∃ x y z, IsTupOf3 h (N + 4 : Nat) x y z) ∧ ItAt b1 h N a1 i ∧ ItAt b2 h (N + 1 : Nat) a2 i ∧ ItAt b3 h (N + 2 : Nat) a3 i) where
  mem := List.mem_cons_self ..
  obj := fun i h st c hc => by
    obtain ⟨hz, hTI, ⟨x, y, z, hTO⟩, h1, h2, h3⟩ := st
    simp only [zfp3, List.mem_cons, List.mem_nil_iff, or_false] at hc
    rcases hc with q | q | q | q | q | q
    · rw [q]; exact ⟨_, hz, fun v z => nomatch z⟩
    · rw [q]; exact ⟨_, hTI, fun v z => nomatch z⟩
    · rw [q]; exact ⟨_, hTO, fun v z => nomatch z⟩
    · rw [q]; exact h1.obj
    · rw [q]; exact h2.obj
    · rw [q]; exact h3.obj
  keep := fun i h h' st k => by
    obtain ⟨hz, hTI, ⟨x, y, z, hTO⟩, h1, h2, h3⟩ := st
    exact ⟨k _ (by simp [zfp3]) _ hz, k _ (by simp [zfp3]) _ hTI, ⟨x, y, z, k _ (by simp [zfp3]) _ hTO⟩, h1.at fun o q => k _ (by simp [zfp3]) o q, h2.at fun o q => k _ (by simp [zfp3]) o q, h3.at fun o q => k _ (by simp [zfp3]) o q⟩
  item := by
    intro X hP hw hK hc i pins s σ H E I hf st hg
    subst hP hw hK
    obtain ⟨hz, hTI, hTO, h1, h2, h3⟩ := st
    obtain ⟨hqx, hqy, hqz, hi⟩ := hg
    obtain ⟨its1, r1, p1, _⟩ := seq_inv I hqx
    obtain ⟨its2, r2, p2, _⟩ := seq_inv I hqy
    obtain ⟨its3, r3, p3, _⟩ := seq_inv I hqz
    have hh : X.A.in1.handled = none := I.ok.hd hc
    have S := zip_sep3 (N := N) (fp1 := [a1]) (fp2 := [a2]) (fp3 := [a3]) (fun b hb => by rw [List.mem_singleton.mp hb]; exact l1) (fun b hb => by rw [List.mem_singleton.mp hb]; exact l2) (fun b hb => by rw [List.mem_singleton.mp hb]; exact l3)
    have W := GoesN.zip3 (elts := elts) (x1 := kk) (pos := tpos) S (draws (prog := X.prog) (w := X.w) b1 hh N a1 (Nat.ne_of_lt l1) its1.toArray) (draws (prog := X.prog) (w := X.w) b2 hh (N + 1 : Nat) a2 (Nat.ne_of_lt (Nat.lt_succ_of_lt l2)) its2.toArray)
      (draws (prog := X.prog) (w := X.w) b3 hh (N + 2 : Nat) a3 (Nat.ne_of_lt (Nat.lt_succ_of_lt (Nat.lt_succ_of_lt l3))) its3.toArray)
    have hn : i < min (min its1.toArray.size its2.toArray.size) its3.toArray.size := by
      rw [List.size_toArray, List.size_toArray, List.size_toArray, ← r1.length, ← r2.length, ← r3.length]
      exact hi
    have hgo := W.goes i s (fun u s2 => ∃ x H', Inv X pins σ H' s2 ∧ RelV x u ∧ (Itz3 X.K b1 b2 b3 a1 a2 a3 xs ys zs).yld i H x H' ∧ (IsZip s2.heap (N + 5 : Nat) (N + 3 : Nat) (N + 4 : Nat) .none ∧ IsTupOf3 s2.heap (N + 3 : Nat) (.ref N) (.ref (N + 1 : Nat)) (.ref (N + 2 : Nat)) ∧ (∃ x y z, IsTupOf3 s2.heap (N + 4 : Nat) x y z) ∧ ItAt b1 s2.heap N a1 (i + 1) ∧ ItAt b2 s2.heap (N + 1 : Nat) a2 (i + 1) ∧ ItAt b3 s2.heap (N + 2 : Nat) a3 (i + 1)) ∧ ∀ b ∈ zfp3 N, H' b = none) E hn ⟨hz, hTI, hTO, ⟨h1, p1⟩, ⟨h2, p2⟩, ⟨h3, p3⟩⟩ ?_
    · exact wpAny_mono hgo (fun r s1 q => q) fun _ _ e => e
    intro v h' tk hy st' hk htk
    obtain ⟨T, u1, u2, u3, ev, hT, hu1, hu2, hu3, hTup⟩ := hy
    obtain ⟨hz', hTI', hTO', ⟨h1', _⟩, ⟨h2', _⟩, ⟨h3', _⟩⟩ := st'
    have e1 : xs[i]? = some xs[i] := List.getElem?_eq_getElem (by omega)
    have e2 : ys[i]? = some ys[i] := List.getElem?_eq_getElem (by omega)
    have e3 : zs[i]? = some zs[i] := List.getElem?_eq_getElem (by omega)
    obtain ⟨w1, g1, rv1⟩ := r1.get e1
    obtain ⟨w2, g2, rv2⟩ := r2.get e2
    obtain ⟨w3, g3, rv3⟩ := r3.get e3
    have f1 : w1 = u1 := by
      have : its1[i]? = some u1 := by simpa using hu1
      rw [g1] at this
      exact Option.some.inj this
    have f2 : w2 = u2 := by
      have : its2[i]? = some u2 := by simpa using hu2
      rw [g2] at this
      exact Option.some.inj this
    have f3 : w3 = u3 := by
      have : its3[i]? = some u3 := by simpa using hu3
      rw [g3] at this
      exact Option.some.inj this
    subst f1 f2 f3
    have new : ObjOk X.prog X.w (upd H T (.tup [xs[i], ys[i], zs[i]])) h' T (.tup [xs[i], ys[i], zs[i]]) := by
      refine ⟨by show 3 ≤ sizeLine; decide, [w1, w2, w3], .cons rv1 (.cons rv2 (.cons rv3 .nil)), ?_⟩
      exact hTup
    have I1 := I.turnedNew (t' := tk) (ch := zfp3 N) (fun c o hb q => hk c o (fun z => hb (by
      simp only [List.mem_cons, List.mem_nil_iff, or_false] at z
      simp only [zfp3, List.mem_cons, List.mem_nil_iff, or_false]
      rcases z with z | z | z | z | z <;> simp [z])) q) hf hT new
    refine ⟨.ref T, _, I1, ev, ⟨T, _, _, _, rfl, I.hok.fresh hT, rfl, e1, e2, e3⟩, ⟨hz', hTI', hTO', h1', h2', h3'⟩, fun c hcm => ?_⟩
    have hlt : c < s.heap.objs.size := by
      obtain ⟨x0, y0, z0, hTO0⟩ := hTO
      obtain ⟨o1, q1, _⟩ := h1.obj
      obtain ⟨o2, q2, _⟩ := h2.obj
      obtain ⟨o3, q3, _⟩ := h3.obj
      simp only [zfp3, List.mem_cons, List.mem_nil_iff, or_false] at hcm
      rcases hcm with q | q | q | q | q | q
      · rw [q]; exact Heap.lt_size hz
      · rw [q]; exact Heap.lt_size hTI
      · rw [q]; exact Heap.lt_size hTO0
      · rw [q]; exact Heap.lt_size q1
      · rw [q]; exact Heap.lt_size q2
      · rw [q]; exact Heap.lt_size q3
    rw [upd_ne (Nat.ne_of_lt (Nat.lt_of_lt_of_le hlt hT))]
    exact (hf c hcm).1
  done := by
    intro X hP hw hK hc i pins s σ H E I hf st hg
    subst hP hw hK
    obtain ⟨hz, hTI, hTO, h1, h2, h3⟩ := st
    obtain ⟨hqx, hqy, hqz, hi⟩ := hg
    obtain ⟨its1, r1, p1, _⟩ := seq_inv I hqx
    obtain ⟨its2, r2, p2, _⟩ := seq_inv I hqy
    obtain ⟨its3, r3, p3, _⟩ := seq_inv I hqz
    have hh : X.A.in1.handled = none := I.ok.hd hc
    have S := zip_sep3 (N := N) (fp1 := [a1]) (fp2 := [a2]) (fp3 := [a3]) (fun b hb => by rw [List.mem_singleton.mp hb]; exact l1) (fun b hb => by rw [List.mem_singleton.mp hb]; exact l2) (fun b hb => by rw [List.mem_singleton.mp hb]; exact l3)
    have W := GoesN.zip3 (elts := elts) (x1 := kk) (pos := tpos) S (draws (prog := X.prog) (w := X.w) b1 hh N a1 (Nat.ne_of_lt l1) its1.toArray) (draws (prog := X.prog) (w := X.w) b2 hh (N + 1 : Nat) a2 (Nat.ne_of_lt (Nat.lt_succ_of_lt l2)) its2.toArray)
      (draws (prog := X.prog) (w := X.w) b3 hh (N + 2 : Nat) a3 (Nat.ne_of_lt (Nat.lt_succ_of_lt (Nat.lt_succ_of_lt l3))) its3.toArray)
    have hn : i = min (min its1.toArray.size its2.toArray.size) its3.toArray.size := by
      rw [List.size_toArray, List.size_toArray, List.size_toArray, ← r1.length, ← r2.length, ← r3.length]
      exact hi
    subst hn
    refine W.stops s (fun s1 => Inv X pins σ H s1) E ⟨hz, hTI, hTO, ⟨h1, p1⟩, ⟨h2, p2⟩, ⟨h3, p3⟩⟩ fun h' tk hk htk => ?_
    exact I.turnedL (t' := tk) (ch := zfp3 N) (fun c o hb q => hk c o (fun z => hb (by
      simp only [List.mem_cons, List.mem_nil_iff, or_false] at z
      simp only [zfp3, List.mem_cons, List.mem_nil_iff, or_false]
      rcases z with z | z | z | z | z <;> simp [z])) q) hf
  self := fun A i s Q E st h => wpAny_pyIter_zip st.1 h
theorem vals3x {x y z : V} {us : List Value} (r : Vals [x, y, z] us) : ∃ u w' t', us = [u, w', t'] ∧ RelV x u ∧ RelV y w' ∧ RelV z t' := by
  cases r with
  | cons a r =>
    cases r with
    | cons b r =>
      cases r with
      | cons c r =>
        cases r
        exact ⟨_, _, _, rfl, a, b, c⟩
def iZip3 (K : PySem.W.Frag) (ta : TA) : TI := fun σ H R => ta σ H fun vs H1 => ∃ b1 b2 b3 a1 a2 a3 xs ys zs, vs = [.ref a1, .ref a2, .ref a3] ∧ SqB K b1 H1 a1 xs ∧ SqB K b2 H1 a2 ys ∧ SqB K b3 H1 a3 zs ∧ R (Itz3 K b1 b2 b3 a1 a2 a3 xs ys zs) H1
theorem pi_zip3 {X : Cx} {e e2 e3 : Expr} {ta : TA} {p pos tpos : Pos} {elts : List Expr} {kk : Nat} (hg : Gl X "zip") (hm : X.mg "zip" = none) (ha : PA X [e, e2, e3] ta)
    (hs : starEach [e, e2, e3] X.env = (false, eval e X.env) :: starEach [e2, e3] X.env := by rfl) (hpl : (backTo pos (starEach [e2, e3] X.env)).any (·.1) = false := by rfl) :
    PI X (.Tuple elts kk tpos) (.Call (.Name "zip" p) [e, e2, e3] [] pos) (iZip3 X.K ta) := by
  refine ⟨fun pins s σ H R I h => ?_⟩
  refine Call_ (ld_blt I hg hm boot_zip (callWith_type1 (thn (ha.run pos pins s σ H _ I h) fun us s1 ⟨vs, H1, I1, rr, q1⟩ => ?_) hs hpl))
  obtain ⟨b1, b2, b3, a1, a2, a3, xs, ys, zs, ex, hqx, hqy, hqz, q⟩ := q1
  subst ex
  obtain ⟨u1, u2, u3, eu, r1, r2, r3⟩ := vals3x rr
  subst eu
  cases r1
  cases r2
  cases r3
  obtain ⟨its1, rv1, p1, lt1⟩ := seq_inv I1 hqx
  obtain ⟨its2, rv2, p2, lt2⟩ := seq_inv I1 hqy
  obtain ⟨its3, rv3, p3, lt3⟩ := seq_inv I1 hqz
  obtain ⟨o1, B1, g1⟩ := begins (b := b1) a1 its1.toArray
  obtain ⟨o2, B2, g2⟩ := begins (b := b2) a2 its2.toArray
  obtain ⟨o3, B3, g3⟩ := begins (b := b3) a3 its3.toArray
  refine zip_begins3 B1 B2 B3 p1 p2 p3 fun h' hz hTI hTO c1 c2 c3 hsz hk => wpAny_pyIter_zip hz ?_
  have I2 : Inv X pins σ H1 { s1 with heap := h' } := I1.kept (t' := s1.toks) hk
  have big : ∀ c, c ∈ zfp3 s1.heap.objs.size → s1.heap.objs.size ≤ c := fun c hc => by
    simp only [zfp3, List.mem_cons, List.mem_nil_iff, or_false] at hc
    rcases hc with q | q | q | q | q | q <;> rw [q] <;> first | exact Nat.le_refl _ | exact Nat.le_add_right _ _
  exact ⟨_, zfp3 s1.heap.objs.size, _, _, H1, rfl, I2, turn_zip3 lt1 lt2 lt3, ⟨hz, hTI, ⟨_, _, _, hTO⟩, g1 _ _ c1, g2 _ _ c2, g3 _ _ c3⟩, fun c hc => I1.fpOk (big c hc) (I1.hok.fresh (big c hc)), q⟩
theorem pi_zip3K {X : Cx} {K : PySem.W.Frag} {e e2 e3 : Expr} {ta : TA} {p pos tpos : Pos} {elts : List Expr} {kk : Nat} (h : X.K = K) (hg : Gl X "zip") (hm : X.mg "zip" = none) (ha : PA X [e, e2, e3] ta)
    (hs : starEach [e, e2, e3] X.env = (false, eval e X.env) :: starEach [e2, e3] X.env := by rfl) (hpl : (backTo pos (starEach [e2, e3] X.env)).any (·.1) = false := by rfl) :
    PI X (.Tuple elts kk tpos) (.Call (.Name "zip" p) [e, e2, e3] [] pos) (iZip3 K ta) := h ▸ pi_zip3 hg hm ha hs hpl
section
variable {K : PySem.W.Frag} {s : Option Addr} {Z : List Sk} {O : Own} {P : PyData → Prop} {ta tb te : TE} {D : DE}
theorem argOk1 {G : Hp} {vs : List V} {x : PyData} {ks : List Sk} (h : ArgOk K G vs (.d x :: ks)) : ∃ v ws, vs = v :: ws ∧ Dp K G v x ∧ ArgOk K G ws ks := by
  cases vs with
  | nil => exact h.elim
  | cons v ws =>
    obtain ⟨⟨u, e, hd⟩, h2⟩ := h
    cases e
    exact ⟨v, ws, rfl, hd, h2⟩
theorem argOk0 {G : Hp} {vs : List V} (h : ArgOk K G vs []) : vs = [] := by
  cases vs with
  | nil => rfl
  | cons v ws => exact h.elim
theorem argOk3 {G : Hp} {vs : List V} {x y z : PyData} (h : ArgOk K G vs [.d x, .d y, .d z]) : ∃ v w u, vs = [v, w, u] ∧ Dp K G v x ∧ Dp K G w y ∧ Dp K G u z := by
  obtain ⟨v, ws, e1, h1, k1⟩ := argOk1 h
  obtain ⟨w, us, e2, h2, k2⟩ := argOk1 k1
  obtain ⟨u, ts, e3, h3, k3⟩ := argOk1 k2
  have e4 := argOk0 k3
  subst e4 e3 e2 e1
  exact ⟨v, w, u, rfl, h1, h2, h3⟩
theorem iw_zip3 {ta : TA} {P : Nat → (Nat → PyData → Prop) → Prop} (h : WA K s ta Z O fun ks => ∃ x y z ds es fs, ks = [.d x, .d y, .d z] ∧ itemsD x = some ds ∧ itemsD y = some es ∧ itemsD z = some fs ∧
    P (min (min ds.length es.length) fs.length) fun i d => ∃ x y z, ds[i]? = some x ∧ es[i]? = some y ∧ fs[i]? = some z ∧ d = .tuple [x, y, z]) : IW K s (iZip3 K ta) Z O P := fun F σ G H c R r =>
  h F σ G H c _ fun vs ks G1 H1 c1 e1 ha ⟨x, y, z, ds, es, fs, ek, hx, hy, hz, p⟩ => by
    subst ek
    · obtain ⟨v, w, u, evs, hv, hw, hu⟩ := argOk3 ha
      subst evs
      obtain ⟨b1, a1, xs, rfl, q1, d1⟩ := items_sq hv hx
      obtain ⟨b2, a2, ys, rfl, q2, d2⟩ := items_sq hw hy
      obtain ⟨b3, a3, zs, rfl, q3, d3⟩ := items_sq hu hz
      have n1 := dpa_len d1
      have n2 := dpa_len d2
      have n3 := dpa_len d3
      refine ⟨b1, b2, b3, a1, a2, a3, xs, ys, zs, rfl, q1.mono c1.ex, q2.mono c1.ex, q3.mono c1.ex, r _ _ _ G1 H1 c1 e1 p fun i G2 H2 e2 e3 => ⟨fun hi => ⟨q1.mono (e2.trans e3), q2.mono (e2.trans e3), q3.mono (e2.trans e3), by rw [n1, n2, n3]; exact hi⟩, fun hi => ⟨q1.mono (e2.trans e3), q2.mono (e2.trans e3), q3.mono (e2.trans e3), by rw [n1, n2, n3]; exact hi⟩, fun x H3 hi hy => ?_⟩⟩
      obtain ⟨T, x1, y1, z1, f1, f2, f3, f4, f5, f6⟩ := hy
      obtain ⟨dx, r1, r2⟩ := dpa_at d1 f4
      obtain ⟨dy, s1, s2⟩ := dpa_at d2 f5
      obtain ⟨dz, t1, t2⟩ := dpa_at d3 f6
      exact ⟨_, ⟨dx, dy, dz, r1, s1, t1, rfl⟩, .inr ⟨T, [x1, y1, z1], f1, f2, f3, _, rfl, .cons (dp_mono e2 _ _ r2) (.cons (dp_mono e2 _ _ s2) (.cons (dp_mono e2 _ _ t2) .nil))⟩⟩
/-! ### enumerate(list), range(a, b, c) -/
theorem iw_enum {ta : TA} {P : Nat → (Nat → PyData → Prop) → Prop} (h : WA K s ta Z O fun ks => ∃ ds, ks = [.d (.list ds)] ∧ P ds.length fun i d => ∃ x, ds[i]? = some x ∧ d = .tuple [.int (i : Nat), x]) : IW K s (iEnum K ta) Z O P := fun F σ G H c R r =>
  h F σ G H c _ fun vs ks G1 H1 c1 e1 ha ⟨ds, ek, p⟩ => by
    subst ek
    match vs, ha with
    | [v], ⟨⟨_, ev, hv⟩, _⟩ =>
      cases ev
      cases hv with
      | @lst a xs _ hs ha =>
        refine ⟨a, xs, rfl, Evl.ex_l c1.ex hs, r _ _ _ G1 H1 c1 e1 p fun i G2 H2 e2 e3 => ?_⟩
        have W := walk_enum (K := K) (a := a) (xs := xs)
        have q := Evl.ex_l (e2.trans e3) hs
        have l := dpa_len ha
        refine ⟨fun hi => W.goes i H2 (by omega) q, fun hi => by rw [hi, ← l]; exact W.stops H2 q, fun x H3 hi hy => ?_⟩
        obtain ⟨T, x1, y1, q1, q2, q3, q4, q5⟩ := W.yields i H2 x H3 (by omega) q hy
        cases q4
        obtain ⟨dy, s1, s2⟩ := dpa_at ha q5
        exact ⟨_, ⟨dy, s1, rfl⟩, .inr ⟨T, [_, y1], q1, q2, q3, _, rfl, .cons (.int _) (.cons (dp_mono e2 _ _ s2) .nil)⟩⟩
theorem iw_rng3 {ta : TA} {P : Nat → (Nat → PyData → Prop) → Prop} (h : WA K s ta Z O fun ks => ∃ (l j c : Int) (n : Nat), ks = [.d (.int l), .d (.int j), .d (.int c)] ∧ RgC l j c n ∧ P n fun i d => d = .int (l + (i : Nat) * c)) : IW K s (iRng3 ta) Z O P := fun F σ G H c R r =>
  h F σ G H c _ fun vs ks G1 H1 c1 e1 ha ⟨l, j, cc, n, ek, hr, p⟩ => by
    subst ek
    · obtain ⟨v, w, u, evs, hv, hw, hu⟩ := argOk3 ha
      subst evs
      cases hv
      cases hw
      cases hu
      refine ⟨l, j, cc, n, rfl, hr, r _ _ _ G1 H1 c1 e1 p fun i G2 H2 e2 e3 => ?_⟩
      have W := walk_rangeC (lo := l) (c := cc) (n := n)
      refine ⟨fun hi => W.goes i H2 hi True.intro, fun hi => by rw [hi]; exact W.stops H2 True.intro, fun x H3 hi hy => ?_⟩
      obtain ⟨q1, q2⟩ := W.yields i H2 x H3 hi True.intro hy
      exact ⟨_, rfl, .inl ⟨q1, by rw [q2]; exact .int _⟩⟩
/-- a range by twos from one -/
theorem rgc_two {j : Int} (h0 : 0 ≤ j) (h1 : j < 2 ^ 61) : RgC 1 j 2 (j / 2).toNat := by
  have hs : Builtin.Range.rangeSize 1 j 2 = ((j / 2).toNat : Int) := by
    unfold Builtin.Range.rangeSize
    rw [if_pos (by decide)]
    split <;> omega
  have fl : ∀ i : Int, -(2 ^ 63) ≤ i → i < 2 ^ 63 → Builtin.Range.rangeFitsLong i = true := fun i a b => by
    unfold Builtin.Range.rangeFitsLong
    rw [decide_eq_true a, decide_eq_true b]
    rfl
  refine ⟨by decide, by decide, ?_, hs⟩
  unfold Builtin.Range.small
  rw [hs, fl 1 (by decide) (by decide), fl j (by omega) (by omega), fl 2 (by decide) (by decide), fl _ (by omega) (by omega), if_pos (by decide), fl (j + (2 - 1)) (by omega) (by omega), Bool.or_true]
  rfl
/-! ### own lists read and popped -/
theorem we_ixO {p : Addr} {ds : List PyData} {i : Nat} (hi : Z[i]? = some (.v (.ref p))) (h : WE K s tb Z ((p, ds) :: O) fun y => ∃ k d, y = .int k ∧ atI ds k = some d ∧ P d) : WE K s (tOp (rIx K) (tVar i) tb) Z ((p, ds) :: O) P := fun F σ G H c Q q => by
  obtain ⟨o, h1, h2⟩ := c.sl i _ hi
  have h2 : o = some (.ref p) := h2
  subst h2
  refine ⟨.ref p, h1, h F σ G H c _ fun w y G2 H2 c2 e2 hy ⟨k, d, ey, hk, pp⟩ => ?_⟩
  subst ey
  cases hy
  obtain ⟨_, _, _, vs, o4, o5⟩ := c2.own p ds (List.mem_cons_self ..)
  obtain ⟨v, q1, q2⟩ := dpa_atI o5 hk
  exact .inl ⟨p, vs, k, v, rfl, rfl, Evl.sq_of o4, q1, q v d G2 H2 c2 e2 q2 pp⟩
theorem dpa_dropLast {G : Hp} {vs : List V} {ds : List PyData} (h : DpAll K G vs ds) : DpAll K G vs.dropLast ds.dropLast := by
  rw [List.dropLast_eq_take, List.dropLast_eq_take, dpa_len h]
  exact dpa_take _ h
theorem sw_pop {p : Addr} {ds : List PyData} {i : Nat} (hi : Z[i]? = some (.v (.ref p))) (hl : 0 < ds.length) (h : D.nx Z ((p, ds.dropLast) :: O)) : SW K s (tDrop (tBM0 K "list" rPop (tVar i))) Z ((p, ds) :: O) D := fun F σ G H E c cv => by
  obtain ⟨o, h1, h2⟩ := c.sl i _ hi
  have h2 : o = some (.ref p) := h2
  subst h2
  obtain ⟨_, _, _, vs, o4, o5⟩ := c.own p ds (List.mem_cons_self ..)
  refine ⟨.ref p, h1, .inl ⟨rfl, vs, Evl.sq_of o4⟩, ?_⟩
  have hl2 := dpa_len o5
  have hv : vs.length - 1 < vs.length := by omega
  refine ⟨p, vs, vs[vs.length - 1], rfl, rfl, o4, List.getElem?_eq_getElem hv, ?_⟩
  exact cv.nx _ _ _ _ _ (c.setOwn (dpa_dropLast o5)) h
/-! ### truth -/
def truD : PyData → Option Bool
  | .int i => some (i != 0)
  | .list ds => some (!ds.isEmpty)
  | .tuple ds => some (!ds.isEmpty)
  | .bool b => some b
  | _ => none
theorem dpa_empty {G : Hp} {vs : List V} {ds : List PyData} (h : DpAll K G vs ds) : vs.isEmpty = ds.isEmpty := by
  cases h <;> rfl
theorem wt_truth {PB : Bool → Prop} (h : WE K s ta Z O fun x => ∃ b, truD x = some b ∧ PB b) : WT K s (fun σ H Q => ta σ H fun x H' => ∃ k, TruV K x H' k ∧ Q k H') Z O PB := fun F σ G H c Q q => h F σ G H c _ fun v x G1 H1 c1 e1 hx ⟨b, hb, p⟩ => by
  refine ⟨b, ?_, q b G1 H1 c1 e1 p⟩
  cases hx with
  | int i => cases hb; rfl
  | bl b => cases hb; rfl
  | lst hs ha =>
    cases hb
    exact .inl ⟨_, Evl.ex_l c1.ex hs, by rw [dpa_empty ha]⟩
  | tup hs ha =>
    cases hb
    exact .inr (.inl ⟨_, Evl.ex_t c1.ex hs, by rw [dpa_empty ha]⟩)
  | non => cases hb
  | str x => cases hb
end
/-! ### any of a list or a tuple of ints -/
theorem truth_ints {prog : Program} {w : World} {A : Around} {ns : List Int} {its : List Value} (r : Vals (ns.map V.int) its) :
    TruthOf prog w A (fun i v => its.toArray[i]? = some v) (fun i => (ns.map (· != 0)).getD i false) := fun i v s Q E hv hq => by
  have hv' : its[i]? = some v := by simpa using hv
  have hi : i < its.length := (List.getElem?_eq_some_iff.mp hv').1
  have hl := r.length
  rw [List.length_map] at hl
  have hn : ns[i]? = some (ns[i]'(by omega)) := List.getElem?_eq_getElem _
  have hx : (ns.map V.int)[i]? = some (.int (ns[i]'(by omega))) := by rw [List.getElem?_map, hn]; rfl
  obtain ⟨u, g, ru⟩ := r.get hx
  rw [hv'] at g
  cases g
  obtain ⟨t, rfl⟩ := ru
  have hg : (ns.map (· != 0)).getD i false = ((ns[i]'(by omega)) != 0) := by rw [List.getD_eq_getElem?_getD, List.getElem?_map, hn]; rfl
  have hq' : Q ((ns.map (· != 0)).getD i false) s := hq
  rw [hg] at hq'
  exact PyProof.Rows.truthy_int hq'
def rAnyN (K : PySem.W.Frag) : List V → Hp → VK → Prop := fun vs H Q => ∃ (a : Addr) (ns : List Int), vs = [V.ref a] ∧ SqT K H a (ns.map V.int) ∧ Q (.bl (ns.any (· != 0))) H
theorem cr_anyN {X : Cx} (hc : X.calm = true) : CallR X (.builtin "any") (rAnyN X.K) := by
  intro pins s σ H vs us Q I r h
  obtain ⟨a, ns, rfl, hs, q⟩ := h
  obtain ⟨its, rv, hl, _⟩ := I.tuple hs
  rw [Vals.ref1 r]
  have hlt : a < s.heap.objs.size := by obtain ⟨_, e, _⟩ := id hl; exact Heap.lt_size e
  refine call_any_walk (PyProof.Rows.iter_tuple hl ?_)
  refine ⟨_, _, _, _, _, _, _, rfl, Walks.tuple (A := X.A.in1) (I.ok.hd hc) _ a (Nat.ne_of_lt hlt) its.toArray, ⟨⟨_, Heap.get?_push_size _ rfl, rfl, rfl⟩, Heap.IsTuple.push hl _⟩, truth_ints rv, fun h' tk hk => ?_⟩
  refine ⟨.bl _, H, I.kept fun b o eo => hk b o (fun hmem => ?_) (Heap.get?_push_of_some _ eo), ?_, q⟩
  · rcases List.mem_cons.mp hmem with e1 | hmem
    · exact absurd (e1 ▸ Heap.lt_size eo) (Nat.lt_irrefl _)
    · cases hmem
  · show Value.bool _ = Value.bool _
    have e2 : its.toArray.size = (ns.map (· != 0)).length := by
      have := rv.length
      rw [List.length_map] at this
      rw [List.size_toArray, List.length_map]
      exact this.symm
    rw [e2, L2.any_range, List.any_map]
    rfl
theorem cr_anyNK {X : Cx} {K : PySem.W.Frag} (h : X.K = K) (hc : X.calm = true) : CallR X (.builtin "any") (rAnyN K) := h ▸ cr_anyN hc
theorem nc_anyN {K : PySem.W.Frag} {ns : List Int} : NCall K (rAnyN K) [.d (.tuple (ns.map .int))] (.bool (ns.any (· != 0))) := nc1 fun v G H Q e hv q => by
  cases hv with
  | tup hs ha =>
    rw [dpa_ints_inv ha] at hs
    exact ⟨_, ns, rfl, Evl.ex_t e hs, q _ (.bl _)⟩
/-! ### a number in a tuple of numbers -/
theorem op_in_seqK {X : Cx} {K : PySem.W.Frag} (h : X.K = K) : OpR X (compareOp .In) (rIn K false) := h ▸ op_in_seq
theorem we_inT {K : PySem.W.Frag} {s : Option Addr} {Z : List Sk} {O : Own} {P : PyData → Prop} {ta tb : TE} (h : WE K s ta Z O fun x => WE K s tb Z O fun y => ∃ (i : Int) (ns : List Int), x = .int i ∧ y = .tuple (ns.map .int) ∧ P (.bool (ns.any fun n => n == i))) : WE K s (tOp (rIn K false) ta tb) Z O P :=
  we_nop (we_imp h fun x hx => we_imp hx fun y ⟨i, ns, e1, e2, p⟩ => ⟨_, fun v w G H Q e hv hw q => by
    subst e1 e2
    cases hv
    cases hw with
    | tup hs ha =>
      rw [dpa_ints_inv ha] at hs
      refine ⟨_, _, rfl, .inr (Evl.ex_t e hs), rfl, by simp [flatV], ?_⟩
      have e3 : inV (.int i) (ns.map V.int) = ns.any fun n => n == i := by
        unfold inV
        rw [List.any_map]
        rfl
      rw [if_neg Bool.false_ne_true, e3]
      exact q _ (.bl _), p⟩)
theorem pt_truthK {X : Cx} {K : PySem.W.Frag} {a : Expr} {ta : TE} (h : X.K = K) (ha : PE X a ta) (he : ∀ whole, isTrue a X.env whole = (do let v ← whole; standAt a.pos; holding [v] (truthy v))) :
    PT X a (fun σ H Q => ta σ H fun x H' => ∃ k, TruV K x H' k ∧ Q k H') := h ▸ pt_truth ha he
theorem pi_enumK {X : Cx} {K : PySem.W.Frag} {e : Expr} {ta : TA} {p pos tpos : Pos} {elts : List Expr} {kk : Nat} (h : X.K = K) (hg : Gl X "enumerate") (hm : X.mg "enumerate" = none) (ha : PA X [e] ta) (hs : starEach [e] X.env = [(false, eval e X.env)] := by rfl) :
    PI X (.Tuple elts kk tpos) (.Call (.Name "enumerate" p) [e] [] pos) (iEnum K ta) := h ▸ pi_enum hg hm ha hs
end DL

/-! DLr: a tuple times a number from one on. -/
namespace DL
open PySem PySem.Spec PyProof.Rows L2
open Evl (Ex)
/-! ### t * k, k from 1 on -/
theorem tuple_mul1 (l : Addr) (items : Array Value) (n : Nat) (dd : Option Addr) (sl : Array (Option Value)) (x : Int) (u : Tok) (c0 : (decide (x < -(2 ^ 63)) || decide (x ≥ 2 ^ 63)) = false) (c1 : (items.isEmpty || x == 1) = true) :
    Meets (Builtin.«tuple.__mul__» ⟨[.ref l, .int x u], []⟩) (fun _ R s => s.heap.get? l = some { cls := .type "tuple", dict := dd, data := .seq items n, slots := sl } ∧
      R (.ok (.ret (Value.ref l))) s) :=
  .of_wp fun prog w A R s h => by
    obtain ⟨hp, g, d, tk, os⟩ := s
    obtain ⟨hl, h⟩ := h
    have f1 := AutoSeq1.idx_int
    wp_walk using wpAny_loadPart' hl
    refine wpAny_ite_false (decide_eq_false (by rw [c0]; exact Bool.false_ne_true)) ?_
    wp_walk using wpAny_loadPart' hl
    exact ⟨_, rfl, h⟩
def rRepU (K : PySem.W.Frag) : R2 := fun x y H Q => ∃ l k xs, x = .ref l ∧ y = .int k ∧ SqT K H l xs ∧ xs ≠ [] ∧ 1 ≤ k ∧ k ≤ 1000 ∧ xs.length ≤ 1000 ∧ (k = 1 → Q (.ref l) H) ∧ (2 ≤ k → ∀ p, H p = none → Q (.ref p) (upd H p (.tup (List.replicate k.toNat xs).flatten)))
theorem op_repU {X : Cx} : OpR X (binaryOp .Mult) (rRepU X.K) := by
  intro pins s σ H x y v u Q I rx ry h
  obtain ⟨l, k, xs, rfl, rfl, hT, hne, h1, h2, hz, q1, q2⟩ := h
  by_cases e : k = 1
  · subst e
    cases rx
    obtain ⟨t, rfl⟩ := ry
    obtain ⟨its, r, ⟨⟨cls, dd, data, sl⟩, ho, hc, n, hd⟩, hs⟩ := I.tuple hT
    simp only at hc hd
    subst hc hd
    refine wpAny_binaryOp_repeat_ref (T := "tuple") (U := "int") (by decide) ⟨_, ho, rfl⟩ (fun s' => typeIs_int s' 1 t) noFill_tuple_mul F.fills_int_mul F.slot_int_rmul repeat_tuple F.slot_int_index.lookup
      (call_meets F.slot_int_rmul (typeIs_int s 1 t) F.entry_int_rmul (F.args_int_rmul_2 _ _) (int_rmul_tuple 1 t l its.toArray n dd sl)
        ⟨ho, rfl, ⟨_, ho, rfl⟩, call_meets F.slot_tuple_mul ⟨_, ho, rfl⟩ F.entry_tuple_mul (F.args_tuple_mul_2 _ _) (tuple_mul1 l its.toArray n dd sl 1 t (by decide) (by simp)) ⟨ho, ?_⟩⟩)
    exact ⟨.ref l, H, I, rfl, q1 rfl⟩
  · exact op_repT pins s σ H _ _ v u Q I rx ry ⟨l, k, xs, rfl, rfl, hT, hne, by omega, h2, hz, q2 (by omega)⟩
theorem op_repUK {X : Cx} {K : PySem.W.Frag} (h : X.K = K) : OpR X (binaryOp .Mult) (rRepU K) := h ▸ op_repU
theorem we_repT {K : PySem.W.Frag} {s : Option Addr} {Z : List Sk} {O : Own} {P : PyData → Prop} {ta tb : TE} (h : WE K s ta Z O fun x => WE K s tb Z O fun y => ∃ ds k, x = .tuple ds ∧ y = .int k ∧ ds ≠ [] ∧ 1 ≤ k ∧ k ≤ 1000 ∧ ds.length ≤ 1000 ∧ P (.tuple (List.replicate k.toNat ds).flatten)) : WE K s (tOp (rRepU K) ta tb) Z O P := fun F σ G H c Q q =>
  h F σ G H c _ fun v x G1 H1 c1 e1 hx hp => hp F σ G1 H1 c1 _ fun w y G2 H2 c2 e2 hy ⟨ds, k, ex, ey, hne, h1, h2, hl, p⟩ => by
    subst ex ey
    cases hy
    cases hx with
    | @tup a vs _ hs ha =>
      have ha2 := dpa_mono e2 _ _ ha
      have hs2 := Evl.ex_t e2 hs
      have hn : vs ≠ [] := fun z => hne (by
        subst z
        cases ha
        rfl)
      refine ⟨a, k, vs, rfl, rfl, Evl.ex_t c2.ex hs2, hn, h1, h2, by rw [dpa_len ha]; exact hl, fun e => ?_, fun _ t ht => ?_⟩
      · subst e
        have e3 : (List.replicate (Int.toNat 1) ds).flatten = ds := by simp
        rw [e3] at p
        exact q _ _ G2 H2 c2 (e1.trans e2) (.tup hs2 ha2) p
      · obtain ⟨c3, e3⟩ := c2.new (o := .tup (List.replicate k.toNat vs).flatten) ht
        exact q (.ref t) _ _ _ c3 ((e1.trans e2).trans e3) (.tup (.inl (.inl upd_same)) (dpa_mono e3 _ _ (dpa_rep ha2 _))) p
end DL

/-! DLn: loops and comprehensions whose number of turns is drawn. -/
namespace DL
open PySem PySem.Spec PyProof.Rows L2
open Evl (Ex)
section
variable {K : PySem.W.Frag} {F : Fb} {s : Option Addr} {Z : List Sk} {O : Own} {D : DE} {t u : TS} {te ta tb : TE} {tt : TT}
/-- for: an invariant over the turn, the slots' words and the own lists -/
theorem sw_forN {wi : TI} {g : TG} {tb : TS} (I : Nat → List Sk → Own → Prop) (C : Nat → (Nat → PyData → Prop) → Prop) (hw : IW K s wi Z O C) (h0 : I 0 Z O)
    (hs : ∀ n Yd, C n Yd → ∀ i d Z' O', i < n → Yd i d → I i Z' O' → GW K s g d Z' O' fun Z2 O2 => SW K s tb Z2 O2 { D with nx := I (i + 1), ct := I (i + 1), bk := D.nx }) (hd : ∀ n Yd, C n Yd → ∀ Z' O', I n Z' O' → D.nx Z' O') : SW K s (tFor wi g tb) Z O D := fun F σ G H E c cv =>
  hw F σ G H c _ fun J n' Y' G1 H1 c1 e1 hC hj => by
    refine ⟨fun i m σ2 H2 => m = n' - i ∧ i ≤ n' ∧ ∃ Z2 O2 G2, Cfg K { F with G := G1 } s Z2 O2 σ2 G2 H2 ∧ I i Z2 O2, ⟨_, rfl, Nat.zero_le _, Z, O, G1, c1.rebase c1 (Evl.Ex.refl _), h0⟩, ?_⟩
    rintro i m σ2 H2 ⟨rfl, hi, Z2, O2, G2, c2, inv⟩
    obtain ⟨j1, j2, j3⟩ := hj i G2 H2 c2.e0 c2.ex
    by_cases hlt : i < n'
    · refine .inr ⟨j1 hlt, fun σ' H' => ∃ Z2 O2 G2, Cfg K { F with G := G1 } s Z2 O2 σ' G2 H' ∧ I (i + 1) Z2 O2, fun σ' H' p' => ⟨n' - (i + 1), by omega, rfl, hlt, p'⟩, fun x H3 hy => ?_⟩
      obtain ⟨d, hd', hcase⟩ := j3 x H3 hlt hy
      have main : ∀ (G3 : Hp), Cfg K { F with G := G1 } s Z2 O2 σ2 G3 H3 → Dp K G3 x d → g x σ2 H3 fun σ4 H4 => tb { E with nx := fun σ' H' => ∃ Z2 O2 G2, Cfg K { F with G := G1 } s Z2 O2 σ' G2 H' ∧ I (i + 1) Z2 O2, ct := fun σ' H' => ∃ Z2 O2 G2, Cfg K { F with G := G1 } s Z2 O2 σ' G2 H' ∧ I (i + 1) Z2 O2, bk := E.nx } σ4 H4 := fun G3 c3 hx =>
        hs n' Y' hC i d Z2 O2 hlt hd' inv _ x σ2 G3 H3 c3 hx _ fun Z4 O4 σ4 G4 H4 c4 _ body => body _ σ4 G4 H4 _ c4
          ⟨fun Z O σ G H c h => ⟨Z, O, G, c, h⟩, fun v d G H c hd h => cv.rt v d G H (c.unbase c1) hd h, fun Z O σ G H c h => cv.nx Z O σ G H (c.unbase c1) h, fun Z O σ G H c h => ⟨Z, O, G, c, h⟩⟩
      rcases hcase with ⟨e3, hx⟩ | ⟨T, vs, ex, hT, e3, ds, ed, hds⟩
      · subst e3
        exact main G2 c2 hx
      · subst e3 ex ed
        obtain ⟨c3, e4⟩ := c2.new (o := .tup vs) hT
        exact main _ c3 (.tup (.inl (.inl upd_same)) (dpa_mono e4 ds vs hds))
    · obtain rfl : n' = i := by omega
      exact .inl ⟨j2 rfl, cv.nx _ _ _ _ _ (c2.unbase c1) (hd n' Y' hC _ _ inv)⟩
/-- [e for target in iter if test]: I by the turn and what is made so far; ow: the target's stores touch the block's own names alone -/
theorem wl_lcN {wi : TI} {g : TG} {tt : TT} {te : TE} {vs : List Nat} {PL : List PyData → Prop} (I : Nat → List PyData → Prop) (C : Nat → (Nat → PyData → Prop) → Prop) (hw : IW K s wi Z O C) (h0 : I 0 []) (hn : ∀ n Yd, C n Yd → n ≤ 50000)
    (hil : ∀ i acc, I i acc → acc.length ≤ i)
    (ow : ∀ x σ H (Q : L2.St → Hp → Prop), g x (wipe σ vs) H (fun σ2 H2 => wipe σ2 vs = wipe σ vs → Q σ2 H2) → g x (wipe σ vs) H fun σ2 H2 => wipe σ2 vs = wipe σ vs ∧ Q σ2 H2)
    (hs : ∀ n Yd, C n Yd → ∀ i d acc p, i < n → Yd i d → I i acc → GW K s g d (wipeZ Z vs) ((p, acc) :: O) fun Z2 O2 => O2 = (p, acc) :: O ∧ WT K s tt Z2 O2 fun b => if b = true then WE K s te Z2 O2 fun y => I (i + 1) (acc ++ [y]) else I (i + 1) acc)
    (hd : ∀ n Yd, C n Yd → ∀ acc, I n acc → PL acc) : WL K s (tLc wi g tt te vs) Z O PL := fun F σ G H c Q q =>
  hw F σ G H c _ fun J n' Y' G1 H1 c1 e1 hC hj => by
    have hn := hn n' Y' hC
    intro Dl hD
    have c1r := (c1.rebase c1 (Evl.Ex.refl _)).newOwn (vs := []) hD .nil
    refine ⟨fun i m H2 => m = n' - i ∧ i ≤ n' ∧ ∃ acc G2, Cfg K { F with G := G1 } s Z ((Dl, acc) :: O) σ G2 H2 ∧ I i acc, ⟨_, rfl, Nat.zero_le _, [], G1, c1r, h0⟩, ?_⟩
    rintro i m H2 ⟨rfl, hi, acc, G2, c2, inv⟩
    obtain ⟨j1, j2, j3⟩ := hj i G2 H2 c2.e0 c2.ex
    by_cases hlt : i < n'
    · refine .inr ⟨j1 hlt, fun H' => ∃ acc G2, Cfg K { F with G := G1 } s Z ((Dl, acc) :: O) σ G2 H' ∧ I (i + 1) acc, fun H' p' => ⟨n' - (i + 1), by omega, rfl, hlt, p'⟩, fun x H3 hy => ?_⟩
      obtain ⟨d, hd', hcase⟩ := j3 x H3 hlt hy
      have main : ∀ (G3 : Hp), Cfg K { F with G := G1 } s Z ((Dl, acc) :: O) σ G3 H3 → Dp K G3 x d → g x (wipe σ vs) H3 fun σ2 H2 => wipe σ2 vs = wipe σ vs ∧ tt σ2 H2 fun b H3 =>
          if b = true then te σ2 H3 fun y H4 => ∃ acc, H4 Dl = some (.lst acc) ∧ acc.length < sizeLine ∧ (∃ acc2 G2, Cfg K { F with G := G1 } s Z ((Dl, acc2) :: O) σ G2 (upd H4 Dl (.lst (acc ++ [y]))) ∧ I (i + 1) acc2) else ∃ acc G2, Cfg K { F with G := G1 } s Z ((Dl, acc) :: O) σ G2 H3 ∧ I (i + 1) acc := fun G3 c3 hx => by
        refine ow x σ H3 _ ?_
        refine hs n' Y' hC i d acc Dl hlt hd' inv _ x (wipe σ vs) G3 H3 (wipe_cfg c3 vs) hx _ fun Z4 O4 σ4 G4 H4 c4 e34 ⟨eo, body⟩ hwp => ?_
        subst eo
        have back : ∀ {acc' : List PyData} {G5 H5 : Hp}, Cfg K { F with G := G1 } s Z4 ((Dl, acc') :: O) σ4 G5 H5 → Ex G3 G5 → Cfg K { F with G := G1 } s Z ((Dl, acc') :: O) σ G5 H5 := fun c5 e5 =>
          c5.slots c3.len fun j k hk => by
            obtain ⟨o, h1, h2⟩ := c3.sl j k hk
            exact ⟨o, h1, h2.mono e5⟩
        refine body _ σ4 G4 H4 c4 _ fun b G5 H5 c5 e5 pb => ?_
        cases b with
        | false =>
          rw [if_neg Bool.false_ne_true] at pb ⊢
          exact ⟨acc, G5, back c5 (e34.trans e5), pb⟩
        | true =>
          rw [if_pos rfl] at pb ⊢
          refine pb _ σ4 G5 H5 c5 _ fun y dy G6 H6 c6 e6 hy pi => ?_
          obtain ⟨_, _, _, us, o4, o5⟩ := c6.own Dl acc (List.mem_cons_self ..)
          refine ⟨us, o4, Evl.sz_lt ?_, acc ++ [dy], G6, (back c6 ((e34.trans e5).trans e6)).setOwn (dpa_app o5 (.cons hy .nil)), pi⟩
          have := hil i acc inv
          rw [dpa_len o5]
          omega
      rcases hcase with ⟨e3, hx⟩ | ⟨T, vs, ex, hT, e3, ds, ed, hds⟩
      · subst e3
        exact main G2 c2 hx
      · subst e3 ex ed
        obtain ⟨c3, e4⟩ := c2.new (o := .tup vs) hT
        exact main _ c3 (.tup (.inl (.inl upd_same)) (dpa_mono e4 ds vs hds))
    · obtain rfl : n' = i := by omega
      exact .inl ⟨j2 rfl, q _ _ _ _ (c2.unbase c1) (e1.trans c2.e0) (hd n' Y' hC _ inv)⟩
theorem wl_compN {wi : TI} {g : TG} {tt : TT} {te : TE} {vs : List Nat} {PL : List PyData → Prop} (og : Ow g vs) (I : Nat → List PyData → Prop) (C : Nat → (Nat → PyData → Prop) → Prop) (hw : IW K s wi Z O C) (h0 : I 0 []) (hn : ∀ n Yd, C n Yd → n ≤ 50000)
    (hil : ∀ i acc, I i acc → acc.length ≤ i)
    (hs : ∀ n Yd, C n Yd → ∀ i d acc p, i < n → Yd i d → I i acc → GW K s g d (wipeZ Z vs) ((p, acc) :: O) fun Z2 O2 => O2 = (p, acc) :: O ∧ WT K s tt Z2 O2 fun b => if b = true then WE K s te Z2 O2 fun y => I (i + 1) (acc ++ [y]) else I (i + 1) acc)
    (hd : ∀ n Yd, C n Yd → ∀ acc, I n acc → PL acc) : WL K s (tLc wi g tt te vs) Z O PL :=
  wl_lcN I C hw h0 hn hil (fun x σ H Q h => og x _ H _ _ (fun σ2 H2 e q => ⟨e.trans wipe_wipe, q (e.trans wipe_wipe)⟩) h) hs hd
end
end DL


namespace My
open PySem PySem.Spec PyProof.Rows L2 DL
open Evl (Ex)
def top (i : Nat) : Stmt := PySem.Challenge.pw_slopeyard_k10_sums_of_rows_and_papers_ju.main.body.getD i (.Pass ⟨0, 0, 0, 0⟩)
abbrev s_weighed : Stmt := top 1
theorem sc_weighed : FnScope ["columns", "weights", "place", "weight", "used", "first", "total", "one", "other", "left", "right", "last", "number", "so_far", "a", "b"] ["columns", "weights"] (defScope s_weighed) := ⟨rfl, rfl, rfl, by decide +kernel, rfl, by decide +kernel, by decide +kernel⟩
abbrev s_added : Stmt := top 3
theorem sc_added : FnScope ["rows", "weights", "numbers", "row", "bound"] ["rows", "weights"] (defScope s_added) := ⟨rfl, rfl, rfl, by decide +kernel, rfl, by decide +kernel, by decide +kernel⟩
abbrev s_bars_right : Stmt := top 4
theorem sc_bars_right : FnScope ["rows", "weights", "total", "bound"] ["rows", "weights"] (defScope s_bars_right) := ⟨rfl, rfl, rfl, by decide +kernel, rfl, by decide +kernel, by decide +kernel⟩
abbrev s_paper_right : Stmt := top 5
theorem sc_paper_right : FnScope ["rows", "row", "paper", "many", "weights", "total", "bound", "weight"] ["rows", "row", "paper"] (defScope s_paper_right) := ⟨rfl, rfl, rfl, by decide +kernel, rfl, by decide +kernel, by decide +kernel⟩
abbrev s__for_rows : Stmt := top 6
theorem sc__for_rows : FnScope ["rows", "weights", "weight"] ["rows", "weights"] (defScope s__for_rows) := ⟨rfl, rfl, rfl, by decide +kernel, rfl, by decide +kernel, by decide +kernel⟩
abbrev s__law_box : Stmt := top 8
theorem sc__law_box : FnScope ["_law_script"] ["_law_script"] (defScope s__law_box) := ⟨rfl, rfl, rfl, by decide +kernel, rfl, by decide +kernel, by decide +kernel⟩
abbrev s__law_take : Stmt := top 9
theorem sc__law_take : FnScope ["_law_box_here", "_law_many", "_law_cell", "_law_seed", "_law_got"] ["_law_box_here", "_law_many"] (defScope s__law_take) := ⟨rfl, rfl, rfl, by decide +kernel, rfl, by decide +kernel, by decide +kernel⟩
abbrev s__law_near : Stmt := top 10
theorem sc__law_near : FnScope ["_law_box_here", "_law_far"] ["_law_box_here", "_law_far"] (defScope s__law_near) := ⟨rfl, rfl, rfl, by decide +kernel, rfl, by decide +kernel, by decide +kernel⟩
abbrev s__law_num : Stmt := top 11
theorem sc__law_num : FnScope ["_law_found"] ["_law_found"] (defScope s__law_num) := ⟨rfl, rfl, rfl, by decide +kernel, rfl, by decide +kernel, by decide +kernel⟩
abbrev s__law_same : Stmt := top 12
theorem sc__law_same : FnScope ["_law_found", "_law_due", "_law_one", "_law_other"] ["_law_found", "_law_due"] (defScope s__law_same) := ⟨rfl, rfl, rfl, by decide +kernel, rfl, by decide +kernel, by decide +kernel⟩
abbrev s__law_weights : Stmt := top 13
theorem sc__law_weights : FnScope ["_law_box_here", "_law_count", "_law_far", "_law_way", "_law_at", "_law_sign", "_law_found", "_law_k"] ["_law_box_here", "_law_count", "_law_far"] (defScope s__law_weights) := ⟨rfl, rfl, rfl, by decide +kernel, rfl, by decide +kernel, by decide +kernel⟩
abbrev s__law_row : Stmt := top 14
theorem sc__law_row : FnScope ["_law_box_here", "_law_count", "_law_far"] ["_law_box_here", "_law_count", "_law_far"] (defScope s__law_row) := ⟨rfl, rfl, rfl, by decide +kernel, rfl, by decide +kernel, by decide +kernel⟩
abbrev s__law_adds : Stmt := top 15
theorem sc__law_adds : FnScope ["_law_rows", "_law_weights_here", "_law_total", "_law_bound", "_law_row_here", "_law_weight", "_law_one", "_law_other"] ["_law_rows", "_law_weights_here"] (defScope s__law_adds) := ⟨rfl, rfl, rfl, by decide +kernel, rfl, by decide +kernel, by decide +kernel⟩
abbrev s__law_are_weights : Stmt := top 16
theorem sc__law_are_weights : FnScope ["_law_found", "_law_rows", "_law_weight"] ["_law_found", "_law_rows"] (defScope s__law_are_weights) := ⟨rfl, rfl, rfl, by decide +kernel, rfl, by decide +kernel, by decide +kernel⟩
abbrev s__law_barred : Stmt := top 17
theorem sc__law_barred : FnScope ["_law_rows", "_law_found", "_law_total", "_law_bound"] ["_law_rows", "_law_found"] (defScope s__law_barred) := ⟨rfl, rfl, rfl, by decide +kernel, rfl, by decide +kernel, by decide +kernel⟩
abbrev s__law_shown : Stmt := top 18
theorem sc__law_shown : FnScope ["_law_rows", "_law_row_here", "_law_paper", "_law_total", "_law_bound", "_law_one"] ["_law_rows", "_law_row_here", "_law_paper"] (defScope s__law_shown) := ⟨rfl, rfl, rfl, by decide +kernel, rfl, by decide +kernel, by decide +kernel⟩
abbrev s__law_some_weights : Stmt := top 19
theorem sc__law_some_weights : FnScope ["_law_box_here", "_law_many", "_law_found", "_law_way", "_law_k"] ["_law_box_here", "_law_many"] (defScope s__law_some_weights) := ⟨rfl, rfl, rfl, by decide +kernel, rfl, by decide +kernel, by decide +kernel⟩
abbrev s_law : Stmt := top 20
theorem sc_law : FnScope ["_law_script", "_law_box_here", "_law_k", "_law_count", "_law_rows", "_law_weights_here", "_law_handed", "_law_good", "_law_many", "_law_total", "_law_bound", "_law_by", "_law_row_here", "_law_turn", "_law_weight", "_law_at", "_law_one"] ["_law_script"] (defScope s_law) := ⟨rfl, rfl, rfl, by decide +kernel, rfl, by decide +kernel, by decide +kernel⟩
structure Txt (mg : Str → Option Value) : Prop where
  all : mg "all" = none
  any : mg "any" = none
  bool : mg "bool" = none
  enumerate : mg "enumerate" = none
  int : mg "int" = none
  isinstance : mg "isinstance" = none
  len : mg "len" = none
  list : mg "list" = none
  max : mg "max" = none
  range : mg "range" = none
  str : mg "str" = none
  tuple : mg "tuple" = none
  zip : mg "zip" = none
theorem ite_true_of {c : Bool} {A B : Prop} (hc : c = true) (h : A) : if c = true then A else B := by
  rw [if_pos hc]
  exact h
theorem ite_false_of {c : Bool} {A B : Prop} (hc : c = false) (h : B) : if c = true then A else B := by
  rw [hc, if_neg Bool.false_ne_true]
  exact h
theorem item_any {ds : List PyData} {r : Int} {P : PyData → Prop} (h0 : 0 ≤ r) (h1 : r < (ds.length : Int)) (h : ∀ d ∈ ds, P d) : ∃ i d, PyData.int r = .int i ∧ ItemAt (.list ds) i d ∧ P d := by
  have hl : r.toNat < ds.length := by omega
  refine ⟨r, ds[r.toNat], rfl, .lst ?_, h _ (List.getElem_mem hl)⟩
  unfold atI ixN
  rw [if_pos h0, if_pos h1]
  exact List.getElem?_eq_getElem hl

local macro_rules | `(tactic| walk_at "dn") => `(tactic| try dsimp only [cxOf, Cx.nox, Cx.wish])
local macro_rules | `(tactic| walk_at "dz") => `(tactic| try simp only [List.set_cons_succ, List.set_cons_zero])
local macro_rules | `(tactic| walk_at "dl") => `(tactic| first
  | with_reducible refine we_int ?_
  | with_reducible refine we_bl ?_
  | with_reducible refine we_non ?_
  | with_reducible refine we_str ?_
  | (with_reducible refine we_var (d := ?dd) ?hh ?_; (case hh => with_unfolding_all rfl))
  | with_reducible refine we_opI ?_
  | with_reducible refine we_opB ?_
  | with_reducible refine we_opC ?_
  | with_reducible refine we_ixV ?_
  | with_reducible refine we_ixI ?_
  | with_reducible refine we_ixC ?_
  | with_reducible refine we_eqD ?_
  | with_reducible refine we_neD ?_
  | with_reducible refine we_neg ?_
  | with_reducible refine we_tupD ?_
  | with_reducible refine we_lstD ?_
  | with_reducible refine wl_lstD ?_
  | with_reducible refine we_callP ?_
  | (with_reducible refine we_callX ?hh ?_; (case hh => with_unfolding_all rfl))
  | with_reducible refine wd_nil ?_
  | with_reducible refine wd_cons ?_
  | with_reducible refine ⟨(rfl : Nat.ble _ _ = true), ?_⟩
  | with_reducible refine we_if ?_
  | with_reducible refine we_andV ?_
  | with_reducible refine we_orV ?_
  | with_reducible refine we_notV ?_
  | with_reducible refine we_isN ?_
  | with_reducible refine we_notN ?_
  | with_reducible refine we_tuple ?_
  | with_reducible refine we_listB ?_
  | with_reducible refine we_ncall ?_
  | with_reducible refine wt_test ?_
  | with_reducible refine wt_B ?_
  | with_reducible refine wt_and ?_
  | with_reducible refine wt_or ?_
  | with_reducible refine wt_not ?_
  | with_reducible refine wa_nil ?_
  | with_reducible refine wa_ty ?_
  | (with_reducible refine wa_raw (w := ?ww) ?hh ?_; (case hh => with_unfolding_all rfl))
  | with_reducible refine wa_cons ?_
  | (with_reducible refine sw_seq ?_; (try dsimp only))
  | (with_reducible refine sw_ret ?_; (try dsimp only))
  | (with_reducible refine sw_retN ?_; (try dsimp only))
  | (with_reducible refine sw_next ?_; (try dsimp only))
  | with_reducible refine sw_if ?_
  | (with_reducible refine sw_asg ?_; (try dsimp only); (try simp only [List.set_cons_succ, List.set_cons_zero]))
  | (with_reducible refine sw_par3 ?_; (try dsimp only); (try simp only [List.set_cons_succ, List.set_cons_zero]))
  | (with_reducible refine sw_par ?_; (try dsimp only); (try simp only [List.set_cons_succ, List.set_cons_zero]))
  | with_reducible refine ⟨_, _, rfl, rfl, And.intro ?_ ?_⟩
  | with_reducible refine ⟨_, _, rfl, rfl, ?_⟩
  | with_reducible refine ⟨_, _, rfl, ItemAt.lst rfl, ?_⟩
  | with_reducible refine ⟨_, _, rfl, ItemAt.tup rfl, ?_⟩
  | with_reducible refine ⟨_, .inl rfl, ?_⟩
  | with_reducible refine ⟨_, .inr rfl, ?_⟩
  | with_reducible refine ⟨_, nc_gcd, ?_⟩
  | with_reducible refine ⟨_, nc_abs, ?_⟩
  | with_reducible refine ⟨_, nc_int, ?_⟩
  | with_reducible refine ⟨_, nc_intb, ?_⟩
  | with_reducible refine ⟨_, nc_isi (by simp), ?_⟩
  | (refine ⟨_, nc_len (by with_unfolding_all rfl), ?_⟩)
  | with_reducible refine ⟨_, rfl, ?_⟩
  | with_reducible refine ⟨rfl, rfl, ?_⟩
  | with_reducible refine iteT ?_
  | with_reducible refine iteF ?_)

local macro_rules | `(tactic| walk_at "dm") => `(tactic| ((fail_if_success (with_reducible refine sw_if ?_)); walk_at "dl"))

local macro_rules | `(tactic| walk_at "dl") => `(tactic| first
  | with_reducible refine wd_star ?_
  | with_reducible refine wl_slice ?_
  | with_reducible refine we_slTup ?_
  | with_reducible refine we_slStr ?_
  | with_reducible refine wo_no ?_
  | with_reducible refine wo_part ?_
  | with_reducible refine wl_cat ?_
  | with_reducible refine wl_rep ?_
  | with_reducible refine we_catT ?_
  | with_reducible refine we_chainI ?_
  | with_reducible refine we_of (te := tSl _ _ _ _) ?_
  | with_reducible refine we_of (te := tOp rCat _ _) ?_
  | with_reducible refine we_of (te := tOp rRep _ _) ?_)

local macro_rules | `(tactic| walk_at "dl") => `(tactic| first
  | with_reducible refine wt_truth ?_
  | with_reducible refine we_inT ?_
  | with_reducible refine we_repT ?_
  | (with_reducible refine we_ixO rfl ?_))

/-- sizes -/
theorem sz_mul {a b : Nat} {i j : Int} (h1 : i.natAbs < 2 ^ a) (h2 : j.natAbs < 2 ^ b) : (i * j).natAbs < 2 ^ (a + b) := wide_lt h1 h2
theorem sz_add {a : Nat} {i j : Int} (h1 : i.natAbs < 2 ^ a) (h2 : j.natAbs < 2 ^ a) : (i + j).natAbs < 2 ^ (a + 1) := by
  have e : 2 ^ (a + 1) = 2 ^ a * 2 := Nat.pow_succ ..
  omega
theorem sz_sub {a : Nat} {i j : Int} (h1 : i.natAbs < 2 ^ a) (h2 : j.natAbs < 2 ^ a) : (i - j).natAbs < 2 ^ (a + 1) := by
  have e : 2 ^ (a + 1) = 2 ^ a * 2 := Nat.pow_succ ..
  omega
theorem sz_up {a b : Nat} {i : Int} (h1 : i.natAbs < 2 ^ a) (h : a ≤ b) : i.natAbs < 2 ^ b := Nat.lt_of_lt_of_le h1 (Nat.pow_le_pow_right (by decide) h)
theorem lt_of_sz {i : Int} {a : Nat} (h : i.natAbs < 2 ^ a) : i < 2 ^ a := by
  have : ((2 ^ a : Nat) : Int) = 2 ^ a := by simp
  omega
theorem mulZ {i j : Int} {a b : Nat} (h1 : i.natAbs < 2 ^ a) (h2 : j.natAbs < 2 ^ b) (ha : a ≤ 250) (hb : b ≤ 250) : CMulW i j := mulS (sz_up h1 ha) (sz_up h2 hb)

def wsD (ws : List Int) : PyData := .tuple (ws.map .int)
def rowD (r : List Int × Int) : PyData := .tuple [wsD r.1, .int r.2]
/-- one more column, so many times -/
def vadd (acc : List Int) (w : Int) (col : List Int) : List Int := List.zipWith (fun a b => a + w * b) acc col
def linL (acc : List Int) (ps : List (List Int × Int)) : List Int := ps.foldl (fun acc p => vadd acc p.2 p.1) acc
theorem vadd_len {acc col : List Int} {w : Int} (h : col.length = acc.length) : (vadd acc w col).length = acc.length := by
  unfold vadd
  rw [List.length_zipWith]
  omega
theorem vadd_at {acc col : List Int} {w : Int} {j : Nat} {a b : Int} (h1 : acc[j]? = some a) (h2 : col[j]? = some b) : (vadd acc w col)[j]? = some (a + w * b) := by
  unfold vadd
  rw [List.getElem?_zipWith, h1, h2]
theorem vadd_zero {acc col : List Int} (h : col.length = acc.length) : vadd acc 0 col = acc := by
  apply List.ext_getElem?
  intro j
  by_cases hj : j < acc.length
  · have h1 : acc[j]? = some acc[j] := List.getElem?_eq_getElem hj
    have h2 : col[j]? = some (col[j]'(by omega)) := List.getElem?_eq_getElem (by omega)
    rw [vadd_at h1 h2, h1]
    simp
  · rw [List.getElem?_eq_none (by rw [vadd_len h]; omega), List.getElem?_eq_none (by omega)]
theorem atI_nat {ds : List PyData} {j : Nat} {d : PyData} (h : ds[j]? = some d) : atI ds (j : Int) = some d := by
  have hl := (List.getElem?_eq_some_iff.mp h).1
  unfold atI ixN
  rw [if_pos (by omega), if_pos (by omega)]
  exact h
theorem atI_last {ds : List PyData} {d : PyData} (h : ds[ds.length - 1]? = some d) : atI ds (-1) = some d := by
  have hl := (List.getElem?_eq_some_iff.mp h).1
  unfold atI ixN
  rw [if_neg (by decide), if_pos (by omega)]
  have e : ((ds.length : Int) + -1).toNat = ds.length - 1 := by omega
  first | (show ds[((ds.length : Int) + -1).toNat]? = some d; rw [e]; exact h) | (simp; exact h)

/-- the places of the weights that count -/
def usedN (ws : List Int) (n : Nat) : List Nat := (List.range n).filter fun j => ws.getD j 0 != 0
def linU (cols : List (List Int)) (ws : List Int) (acc : List Int) (us : List Nat) : List Int := us.foldl (fun acc j => vadd acc (ws.getD j 0) (cols.getD j [])) acc
theorem used_succ (ws : List Int) (n : Nat) : usedN ws (n + 1) = if ws.getD n 0 != 0 then usedN ws n ++ [n] else usedN ws n := by
  unfold usedN
  rw [List.range_succ, List.filter_append]
  by_cases h : (ws.getD n 0 != 0) = true
  · rw [if_pos h]
    simp only [List.filter_cons, h, if_true, List.filter_nil]
  · rw [if_neg h]
    simp only [List.filter_cons, h, List.filter_nil]
    simp
theorem used_lt {ws : List Int} {n j : Nat} (h : j ∈ usedN ws n) : j < n := by
  unfold usedN at h
  exact List.mem_range.mp (List.mem_filter.mp h).1
theorem used_len (ws : List Int) (n : Nat) : (usedN ws n).length ≤ n := by
  unfold usedN
  exact Nat.le_trans (List.length_filter_le _ _) (by rw [List.length_range]; exact Nat.le_refl _)
theorem linU_len {cols : List (List Int)} {ws : List Int} {L : Nat} (hc : ∀ c ∈ cols, c.length = L) : ∀ (us : List Nat) (acc : List Int), acc.length = L → (∀ j ∈ us, j < cols.length) → (linU cols ws acc us).length = L
  | [], _, h, _ => h
  | u :: us, acc, h, hu => by
    show (linU cols ws (vadd acc (ws.getD u 0) (cols.getD u [])) us).length = L
    have hl : u < cols.length := hu u (List.mem_cons_self ..)
    have e : cols.getD u [] = cols[u] := by rw [List.getD_eq_getElem?_getD, List.getElem?_eq_getElem hl]; rfl
    refine linU_len hc us _ ?_ fun j hj => hu j (List.mem_cons_of_mem _ hj)
    rw [vadd_len (by rw [e, h]; exact hc _ (List.getElem_mem hl)), h]
theorem linU_filter {cols : List (List Int)} {ws : List Int} {L : Nat} (hc : ∀ c ∈ cols, c.length = L) : ∀ (us : List Nat) (acc : List Int), acc.length = L → (∀ j ∈ us, j < cols.length) → linU cols ws acc (us.filter fun j => ws.getD j 0 != 0) = linU cols ws acc us
  | [], _, _, _ => rfl
  | u :: us, acc, h, hu => by
    have hl : u < cols.length := hu u (List.mem_cons_self ..)
    have e : cols.getD u [] = cols[u] := by rw [List.getD_eq_getElem?_getD, List.getElem?_eq_getElem hl]; rfl
    have e2 : (cols.getD u []).length = acc.length := by rw [e, h]; exact hc _ (List.getElem_mem hl)
    have hu' : ∀ j ∈ us, j < cols.length := fun j hj => hu j (List.mem_cons_of_mem _ hj)
    by_cases hz : (ws.getD u 0 != 0) = true
    · rw [List.filter_cons_of_pos (p := fun j => ws.getD j 0 != 0) hz]
      exact linU_filter hc us _ (by rw [vadd_len e2]; exact h) hu'
    · rw [List.filter_cons_of_neg (p := fun j => ws.getD j 0 != 0) hz]
      have h0 : ws.getD u 0 = 0 := by simpa using hz
      have e3 : linU cols ws acc (u :: us) = linU cols ws acc us := by
        show linU cols ws (vadd acc (ws.getD u 0) (cols.getD u [])) us = _
        rw [h0, vadd_zero e2]
      rw [e3]
      exact linU_filter hc us acc h hu'
theorem zip_range (cols : List (List Int)) (ws : List Int) (h : ws.length ≤ cols.length) : cols.zip ws = (List.range ws.length).map fun j => (cols.getD j [], ws.getD j 0) := by
  apply List.ext_getElem?
  intro j
  by_cases hj : j < ws.length
  · have h1 : cols[j]? = some (cols[j]'(by omega)) := List.getElem?_eq_getElem (by omega)
    have h2 : ws[j]? = some ws[j] := List.getElem?_eq_getElem hj
    have h3 : (List.range ws.length)[j]? = some j := by rw [List.getElem?_range hj]
    rw [List.getElem?_map, h3]
    have h4 : (cols.zip ws)[j]? = some (cols[j]'(by omega), ws[j]) := List.getElem?_zip_eq_some.mpr ⟨h1, h2⟩
    rw [h4]
    simp only [Option.map_some, List.getD_eq_getElem?_getD, h1, h2, Option.getD_some]
  · rw [List.getElem?_eq_none (by simp; omega), List.getElem?_eq_none (by simp; omega)]
theorem linU_all {cols : List (List Int)} {ws : List Int} {L : Nat} (hc : ∀ c ∈ cols, c.length = L) (h : ws.length ≤ cols.length) {acc : List Int} (ha : acc.length = L) : linU cols ws acc (usedN ws ws.length) = linL acc (cols.zip ws) := by
  unfold usedN
  rw [linU_filter hc _ acc ha (fun j hj => by have := List.mem_range.mp hj; omega), zip_range cols ws h]
  unfold linL linU
  rw [List.foldl_map]
theorem linU_app (cols : List (List Int)) (ws acc : List Int) (us vs : List Nat) : linU cols ws acc (us ++ vs) = linU cols ws (linU cols ws acc us) vs := by
  unfold linU
  rw [List.foldl_append]
def R_weighed (ds : List PyData) (P : PyData → Prop) : Prop := ∃ (cols : List (List Int)) (ws : List Int) (L : Nat), ds = [.list (cols.map wsD), .list (ws.map .int)] ∧ (∀ c ∈ cols, c.length = L ∧ ∀ x ∈ c, x.natAbs < 2 ^ 200) ∧ (∀ w ∈ ws, w.natAbs < 2 ^ 200) ∧
  cols ≠ [] ∧ ws.length ≤ cols.length ∧ cols.length ≤ 1000 ∧ L ≤ 1000 ∧ P (.list ((linL (List.replicate L 0) (cols.zip ws)).map .int))
instance : MonoR R_weighed := ⟨fun _ _ _ h ⟨cols, ws, L, e, a1, a2, a3, a4, a5, a6, k⟩ => ⟨cols, ws, L, e, a1, a2, a3, a4, a5, a6, h _ k⟩⟩
/-- an item told by its place -/
theorem at_list {α : Type} {f : α → PyData} {xs : List α} {j : Nat} {x : α} (h : xs[j]? = some x) : ItemAt (.list (xs.map f)) (j : Int) (f x) := .lst (atI_nat (by rw [List.getElem?_map, h]; rfl))
theorem getD_at {α : Type} {xs : List α} {j : Nat} {d : α} (h : j < xs.length) : xs[j]? = some (xs.getD j d) := by
  rw [List.getD_eq_getElem?_getD, List.getElem?_eq_getElem h]
  rfl
theorem ok_weighed {P : Program} {w : World} {K : PySem.W.Frag} {mg : Str → Option Value} {base : Heap} (Fn : FunAt K mg "weighed" s_weighed ["columns", "weights"]) (T : Txt mg) : Def P w K mg base "weighed" 1 ["columns", "weights"] (spP K R_weighed) := by
  refine fn_P Fn sc_weighed (fun ds Q ⟨m, n, e, e2, _⟩ => by rw [e2]; rfl) fun f cdv A outer s H E hr => ⟨_, (pss_cons (ps_setLc (i := 4) (own := [("place", 2), ("weight", 3)]) (g := (gTup K 2 (gCons (gName 2) (gCons (gName 3) gNil)))) rfl sc_weighed.nd rfl rfl (sw_true rfl rfl rfl (by decide +kernel)) (DL.pi_enumK (K := K) rfl (by rfl) T.enumerate (pa_cons (pv 1) pa_nil)) (blkOk_by (own := [("place", 2), ("weight", 3)]) (N := ["columns", "weights", "place", "weight", "used", "first", "total", "one", "other", "left", "right", "last", "number", "so_far", "a", "b"]) (sc := defScope s_weighed) (by decide +kernel)) (fun _ _ _ _ _ => (pg_tup (n := 2) rfl (pgs_cons (pg_name (i := 2) sc_weighed.nd rfl (Or.inl rfl) (hf := Or.inr rfl)) (pgs_cons (pg_name (i := 3) sc_weighed.nd rfl (Or.inl rfl) (hf := Or.inr rfl)) pgs_nil)))) (fun _ _ _ _ _ => (pts_one (DL.pt_truthK (K := K) rfl (pv 3) (by intro _; rfl)))) (fun _ _ _ _ _ => (pv 2)))
      (pss_cons (ps_if (pt_not (DL.pt_truthK (K := K) rfl (pv 4) (by intro _; rfl))) (pss_one (ps_ret (pe_op op_rep (pe_lst (pa_cons pe_int pa_nil)) (pe_callB (call_lenK (K := K) rfl) (by rfl) T.len (by decide +kernel) (pa_cons (pe_ix (ix_seqK (K := K) rfl) (pv 0) pe_int (fun _ _ => rfl)) pa_nil))))) pss_nil)
      (pss_cons (ps_asg (pe_ix (ix_seqK (K := K) rfl) (pv 4) pe_int (fun _ _ => rfl)) (pg_name (i := 5) sc_weighed.nd rfl (Or.inl rfl)))
      (pss_cons (ps_asg (pe_ix (ix_seqK (K := K) rfl) (pv 1) (pv 5) (fun _ _ => rfl)) (pg_name (i := 3) sc_weighed.nd rfl (Or.inr rfl)))
      (pss_cons (ps_setLc (i := 6) (own := [("number", 12)]) (g := (gName 12)) rfl sc_weighed.nd rfl rfl (sw_true rfl rfl rfl (by decide +kernel)) (pi_tupK (K := K) rfl (pe_ix (ix_seqK (K := K) rfl) (pv 0) (pv 5) (fun _ _ => rfl))) (blkOk_by (own := [("number", 12)]) (N := ["columns", "weights", "place", "weight", "used", "first", "total", "one", "other", "left", "right", "last", "number", "so_far", "a", "b"]) (sc := defScope s_weighed) (by decide +kernel)) (fun _ _ _ _ _ => (pg_name (i := 12) sc_weighed.nd rfl (Or.inl rfl) (hf := Or.inr rfl))) (fun _ _ _ _ _ => pts_nil) (fun _ _ _ _ _ => (pe_op op_mulW (pv 3) (pv 12))))
      (pss_cons (ps_for PassesOwn.never rfl (pi_range3 rfl T.range (pa_cons pe_int (pa_cons (pe_op op_sub (pe_callB (call_lenK (K := K) rfl) (by rfl) T.len (by decide +kernel) (pa_cons (pv 4) pa_nil)) pe_int) (pa_cons pe_int pa_nil)))) (pg_name (i := 2) sc_weighed.nd rfl (Or.inl rfl))
      (pss_cons (ps_par (i := 7) (j := 8) (by rfl) sc_weighed.nd rfl rfl (by decide) rfl rfl (pa_cons (pe_ix (ix_seqK (K := K) rfl) (pv 4) (pv 2) (fun _ _ => rfl)) (pa_cons (pe_ix (ix_seqK (K := K) rfl) (pv 4) (pe_op op_add (pv 2) pe_int) (fun _ _ => rfl)) pa_nil)) (by rfl))
      (pss_cons (ps_asg (pe_tup (pa_cons (pe_ix (ix_seqK (K := K) rfl) (pv 1) (pv 7) (fun _ _ => rfl)) (pa_cons (pe_ix (ix_seqK (K := K) rfl) (pv 1) (pv 8) (fun _ _ => rfl)) pa_nil))) (pg_tup (n := 2) rfl (pgs_cons (pg_name (i := 9) sc_weighed.nd rfl (Or.inr rfl)) (pgs_cons (pg_name (i := 10) sc_weighed.nd rfl (Or.inr rfl)) pgs_nil))))
      (pss_one (ps_setLc (i := 6) (own := [("so_far", 13), ("a", 14), ("b", 15)]) (g := (gTup K 3 (gCons (gName 13) (gCons (gName 14) (gCons (gName 15) gNil))))) rfl sc_weighed.nd rfl rfl (sw_true rfl rfl rfl (by decide +kernel)) (DL.pi_zip3K (K := K) rfl (by rfl) T.zip (pa_cons (pv 6) (pa_cons (pe_ix (ix_seqK (K := K) rfl) (pv 0) (pv 7) (fun _ _ => rfl)) (pa_cons (pe_ix (ix_seqK (K := K) rfl) (pv 0) (pv 8) (fun _ _ => rfl)) pa_nil)))) (blkOk_by (own := [("so_far", 13), ("a", 14), ("b", 15)]) (N := ["columns", "weights", "place", "weight", "used", "first", "total", "one", "other", "left", "right", "last", "number", "so_far", "a", "b"]) (sc := defScope s_weighed) (by decide +kernel)) (fun _ _ _ _ _ => (pg_tup (n := 3) rfl (pgs_cons (pg_name (i := 13) sc_weighed.nd rfl (Or.inl rfl) (hf := Or.inr rfl)) (pgs_cons (pg_name (i := 14) sc_weighed.nd rfl (Or.inl rfl) (hf := Or.inr rfl)) (pgs_cons (pg_name (i := 15) sc_weighed.nd rfl (Or.inl rfl) (hf := Or.inr rfl)) pgs_nil))))) (fun _ _ _ _ _ => pts_nil) (fun _ _ _ _ _ => (pe_op op_add (pe_op op_add (pv 13) (pe_op op_mulW (pv 9) (pv 14))) (pe_op op_mulW (pv 10) (pv 15)))))))))
      (pss_cons (ps_if (pt_cmpR (op_eqDK (K := K) rfl hr.units) (pe_op op_mod (pe_callB (call_lenK (K := K) rfl) (by rfl) T.len (by decide +kernel) (pa_cons (pv 4) pa_nil)) pe_int) pe_int (nomark _)) (pss_cons (ps_asg (pe_ix (ix_seqK (K := K) rfl) (pv 4) (pe_un un_neg pe_int) (fun _ _ => rfl)) (pg_name (i := 11) sc_weighed.nd rfl (Or.inl rfl)))
      (pss_cons (ps_asg (pe_ix (ix_seqK (K := K) rfl) (pv 1) (pv 11) (fun _ _ => rfl)) (pg_name (i := 3) sc_weighed.nd rfl (Or.inr rfl)))
      (pss_one (ps_setLc (i := 6) (own := [("so_far", 13), ("number", 12)]) (g := (gTup K 2 (gCons (gName 13) (gCons (gName 12) gNil)))) rfl sc_weighed.nd rfl rfl (sw_true rfl rfl rfl (by decide +kernel)) (pi_zipK (K := K) rfl (by rfl) T.zip (pa_cons (pv 6) (pa_cons (pe_ix (ix_seqK (K := K) rfl) (pv 0) (pv 11) (fun _ _ => rfl)) pa_nil))) (blkOk_by (own := [("so_far", 13), ("number", 12)]) (N := ["columns", "weights", "place", "weight", "used", "first", "total", "one", "other", "left", "right", "last", "number", "so_far", "a", "b"]) (sc := defScope s_weighed) (by decide +kernel)) (fun _ _ _ _ _ => (pg_tup (n := 2) rfl (pgs_cons (pg_name (i := 13) sc_weighed.nd rfl (Or.inl rfl) (hf := Or.inr rfl)) (pgs_cons (pg_name (i := 12) sc_weighed.nd rfl (Or.inl rfl) (hf := Or.inr rfl)) pgs_nil)))) (fun _ _ _ _ _ => pts_nil) (fun _ _ _ _ _ => (pe_op op_add (pv 13) (pe_op op_mulW (pv 3) (pv 12)))))))) pss_nil)
      (pss_one (ps_ret (pv 6)))))))))), fun ds Q hR => ?_⟩
  obtain ⟨cols, ws, L, rfl, hcb, hwb, hne, hlw, hcl, hL, k⟩ := hR
  have hc : ∀ c ∈ cols, c.length = L := fun c h => (hcb c h).1
  rw [← linU_all hc hlw (List.length_replicate ..)] at k
  show SW _ _ _ [.d (.list (cols.map wsD)), .d (.list (ws.map .int)), .no, .no, .no, .no, .no, .no, .no, .no, .no, .no, .no, .no, .no, .no] _ _
  walk_at "dn"
  walk_at "dl"
  refine sw_asg (we_of (wl_comp (ow_tup (ows_cons (ow_name (by decide)) (ows_cons (ow_name (by decide)) ows_nil))) (fun i acc => acc = (usedN ws i).map fun j => PyData.int (j : Nat)) ws.length (fun i d => ∃ x, (ws.map PyData.int)[i]? = some x ∧ d = .tuple [.int (i : Nat), x]) ?_ rfl (by omega) (fun i acc h => by rw [h, List.length_map]; exact used_len ws i) ?_ ?_))
  · refine iw_enum ?_
    repeat' walk_at "dl"
    exact ⟨by simp, rfl⟩
  · rintro i _ acc p hi ⟨x, hx, rfl⟩ hacc
    have hn : ws[i]? = some ws[i] := List.getElem?_eq_getElem hi
    rw [List.getElem?_map, hn] at hx
    cases hx
    refine gw_tup rfl (gws_name (gws_name (gws_nil ⟨rfl, ?_⟩)))
    show WT _ _ _ [.d (.list (cols.map wsD)), .d (.list (ws.map .int)), .d (.int (i : Nat)), .d (.int ws[i]), .no, .no, .no, .no, .no, .no, .no, .no, .no, .no, .no, .no] _ _
    have hg : ws.getD i 0 = ws[i] := by rw [List.getD_eq_getElem?_getD, hn]; rfl
    repeat' walk_at "dl"
    rw [used_succ, hg]
    by_cases hz : (ws[i] != 0) = true
    · rw [if_pos hz, if_pos hz]
      repeat' walk_at "dl"
      rw [hacc, List.map_append]
      rfl
    · rw [if_neg hz, if_neg hz]
      exact hacc
  · intro acc hacc
    subst hacc
    try dsimp only
    walk_at "dz"
    have hu : ∀ j ∈ usedN ws ws.length, j < ws.length := fun j hj => used_lt hj
    have hul := used_len ws ws.length
    generalize usedN ws ws.length = us at *
    walk_at "dl"
    walk_at "dl"
    refine wt_not (wt_truth ?_)
    cases us with
    | nil =>
      repeat' walk_at "dl"
      refine ite_true_of rfl ?_
      obtain ⟨c0, cs, rfl⟩ : ∃ c0 cs, cols = c0 :: cs := by
        cases cols with
        | nil => exact absurd rfl hne
        | cons a b => exact ⟨a, b, rfl⟩
      have hc0 : c0.length = L := hc c0 (List.mem_cons_self ..)
      repeat' walk_at "dl"
      intro p
      repeat' walk_at "dl"
      refine ⟨_, _, rfl, at_list (j := 0) rfl, ?_⟩
      walk_at "dl"
      refine ⟨_, nc_len (show lenD (wsD c0) = some L by show some (c0.map PyData.int).length = some L; rw [List.length_map, hc0]), ?_⟩
      refine ⟨_, rfl, by omega, by omega, by simp; omega, ?_⟩
      have e2 : (List.replicate ((L : Int)).toNat [PyData.int 0]).flatten = (linU (c0 :: cs) ws (List.replicate L 0) []).map .int := by
        show _ = (List.replicate L (0 : Int)).map PyData.int
        rw [Int.toNat_natCast, List.map_replicate]
        simp
      rw [e2]
      exact k
    | cons u0 us =>
      have hu0 : u0 < ws.length := hu u0 (List.mem_cons_self ..)
      have at_us : ∀ {j : Nat} {v : Nat}, (u0 :: us)[j]? = some v → ItemAt (.list ((u0 :: us).map fun j => PyData.int (j : Nat))) (j : Int) (.int (v : Nat)) := fun h => at_list h
      have at_ws : ∀ {j : Nat}, j < ws.length → ItemAt (.list (ws.map .int)) (j : Int) (.int (ws.getD j 0)) := fun h => at_list (getD_at h)
      have at_cs : ∀ {j : Nat}, j < ws.length → ItemAt (.list (cols.map wsD)) (j : Int) (wsD (cols.getD j [])) := fun h => at_list (getD_at (by omega))
      have cl : ∀ {j : Nat}, j < ws.length → (cols.getD j []).length = L ∧ ∀ x ∈ cols.getD j [], x.natAbs < 2 ^ 200 := fun {j} h => by
        have h' : j < cols.length := by omega
        have e : cols.getD j [] = cols[j] := by rw [List.getD_eq_getElem?_getD, List.getElem?_eq_getElem h']; rfl
        rw [e]
        exact hcb _ (List.getElem_mem h')
      have wl : ∀ {j : Nat}, j < ws.length → (ws.getD j 0).natAbs < 2 ^ 200 := fun {j} h => by
        have e : ws.getD j 0 = ws[j] := by rw [List.getD_eq_getElem?_getD, List.getElem?_eq_getElem h]; rfl
        rw [e]
        exact hwb _ (List.getElem_mem h)
      repeat' walk_at "dl"
      refine ite_false_of rfl ?_
      repeat' walk_at "dl"
      refine ⟨_, _, rfl, at_us (j := 0) rfl, ?_⟩
      repeat' walk_at "dl"
      refine ⟨_, _, rfl, at_ws hu0, ?_⟩
      repeat' walk_at "dl"
      refine we_of (wl_map (ow_name (by decide)) L (fun i d => ((cols.getD u0 []).map PyData.int)[i]? = some d) ((linU cols ws (List.replicate L 0) [u0]).map .int) ?_ (by omega) ?_ ?_ ?_)
      · refine iw_tup ?_
        repeat' walk_at "dl"
        refine ⟨_, _, rfl, at_cs hu0, ?_⟩
        exact ⟨_, rfl, by rw [List.length_map]; exact (cl hu0).1, rfl⟩
      · rw [List.length_map]
        exact linU_len hc [u0] _ (List.length_replicate ..) (fun j hj => by simp at hj; omega)
      · intro i d y p acc hi hd hy
        have hc0 := (cl hu0).1
        have hn : (cols.getD u0 [])[i]? = some ((cols.getD u0 [])[i]'(by omega)) := List.getElem?_eq_getElem _
        rw [List.getElem?_map, hn] at hd
        cases hd
        have hr : (List.replicate L (0 : Int))[i]? = some 0 := by rw [List.getElem?_replicate, if_pos hi]
        have hv : (linU cols ws (List.replicate L 0) [u0])[i]? = _ := vadd_at (w := ws.getD u0 0) hr hn
        rw [List.getElem?_map, hv] at hy
        cases hy
        refine gw_name ⟨rfl, ?_⟩
        generalize hx : (cols.getD u0 [])[i]'(by omega) = x at *
        have hxb : x.natAbs < 2 ^ 200 := by rw [← hx]; exact (cl hu0).2 _ (List.getElem_mem _)
        show WE _ _ _ [.d (.list (cols.map wsD)), .d (.list (ws.map .int)), .no, .d (.int (ws.getD u0 0)), .d (.list ((u0 :: us).map fun j => PyData.int (j : Nat))), .d (.int (u0 : Nat)), .no, .no, .no, .no, .no, .no, .d (.int x), .no, .no, .no] _ _
        repeat' walk_at "dl"
        · exact mulZ (wl hu0) hxb (by decide) (by decide)
        · rw [Int.zero_add]
      walk_at "dz"
      walk_at "dl"
      have zl : (List.replicate L (0 : Int)).length = L := List.length_replicate ..
      have ul : ∀ (vs : List Nat), (∀ j ∈ vs, j ∈ u0 :: us) → (linU cols ws (List.replicate L 0) vs).length = L := fun vs hv => linU_len hc vs _ zl (fun j hj => by have := hu j (hv j hj); omega)
      have at_d : ∀ {j : Nat}, j < (u0 :: us).length → ItemAt (.list ((u0 :: us).map fun j => PyData.int (j : Nat))) (j : Int) (.int ((u0 :: us).getD j 0 : Nat)) := fun h => at_us (getD_at h)
      have mem_d : ∀ {j : Nat}, j < (u0 :: us).length → (u0 :: us).getD j 0 ∈ u0 :: us := fun {j} h => by
        rw [List.getD_eq_getElem?_getD, List.getElem?_eq_getElem h]
        exact List.getElem_mem h
      have hn61 : (u0 :: us).length < 2 ^ 61 := by
        have : (2 : Nat) ^ 61 > 1000 := by decide
        omega
      refine sw_for (fun i Z O => ∃ z7 z8 z9 z10 z2, Z = [.d (.list (cols.map wsD)), .d (.list (ws.map .int)), z2, .d (.int (ws.getD u0 0)), .d (.list ((u0 :: us).map fun j => PyData.int (j : Nat))), .d (.int (u0 : Nat)), .d (.list ((linU cols ws (List.replicate L 0) ((u0 :: us).take (1 + 2 * i))).map .int)), z7, z8, z9, z10, .no, .no, .no, .no, .no] ∧ O = []) ((((u0 :: us).length : Nat) - 1 : Int) / 2).toNat (fun i d => d = .int (1 + (i : Nat) * 2)) ?_ ⟨_, _, _, _, _, rfl, rfl⟩ ?_ ?_
      · refine iw_rng3 ?_
        repeat' walk_at "dl"
        refine ⟨_, _, _, _, rfl, rgc_two ?_ ?_, by rw [List.length_map], rfl⟩
        · rw [List.length_map, List.length_cons]; omega
        · rw [List.length_map]; omega
      · rintro i d _ _ hi rfl ⟨z7, z8, z9, z10, z2, rfl, rfl⟩
        have hi2 : 1 + 2 * i + 1 < (u0 :: us).length := by omega
        have ej : (1 + (i : Nat) * 2 : Int) = ((1 + 2 * i : Nat) : Int) := by omega
        have ej2 : ((1 + 2 * i : Nat) : Int) + 1 = ((1 + 2 * i + 1 : Nat) : Int) := by omega
        rw [ej]
        have ea : (u0 :: us)[1 + 2 * i]? = some ((u0 :: us).getD (1 + 2 * i) 0) := getD_at (by omega)
        have eb : (u0 :: us)[1 + 2 * i + 1]? = some ((u0 :: us).getD (1 + 2 * i + 1) 0) := getD_at hi2
        have ma := mem_d (j := 1 + 2 * i) (by omega)
        have mb := mem_d (j := 1 + 2 * i + 1) hi2
        have et : linU cols ws (List.replicate L 0) ((u0 :: us).take (1 + 2 * (i + 1))) = vadd (vadd (linU cols ws (List.replicate L 0) ((u0 :: us).take (1 + 2 * i))) (ws.getD ((u0 :: us).getD (1 + 2 * i) 0) 0) (cols.getD ((u0 :: us).getD (1 + 2 * i) 0) [])) (ws.getD ((u0 :: us).getD (1 + 2 * i + 1) 0) 0) (cols.getD ((u0 :: us).getD (1 + 2 * i + 1) 0) []) := by
          have e2 : 1 + 2 * (i + 1) = (1 + 2 * i + 1) + 1 := by omega
          rw [e2, List.take_succ, eb, List.take_succ, ea, linU_app, linU_app]
          rfl
        have hz := ul ((u0 :: us).take (1 + 2 * i)) (fun j hj => List.mem_of_mem_take hj)
        refine gw_name ?_
        walk_at "dz"
        refine sw_seq ?_
        refine sw_par ?_
        refine we_ixV ?_
        repeat' walk_at "dl"
        refine ⟨_, _, rfl, at_d (by omega), ?_⟩
        repeat' walk_at "dl"
        rw [ej2]
        refine ⟨_, _, rfl, at_d hi2, ?_⟩
        generalize (u0 :: us).getD (1 + 2 * i) 0 = ua at *
        generalize (u0 :: us).getD (1 + 2 * i + 1) 0 = ub at *
        have la := hu ua ma
        have lb := hu ub mb
        try dsimp only
        walk_at "dz"
        refine sw_seq ?_
        refine sw_asgG ?_
        repeat' walk_at "dl"
        refine ⟨_, _, rfl, at_ws la, ?_⟩
        repeat' walk_at "dl"
        refine ⟨_, _, rfl, at_ws lb, ?_⟩
        repeat' walk_at "dl"
        refine gw_tup rfl (gws_name (gws_name (gws_nil ?_)))
        try dsimp only
        walk_at "dz"
        generalize linU cols ws (List.replicate L 0) ((u0 :: us).take (1 + 2 * i)) = acc at *
        refine sw_asg (we_of (wl_map (ow_tup (ows_cons (ow_name (by decide)) (ows_cons (ow_name (by decide)) (ows_cons (ow_name (by decide)) ows_nil)))) L (fun i d => ∃ x y z, (acc.map PyData.int)[i]? = some x ∧ ((cols.getD ua []).map PyData.int)[i]? = some y ∧ ((cols.getD ub []).map PyData.int)[i]? = some z ∧ d = .tuple [x, y, z]) ((vadd (vadd acc (ws.getD ua 0) (cols.getD ua [])) (ws.getD ub 0) (cols.getD ub [])).map .int) ?_ (by omega) ?_ ?_ ?_))
        · refine iw_zip3 ?_
          refine wa_cons ?_
          repeat' walk_at "dl"
          refine ⟨_, _, rfl, at_cs la, ?_⟩
          repeat' walk_at "dl"
          refine ⟨_, _, rfl, at_cs lb, ?_⟩
          repeat' walk_at "dl"
          refine ⟨_, _, _, _, _, _, rfl, rfl, rfl, rfl, ?_, rfl⟩
          simp only [List.length_map]
          rw [hz, (cl la).1, (cl lb).1]
          omega
        · rw [List.length_map, vadd_len, vadd_len] <;> first | (rw [(cl la).1, hz]) | (rw [vadd_len (by rw [(cl la).1, hz]), (cl lb).1, hz]) | exact hz
        · rintro q d y p _ hq ⟨x1, x2, x3, h1, h2, h3, rfl⟩ hy
          have a1 : acc[q]? = some (acc[q]'(by omega)) := List.getElem?_eq_getElem _
          have a2 : (cols.getD ua [])[q]? = some ((cols.getD ua [])[q]'(by rw [(cl la).1]; exact hq)) := List.getElem?_eq_getElem _
          have a3 : (cols.getD ub [])[q]? = some ((cols.getD ub [])[q]'(by rw [(cl lb).1]; exact hq)) := List.getElem?_eq_getElem _
          rw [List.getElem?_map, a1] at h1
          rw [List.getElem?_map, a2] at h2
          rw [List.getElem?_map, a3] at h3
          cases h1
          cases h2
          cases h3
          rw [List.getElem?_map, vadd_at (vadd_at a1 a2) a3] at hy
          cases hy
          refine gw_tup rfl (gws_name (gws_name (gws_name (gws_nil ⟨rfl, ?_⟩))))
          have b2 := (cl la).2 _ (List.getElem_mem (by rw [(cl la).1]; exact hq))
          have b3 := (cl lb).2 _ (List.getElem_mem (by rw [(cl lb).1]; exact hq))
          show WE _ _ _ [_, _, _, _, _, _, _, _, _, .d (.int (ws.getD ua 0)), .d (.int (ws.getD ub 0)), _, _, .d (.int _), .d (.int _), .d (.int _)] _ _
          repeat' walk_at "dl"
          · exact mulZ (wl la) b2 (by decide) (by decide)
          · repeat' walk_at "dl"
            exact mulZ (wl lb) b3 (by decide) (by decide)
          · rfl
        · dsimp only
          walk_at "dz"
          rw [et]
          exact ⟨_, _, _, _, _, rfl, True.intro⟩
      · rintro _ _ ⟨z7, z8, z9, z10, z2, rfl, rfl⟩
        try dsimp only
        have hz := ul ((u0 :: us).take (1 + 2 * ((((u0 :: us).length : Nat) - 1 : Int) / 2).toNat)) (fun j hj => List.mem_of_mem_take hj)
        repeat' walk_at "dm"
        refine sw_if ?_
        repeat' walk_at "dl"
        · show (0 : Int) < 2; decide
        rw [List.length_map]
        refine ite2 (fun hc => ?_) (fun hc => ?_)
        · have h2 : (u0 :: us).length % 2 = 0 := by
            simp [PyData.eqv] at hc
            simp only [List.length_cons]
            omega
          have hl1 : (u0 :: us).length = (1 + 2 * ((((u0 :: us).length : Nat) - 1 : Int) / 2).toNat) + 1 := by
            simp only [List.length_cons] at h2 ⊢
            omega
          have el : (u0 :: us)[(u0 :: us).length - 1]? = some ((u0 :: us).getD ((u0 :: us).length - 1) 0) := getD_at (by simp)
          have ml := mem_d (j := (u0 :: us).length - 1) (by simp)
          have et : linU cols ws (List.replicate L 0) (u0 :: us) = vadd (linU cols ws (List.replicate L 0) ((u0 :: us).take (1 + 2 * ((((u0 :: us).length : Nat) - 1 : Int) / 2).toNat))) (ws.getD ((u0 :: us).getD ((u0 :: us).length - 1) 0) 0) (cols.getD ((u0 :: us).getD ((u0 :: us).length - 1) 0) []) := by
            have e2 : (u0 :: us).take ((1 + 2 * ((((u0 :: us).length : Nat) - 1 : Int) / 2).toNat) + 1) = u0 :: us := by
              rw [← hl1, List.take_length]
            have e3 : (u0 :: us)[1 + 2 * ((((u0 :: us).length : Nat) - 1 : Int) / 2).toNat]? = some ((u0 :: us).getD ((u0 :: us).length - 1) 0) := by
              rw [← el]
              congr 1
              omega
            conv => lhs; rw [← e2]
            rw [List.take_succ, e3, linU_app]
            rfl
          repeat' walk_at "dl"
          refine ⟨_, _, rfl, .lst (atI_last (by rw [List.length_map, List.getElem?_map, el]; rfl)), ?_⟩
          repeat' walk_at "dl"
          generalize (u0 :: us).getD ((u0 :: us).length - 1) 0 = ua at *
          have la := hu ua ml
          refine ⟨_, _, rfl, at_ws la, ?_⟩
          try dsimp only
          walk_at "dz"
          generalize linU cols ws (List.replicate L 0) ((u0 :: us).take (1 + 2 * ((((u0 :: us).length : Nat) - 1 : Int) / 2).toNat)) = acc at *
          refine sw_asg (we_of (wl_map (ow_tup (ows_cons (ow_name (by decide)) (ows_cons (ow_name (by decide)) ows_nil))) L (fun i d => ∃ x y, (acc.map PyData.int)[i]? = some x ∧ ((cols.getD ua []).map PyData.int)[i]? = some y ∧ d = .tuple [x, y]) ((vadd acc (ws.getD ua 0) (cols.getD ua [])).map .int) ?_ (by omega) ?_ ?_ ?_))
          · refine iw_zip ?_
            refine wa_cons ?_
            repeat' walk_at "dl"
            refine ⟨_, _, rfl, at_cs la, ?_⟩
            repeat' walk_at "dl"
            refine ⟨_, _, _, _, rfl, rfl, rfl, ?_, rfl⟩
            simp only [List.length_map]
            rw [hz, (cl la).1]
            omega
          · rw [List.length_map, vadd_len (by rw [(cl la).1, hz]), hz]
          · rintro q d y p _ hq ⟨x1, x2, h1, h2, rfl⟩ hy
            have a1 : acc[q]? = some (acc[q]'(by omega)) := List.getElem?_eq_getElem _
            have a2 : (cols.getD ua [])[q]? = some ((cols.getD ua [])[q]'(by rw [(cl la).1]; exact hq)) := List.getElem?_eq_getElem _
            rw [List.getElem?_map, a1] at h1
            rw [List.getElem?_map, a2] at h2
            cases h1
            cases h2
            rw [List.getElem?_map, vadd_at a1 a2] at hy
            cases hy
            refine gw_tup rfl (gws_name (gws_name (gws_nil ⟨rfl, ?_⟩)))
            have b2 := (cl la).2 _ (List.getElem_mem (by rw [(cl la).1]; exact hq))
            show WE _ _ _ [_, _, _, .d (.int (ws.getD ua 0)), _, _, _, _, _, _, _, _, .d (.int _), .d (.int _), _, _] _ _
            repeat' walk_at "dl"
            · exact mulZ (wl la) b2 (by decide) (by decide)
            · rfl
          · dsimp only
            walk_at "dz"
            repeat' walk_at "dl"
            rw [← et]
            exact k
        · have h2 : (u0 :: us).length % 2 = 1 := by
            simp [PyData.eqv] at hc
            simp only [List.length_cons]
            omega
          have hl1 : (u0 :: us).length = (1 + 2 * ((((u0 :: us).length : Nat) - 1 : Int) / 2).toNat) := by
            simp only [List.length_cons] at h2 ⊢
            omega
          repeat' walk_at "dl"
          rw [← hl1, List.take_length]
          exact k

theorem ok__law_take {P : Program} {w : World} {K : PySem.W.Frag} {mg : Str → Option Value} {base : Heap} (Fn : FunAt K mg "_law_take" s__law_take ["_law_box_here", "_law_many"]) (T : Txt mg) : Def P w K mg base "_law_take" 1 ["_law_box_here", "_law_many"] (spB K R_take) := by
  refine fn_B Fn sc__law_take (fun ds Q ⟨m, e, _⟩ => by rw [e]; rfl) fun f cdv A outer s H E hr => ⟨_, (pss_cons (ps_if (PW.pt (pw_and (pt_cmpR (op_eqDK (K := K) rfl hr.units) (pe_ix (ix_seqK (K := K) rfl) (pv 0) pe_int (fun _ _ => rfl)) pe_int (nomark _)) (pw_and1 (pt_cmpR op_lt (pe_ix (ix_seqK (K := K) rfl) (pv 0) pe_int (fun _ _ => rfl)) (pe_callB (call_lenK (K := K) rfl) (by rfl) T.len (by decide +kernel) (pa_cons (pe_ix (ix_seqK (K := K) rfl) (pv 0) pe_int (fun _ _ => rfl)) pa_nil)) (nomark _))))) (pss_cons (ps_asg (pe_ix (ix_seqK (K := K) rfl) (pe_ix (ix_seqK (K := K) rfl) (pv 0) pe_int (fun _ _ => rfl)) (pe_ix (ix_seqK (K := K) rfl) (pv 0) pe_int (fun _ _ => rfl)) (fun _ _ => rfl)) (pg_name (i := 2) sc__law_take.nd rfl (Or.inl rfl)))
      (pss_cons (ps_asg (pe_op op_add (pe_ix (ix_seqK (K := K) rfl) (pv 0) pe_int (fun _ _ => rfl)) pe_int) (pg_sub (pv 0) pe_int set_list))
      (pss_one (ps_if (pt_cmpR op_ge (pv 2) (pe_op op_pow pe_int pe_int) (nomark _)) (pss_one (ps_asg (pv 2) (pg_sub (pv 0) pe_int set_list))) (pss_cons (ps_asg (pe_op op_add (pe_op op_mulW (pe_ix (ix_seqK (K := K) rfl) (pv 0) pe_int (fun _ _ => rfl)) pe_int) (pe_op op_mod (pv 2) pe_int)) (pg_name (i := 3) sc__law_take.nd rfl (Or.inl rfl)))
      (pss_one (ps_asg (pe_op op_mod (pe_op op_add (pv 3) (pe_op op_mulW (pe_ix (ix_seqK (K := K) rfl) (pv 0) pe_int (fun _ _ => rfl)) pe_int)) pe_int) (pg_sub (pv 0) pe_int set_list)))))))) pss_nil)
      (pss_cons (ps_if (pt_cmpR op_gt (pe_ix (ix_seqK (K := K) rfl) (pv 0) pe_int (fun _ _ => rfl)) pe_int (nomark _)) (pss_cons (ps_asg (pe_op op_mod (pe_ix (ix_seqK (K := K) rfl) (pv 0) pe_int (fun _ _ => rfl)) (pv 1)) (pg_name (i := 4) sc__law_take.nd rfl (Or.inl rfl)))
      (pss_cons (ps_asg (pe_op op_fdivW (pe_ix (ix_seqK (K := K) rfl) (pv 0) pe_int (fun _ _ => rfl)) (pv 1)) (pg_sub (pv 0) pe_int set_list))
      (pss_one (ps_ret (pv 4))))) pss_nil)
      (pss_cons (ps_asg (pe_op op_add (pe_op op_mulW (pe_ix (ix_seqK (K := K) rfl) (pv 0) pe_int (fun _ _ => rfl)) (pe_ix (ix_seqK (K := K) rfl) (pv 0) pe_int (fun _ _ => rfl))) (pe_op op_mulW (pe_ix (ix_seqK (K := K) rfl) (pv 0) pe_int (fun _ _ => rfl)) pe_int)) (pg_name (i := 3) sc__law_take.nd rfl (Or.inl rfl)))
      (pss_cons (ps_asg (pe_op op_mod (pe_op op_add (pe_op op_add (pv 3) pe_int) (pe_ix (ix_seqK (K := K) rfl) (pv 0) pe_int (fun _ _ => rfl))) pe_int) (pg_sub (pv 0) pe_int set_list))
      (pss_one (ps_ret (pe_op op_mod (pe_op op_add (pe_op op_fdivW (pe_ix (ix_seqK (K := K) rfl) (pv 0) pe_int (fun _ _ => rfl)) pe_int) (pe_op op_mulW (pe_op op_mod (pe_ix (ix_seqK (K := K) rfl) (pv 0) pe_int (fun _ _ => rfl)) pe_int) pe_int)) (pv 1)))))))), fun b ds Q hR => ?_⟩
  obtain ⟨m, rfl, hm0, hm1, k⟩ := hR
  intro F σ G H E c cv
  have hz : ∃ a2 a3 a4, σ = [some (.ref b), some (.int m), a2, a3, a4] := by
    have l5 : σ.length = 5 := c.len
    match σ, l5, c with
    | [x0, x1, x2, x3, x4], _, c =>
      obtain ⟨o, h1, h2⟩ := c.sl 0 _ rfl
      obtain ⟨o', h3, v, h4, h5⟩ := c.sl 1 _ rfl
      cases h1
      cases h3
      cases h4
      cases h5
      have h2 : x0 = some (.ref b) := h2
      subst h2
      exact ⟨_, _, _, rfl⟩
  obtain ⟨a2, a3, a4, rfl⟩ := hz
  obtain ⟨cc, ns, i, x, sd, b1, b2, b3, b4, i0, i1, x0, s0, s1⟩ := c.box b rfl
  have fin : ∀ (H' : Hp) (i x sd : Int) (r : Int), H' b = some (.lst [.ref cc, .int i, .int x, .int sd]) → (∀ a o, a ≠ b → H a = some o → H' a = some o) → 0 ≤ i → i ≤ 63 → 0 ≤ x → 0 ≤ sd → sd < 2147483399 → 0 ≤ r → r < m → E.rt (.int r) H' := by
    intro H' i x sd r hb off h1 h2 h3 h4 h5 h6 h7
    refine cv.rt (.int r) (.int r) G H' (c.growB (Evl.Ex.refl _) (fun a o h => ?_) off (fun _ _ _ => rfl) ⟨cc, ns, i, x, sd, hb, b2, b3, b4, h1, h2, h3, h4, h5⟩).forget (.int r) (k r h6 h7)
    exact off a o (fun z => by rw [z, b2] at h; cases h) (c.ex a o h)
  have sqc : ∀ (H' : Hp), (∀ a o, a ≠ b → H a = some o → H' a = some o) → SqL K H' cc (ns.map V.int) := fun H' off => Evl.ex_l (H := G) (fun a o h => off a o (fun z => by rw [z, b2] at h; cases h) (c.ex a o h)) b3
  have ix : ∀ (H' : Hp) (σ' : L2.St) (v : V) (xs : List V) (j : Int), σ'[0]? = some (some (.ref b)) → H' b = some (.lst xs) → atI xs j = some v → RE (tIx K j) σ' H' v := fun H' σ' v xs j h1 h2 h3 => re_ix (re_var h1) (Evl.sq_of h2) re_c h3
  -- the first if
  refine seq_tail (fun σ' H' => ∃ a2 a3 a4 i x sd, σ' = [some (.ref b), some (.int m), a2, a3, a4] ∧ H' b = some (.lst [.ref cc, .int i, .int x, .int sd]) ∧ (∀ a o, a ≠ b → H a = some o → H' a = some o) ∧ 0 ≤ i ∧ i ≤ 63 ∧ 0 ≤ x ∧ 0 ≤ sd ∧ sd < 2147483399) ?tail (fun N hN => ?main)
  case main =>
    refine rs_if (rt_and (rt_test (re_eq (ix H _ _ _ 2 rfl b1 atI4.2.2.1) re_c)) (rt_test (re_B (ix H _ _ _ 1 rfl b1 atI4.2.1) (re_len (ix H _ _ _ 0 rfl b1 atI4.1) (sqc H (fun _ _ _ h => h)))))) (fun hc => ?_) (fun _ => hN _ _ ⟨a2, a3, a4, i, x, sd, rfl, b1, fun _ _ _ h => h, i0, i1, x0, s0, s1⟩)
    have hc2 : i < (ns.length : Int) := by
      have := (Bool.and_eq_true _ _ ▸ hc).2
      simpa using this
    have hat : ∃ z : Int, atI (ns.map V.int) i = some (.int z) := by
      have hl : i.toNat < ns.length := by omega
      refine ⟨ns[i.toNat], ?_⟩
      unfold atI ixN
      rw [if_pos i0, if_pos (by rw [List.length_map]; exact hc2)]
      show (ns.map V.int)[i.toNat]? = _
      rw [List.getElem?_map, List.getElem?_eq_getElem hl]
      rfl
    obtain ⟨z, hz⟩ := hat
    refine rs_seq (rs_asg (re_ix (ix H _ _ _ 0 rfl b1 atI4.1) (sqc H (fun _ _ _ h => h)) (ix H _ _ _ 1 rfl b1 atI4.2.1) hz) ?_)
    refine rs_seq (rs_set (re_I (ix H _ _ _ 1 rfl b1 atI4.2.1) re_c) (re_var rfl) re_c b1 rfl ?_)
    have off1 : ∀ (o1 : HO) a o, a ≠ b → H a = some o → (upd H b o1) a = some o := fun o1 a o ha h => by
      rw [upd_ne ha]
      exact h
    refine rs_if (rt_test (re_B (re_var rfl) (re_C re_c re_c ⟨by decide, by decide, by decide⟩))) (fun hge => ?_) (fun _ => ?_)
    · refine rs_set (re_var rfl) (re_var rfl) re_c upd_same rfl ?_
      have hz18 : (10 : Int) ^ (Int.toNat 18) ≤ z := by simpa using hge
      have hz0 : 0 ≤ z := Int.le_trans (by decide) hz18
      refine hN _ _ ⟨_, a3, a4, i + 1, z, sd, rfl, upd_same, fun a o ha h => ?_, by omega, by omega, hz0, s0, s1⟩
      rw [upd_ne ha]
      exact off1 _ a o ha h
    · have hmod : 0 ≤ z % 2147483563 ∧ z % 2147483563 < 2147483563 := ⟨Int.emod_nonneg _ (by decide), Int.emod_lt_of_pos _ (by decide)⟩
      refine rs_seq (rs_asg (re_I (re_C (ix _ _ _ _ 3 rfl upd_same atI4.2.2.2) re_c (mulS (by omega) (by decide))) (re_C (re_var rfl) re_c (by show (0 : Int) < 2147483563; decide))) ?_)
      refine rs_set (re_C (re_I (re_var rfl) (re_C (ix _ _ _ _ 1 rfl upd_same atI4.2.1) re_c (mulS (by omega) (by decide)))) re_c (by show (0 : Int) < 2147483399; decide)) (re_var rfl) re_c upd_same rfl ?_
      refine hN _ _ ⟨_, _, a4, i + 1, x, _, rfl, upd_same, fun a o ha h => ?_, by omega, by omega, x0, Int.emod_nonneg _ (by decide), Int.emod_lt_of_pos _ (by decide)⟩
      rw [upd_ne ha]
      exact off1 _ a o ha h
  rintro σ' H' ⟨a2, a3, a4, i, x, sd, rfl, hb, off, i0, i1, x0, s0, s1⟩
  -- the second if
  refine seq_tail (fun σ' H'' => σ' = [some (.ref b), some (.int m), a2, a3, a4] ∧ H'' = H') ?tail2 (fun N hN => ?main2)
  case main2 =>
    refine rs_if (rt_test (re_B (ix H' _ _ _ 2 rfl hb atI4.2.2.1) re_c)) (fun hx => ?_) (fun _ => hN _ _ ⟨rfl, rfl⟩)
    refine rs_seq (rs_asg (re_C (ix H' _ _ _ 2 rfl hb atI4.2.2.1) (re_var rfl) hm0) ?_)
    refine rs_seq (rs_set (re_C (ix H' _ _ _ 2 rfl hb atI4.2.2.1) (re_var rfl) (divS hm0 (by omega))) (re_var rfl) re_c hb rfl ?_)
    refine rs_ret (re_var rfl) ?_
    refine fin _ i (x / m) sd _ upd_same (fun a o ha h => ?_) i0 i1 (Int.ediv_nonneg x0 (by omega)) s0 s1 (Int.emod_nonneg _ (by omega)) (Int.emod_lt_of_pos _ hm0)
    rw [upd_ne ha]
    exact off a o ha h
  rintro _ _ ⟨rfl, rfl⟩
  refine rs_seq (rs_asg (re_I (re_C (ix _ _ _ _ 3 rfl hb atI4.2.2.2) (ix _ _ _ _ 3 rfl hb atI4.2.2.2) (mulS (by omega) (by omega))) (re_C (ix _ _ _ _ 3 rfl hb atI4.2.2.2) re_c (mulS (by omega) (by decide)))) ?_)
  have sq0 : 0 ≤ sd * sd := Int.mul_nonneg s0 s0
  refine rs_seq (rs_set (re_C (re_I (re_I (re_var rfl) re_c) (ix _ _ _ _ 1 rfl hb atI4.2.1)) re_c (by show (0 : Int) < 2147483399; decide)) (re_var rfl) re_c hb rfl ?_)
  generalize hsd : (sd * sd + sd * 40692 + 1234577 + i) % 2147483399 = sd'
  have t0 : 0 ≤ sd' := by
    rw [← hsd]
    exact Int.emod_nonneg _ (by decide)
  have t1 : sd' < 2147483399 := by
    rw [← hsd]
    exact Int.emod_lt_of_pos _ (by decide)
  refine rs_ret (re_C (re_I (re_C (ix _ _ _ _ 3 rfl upd_same atI4.2.2.2) re_c (divS (by decide) (by decide))) (re_C (re_C (ix _ _ _ _ 3 rfl upd_same atI4.2.2.2) re_c (by show (0 : Int) < 10007; decide)) re_c (mulS (by omega) (by decide)))) (re_var rfl) hm0) ?_
  refine fin _ i x sd' _ (by rw [upd_same]) (fun a o ha h => ?_) i0 i1 x0 t0 t1 (Int.emod_nonneg _ (by omega)) (Int.emod_lt_of_pos _ hm0)
  rw [upd_ne ha]
  exact off a o ha h

/-- the box is made -/
def spBox (K : PySem.W.Frag) : Sp := fun vs H Q _ => ∃ (a : Addr) (ns : List Int), vs = [.ref a] ∧ SqL K H a (ns.map V.int) ∧ ∀ p c H', H p = none → H c = none → c ≠ p → Ex H H' → (∃ i : Int, H' p = some (.lst [.ref c, .int 0, .int 0, .int i]) ∧ 0 ≤ i ∧ i < 2147483399) → H' c = some (.lst ((ns.take 63).map V.int)) → Q (.ref p) H'
theorem cut_int (ns : List Int) : cutV (ns.map V.int) none (some 63) = (ns.take 63).map V.int := by
  unfold cutV
  have h : HT.sIx (ns.map V.int).length 0 none = 0 := rfl
  rw [h, List.drop_zero, List.map_take]
  have h2 : HT.sIx (ns.map V.int).length (ns.map V.int).length (some 63) = min 63 (ns.map V.int).length := HT.sIx_nat _ _ 63
  rw [h2, Nat.sub_zero, ← List.take_take, List.take_length]
theorem ok__law_box {P : Program} {w : World} {K : PySem.W.Frag} {mg : Str → Option Value} {base : Heap} (Fn : FunAt K mg "_law_box" s__law_box ["_law_script"]) (T : Txt mg) : Def P w K mg base "_law_box" 1 ["_law_script"] (spBox K) := by
  obtain ⟨f, fd, hf, hm, hbd⟩ := Fn.ex
  refine ⟨f, fd, hm, hf.kp, hbd, hf.ok sc__law_box (fun vs H Q E h => ?_) fun cdv A outer s H vs Q E hr h => ?_⟩
  · obtain ⟨a, ns, e, _⟩ := h
    rw [e]
    rfl
  obtain ⟨a, ns, rfl, hs, k⟩ := h
  refine ⟨_, (pss_one (ps_ret (pe_lst (pa_cons (pe_callTy (call_list_ofK (K := K) rfl) (by rfl) T.list (by decide +kernel) (pa_cons (pe_slice (sl_listK (K := K) rfl) (pv 0) po_none (po_some pe_int)) pa_nil)) (pa_cons pe_int (pa_cons pe_int (pa_cons (pe_op op_add pe_int (pe_op op_mulW pe_int (pe_callB (call_lenK (K := K) rfl) (by rfl) T.len (by decide +kernel) (pa_cons (pe_slice (sl_listK (K := K) rfl) (pv 0) po_none (po_some pe_int)) pa_nil)))) pa_nil))))))), ?_⟩
  refine ⟨.ref a, rfl, 63, rfl, a, _, rfl, hs, fun p1 n1 => ?_⟩
  refine ⟨p1, _, rfl, .inl (Evl.sq_of upd_same), fun p2 n2 => ?_⟩
  refine ⟨.ref a, rfl, 63, rfl, a, ns.map V.int, rfl, Evl.ex_l ((Evl.Ex.new n1).trans (Evl.Ex.new n2)) hs, fun p3 n3 => ?_⟩
  have hlen : (cutV (ns.map V.int) none (some 63)).length ≤ 63 := by
    rw [cut_int, List.length_map, List.length_take]
    omega
  refine ⟨.ref p3, _, rfl, .inl ⟨_, Evl.sq_of upd_same, rfl⟩, ⟨31, _, rfl, rfl, mulS (by decide) (by omega), ⟨1009, _, rfl, rfl, (by decide : (4 : Nat) ≤ sizeLine), fun p4 n4 => ?_⟩⟩⟩
  have n23 : p2 ≠ p3 := fun z => by
    rw [← z, upd_same] at n3
    cases n3
  have n24 : p2 ≠ p4 := fun z => by
    rw [upd_ne (by rw [← z]; exact n23), ← z, upd_same] at n4
    cases n4
  refine k p4 p2 _ ?_ ?_ n24 (((Evl.Ex.new n1).trans (Evl.Ex.new n2)).trans ((Evl.Ex.new n3).trans (Evl.Ex.new n4))) ⟨_, upd_same, by omega, by omega⟩ ?_
  · exact Evl.fresh_back (((Evl.Ex.new n1).trans (Evl.Ex.new n2)).trans (Evl.Ex.new n3)) n4
  · exact Evl.fresh_back (Evl.Ex.new n1) n2
  · rw [upd_ne n24, upd_ne n23, upd_same, cut_int]
/-- box = _law_box(script): the state's box from here on -/
theorem sw_box {K : PySem.W.Frag} {Z : List Sk} {O : Own} {D : DE} {u : TS} {i : Nat} {ns : List Int} {E : XK} (h0 : Z[0]? = some (.d (.list (ns.map .int)))) (h : ∀ b, SW K (some b) u (Z.set i (.v (.ref b))) O D) :
    SW K none (tSeq (tAsg (tCall (spBox K) [] E (tCons (tVar 0) tNil)) (gName i)) u) Z O D := fun F σ G H En c cv => by
  obtain ⟨o, h1, v, h2, h3⟩ := c.sl 0 _ h0
  subst h2
  cases h3 with
  | @lst a vs _ hs ha =>
    have ev := dpa_ints_inv ha
    subst ev
    refine ⟨.ref a, h1, a, ns, rfl, Evl.ex_l c.ex hs, fun p cc H' n1 n2 hne e ⟨i0, hp, i1, i2⟩ hc => ?_⟩
    have g1 : G cc = none := c.gnone n2
    have c1 := c.grow (G' := upd G cc (.lst ((ns.take 63).map V.int))) (H' := H') (Evl.Ex.new g1) (fun a u hu => by
      by_cases z : a = cc
      · subst z
        rw [upd_same] at hu
        cases hu
        exact hc
      · rw [upd_ne z] at hu
        exact e a u (c.ex a u hu)) e (fun a o ha => upd_ne (ne_of_none ha n2))
    have bx : BoxOk K p (upd G cc (.lst ((ns.take 63).map V.int))) H' := ⟨cc, ns.take 63, 0, 0, i0, hp, by rw [upd_ne (fun z => hne z.symm)]; exact c.gnone n1, Evl.sq_of upd_same, by rw [List.length_take]; omega, by decide, by decide, by decide, i1, i2⟩
    have c2 : Cfg K F (some p) Z O σ (upd G cc (.lst ((ns.take 63).map V.int))) H' := ⟨c1.len, c1.sl, c1.ex, fun b hb => (by cases hb; exact bx), fun b hb => (by cases hb; exact .inr (c.hnone n1)), fun q ds hq => (by
      obtain ⟨o1, o2, o3, vs, o4, o5⟩ := c1.own q ds hq
      refine ⟨o1, fun z => ?_, o3, vs, o4, o5⟩
      obtain ⟨_, _, _, us, o4', _⟩ := c.own q ds hq
      rw [← Option.some.inj z, n1] at o4'
      cases o4'), c1.nd, c1.e0, c1.h0, c1.h1, c1.g0⟩
    refine h p F _ _ H' En (c2.set (k := .v (.ref p)) rfl) ?_
    have down : ∀ {Z O σ G H}, Cfg K F (some p) Z O σ G H → Cfg K F none Z O σ G H := fun c => ⟨c.len, c.sl, c.ex, fun b hb => (by cases hb), fun b hb => (by cases hb), fun q ds hq => (by
      obtain ⟨o1, o2, o3, o4⟩ := c.own q ds hq
      exact ⟨o1, fun z => (by cases z), o3, o4⟩), c.nd, c.e0, c.h0, c.h1, c.g0⟩
    exact ⟨fun Z O σ G H c q => cv.nx Z O σ G H (down c) q, fun v d G H c hd q => cv.rt v d G H (down c) hd q, fun Z O σ G H c q => cv.bk Z O σ G H (down c) q, fun Z O σ G H c q => cv.ct Z O σ G H (down c) q⟩
/-- what the law promises -/
def spLaw (K : PySem.W.Frag) : Sp := fun vs H Q _ => ∃ (a : Addr) (ns : List Int), vs = [.ref a] ∧ SqL K H a (ns.map V.int) ∧ ns.length ≤ 63 ∧ ∀ H', Q (.bl true) H'
/-- the law by its body -/
theorem fn_L {P : Program} {w : World} {K : PySem.W.Frag} {mg : Str → Option Value} {base : Heap} {st : Stmt} {N : List Str} {k : Nat} {f : Addr} {fd : FuncData} (F : Fun K "law" "law" st f fd) (S : FnScope N ["_law_script"] (defScope st))
    (hb : ∀ (f : Addr) (cdv : Value) (A : Around) (outer : List Env) (s : Shared) (H : Hp) (E : XK), Room k (A.deeper (envOfC "law" (defScope st) s.heap.objs.size f cdv)) →
      ∃ t, PSs (cxOf CX0 P w K mg base N "law" (defScope st) f cdv A outer s H E).nox (defBody st) t ∧ ∀ ns : List Int, SW K none t (Z0 N [.d (.list (ns.map .int))]) [] { nx := fun _ _ => False, rt := fun d => d = .bool true }) :
    FnOk P w K mg base CX0 (k + 1) f fd ["_law_script"] (spLaw K) := by
  refine F.ok S (fun vs H Q E h => ?_) fun cdv A outer s H vs Q E hr h => ?_
  · obtain ⟨a, ns, e, _⟩ := h
    rw [e]
    rfl
  obtain ⟨a, ns, rfl, hs, hl, k⟩ := h
  obtain ⟨t, ht, sw⟩ := hb f cdv A outer s H E hr
  refine ⟨t, ht, sw ns ⟨fun _ => False, H, H⟩ _ H H _ ?_ ?_⟩
  · obtain ⟨h1, h2⟩ := sl_start (K := K) (G := H) (N := N) (ks := [.d (.list (ns.map .int))]) (vs := [.ref a]) ⟨⟨_, rfl, .lst hs dpa_ints⟩, True.intro⟩
    exact ⟨h1, h2, Evl.Ex.refl _, fun b z => (by cases z), fun b z => (by cases z), fun p ds z => (by simp at z), List.nodup_nil, Evl.Ex.refl _, fun a o _ h => h, fun a o h => ⟨o, h⟩, fun _ _ _ => rfl⟩
  · exact ⟨fun Z O σ G' H' c q => q.elim, fun v d G' H' c hv q => (by
      subst q
      cases hv
      exact k H'), fun _ _ _ _ _ _ z => z.elim, fun _ _ _ _ _ _ z => z.elim⟩

def R_near (ds : List PyData) (P : PyData → Prop) : Prop := ∃ m : Int, ds = [.int m] ∧ 0 ≤ m ∧ m < 2 ^ 200 ∧ ∀ r : Int, -m ≤ r → r ≤ m → P (.int r)
instance : MonoR R_near := ⟨fun _ _ _ h ⟨m, e, h1, h2, k⟩ => ⟨m, e, h1, h2, fun r a b => h _ (k r a b)⟩⟩
theorem ok__law_near {P : Program} {w : World} {K : PySem.W.Frag} {mg : Str → Option Value} {base : Heap} (Fn : FunAt K mg "_law_near" s__law_near ["_law_box_here", "_law_far"]) (T : Txt mg) (d__law_take : Def P w K mg base "_law_take" 1 ["_law_box_here", "_law_many"] (spB K R_take)) : Def P w K mg base "_law_near" 2 ["_law_box_here", "_law_far"] (spB K R_near) := by
  refine fn_B Fn sc__law_near (fun ds Q ⟨m, e, _⟩ => by rw [e]; rfl) fun f cdv A outer s H E hr => ⟨_, (pss_one (ps_ret (pe_op op_sub (pe_def d__law_take hr (by first | decide | omega) (by rfl) (pa_cons (pv 0) (pa_cons (pe_op op_add (pe_op op_mulW pe_int (pv 1)) pe_int) pa_nil))) (pv 1)))), fun b ds Q hR => ?_⟩
  obtain ⟨m, rfl, hm0, hm1, k⟩ := hR
  show SW _ _ _ [.v (.ref b), .d (.int m)] _ _
  walk_at "dn"
  repeat' walk_at "dl"
  · exact mulS (by decide) (by omega)
  · refine ⟨_, rfl, by omega, by omega, fun r h1 h2 => ?_⟩
    repeat' walk_at "dl"
    exact k _ (by omega) (by omega)

/-- data that _law_same goes through: no dict, so deep at most, so long at most -/
def fit : Nat → PyData → Bool
  | _, .none | _, .bool _ | _, .int _ => true
  | _, .str x => PyData.canLay0 (.str x)
  | n + 1, .list ds => Nat.ble ds.length 50000 && ds.all (fit n)
  | n + 1, .tuple ds => Nat.ble ds.length 50000 && ds.all (fit n)
  | 0, .list _ => false
  | 0, .tuple _ => false
  | _, .dict _ => false
def R_same (n : Nat) (ds : List PyData) (P : PyData → Prop) : Prop := ∃ d, ds = [d, d] ∧ fit n d = true ∧ P (.bool true)
instance {n : Nat} : MonoR (R_same n) := ⟨fun ds P Q h ⟨d, e, f, k⟩ => ⟨d, e, f, h _ k⟩⟩
def R_prev : Nat → List PyData → (PyData → Prop) → Prop
  | 0 => fun _ _ => False
  | n + 1 => R_same n
instance {n : Nat} : MonoR (R_prev n) := ⟨fun ds P Q h k => match n, k with
  | 0, k => k.elim
  | n + 1, k => MonoR.mono (R := R_same n) ds P Q h k⟩
theorem eqv_bb {a : Bool} : PyData.eqv (.bool a) (.bool a) = true := by simp [PyData.eqv]
def scalD : PyData → Bool
  | .none | .bool _ | .int _ | .str _ => true
  | _ => false
theorem scal_ok {n : Nat} {d : PyData} (h : scalD d = true) (f : fit n d = true) : PyData.eqv d d = true ∧ SeqAt.shaped d = true := by
  cases d with
  | none => exact ⟨rfl, rfl⟩
  | bool b => exact ⟨by simp [PyData.eqv], rfl⟩
  | int b => exact ⟨by simp [PyData.eqv], rfl⟩
  | str b =>
    have f : PyData.canLay0 (.str b) = true := by cases n <;> exact f
    refine ⟨by simp [PyData.eqv], ?_⟩
    unfold SeqAt.shaped
    rw [f]
    rfl
  | list _ => cases h
  | tuple _ => cases h
  | dict _ => cases h
theorem ty_ll {ds : List PyData} : isD (.list ds) "list" = true := (show isTy "list" "list" = true by decide +kernel)
theorem ty_tl {ds : List PyData} : isD (.tuple ds) "list" = false := (show isTy "tuple" "list" = false by decide +kernel)
theorem ty_tt {ds : List PyData} : isD (.tuple ds) "tuple" = true := (show isTy "tuple" "tuple" = true by decide +kernel)
theorem ty_n1 : isD .none "list" = false := (show isTy "NoneType" "list" = false by decide +kernel)
theorem ty_n2 {b : Bool} : isD (.bool b) "list" = false := (show isTy "bool" "list" = false by decide +kernel)
theorem ty_n3 {b : Int} : isD (.int b) "list" = false := (show isTy "int" "list" = false by decide +kernel)
theorem ty_n4 {b : Str} : isD (.str b) "list" = false := (show isTy "str" "list" = false by decide +kernel)
theorem ty_m1 : isD .none "tuple" = false := (show isTy "NoneType" "tuple" = false by decide +kernel)
theorem ty_m2 {b : Bool} : isD (.bool b) "tuple" = false := (show isTy "bool" "tuple" = false by decide +kernel)
theorem ty_m3 {b : Int} : isD (.int b) "tuple" = false := (show isTy "int" "tuple" = false by decide +kernel)
theorem ty_m4 {b : Str} : isD (.str b) "tuple" = false := (show isTy "str" "tuple" = false by decide +kernel)
theorem ok__law_same_step {P : Program} {w : World} {K : PySem.W.Frag} {mg : Str → Option Value} {base : Heap} {n : Nat} (Fn : FunAt K mg "_law_same" s__law_same ["_law_found", "_law_due"]) (T : Txt mg) (d__law_same : Def P w K mg base "_law_same" n ["_law_found", "_law_due"] (spP K (R_prev n))) :
    Def P w K mg base "_law_same" (n + 1) ["_law_found", "_law_due"] (spP K (R_same n)) := by
  refine fn_P Fn sc__law_same (fun ds Q ⟨d, e, _⟩ => by rw [e]; rfl) fun f cdv A outer s H E hr => ⟨_, (pss_cons (ps_if (pt_cmp (pc_isN (pv 1)) rfl) (pss_one (ps_ret (pe_cmp (pc_isN (pv 0)) rfl))) pss_nil)
      (pss_cons (ps_if (PW.pt (pw_or (pt_val (pe_callB (call_isiKK (K := K) rfl) (by rfl) T.isinstance (by decide +kernel) (pa_cons (pv 1) (pa_cons (pe_bltn (v := .ty "list") (by rfl) T.list (by decide +kernel) rfl) pa_nil)))) (pw_or1 (pt_val (pe_callB (call_isiKK (K := K) rfl) (by rfl) T.isinstance (by decide +kernel) (pa_cons (pv 1) (pa_cons (pe_bltn (v := .ty "tuple") (by rfl) T.tuple (by decide +kernel) rfl) pa_nil))))))) (pss_cons (ps_if (PW.pt (pw_or (pt_cmpR (op_neDK (K := K) rfl hr.units) (pe_callB (call_isiKK (K := K) rfl) (by rfl) T.isinstance (by decide +kernel) (pa_cons (pv 0) (pa_cons (pe_bltn (v := .ty "list") (by rfl) T.list (by decide +kernel) rfl) pa_nil))) (pe_callB (call_isiKK (K := K) rfl) (by rfl) T.isinstance (by decide +kernel) (pa_cons (pv 1) (pa_cons (pe_bltn (v := .ty "list") (by rfl) T.list (by decide +kernel) rfl) pa_nil))) (nomark _)) (pw_or1 (pt_cmpR (op_neDK (K := K) rfl hr.units) (pe_callB (call_isiKK (K := K) rfl) (by rfl) T.isinstance (by decide +kernel) (pa_cons (pv 0) (pa_cons (pe_bltn (v := .ty "tuple") (by rfl) T.tuple (by decide +kernel) rfl) pa_nil))) (pe_callB (call_isiKK (K := K) rfl) (by rfl) T.isinstance (by decide +kernel) (pa_cons (pv 1) (pa_cons (pe_bltn (v := .ty "tuple") (by rfl) T.tuple (by decide +kernel) rfl) pa_nil))) (nomark _))))) (pss_one (ps_ret pe_bl)) pss_nil)
      (pss_one (ps_ret (pe_and (pe_cmpR (op_eqDK (K := K) rfl hr.units) (pe_callB (call_lenK (K := K) rfl) (by rfl) T.len (by decide +kernel) (pa_cons (pv 0) pa_nil)) (pe_callB (call_lenK (K := K) rfl) (by rfl) T.len (by decide +kernel) (pa_cons (pv 1) pa_nil)) (nomark _)) (pe_one (pe_callB (cr_allK (K := K) rfl rfl) (by rfl) T.all (by decide +kernel) (pa_cons (pe_lc (own := [("_law_one", 2), ("_law_other", 3)]) (g := (gTup K 2 (gCons (gName 2) (gCons (gName 3) gNil)))) rfl sc__law_same.nd (RZ.pi_zipA (by rfl) T.zip (pa_cons (pv 0) (pa_cons (pv 1) pa_nil))) (blkOk_by (own := [("_law_one", 2), ("_law_other", 3)]) (N := ["_law_found", "_law_due", "_law_one", "_law_other"]) (sc := defScope s__law_same) (by decide +kernel)) (fun _ _ _ _ _ => (pg_tup (n := 2) rfl (pgs_cons (pg_name (i := 2) sc__law_same.nd rfl (Or.inl rfl) (hf := Or.inr rfl)) (pgs_cons (pg_name (i := 3) sc__law_same.nd rfl (Or.inl rfl) (hf := Or.inr rfl)) pgs_nil)))) (fun _ _ _ _ _ => pts_nil) (fun _ _ _ _ _ => (pe_def d__law_same hr (by first | decide | omega) (by rfl) (pa_cons (pv 2) (pa_cons (pv 3) pa_nil))))) pa_nil))))))) pss_nil)
      (pss_cons (ps_if (PW.pt (pw_or (pt_cmpR (op_neDK (K := K) rfl hr.units) (pe_callB (call_isiKK (K := K) rfl) (by rfl) T.isinstance (by decide +kernel) (pa_cons (pv 1) (pa_cons (pe_bltn (v := .ty "bool") (by rfl) T.bool (by decide +kernel) rfl) pa_nil))) (pe_callB (call_isiKK (K := K) rfl) (by rfl) T.isinstance (by decide +kernel) (pa_cons (pv 0) (pa_cons (pe_bltn (v := .ty "bool") (by rfl) T.bool (by decide +kernel) rfl) pa_nil))) (nomark _)) (pw_or1 (pt_cmpR (op_neDK (K := K) rfl hr.units) (pe_callB (call_isiKK (K := K) rfl) (by rfl) T.isinstance (by decide +kernel) (pa_cons (pv 1) (pa_cons (pe_bltn (v := .ty "int") (by rfl) T.int (by decide +kernel) rfl) pa_nil))) (pe_callB (call_isiKK (K := K) rfl) (by rfl) T.isinstance (by decide +kernel) (pa_cons (pv 0) (pa_cons (pe_bltn (v := .ty "int") (by rfl) T.int (by decide +kernel) rfl) pa_nil))) (nomark _))))) (pss_one (ps_ret pe_bl)) pss_nil)
      (pss_one (ps_ret (pe_and (pe_cmpR (op_eqDK (K := K) rfl hr.units) (pe_callB (call_isiKK (K := K) rfl) (by rfl) T.isinstance (by decide +kernel) (pa_cons (pv 0) (pa_cons (pe_bltn (v := .ty "str") (by rfl) T.str (by decide +kernel) rfl) pa_nil))) (pe_callB (call_isiKK (K := K) rfl) (by rfl) T.isinstance (by decide +kernel) (pa_cons (pv 1) (pa_cons (pe_bltn (v := .ty "str") (by rfl) T.str (by decide +kernel) rfl) pa_nil))) (nomark _)) (pe_one (pe_cmpR (op_eqDK (K := K) rfl hr.units) (pv 0) (pv 1) (nomark _))))))))), fun ds Q hR => ?_⟩
  obtain ⟨d, rfl, hf, k⟩ := hR
  show SW _ _ _ [.d d, .d d, .no, .no] _ _
  walk_at "dn"
  -- a list or a tuple: each with itself
  have many : ∀ (ds : List PyData), (d = .list ds ∨ d = .tuple ds) → ds.length ≤ 50000 → (∀ x ∈ ds, R_prev n [x, x] fun y => y = .bool true) →
      WL K none (tLc (RZ.iZipA K (tCons (tVar 0) (tCons (tVar 1) tNil))) (gTup K 2 (gCons (gName 2) (gCons (gName 3) gNil))) tYes (tCall (spP K (R_prev n)) [] E0 (tCons (tVar 2) (tCons (tVar 3) tNil))) [2, 3]) [.d d, .d d, .no, .no] [] fun out => out = (List.replicate ds.length true).map .bool := by
    intro ds hd hl hall
    refine wl_map (ow_tup (ows_cons (ow_name (by decide)) (ows_cons (ow_name (by decide)) ows_nil))) (min ds.length ds.length) (fun i d => ∃ x y, ds[i]? = some x ∧ ds[i]? = some y ∧ d = .tuple [x, y]) ((List.replicate ds.length true).map .bool) ?_ (by omega) (by simp) ?_ rfl
    · refine iw_zipA ?_
      repeat' walk_at "dl"
      refine ⟨ds, ds, ?_, rfl, rfl⟩
      rcases hd with e | e <;> subst e
      · exact .inl rfl
      · exact .inr rfl
    · intro i dd y p acc hi ⟨x, x', hx, hx', ed⟩ ho
      rw [hx] at hx'
      cases hx'
      subst ed
      refine gw_tup rfl (gws_name (gws_name (gws_nil ⟨rfl, ?_⟩)))
      have hy : y = .bool true := by
        simp only [List.map_replicate] at ho
        exact (List.mem_replicate.mp (List.mem_of_getElem? ho)).2
      show WE K none _ [.d d, .d d, .d x, .d x] _ _
      repeat' walk_at "dl"
      rw [hy]
      exact hall x (List.mem_of_getElem? hx)
  have split : (∃ ds, (d = .list ds ∨ d = .tuple ds) ∧ ds.length ≤ 50000 ∧ ∀ x ∈ ds, R_prev n [x, x] fun y => y = .bool true) ∨ scalD d = true := by
    have go : ∀ ds : List PyData, (d = .list ds ∨ d = .tuple ds) → ds.length ≤ 50000 ∧ ∀ x ∈ ds, R_prev n [x, x] fun y => y = .bool true := by
      intro ds hd
      cases n with
      | zero => rcases hd with e | e <;> subst e <;> cases hf
      | succ m =>
        have h2 : (Nat.ble ds.length 50000 && ds.all (fit m)) = true := by rcases hd with e | e <;> subst e <;> exact hf
        have h3 := (Bool.and_eq_true _ _).mp h2
        exact ⟨Nat.le_of_ble_eq_true h3.1, fun x hx => ⟨x, rfl, List.all_eq_true.mp h3.2 x hx, rfl⟩⟩
    cases d with
    | list ds => exact .inl ⟨ds, .inl rfl, go ds (.inl rfl)⟩
    | tuple ds => exact .inl ⟨ds, .inr rfl, go ds (.inr rfl)⟩
    | dict _ => cases n <;> cases hf
    | none => exact .inr rfl
    | bool _ => exact .inr rfl
    | int _ => exact .inr rfl
    | str _ => exact .inr rfl
  have i0 : ∀ a : Bool, PyData.eqv (.bool a) (.bool a) = true := fun a => eqv_bb
  rcases split with ⟨ds, hd, hl, hall⟩ | hs
  · have ml := many ds hd hl hall
    have i1 : isNone d = false := by rcases hd with e | e <;> subst e <;> rfl
    have i2 : isD d "list" = true ∨ (isD d "list" = false ∧ isD d "tuple" = true) := by
      rcases hd with e | e <;> subst e
      · exact .inl ty_ll
      · exact .inr ⟨ty_tl, ty_tt⟩
    have i3 : lenD d = some ds.length := by rcases hd with e | e <;> subst e <;> rfl
    walk_at "dl"
    walk_at "dl"
    refine wt_false (by
      repeat' walk_at "dl"
      exact i1) (iteF ?_)
    walk_at "dl"
    walk_at "dl"
    walk_at "dl"
    refine wt_true (by
      repeat' walk_at "dl"
      rcases i2 with i2 | ⟨i2, i3⟩
      · exact ite_true_of i2 rfl
      · refine ite_false_of i2 ?_
        repeat' walk_at "dl"
        exact i3) (iteT ?_)
    walk_at "dl"
    walk_at "dl"
    refine wt_false (by
      repeat' walk_at "dl"
      refine ite_false_of (by rw [i0]; rfl) ?_
      repeat' walk_at "dl"
      rw [i0]
      rfl) (iteF ?_)
    repeat' walk_at "dl"
    refine ⟨_, nc_len i3, ?_⟩
    repeat' walk_at "dl"
    refine ⟨_, nc_len i3, ?_⟩
    refine ⟨rfl, rfl, _, rfl, ite_true_of (by simp [PyData.eqv]) ?_⟩
    repeat' walk_at "dl"
    refine we_of (wl_imp ml fun out e => ?_)
    subst e
    repeat' walk_at "dl"
    refine ⟨_, nc_all, ?_⟩
    have e2 : (List.replicate ds.length true).all id = true := by simp
    rw [e2]
    exact k
  · cases hn : isNone d with
    | true =>
      walk_at "dl"
      walk_at "dl"
      refine wt_true (by
        repeat' walk_at "dl"
        exact hn) (iteT ?_)
      repeat' walk_at "dl"
      rw [hn]
      exact k
    | false =>
      have n1 : isD d "list" = false := by cases d <;> first | (cases hs; done) | exact ty_n1 | exact ty_n2 | exact ty_n3 | exact ty_n4
      have n2 : isD d "tuple" = false := by cases d <;> first | (cases hs; done) | exact ty_m1 | exact ty_m2 | exact ty_m3 | exact ty_m4
      obtain ⟨q1, q2⟩ := scal_ok hs hf
      walk_at "dl"
      walk_at "dl"
      refine wt_false (by
        repeat' walk_at "dl"
        exact hn) (iteF ?_)
      walk_at "dl"
      walk_at "dl"
      walk_at "dl"
      refine wt_false (by
        repeat' walk_at "dl"
        refine ite_false_of n1 ?_
        repeat' walk_at "dl"
        exact n2) (iteF ?_)
      walk_at "dl"
      walk_at "dl"
      walk_at "dl"
      refine wt_false (by
        repeat' walk_at "dl"
        refine ite_false_of (by rw [i0]; rfl) ?_
        repeat' walk_at "dl"
        rw [i0]
        rfl) (iteF ?_)
      repeat' walk_at "dl"
      refine ite_true_of (i0 _) ?_
      repeat' walk_at "dl"
      refine ⟨q2, q2, ?_⟩
      rw [q1]
      exact k
theorem ok__law_same {P : Program} {w : World} {K : PySem.W.Frag} {mg : Str → Option Value} {base : Heap} (Fn : FunAt K mg "_law_same" s__law_same ["_law_found", "_law_due"]) (T : Txt mg) : ∀ n, Def P w K mg base "_law_same" (n + 1) ["_law_found", "_law_due"] (spP K (R_same n))
  | 0 => ok__law_same_step Fn T (by
    obtain ⟨f, fd, hf, hm, hb⟩ := Fn.ex
    exact ⟨f, fd, hm, hf.kp, hb, ⟨fun vs H Q E h => (by obtain ⟨_, _, _, _, h⟩ := h; exact h.elim), fun A outer s H args us vs Q E _ _ _ _ h => (by obtain ⟨_, _, _, _, h⟩ := h; exact h.elim)⟩⟩)
  | n + 1 => ok__law_same_step (n := n + 1) Fn T (ok__law_same Fn T n)

mutual
theorem fit_lay : ∀ (n : Nat) (d : PyData), fit n d = true → PyData.canLay0 d = true ∧ PyData.depth d ≤ n
  | n, .none, _ => ⟨rfl, by simp [PyData.depth]⟩
  | n, .bool b, _ => ⟨rfl, by simp [PyData.depth]⟩
  | n, .int b, _ => ⟨rfl, by simp [PyData.depth]⟩
  | 0, .str x, h => ⟨h, by simp [PyData.depth]⟩
  | n + 1, .str x, h => ⟨h, by simp [PyData.depth]⟩
  | n + 1, .list ds, h => by
    have h2 : (ds.all (fit n)) = true := (Bool.and_eq_true _ _ ▸ h).2
    have := fit_lay_all n ds h2
    exact ⟨this.1, by simp only [PyData.depth]; omega⟩
  | n + 1, .tuple ds, h => by
    have h2 : (ds.all (fit n)) = true := (Bool.and_eq_true _ _ ▸ h).2
    have := fit_lay_all n ds h2
    exact ⟨this.1, by simp only [PyData.depth]; omega⟩
  | 0, .list _, h => by cases h
  | 0, .tuple _, h => by cases h
  | 0, .dict _, h => by cases h
  | n + 1, .dict _, h => by cases h
theorem fit_lay_all : ∀ (n : Nat) (ds : List PyData), ds.all (fit n) = true → PyData.canLayAll0 ds = true ∧ PyData.depthAll ds ≤ n
  | n, [], _ => ⟨rfl, by simp [PyData.depthAll]⟩
  | n, d :: ds, h => by
    rw [List.all_cons, Bool.and_eq_true] at h
    have a := fit_lay n d h.1
    have b := fit_lay_all n ds h.2
    refine ⟨?_, by simp only [PyData.depthAll]; omega⟩
    show (PyData.canLay0 d && PyData.canLayAll0 ds) = true
    rw [a.1, b.1]
    rfl
end
theorem shaped_fit {n : Nat} {d : PyData} (h : fit n d = true) (hn : n ≤ 60) : SeqAt.shaped d = true := by
  unfold SeqAt.shaped
  have := fit_lay n d h
  rw [this.1, decide_eq_true (by omega)]
  rfl
theorem eqv_fit {n : Nat} {d : PyData} (h : fit n d = true) : PyData.eqv d d = true := SeqAt.eqv_refl d (fit_lay n d h).1

theorem cut_last {xs : List PyData} {y : PyData} : sliceD (xs ++ [y]) none (some (-1)) = xs := by
  unfold sliceD
  have h1 : HT.sIx (xs ++ [y]).length 0 none = 0 := rfl
  have h2 : HT.sIx (xs ++ [y]).length (xs ++ [y]).length (some (-1)) = xs.length := by
    show (if (-1 : Int) < 0 then ((-1 : Int) + ((xs ++ [y]).length : Int)).toNat else min (-1 : Int).toNat (xs ++ [y]).length) = _
    rw [if_pos (by decide), List.length_append]
    show ((-1 : Int) + ((xs.length + 1 : Nat) : Int)).toNat = _
    omega
  rw [h1, h2]
  simp
theorem at_last {xs : List PyData} {y : PyData} : atI (xs ++ [y]) (-1) = some y := by
  refine atI_last ?_
  rw [List.length_append]
  show (xs ++ [y])[xs.length + 1 - 1]? = _
  simp

/-- what rows, each times its number, add up to -/
def addW (acc : List Int) (ps : List ((List Int × Int) × Int)) : List Int := ps.foldl (fun acc p => vadd acc p.2 p.1.1) acc
def addB (acc : Int) (ps : List ((List Int × Int) × Int)) : Int := ps.foldl (fun b p => b + p.2 * p.1.2) acc
def addR (rows : List (List Int × Int)) (ws : List Int) (L : Nat) : List Int × Int := (addW (List.replicate L 0) (rows.zip ws), addB 0 (rows.zip ws))
def RowsOk (rows : List (List Int × Int)) (L : Nat) : Prop := ∀ r ∈ rows, r.1.length = L ∧ (∀ x ∈ r.1, x.natAbs < 2 ^ 200) ∧ r.2.natAbs < 2 ^ 200
theorem addW_len {L : Nat} : ∀ {ps : List ((List Int × Int) × Int)} {acc : List Int}, acc.length = L → (∀ p ∈ ps, p.1.1.length = L) → (addW acc ps).length = L
  | [], _, h, _ => h
  | p :: ps, acc, h, hp => by
    show (addW (vadd acc p.2 p.1.1) ps).length = L
    refine addW_len ?_ fun q hq => hp q (List.mem_cons_of_mem _ hq)
    rw [vadd_len (by rw [h]; exact hp p (List.mem_cons_self ..)), h]
theorem addR_len {rows : List (List Int × Int)} {ws : List Int} {L : Nat} (h : RowsOk rows L) : (addR rows ws L).1.length = L :=
  addW_len (List.length_replicate ..) fun p hp => (h _ (List.of_mem_zip hp).1).1
theorem linL_split {L : Nat} : ∀ (rows : List (List Int × Int)) (ws acc : List Int) (b : Int), acc.length = L → (∀ r ∈ rows, r.1.length = L) →
    linL (acc ++ [b]) ((rows.map fun r => r.1 ++ [r.2]).zip ws) = addW acc (rows.zip ws) ++ [addB b (rows.zip ws)]
  | [], _, _, _, _, _ => rfl
  | r :: rows, [], _, _, _, _ => rfl
  | r :: rows, w :: ws, acc, b, h, hr => by
    have h1 : r.1.length = L := hr r (List.mem_cons_self ..)
    show linL (vadd (acc ++ [b]) w (r.1 ++ [r.2])) ((rows.map fun r => r.1 ++ [r.2]).zip ws) = addW (vadd acc w r.1) (rows.zip ws) ++ [addB (b + w * r.2) (rows.zip ws)]
    have e : vadd (acc ++ [b]) w (r.1 ++ [r.2]) = vadd acc w r.1 ++ [b + w * r.2] := by
      unfold vadd
      rw [List.zipWith_append (by omega)]
      rfl
    rw [e]
    exact linL_split rows ws _ _ (by rw [vadd_len (by omega)]; exact h) fun r hr' => hr r (List.mem_cons_of_mem _ hr')
theorem linR_eq {rows : List (List Int × Int)} {ws : List Int} {L : Nat} (h : RowsOk rows L) : linL (List.replicate (L + 1) 0) ((rows.map fun r => r.1 ++ [r.2]).zip ws) = (addR rows ws L).1 ++ [(addR rows ws L).2] := by
  rw [List.replicate_succ']
  exact linL_split rows ws _ 0 (List.length_replicate ..) fun r hr => (h r hr).1
def R_added (ds : List PyData) (P : PyData → Prop) : Prop := ∃ (rows : List (List Int × Int)) (ws : List Int) (L : Nat), ds = [.list (rows.map rowD), .list (ws.map .int)] ∧ RowsOk rows L ∧ (∀ w ∈ ws, w.natAbs < 2 ^ 200) ∧
  rows ≠ [] ∧ ws.length ≤ rows.length ∧ rows.length ≤ 1000 ∧ L < 1000 ∧ P (rowD (addR rows ws L))
instance : MonoR R_added := ⟨fun _ _ _ h ⟨rows, ws, L, e, a1, a2, a3, a4, a5, a6, k⟩ => ⟨rows, ws, L, e, a1, a2, a3, a4, a5, a6, h _ k⟩⟩
theorem ok_added {P : Program} {w : World} {K : PySem.W.Frag} {mg : Str → Option Value} {base : Heap} (Fn : FunAt K mg "added" s_added ["rows", "weights"]) (T : Txt mg) (d_weighed : Def P w K mg base "weighed" 1 ["columns", "weights"] (spP K R_weighed)) : Def P w K mg base "added" 2 ["rows", "weights"] (spP K R_added) := by
  refine fn_P Fn sc_added (fun ds Q ⟨_, _, _, e, _⟩ => by rw [e]; rfl) fun f cdv A outer s H E hr => ⟨_, (pss_cons (ps_asg (pe_def d_weighed hr (by first | decide | omega) (by rfl) (pa_cons (pe_lc (own := [("row", 3), ("bound", 4)]) (g := (gTup K 2 (gCons (gName 3) (gCons (gName 4) gNil)))) rfl sc_added.nd (pi_listK (K := K) rfl (pv 0)) (blkOk_by (own := [("row", 3), ("bound", 4)]) (N := ["rows", "weights", "numbers", "row", "bound"]) (sc := defScope s_added) (by decide +kernel)) (fun _ _ _ _ _ => (pg_tup (n := 2) rfl (pgs_cons (pg_name (i := 3) sc_added.nd rfl (Or.inl rfl) (hf := Or.inr rfl)) (pgs_cons (pg_name (i := 4) sc_added.nd rfl (Or.inl rfl) (hf := Or.inr rfl)) pgs_nil)))) (fun _ _ _ _ _ => pts_nil) (fun _ _ _ _ _ => (pe_tup (pa_starK (K := K) rfl (pv 3) (pa_cons (pv 4) pa_nil))))) (pa_cons (pv 1) pa_nil))) (pg_name (i := 2) sc_added.nd rfl (Or.inl rfl)))
      (pss_one (ps_ret (pe_tup (pa_cons (pe_callTy (call_tuple_ofK (K := K) rfl) (by rfl) T.tuple (by decide +kernel) (pa_cons (pe_slice (sl_listK (K := K) rfl) (pv 2) po_none (po_some (pe_un un_neg pe_int))) pa_nil)) (pa_cons (pe_ix (ix_seqK (K := K) rfl) (pv 2) (pe_un un_neg pe_int) (fun _ _ => rfl)) pa_nil)))))), fun ds Q hR => ?_⟩
  obtain ⟨rows, ws, L, rfl, hro, hwb, hne, hlw, hrl, hL, k⟩ := hR
  show SW _ _ _ [.d (.list (rows.map rowD)), .d (.list (ws.map .int)), .no, .no, .no] _ _
  walk_at "dn"
  walk_at "dl"
  refine sw_asg (we_callP (wd_cons (we_of (wl_map (ow_tup (ows_cons (ow_name (by decide)) (ows_cons (ow_name (by decide)) ows_nil))) rows.length (fun i d => (rows.map rowD)[i]? = some d) (rows.map fun r => wsD (r.1 ++ [r.2])) ?_ (by omega) (List.length_map ..) ?_ ?_))))
  · refine iw_list ?_
    repeat' walk_at "dl"
    exact ⟨by rw [List.length_map], rfl⟩
  · intro i d y p acc hi hd hy
    have hn : rows[i]? = some rows[i] := List.getElem?_eq_getElem hi
    rw [List.getElem?_map, hn] at hd hy
    cases hd
    cases hy
    have hrb := hro _ (List.getElem_mem hi)
    generalize rows[i] = r at *
    refine gw_tup rfl (gws_name (gws_name (gws_nil ⟨rfl, ?_⟩)))
    show WE _ _ _ [_, _, _, .d (wsD r.1), .d (.int r.2)] _ _
    refine we_tupD (wd_star ?_)
    repeat' walk_at "dl"
    refine ⟨Nat.ble_eq_true_of_le (by simp; omega), ?_⟩
    simp [wsD]
  · repeat' walk_at "dl"
    refine ⟨rows.map fun r => r.1 ++ [r.2], ws, L + 1, by simp [Function.comp_def], fun c hc => ?_, hwb, by simpa using hne, by simpa using hlw, by simpa using hrl, by omega, ?_⟩
    · obtain ⟨r, hr, e⟩ := List.mem_map.mp hc
      subst e
      obtain ⟨h1, h2, h3⟩ := hro r hr
      refine ⟨by simp [h1], fun x hx => ?_⟩
      rcases List.mem_append.mp hx with hx | hx
      · exact h2 x hx
      · rw [List.mem_singleton.mp hx]
        exact h3
    · rw [linR_eq hro, List.map_append]
      dsimp only
      walk_at "dz"
      repeat' walk_at "dl"
      rw [show [(addR rows ws L).2].map PyData.int = [PyData.int (addR rows ws L).2] from rfl, cut_last]
      repeat' walk_at "dl"
      refine ⟨_, _, rfl, .lst at_last, ?_⟩
      repeat' walk_at "dl"
      exact k

def okW (ws : List Int) : Bool := ws.all fun n => decide (n ≥ 0)
def goodW (ws : List Int) (n : Nat) : Bool := (ws.length == n) && okW ws
/-- all of a list's truths, told -/
theorem wl_bools {K : PySem.W.Frag} {s : Option Addr} {Z : List Sk} {O : Own} {wi : TI} {g : TG} {te : TE} {vs : List Nat} {PL : List PyData → Prop} (bs : List Bool) (og : Ow g vs) (n : Nat) (Yd : Nat → PyData → Prop) (hw : IW K s wi Z O fun n' Y' => n' = n ∧ Y' = Yd) (hn : n ≤ 50000) (ho : bs.length = n)
    (hs : ∀ i d b p acc, i < n → Yd i d → bs[i]? = some b → GW K s g d (wipeZ Z vs) ((p, acc) :: O) fun Z2 O2 => O2 = (p, acc) :: O ∧ WE K s te Z2 O2 fun z => z = .bool b)
    (hd : PL (bs.map .bool)) : WL K s (tLc wi g tYes te vs) Z O PL :=
  wl_map og n Yd (bs.map .bool) hw hn (by rw [List.length_map]; exact ho) (fun i d y p acc hi hd hy => by
    have hb : bs[i]? = some (bs[i]'(by omega)) := List.getElem?_eq_getElem _
    rw [List.getElem?_map, hb] at hy
    cases hy
    exact hs i d _ p acc hi hd hb) hd
def R_forrows (ds : List PyData) (P : PyData → Prop) : Prop := ∃ (rows : List (List Int × Int)) (ws : List Int), ds = [.list (rows.map rowD), .list (ws.map .int)] ∧ ws.length ≤ 1000 ∧ P (.bool (goodW ws rows.length))
instance : MonoR R_forrows := ⟨fun _ _ _ h ⟨rows, ws, e, a, k⟩ => ⟨rows, ws, e, a, h _ k⟩⟩
theorem ok__for_rows {P : Program} {w : World} {K : PySem.W.Frag} {mg : Str → Option Value} {base : Heap} (Fn : FunAt K mg "_for_rows" s__for_rows ["rows", "weights"]) (T : Txt mg) : Def P w K mg base "_for_rows" 1 ["rows", "weights"] (spP K R_forrows) := by
  refine fn_P Fn sc__for_rows (fun ds Q ⟨_, _, e, _⟩ => by rw [e]; rfl) fun f cdv A outer s H E hr => ⟨_, (pss_one (ps_ret (pe_and (pe_cmpR (op_eqDK (K := K) rfl hr.units) (pe_callB (call_lenK (K := K) rfl) (by rfl) T.len (by decide +kernel) (pa_cons (pv 1) pa_nil)) (pe_callB (call_lenK (K := K) rfl) (by rfl) T.len (by decide +kernel) (pa_cons (pv 0) pa_nil)) (nomark _)) (pe_one (pe_callB (cr_allK (K := K) rfl rfl) (by rfl) T.all (by decide +kernel) (pa_cons (pe_lc (own := [("weight", 2)]) (g := (gName 2)) rfl sc__for_rows.nd (pi_listK (K := K) rfl (pv 1)) (blkOk_by (own := [("weight", 2)]) (N := ["rows", "weights", "weight"]) (sc := defScope s__for_rows) (by decide +kernel)) (fun _ _ _ _ _ => (pg_name (i := 2) sc__for_rows.nd rfl (Or.inl rfl) (hf := Or.inr rfl))) (fun _ _ _ _ _ => pts_nil) (fun _ _ _ _ _ => (pe_cmpR op_ge (pv 2) pe_int (nomark _)))) pa_nil)))))), fun ds Q hR => ?_⟩
  obtain ⟨rows, ws, rfl, hl, k⟩ := hR
  show SW _ _ _ [.d (.list (rows.map rowD)), .d (.list (ws.map .int)), .no] _ _
  walk_at "dn"
  repeat' walk_at "dl"
  have e1 : PyData.eqv (.int ((ws.map PyData.int).length : Nat)) (.int ((rows.map rowD).length : Nat)) = (ws.length == rows.length) := by
    rw [List.length_map, List.length_map, Bool.eq_iff_iff]
    simp [PyData.eqv]
    omega
  rw [e1]
  cases hb : (ws.length == rows.length)
  · refine ite_false_of rfl ?_
    have e2 : goodW ws rows.length = false := by unfold goodW; rw [hb]; rfl
    rw [e2] at k
    exact k
  · refine ite_true_of rfl ?_
    repeat' walk_at "dl"
    refine we_of (wl_bools (ws.map fun n => decide (n ≥ 0)) (ow_name (by decide)) ws.length (fun i d => (ws.map PyData.int)[i]? = some d) ?_ (by omega) (List.length_map ..) ?_ ?_)
    · refine iw_list ?_
      repeat' walk_at "dl"
      exact ⟨by rw [List.length_map], rfl⟩
    · intro i d b p acc hi hd hb
      have hn : ws[i]? = some ws[i] := List.getElem?_eq_getElem hi
      rw [List.getElem?_map, hn] at hd hb
      cases hd
      cases hb
      refine gw_name ⟨rfl, ?_⟩
      show WE _ _ _ [_, _, .d (.int _)] _ _
      repeat' walk_at "dl"
      rfl
    · refine wa_nil ⟨_, nc_all, ?_⟩
      have e2 : goodW ws rows.length = (ws.map fun n => decide (n ≥ 0)).all id := by
        unfold goodW okW
        rw [hb, List.all_map]
        rfl
      rw [← e2]
      exact k
def noneW (t : List Int) : Bool := !(t.any fun n => n != 0)
def barsR (rows : List (List Int × Int)) (ws : List Int) (L : Nat) : Bool := goodW ws rows.length && (noneW (addR rows ws L).1 && decide ((addR rows ws L).2 < 0))
def PapOk (rows : List (List Int × Int)) (ws : List Int) (L : Nat) : Prop := RowsOk rows L ∧ (∀ w ∈ ws, w.natAbs < 2 ^ 200) ∧ rows ≠ [] ∧ ws.length ≤ 1000 ∧ rows.length ≤ 1000 ∧ L < 1000
def R_barsr (ds : List PyData) (P : PyData → Prop) : Prop := ∃ (rows : List (List Int × Int)) (ws : List Int) (L : Nat), ds = [.list (rows.map rowD), .list (ws.map .int)] ∧ PapOk rows ws L ∧ P (.bool (barsR rows ws L))
instance : MonoR R_barsr := ⟨fun _ _ _ h ⟨rows, ws, L, e, a1, k⟩ => ⟨rows, ws, L, e, a1, h _ k⟩⟩
theorem good_len {ws : List Int} {n : Nat} (h : goodW ws n = true) : ws.length = n := by
  unfold goodW at h
  rw [Bool.and_eq_true] at h
  exact of_decide_eq_true (by simpa using h.1)
theorem ok_bars_right {P : Program} {w : World} {K : PySem.W.Frag} {mg : Str → Option Value} {base : Heap} (Fn : FunAt K mg "bars_right" s_bars_right ["rows", "weights"]) (T : Txt mg) (d__for_rows : Def P w K mg base "_for_rows" 1 ["rows", "weights"] (spP K R_forrows)) (d_added : Def P w K mg base "added" 2 ["rows", "weights"] (spP K R_added)) :
    Def P w K mg base "bars_right" 3 ["rows", "weights"] (spP K R_barsr) := by
  refine fn_P Fn sc_bars_right (fun ds Q ⟨_, _, _, e, _⟩ => by rw [e]; rfl) fun f cdv A outer s H E hr => ⟨_, (pss_cons (ps_if (pt_not (pt_val (pe_def d__for_rows hr (by first | decide | omega) (by rfl) (pa_cons (pv 0) (pa_cons (pv 1) pa_nil))))) (pss_one (ps_ret pe_bl)) pss_nil)
      (pss_cons (ps_asg (pe_def d_added hr (by first | decide | omega) (by rfl) (pa_cons (pv 0) (pa_cons (pv 1) pa_nil))) (pg_tup (n := 2) rfl (pgs_cons (pg_name (i := 2) sc_bars_right.nd rfl (Or.inl rfl)) (pgs_cons (pg_name (i := 3) sc_bars_right.nd rfl (Or.inl rfl)) pgs_nil))))
      (pss_one (ps_ret (pe_and (pe_not (pe_callB (DL.cr_anyNK (K := K) rfl rfl) (by rfl) T.any (by decide +kernel) (pa_cons (pv 2) pa_nil))) (pe_one (pe_cmpR op_lt (pv 3) pe_int (nomark _)))))))), fun ds Q hR => ?_⟩
  obtain ⟨rows, ws, L, rfl, ⟨hro, hwb, hne, hlw, hrl, hL⟩, k⟩ := hR
  show SW _ _ _ [.d (.list (rows.map rowD)), .d (.list (ws.map .int)), .no, .no] _ _
  walk_at "dn"
  repeat' walk_at "dl"
  refine ⟨rows, ws, rfl, hlw, _, rfl, ?_⟩
  cases hg : goodW ws rows.length
  · refine ite_true_of rfl ?_
    repeat' walk_at "dl"
    unfold barsR at k
    rw [hg] at k
    exact k
  · refine ite_false_of rfl ?_
    repeat' walk_at "dl"
    refine sw_asgG ?_
    repeat' walk_at "dl"
    have hl := good_len hg
    refine ⟨rows, ws, L, rfl, hro, hwb, hne, by omega, hrl, hL, ?_⟩
    refine gw_tup rfl (gws_name (gws_name (gws_nil ?_)))
    walk_at "dz"
    generalize ht : addR rows ws L = r at *
    have ek : barsR rows ws L = (noneW r.1 && decide (r.2 < 0)) := by
      unfold barsR
      rw [hg, ht]
      rfl
    rw [ek] at k
    refine sw_ret (we_andV ?_)
    repeat' walk_at "dl"
    refine ⟨_, nc_anyN, ?_⟩
    refine ⟨_, rfl, _, rfl, ?_⟩
    cases hz : (r.1.any fun n => n != 0)
    · refine ite_true_of rfl ?_
      repeat' walk_at "dl"
      unfold noneW at k
      rw [hz] at k
      exact k
    · refine ite_false_of rfl ?_
      unfold noneW at k
      rw [hz] at k
      exact k
def showsR (rows : List (List Int × Int)) (row : List Int × Int) (m : Int) (ws : List Int) (L : Nat) : Bool := (decide (1 ≤ m) && goodW ws rows.length) && (PyData.eqv (wsD (addR rows ws L).1) (wsD (row.1.map fun n => m * n)) && decide ((addR rows ws L).2 ≤ m * row.2))
def R_paperr (ds : List PyData) (P : PyData → Prop) : Prop := ∃ (rows : List (List Int × Int)) (row : List Int × Int) (m : Int) (ws : List Int) (L : Nat), ds = [.list (rows.map rowD), rowD row, .tuple [.int m, .list (ws.map .int)]] ∧ PapOk rows ws L ∧ row.1.length ≤ 1000 ∧ (∀ x ∈ row.1, x.natAbs < 2 ^ 240) ∧ row.2.natAbs < 2 ^ 240 ∧ m.natAbs < 2 ^ 240 ∧ P (.bool (showsR rows row m ws L))
instance : MonoR R_paperr := ⟨fun _ _ _ h ⟨rows, row, m, ws, L, e, a1, a2, a3, a4, a5, k⟩ => ⟨rows, row, m, ws, L, e, a1, a2, a3, a4, a5, h _ k⟩⟩
theorem fit_ws {n : Nat} {ws : List Int} (h : ws.length ≤ 50000) : fit (n + 1) (wsD ws) = true := by
  unfold wsD
  show (Nat.ble (ws.map PyData.int).length 50000 && (ws.map PyData.int).all (fit n)) = true
  rw [Nat.ble_eq_true_of_le (by rw [List.length_map]; exact h)]
  rw [Bool.true_and, List.all_eq_true]
  intro d hd
  obtain ⟨i, _, e⟩ := List.mem_map.mp hd
  rw [← e]
  cases n <;> rfl
theorem ok_paper_right {P : Program} {w : World} {K : PySem.W.Frag} {mg : Str → Option Value} {base : Heap} (Fn : FunAt K mg "paper_right" s_paper_right ["rows", "row", "paper"]) (T : Txt mg) (d__for_rows : Def P w K mg base "_for_rows" 1 ["rows", "weights"] (spP K R_forrows)) (d_added : Def P w K mg base "added" 2 ["rows", "weights"] (spP K R_added)) :
    Def P w K mg base "paper_right" 3 ["rows", "row", "paper"] (spP K R_paperr) := by
  refine fn_P Fn sc_paper_right (fun ds Q ⟨_, _, _, _, _, e, _⟩ => by rw [e]; rfl) fun f cdv A outer s H E hr => ⟨_, (pss_cons (ps_asg (pv 2) (pg_tup (n := 2) rfl (pgs_cons (pg_name (i := 3) sc_paper_right.nd rfl (Or.inr rfl)) (pgs_cons (pg_name (i := 4) sc_paper_right.nd rfl (Or.inl rfl)) pgs_nil))))
      (pss_cons (ps_if (PW.pt (pw_or (pt_cmpR op_lt (pv 3) pe_int (nomark _)) (pw_or1 (pt_not (pt_val (pe_def d__for_rows hr (by first | decide | omega) (by rfl) (pa_cons (pv 0) (pa_cons (pv 4) pa_nil)))))))) (pss_one (ps_ret pe_bl)) pss_nil)
      (pss_cons (ps_asg (pe_def d_added hr (by first | decide | omega) (by rfl) (pa_cons (pv 0) (pa_cons (pv 4) pa_nil))) (pg_tup (n := 2) rfl (pgs_cons (pg_name (i := 5) sc_paper_right.nd rfl (Or.inl rfl)) (pgs_cons (pg_name (i := 6) sc_paper_right.nd rfl (Or.inl rfl)) pgs_nil))))
      (pss_one (ps_ret (pe_and (pe_cmpR (op_eqDK (K := K) rfl hr.units) (pv 5) (pe_callTy (call_tuple_ofK (K := K) rfl) (by rfl) T.tuple (by decide +kernel) (pa_cons (pe_lc (own := [("weight", 7)]) (g := (gName 7)) rfl sc_paper_right.nd (pi_tupK (K := K) rfl (pe_ix (ix_seqK (K := K) rfl) (pv 1) pe_int (fun _ _ => rfl))) (blkOk_by (own := [("weight", 7)]) (N := ["rows", "row", "paper", "many", "weights", "total", "bound", "weight"]) (sc := defScope s_paper_right) (by decide +kernel)) (fun _ _ _ _ _ => (pg_name (i := 7) sc_paper_right.nd rfl (Or.inl rfl) (hf := Or.inr rfl))) (fun _ _ _ _ _ => pts_nil) (fun _ _ _ _ _ => (pe_op op_mulW (pv 3) (pv 7)))) pa_nil)) (nomark _)) (pe_one (pe_cmpR op_le (pv 6) (pe_op op_mulW (pv 3) (pe_ix (ix_seqK (K := K) rfl) (pv 1) pe_int (fun _ _ => rfl))) (nomark _))))))))), fun ds Q hR => ?_⟩
  obtain ⟨rows, row, m, ws, L, rfl, ⟨hro, hwb, hne, hlw, hrl, hL⟩, r1, r2, r3, r4, k⟩ := hR
  show SW _ _ _ [.d (.list (rows.map rowD)), .d (rowD row), .d (.tuple [.int m, .list (ws.map .int)]), .no, .no, .no, .no, .no] _ _
  walk_at "dn"
  refine sw_seq (sw_asgG ?_)
  repeat' walk_at "dl"
  refine gw_tup rfl (gws_name (gws_name (gws_nil ?_)))
  walk_at "dz"
  repeat' walk_at "dl"
  unfold showsR at k
  refine ite2 (fun hm => ?_) (fun hm => ?_)
  · have hm2 : decide (1 ≤ m) = false := by
      have := of_decide_eq_true hm
      exact decide_eq_false (by omega)
    rw [hm2] at k
    refine ite_true_of rfl ?_
    repeat' walk_at "dl"
    exact k
  · have hm2 : decide (1 ≤ m) = true := by
      have : ¬ m < 1 := fun z => hm (decide_eq_true z)
      exact decide_eq_true (by omega)
    rw [hm2] at k
    repeat' walk_at "dl"
    refine ⟨rows, ws, rfl, hlw, _, rfl, ?_⟩
    cases hg : goodW ws rows.length
    · refine ite_true_of rfl ?_
      rw [hg] at k
      repeat' walk_at "dl"
      exact k
    · refine ite_false_of rfl ?_
      rw [hg] at k
      refine sw_next ?_
      refine sw_seq (sw_asgG ?_)
      repeat' walk_at "dl"
      have hl := good_len hg
      refine ⟨rows, ws, L, rfl, hro, hwb, hne, by omega, hrl, hL, ?_⟩
      refine gw_tup rfl (gws_name (gws_name (gws_nil ?_)))
      walk_at "dz"
      have hal := addR_len (ws := ws) hro
      generalize ht : addR rows ws L = r at *
      repeat' walk_at "dl"
      refine we_of (wl_map (ow_name (by decide)) row.1.length (fun i d => (row.1.map PyData.int)[i]? = some d) ((row.1.map fun n => m * n).map .int) ?_ (by omega) (by simp) ?_ ?_)
      · refine iw_tup ?_
        repeat' walk_at "dl"
        refine ⟨_, _, rfl, .tup rfl, _, rfl, by rw [List.length_map], rfl⟩
      · intro i d y p acc hi hd hy
        have hn : row.1[i]? = some row.1[i] := List.getElem?_eq_getElem hi
        rw [List.getElem?_map, hn] at hd
        rw [List.getElem?_map, List.getElem?_map, hn] at hy
        cases hd
        cases hy
        refine gw_name ⟨rfl, ?_⟩
        show WE _ _ _ [_, _, _, .d (.int m), _, _, _, .d (.int _)] _ _
        repeat' walk_at "dl"
        · exact mulZ r4 (r2 _ (List.getElem_mem hi)) (by decide) (by decide)
        · rfl
      · repeat' walk_at "dl"
        refine ⟨shaped_fit (n := 1) (fit_ws (by omega)) (by omega), shaped_fit (n := 1) (fit_ws (ws := row.1.map fun n => m * n) (by rw [List.length_map]; omega)) (by omega), _, rfl, ?_⟩
        cases he : PyData.eqv (wsD r.1) (wsD (row.1.map fun n => m * n))
        · refine ite_false_of he ?_
          rw [he] at k
          exact k
        · refine ite_true_of he ?_
          rw [he] at k
          repeat' walk_at "dl"
          refine ⟨_, _, rfl, .tup rfl, _, _, rfl, rfl, mulZ r4 r3 (by decide) (by decide), _, _, rfl, rfl, k⟩

def R_num (ds : List PyData) (P : PyData → Prop) : Prop := ∃ n : Int, ds = [.int n] ∧ P (.bool true)
instance : MonoR R_num := ⟨fun _ _ _ h ⟨n, e, k⟩ => ⟨n, e, h _ k⟩⟩
theorem ok__law_num {P : Program} {w : World} {K : PySem.W.Frag} {mg : Str → Option Value} {base : Heap} (Fn : FunAt K mg "_law_num" s__law_num ["_law_found"]) (T : Txt mg) : Def P w K mg base "_law_num" 1 ["_law_found"] (spP K R_num) := by
  refine fn_P Fn sc__law_num (fun ds Q ⟨_, e, _⟩ => by rw [e]; rfl) fun f cdv A outer s H E hr => ⟨_, (pss_one (ps_ret (pe_and (pe_callB (call_isiKK (K := K) rfl) (by rfl) T.isinstance (by decide +kernel) (pa_cons (pv 0) (pa_cons (pe_bltn (v := .ty "int") (by rfl) T.int (by decide +kernel) rfl) pa_nil))) (pe_one (pe_not (pe_callB (call_isiKK (K := K) rfl) (by rfl) T.isinstance (by decide +kernel) (pa_cons (pv 0) (pa_cons (pe_bltn (v := .ty "bool") (by rfl) T.bool (by decide +kernel) rfl) pa_nil)))))))), fun ds Q hR => ?_⟩
  obtain ⟨n, rfl, k⟩ := hR
  show SW _ _ _ [.d (.int n)] _ _
  walk_at "dn"
  have i1 : isD (.int n) "int" = true := (show isTy "int" "int" = true by decide +kernel)
  have i2 : isD (.int n) "bool" = false := (show isTy "int" "bool" = false by decide +kernel)
  repeat' walk_at "dl"
  rw [i1]
  refine ite_true_of rfl ?_
  repeat' walk_at "dl"
  rw [i2]
  exact k
def R_areW (ds : List PyData) (P : PyData → Prop) : Prop := ∃ (rows : List (List Int × Int)) (ws : List Int), ds = [.list (ws.map .int), .list (rows.map rowD)] ∧ ws.length ≤ 1000 ∧ P (.bool (goodW ws rows.length))
instance : MonoR R_areW := ⟨fun _ _ _ h ⟨rows, ws, e, a, k⟩ => ⟨rows, ws, e, a, h _ k⟩⟩
theorem ok__law_are_weights {P : Program} {w : World} {K : PySem.W.Frag} {mg : Str → Option Value} {base : Heap} (Fn : FunAt K mg "_law_are_weights" s__law_are_weights ["_law_found", "_law_rows"]) (T : Txt mg) (d__law_num : Def P w K mg base "_law_num" 1 ["_law_found"] (spP K R_num)) : Def P w K mg base "_law_are_weights" 2 ["_law_found", "_law_rows"] (spP K R_areW) := by
  refine fn_P Fn sc__law_are_weights (fun ds Q ⟨_, _, e, _⟩ => by rw [e]; rfl) fun f cdv A outer s H E hr => ⟨_, (pss_cons (ps_if (PW.pt (pw_or (pt_not (pt_val (pe_callB (call_isiKK (K := K) rfl) (by rfl) T.isinstance (by decide +kernel) (pa_cons (pv 0) (pa_cons (pe_bltn (v := .ty "list") (by rfl) T.list (by decide +kernel) rfl) pa_nil))))) (pw_or1 (pt_cmpR (op_neDK (K := K) rfl hr.units) (pe_callB (call_lenK (K := K) rfl) (by rfl) T.len (by decide +kernel) (pa_cons (pv 0) pa_nil)) (pe_callB (call_lenK (K := K) rfl) (by rfl) T.len (by decide +kernel) (pa_cons (pv 1) pa_nil)) (nomark _))))) (pss_one (ps_ret pe_bl)) pss_nil)
      (pss_one (ps_ret (pe_callB (cr_allK (K := K) rfl rfl) (by rfl) T.all (by decide +kernel) (pa_cons (pe_lc (own := [("_law_weight", 2)]) (g := (gName 2)) rfl sc__law_are_weights.nd (pi_listK (K := K) rfl (pv 0)) (blkOk_by (own := [("_law_weight", 2)]) (N := ["_law_found", "_law_rows", "_law_weight"]) (sc := defScope s__law_are_weights) (by decide +kernel)) (fun _ _ _ _ _ => (pg_name (i := 2) sc__law_are_weights.nd rfl (Or.inl rfl) (hf := Or.inr rfl))) (fun _ _ _ _ _ => pts_nil) (fun _ _ _ _ _ => (pe_and (pe_def d__law_num hr (by first | decide | omega) (by rfl) (pa_cons (pv 2) pa_nil)) (pe_one (pe_cmpR op_ge (pv 2) pe_int (nomark _)))))) pa_nil))))), fun ds Q hR => ?_⟩
  obtain ⟨rows, ws, rfl, hl, k⟩ := hR
  show SW _ _ _ [.d (.list (ws.map .int)), .d (.list (rows.map rowD)), .no] _ _
  walk_at "dn"
  have e1 : PyData.eqv (.int ((ws.map PyData.int).length : Nat)) (.int ((rows.map rowD).length : Nat)) = (ws.length == rows.length) := by
    rw [List.length_map, List.length_map, Bool.eq_iff_iff]
    simp [PyData.eqv]
    omega
  repeat' walk_at "dl"
  rw [ty_ll]
  refine ite_false_of rfl ?_
  repeat' walk_at "dl"
  rw [e1]
  cases hb : (ws.length == rows.length)
  · refine ite_true_of rfl ?_
    have e2 : goodW ws rows.length = false := by unfold goodW; rw [hb]; rfl
    rw [e2] at k
    repeat' walk_at "dl"
    exact k
  · refine ite_false_of rfl ?_
    repeat' walk_at "dl"
    refine we_of (wl_bools (ws.map fun n => decide (n ≥ 0)) (ow_name (by decide)) ws.length (fun i d => (ws.map PyData.int)[i]? = some d) ?_ (by omega) (List.length_map ..) ?_ ?_)
    · refine iw_list ?_
      repeat' walk_at "dl"
      exact ⟨by rw [List.length_map], rfl⟩
    · intro i d b p acc hi hd hb
      have hn : ws[i]? = some ws[i] := List.getElem?_eq_getElem hi
      rw [List.getElem?_map, hn] at hd hb
      cases hd
      cases hb
      refine gw_name ⟨rfl, ?_⟩
      show WE _ _ _ [_, _, .d (.int _)] _ _
      repeat' walk_at "dl"
      refine ⟨_, rfl, _, rfl, ite_true_of rfl ?_⟩
      repeat' walk_at "dl"
      rfl
    · refine wa_nil ⟨_, nc_all, ?_⟩
      have e2 : goodW ws rows.length = (ws.map fun n => decide (n ≥ 0)).all id := by
        unfold goodW okW
        rw [hb, List.all_map]
        rfl
      rw [← e2]
      exact k
def R_adds (ds : List PyData) (P : PyData → Prop) : Prop := ∃ (rows : List (List Int × Int)) (ws : List Int) (L : Nat), ds = [.list (rows.map rowD), .list (ws.map .int)] ∧ PapOk rows ws L ∧ P (rowD (addR rows ws L))
instance : MonoR R_adds := ⟨fun _ _ _ h ⟨rows, ws, L, e, a1, k⟩ => ⟨rows, ws, L, e, a1, h _ k⟩⟩
theorem addW_snoc (acc : List Int) (ps : List ((List Int × Int) × Int)) (p : (List Int × Int) × Int) : addW acc (ps ++ [p]) = vadd (addW acc ps) p.2 p.1.1 := by
  unfold addW
  rw [List.foldl_append]
  rfl
theorem addB_snoc (acc : Int) (ps : List ((List Int × Int) × Int)) (p : (List Int × Int) × Int) : addB acc (ps ++ [p]) = addB acc ps + p.2 * p.1.2 := by
  unfold addB
  rw [List.foldl_append]
  rfl
theorem ok__law_adds {P : Program} {w : World} {K : PySem.W.Frag} {mg : Str → Option Value} {base : Heap} (Fn : FunAt K mg "_law_adds" s__law_adds ["_law_rows", "_law_weights_here"]) (T : Txt mg) : Def P w K mg base "_law_adds" 1 ["_law_rows", "_law_weights_here"] (spP K R_adds) := by
  refine fn_P Fn sc__law_adds (fun ds Q ⟨_, _, _, e, _⟩ => by rw [e]; rfl) fun f cdv A outer s H E hr => ⟨_, (pss_cons (ps_asg (pe_op op_rep (pe_lst (pa_cons pe_int pa_nil)) (pe_callB (call_lenK (K := K) rfl) (by rfl) T.len (by decide +kernel) (pa_cons (pe_ix (ix_seqK (K := K) rfl) (pe_ix (ix_seqK (K := K) rfl) (pv 0) pe_int (fun _ _ => rfl)) pe_int (fun _ _ => rfl)) pa_nil))) (pg_name (i := 2) sc__law_adds.nd rfl (Or.inl rfl)))
      (pss_cons (ps_asg pe_int (pg_name (i := 3) sc__law_adds.nd rfl (Or.inl rfl)))
      (pss_cons (ps_for PassesOwn.never rfl (pi_zipK (K := K) rfl (by rfl) T.zip (pa_cons (pv 0) (pa_cons (pv 1) pa_nil))) (pg_tup (n := 2) rfl (pgs_cons (pg_name (i := 4) sc__law_adds.nd rfl (Or.inl rfl)) (pgs_cons (pg_name (i := 5) sc__law_adds.nd rfl (Or.inr rfl)) pgs_nil)))
      (pss_cons (ps_setLc (i := 2) (own := [("_law_one", 6), ("_law_other", 7)]) (g := (gTup K 2 (gCons (gName 6) (gCons (gName 7) gNil)))) rfl sc__law_adds.nd rfl rfl (sw_true rfl rfl rfl (by decide +kernel)) (pi_zipK (K := K) rfl (by rfl) T.zip (pa_cons (pv 2) (pa_cons (pe_ix (ix_seqK (K := K) rfl) (pv 4) pe_int (fun _ _ => rfl)) pa_nil))) (blkOk_by (own := [("_law_one", 6), ("_law_other", 7)]) (N := ["_law_rows", "_law_weights_here", "_law_total", "_law_bound", "_law_row_here", "_law_weight", "_law_one", "_law_other"]) (sc := defScope s__law_adds) (by decide +kernel)) (fun _ _ _ _ _ => (pg_tup (n := 2) rfl (pgs_cons (pg_name (i := 6) sc__law_adds.nd rfl (Or.inl rfl) (hf := Or.inr rfl)) (pgs_cons (pg_name (i := 7) sc__law_adds.nd rfl (Or.inl rfl) (hf := Or.inr rfl)) pgs_nil)))) (fun _ _ _ _ _ => pts_nil) (fun _ _ _ _ _ => (pe_op op_add (pv 6) (pe_op op_mulW (pv 5) (pv 7)))))
      (pss_one (ps_asg (pe_op op_add (pv 3) (pe_op op_mulW (pv 5) (pe_ix (ix_seqK (K := K) rfl) (pv 4) pe_int (fun _ _ => rfl)))) (pg_name (i := 3) sc__law_adds.nd rfl (Or.inl rfl))))))
      (pss_one (ps_ret (pe_tup (pa_cons (pe_callTy (call_tuple_ofK (K := K) rfl) (by rfl) T.tuple (by decide +kernel) (pa_cons (pv 2) pa_nil)) (pa_cons (pv 3) pa_nil)))))))), fun ds Q hR => ?_⟩
  obtain ⟨rows, ws, L, rfl, ⟨hro, hwb, hne, hlw, hrl, hL⟩, k⟩ := hR
  show SW _ _ _ [.d (.list (rows.map rowD)), .d (.list (ws.map .int)), .no, .no, .no, .no, .no, .no] _ _
  walk_at "dn"
  obtain ⟨r0, rs, rfl⟩ : ∃ c0 cs, rows = c0 :: cs := by
    cases rows with
    | nil => exact absurd rfl hne
    | cons a b => exact ⟨a, b, rfl⟩
  have hr0 : r0.1.length = L := (hro r0 (List.mem_cons_self ..)).1
  repeat' walk_at "dl"
  intro p
  repeat' walk_at "dl"
  refine ⟨_, _, rfl, at_list (j := 0) rfl, ?_⟩
  repeat' walk_at "dl"
  refine ⟨_, _, rfl, .tup rfl, ?_⟩
  walk_at "dl"
  refine ⟨_, nc_len (show lenD (wsD r0.1) = some L by show some (r0.1.map PyData.int).length = some L; rw [List.length_map, hr0]), ?_⟩
  refine ⟨_, rfl, by omega, by omega, by simp; omega, ?_⟩
  have e2 : (List.replicate ((L : Int)).toNat [PyData.int 0]).flatten = (List.replicate L (0 : Int)).map .int := by
    rw [Int.toNat_natCast, List.map_replicate]
    simp
  rw [e2]
  try dsimp only
  try walk_at "dz"
  repeat' walk_at "dl"
  generalize hrr : r0 :: rs = rows at *
  refine sw_for (fun i Z O => ∃ z4 z5, Z = [.d (.list (rows.map rowD)), .d (.list (ws.map .int)), .d (.list ((addW (List.replicate L 0) ((rows.zip ws).take i)).map .int)), .d (.int (addB 0 ((rows.zip ws).take i))), z4, z5, .no, .no] ∧ O = []) (min rows.length ws.length) (fun i d => ∃ x y, (rows.map rowD)[i]? = some x ∧ (ws.map PyData.int)[i]? = some y ∧ d = .tuple [x, y]) ?_ ⟨_, _, rfl, rfl⟩ ?_ ?_
  · refine iw_zip ?_
    repeat' walk_at "dl"
    exact ⟨_, _, _, _, rfl, rfl, rfl, by simp only [List.length_map], rfl⟩
  · rintro i d _ _ hi ⟨x, y, hx, hy, rfl⟩ ⟨z4, z5, rfl, rfl⟩
    have a1 : rows[i]? = some (rows[i]'(by omega)) := List.getElem?_eq_getElem _
    have a2 : ws[i]? = some (ws[i]'(by omega)) := List.getElem?_eq_getElem _
    rw [List.getElem?_map, a1] at hx
    rw [List.getElem?_map, a2] at hy
    cases hx
    cases hy
    have a3 : (rows.zip ws)[i]? = some (rows[i]'(by omega), ws[i]'(by omega)) := List.getElem?_zip_eq_some.mpr ⟨a1, a2⟩
    have eW : addW (List.replicate L 0) ((rows.zip ws).take (i + 1)) = vadd (addW (List.replicate L 0) ((rows.zip ws).take i)) (ws[i]'(by omega)) (rows[i]'(by omega)).1 := by
      rw [List.take_succ, a3]
      exact addW_snoc _ _ _
    have eB : addB 0 ((rows.zip ws).take (i + 1)) = addB 0 ((rows.zip ws).take i) + (ws[i]'(by omega)) * (rows[i]'(by omega)).2 := by
      rw [List.take_succ, a3]
      exact addB_snoc _ _ _
    have lW : (addW (List.replicate L 0) ((rows.zip ws).take i)).length = L := addW_len (List.length_replicate ..) fun p hp => (hro _ (List.of_mem_zip (List.mem_of_mem_take hp)).1).1
    obtain ⟨b1, b2, b3⟩ := hro _ (List.getElem_mem (by omega : i < rows.length))
    have b4 := hwb _ (List.getElem_mem (by omega : i < ws.length))
    generalize rows[i]'(by omega) = r at *
    generalize ws[i]'(by omega) = wt at *
    generalize addW (List.replicate L 0) ((rows.zip ws).take i) = acc at *
    refine gw_tup rfl (gws_name (gws_name (gws_nil ?_)))
    walk_at "dz"
    walk_at "dl"
    refine sw_asg (we_of (wl_map (ow_tup (ows_cons (ow_name (by decide)) (ows_cons (ow_name (by decide)) ows_nil))) L (fun i d => ∃ x y, (acc.map PyData.int)[i]? = some x ∧ (r.1.map PyData.int)[i]? = some y ∧ d = .tuple [x, y]) ((vadd acc wt r.1).map .int) ?_ (by omega) ?_ ?_ ?_))
    · refine iw_zip ?_
      refine wa_cons ?_
      repeat' walk_at "dl"
      refine ⟨_, _, rfl, .tup rfl, ?_⟩
      repeat' walk_at "dl"
      exact ⟨_, _, _, _, rfl, rfl, rfl, by simp only [List.length_map]; omega, rfl⟩
    · rw [List.length_map, vadd_len (by omega), lW]
    · rintro q d y p _ hq ⟨x1, x2, h1, h2, rfl⟩ hy
      have c1 : acc[q]? = some (acc[q]'(by omega)) := List.getElem?_eq_getElem _
      have c2 : r.1[q]? = some (r.1[q]'(by omega)) := List.getElem?_eq_getElem _
      rw [List.getElem?_map, c1] at h1
      rw [List.getElem?_map, c2] at h2
      cases h1
      cases h2
      rw [List.getElem?_map, vadd_at c1 c2] at hy
      cases hy
      refine gw_tup rfl (gws_name (gws_name (gws_nil ⟨rfl, ?_⟩)))
      have b5 := b2 _ (List.getElem_mem (by omega : q < r.1.length))
      show WE _ _ _ [_, _, _, _, _, .d (.int wt), .d (.int _), .d (.int _)] _ _
      repeat' walk_at "dl"
      · exact mulZ b4 b5 (by decide) (by decide)
      · rfl
    · try dsimp only
      try walk_at "dz"
      repeat' walk_at "dl"
      refine ⟨_, _, rfl, .tup rfl, _, _, rfl, rfl, mulZ b4 b3 (by decide) (by decide), _, _, rfl, rfl, ?_⟩
      try dsimp only
      try walk_at "dz"
      rw [eW, eB]
      first | exact ⟨_, _, rfl, True.intro⟩ | exact ⟨_, _, rfl, rfl⟩
  · rintro _ _ ⟨z4, z5, rfl, rfl⟩
    rw [show min rows.length ws.length = (rows.zip ws).length by rw [List.length_zip], List.take_length]
    repeat' walk_at "dl"
    exact k

def Big (ws : List Int) (b : Int) : Prop := ws ≠ [] ∧ ws.length ≤ 9 ∧ (∀ w ∈ ws, w.natAbs < 2 ^ 60) ∧ b.natAbs < 2 ^ 60

def Wts (ws : List Int) : Prop := ws.length ≤ 9 ∧ ∀ w ∈ ws, w.natAbs < 2 ^ 60
/-- drawn weights -/
def R_weights (ds : List PyData) (P : PyData → Prop) : Prop := ∃ c m : Int, ds = [.int c, .int m] ∧ 0 < c ∧ c ≤ 8 ∧ 0 ≤ m ∧ m < 2 ^ 45 ∧ ∀ ws, Wts ws → (ws.length : Int) = c → P (wsD ws)
instance : MonoR R_weights := ⟨fun _ _ _ h ⟨n, m, e, a, b, c, d, k⟩ => ⟨n, m, e, a, b, c, d, fun x p q => h _ (k x p q)⟩⟩
theorem wts_of {ds : List PyData} {n : Nat} (hl : ds.length = n) (hn : n ≤ 9) (h : ∀ d ∈ ds, ∃ n : Int, d = .int n ∧ n.natAbs < 2 ^ 60) : ∃ ws : List Int, ds = ws.map .int ∧ Wts ws ∧ ws.length = n := by
  have go : ∀ ds : List PyData, (∀ d ∈ ds, ∃ n : Int, d = .int n ∧ n.natAbs < 2 ^ 60) → ∃ ns : List Int, ds = ns.map .int ∧ (∀ n ∈ ns, n.natAbs < 2 ^ 60) ∧ ns.length = ds.length := by
    intro ds
    induction ds with
    | nil => intro _; exact ⟨[], rfl, fun n h => (by cases h), rfl⟩
    | cons d ds ih =>
      intro h
      obtain ⟨n, rfl, hn⟩ := h d (List.mem_cons_self ..)
      obtain ⟨ns, e, h2, h3⟩ := ih fun d hd => h d (List.mem_cons_of_mem _ hd)
      refine ⟨n :: ns, by rw [e]; rfl, fun m hm => ?_, by simp [h3]⟩
      rcases List.mem_cons.mp hm with e | hm
      · rw [e]; exact hn
      · exact h2 m hm
  obtain ⟨ns, e, h1, h2⟩ := go ds h
  exact ⟨ns, e, ⟨by omega, h1⟩, by omega⟩
theorem set_ok {acc : List PyData} {j : Nat} {n : Nat} {d : PyData} (h : acc.length = n ∧ ∀ x ∈ acc, ∃ n : Int, x = .int n ∧ n.natAbs < 2 ^ 60) (hd : ∃ n : Int, d = .int n ∧ n.natAbs < 2 ^ 60) : (acc.set j d).length = n ∧ ∀ x ∈ acc.set j d, ∃ n : Int, x = .int n ∧ n.natAbs < 2 ^ 60 := by
  refine ⟨by rw [List.length_set]; exact h.1, fun x hx => ?_⟩
  rcases List.mem_or_eq_of_mem_set hx with hx | hx
  · exact h.2 x hx
  · rw [hx]; exact hd
theorem snoc_ok {acc : List PyData} {n : Nat} {d : PyData} (h : acc.length = n ∧ ∀ x ∈ acc, ∃ n : Int, x = .int n ∧ n.natAbs < 2 ^ 60) (hd : ∃ n : Int, d = .int n ∧ n.natAbs < 2 ^ 60) : (acc ++ [d]).length = n + 1 ∧ ∀ x ∈ acc ++ [d], ∃ n : Int, x = .int n ∧ n.natAbs < 2 ^ 60 := by
  refine ⟨by simp [h.1], fun x hx => ?_⟩
  rcases List.mem_append.mp hx with hx | hx
  · exact h.2 x hx
  · simp only [List.mem_singleton] at hx
    rw [hx]; exact hd
theorem ok__law_weights {P : Program} {w : World} {K : PySem.W.Frag} {mg : Str → Option Value} {base : Heap} (Fn : FunAt K mg "_law_weights" s__law_weights ["_law_box_here", "_law_count", "_law_far"]) (T : Txt mg) (d__law_take : Def P w K mg base "_law_take" 1 ["_law_box_here", "_law_many"] (spB K R_take)) (d__law_near : Def P w K mg base "_law_near" 2 ["_law_box_here", "_law_far"] (spB K R_near)) :
    Def P w K mg base "_law_weights" 3 ["_law_box_here", "_law_count", "_law_far"] (spB K R_weights) := by
  refine fn_B Fn sc__law_weights (fun ds Q ⟨m, n, e, _⟩ => by rw [e]; rfl) fun f cdv A outer s H E hr => ⟨_, (pss_cons (ps_asg (pe_def d__law_take hr (by first | decide | omega) (by rfl) (pa_cons (pv 0) (pa_cons pe_int pa_nil))) (pg_name (i := 3) sc__law_weights.nd rfl (Or.inl rfl)))
      (pss_cons (ps_if (pt_cmpR (op_eqDK (K := K) rfl hr.units) (pv 3) pe_int (nomark _)) (pss_cons (ps_asg (pe_def d__law_take hr (by first | decide | omega) (by rfl) (pa_cons (pv 0) (pa_cons (pv 1) pa_nil))) (pg_name (i := 4) sc__law_weights.nd rfl (Or.inr rfl)))
      (pss_cons (ps_asg (pe_ix (ix_seqK (K := K) rfl) (pe_lst (pa_cons pe_int (pa_cons (pe_un un_neg pe_int) pa_nil))) (pe_def d__law_take hr (by first | decide | omega) (by rfl) (pa_cons (pv 0) (pa_cons pe_int pa_nil))) (fun _ _ => rfl)) (pg_name (i := 5) sc__law_weights.nd rfl (Or.inr rfl)))
      (pss_one (ps_ret (pe_callTy (call_tuple_ofK (K := K) rfl) (by rfl) T.tuple (by decide +kernel) (pa_cons (pe_lc (own := [("_law_k", 7)]) (g := (gName 7)) rfl sc__law_weights.nd (pi_range1 rfl T.range (pa_cons (pv 1) pa_nil)) (blkOk_by (own := [("_law_k", 7)]) (N := ["_law_box_here", "_law_count", "_law_far", "_law_way", "_law_at", "_law_sign", "_law_found", "_law_k"]) (sc := defScope s__law_weights) (by decide +kernel)) (fun _ _ _ _ _ => (pg_name (i := 7) sc__law_weights.nd rfl (Or.inl rfl) (hf := Or.inr rfl))) (fun _ _ _ _ _ => pts_nil) (fun _ _ _ _ _ => (pe_op op_mulW (pv 5) (pe_callTy call_int1 (by rfl) T.int (by decide +kernel) (pa_cons (pe_cmpR (op_eqDK (K := K) rfl hr.units) (pv 7) (pv 4) (nomark _)) pa_nil))))) pa_nil)))))) pss_nil)
      (pss_cons (ps_setLc (i := 6) (own := [("_law_k", 7)]) (g := (gName 7)) rfl sc__law_weights.nd rfl rfl (sw_true rfl rfl rfl (by decide +kernel)) (pi_range1 rfl T.range (pa_cons (pv 1) pa_nil)) (blkOk_by (own := [("_law_k", 7)]) (N := ["_law_box_here", "_law_count", "_law_far", "_law_way", "_law_at", "_law_sign", "_law_found", "_law_k"]) (sc := defScope s__law_weights) (by decide +kernel)) (fun _ _ _ _ _ => (pg_name (i := 7) sc__law_weights.nd rfl (Or.inl rfl) (hf := Or.inr rfl))) (fun _ _ _ _ _ => pts_nil) (fun _ _ _ _ _ => (pe_def d__law_near hr (by first | decide | omega) (by rfl) (pa_cons (pv 0) (pa_cons (pv 2) pa_nil)))))
      (pss_cons (ps_if (PW.pt (pw_and (pt_cmpR (op_eqDK (K := K) rfl hr.units) (pv 3) pe_int (nomark _)) (pw_and1 (pt_cmpR op_gt (pv 1) pe_int (nomark _))))) (pss_one (ps_asg pe_int (pg_sub (pv 6) (pe_def d__law_take hr (by first | decide | omega) (by rfl) (pa_cons (pv 0) (pa_cons (pv 1) pa_nil))) set_list))) pss_nil)
      (pss_one (ps_ret (pe_callTy (call_tuple_ofK (K := K) rfl) (by rfl) T.tuple (by decide +kernel) (pa_cons (pv 6) pa_nil)))))))), fun b ds Q hR => ?_⟩
  obtain ⟨c, m, rfl, hc0, hc8, hm0, hm1, k⟩ := hR
  show SW _ _ _ [.v (.ref b), .d (.int c), .d (.int m), .no, .no, .no, .no, .no] _ _
  walk_at "dn"
  repeat' walk_at "dl"
  refine ⟨_, rfl, by decide, by decide, fun way h1 h2 => ?_⟩
  repeat' walk_at "dl"
  refine ite2 (fun hw => ?_) (fun hw => ?_)
  · repeat' walk_at "dl"
    refine ⟨_, rfl, hc0, by omega, fun at' h3 h4 => ?_⟩
    repeat' walk_at "dl"
    refine we_pick (fun x => ∃ n : Int, x = .int n ∧ n.natAbs < 2) ?_ ?_
    · repeat' walk_at "dl"
      refine ⟨_, rfl, by decide, by decide, fun r4 h7 h8 => ?_⟩
      refine item_any h7 h8 fun x hx => ?_
      simp only [List.mem_cons, List.mem_nil_iff, or_false] at hx
      rcases hx with rfl | rfl
      · exact ⟨_, rfl, by decide⟩
      · exact ⟨_, rfl, by decide⟩
    rintro _ ⟨sg, rfl, hsg⟩
    repeat' walk_at "dl"
    refine we_of (wl_comp (ow_name (by decide)) (fun i acc => acc.length = i ∧ ∀ x ∈ acc, ∃ n : Int, x = .int n ∧ n.natAbs < 2 ^ 60) c.toNat (fun i d => d = .int (i : Nat)) ?_ ⟨rfl, fun x hx => by cases hx⟩ (by omega) (fun i acc h => Nat.le_of_eq h.1) ?_ ?_)
    · refine iw_rng1 ?_
      repeat' walk_at "dl"
      exact ⟨⟨by omega, by omega⟩, rfl, rfl⟩
    · rintro j _ acc p hj rfl hacc
      refine gw_name ⟨rfl, wt_yes (iteT ?_)⟩
      show WE _ _ _ [.v (.ref b), .d (.int c), .d (.int m), .d (.int way), .d (.int at'), .d (.int sg), .no, .d (.int (j : Nat))] _ _
      repeat' walk_at "dl"
      · exact mulS (by omega) (by split <;> decide)
      refine snoc_ok hacc ⟨_, rfl, ?_⟩
      split <;> simp <;> omega
    · intro acc hacc
      obtain ⟨ws, e, g1, g2⟩ := wts_of hacc.1 (by omega) hacc.2
      subst e
      repeat' walk_at "dl"
      exact k ws g1 (by omega)
  · walk_at "dl"
    refine sw_seq (sw_asgL (wl_comp (ow_name (by decide)) (fun i acc => acc.length = i ∧ ∀ x ∈ acc, ∃ n : Int, x = .int n ∧ n.natAbs < 2 ^ 60) c.toNat (fun i d => d = .int (i : Nat)) ?_ ⟨rfl, fun x hx => by cases hx⟩ (by omega) (fun i acc h => Nat.le_of_eq h.1) ?_ ?_))
    · refine iw_rng1 ?_
      repeat' walk_at "dl"
      exact ⟨⟨by omega, by omega⟩, rfl, rfl⟩
    · rintro j _ acc p hj rfl hacc
      refine gw_name ⟨rfl, wt_yes (iteT ?_)⟩
      show WE _ _ _ [.v (.ref b), .d (.int c), .d (.int m), .d (.int way), .no, .no, .no, .d (.int (j : Nat))] _ _
      repeat' walk_at "dl"
      refine ⟨m, rfl, hm0, by omega, fun n h3 h4 => ?_⟩
      exact snoc_ok hacc ⟨_, rfl, by omega⟩
    · intro acc hacc p
      walk_at "dz"
      refine sw_cut (fun Z O => ∃ acc, (acc.length = c.toNat ∧ ∀ x ∈ acc, ∃ n : Int, x = .int n ∧ n.natAbs < 2 ^ 60) ∧ Z = [.v (.ref b), .d (.int c), .d (.int m), .d (.int way), .no, .no, .v (.ref p), .no] ∧ O = [(p, acc)]) (sw_if ?_) ?_
      · have both : ∀ b' : Bool, if b' = true then SW K (some b) (tAsg (tC (.int 0)) (gSub (tVar 6) (tCall (spB K R_take) [] E0 (tCons (tVar 0) (tCons (tVar 1) tNil))) rSetL)) [.v (.ref b), .d (.int c), .d (.int m), .d (.int way), .no, .no, .v (.ref p), .no] [(p, acc)] { nx := fun Z O => ∃ acc, (acc.length = c.toNat ∧ ∀ x ∈ acc, ∃ n : Int, x = .int n ∧ n.natAbs < 2 ^ 60) ∧ Z = [.v (.ref b), .d (.int c), .d (.int m), .d (.int way), .no, .no, .v (.ref p), .no] ∧ O = [(p, acc)], rt := Q } else SW K (some b) tNext [.v (.ref b), .d (.int c), .d (.int m), .d (.int way), .no, .no, .v (.ref p), .no] [(p, acc)] { nx := fun Z O => ∃ acc, (acc.length = c.toNat ∧ ∀ x ∈ acc, ∃ n : Int, x = .int n ∧ n.natAbs < 2 ^ 60) ∧ Z = [.v (.ref b), .d (.int c), .d (.int m), .d (.int way), .no, .no, .v (.ref p), .no] ∧ O = [(p, acc)], rt := Q } := by
          intro b'
          refine ite2 (fun _ => ?_) (fun _ => ?_)
          · refine sw_setL rfl ?_
            repeat' walk_at "dl"
            refine ⟨_, rfl, hc0, by omega, fun r h3 h4 => ?_⟩
            refine ⟨r, r.toNat, rfl, ?_, _, set_ok hacc ⟨0, rfl, by decide⟩, rfl, rfl⟩
            unfold ixN
            rw [if_pos h3, if_pos (by rw [hacc.1]; omega)]
          · exact sw_next ⟨acc, hacc, rfl, rfl⟩
        repeat' walk_at "dl"
        refine ite2 (fun _ => ?_) (fun _ => ?_)
        · repeat' walk_at "dl"
          exact both _
        · exact both _
      · rintro _ _ ⟨acc, hacc, rfl, rfl⟩
        obtain ⟨ws, e, g1, g2⟩ := wts_of hacc.1 (by omega) hacc.2
        subst e
        refine sw_freeze (i := 6) rfl ?_
        walk_at "dz"
        repeat' walk_at "dl"
        exact k ws g1 (by omega)
/-- a drawn row -/
def R_lrow (ds : List PyData) (P : PyData → Prop) : Prop := ∃ c m : Int, ds = [.int c, .int m] ∧ 0 < c ∧ c ≤ 8 ∧ 0 ≤ m ∧ m < 2 ^ 45 ∧ ∀ ws b, Big ws b → (ws.length : Int) = c → P (.tuple [.tuple (ws.map .int), .int b])
instance : MonoR R_lrow := ⟨fun _ _ _ h ⟨n, m, e, a, b, c, d, k⟩ => ⟨n, m, e, a, b, c, d, fun x y p q => h _ (k x y p q)⟩⟩
theorem ok__law_row {P : Program} {w : World} {K : PySem.W.Frag} {mg : Str → Option Value} {base : Heap} (Fn : FunAt K mg "_law_row" s__law_row ["_law_box_here", "_law_count", "_law_far"]) (T : Txt mg) (d__law_near : Def P w K mg base "_law_near" 2 ["_law_box_here", "_law_far"] (spB K R_near)) (d__law_weights : Def P w K mg base "_law_weights" 3 ["_law_box_here", "_law_count", "_law_far"] (spB K R_weights)) :
    Def P w K mg base "_law_row" 4 ["_law_box_here", "_law_count", "_law_far"] (spB K R_lrow) := by
  refine fn_B Fn sc__law_row (fun ds Q ⟨m, n, e, _⟩ => by rw [e]; rfl) fun f cdv A outer s H E hr => ⟨_, (pss_one (ps_ret (pe_tup (pa_cons (pe_def d__law_weights hr (by first | decide | omega) (by rfl) (pa_cons (pv 0) (pa_cons (pv 1) (pa_cons (pv 2) pa_nil)))) (pa_cons (pe_def d__law_near hr (by first | decide | omega) (by rfl) (pa_cons (pv 0) (pa_cons (pe_op op_mulW pe_int (pv 2)) pa_nil))) pa_nil))))), fun b ds Q hR => ?_⟩
  obtain ⟨c, m, rfl, hc0, hc8, hm0, hm1, k⟩ := hR
  show SW _ _ _ [.v (.ref b), .d (.int c), .d (.int m)] _ _
  walk_at "dn"
  repeat' walk_at "dl"
  refine ⟨c, m, rfl, hc0, hc8, hm0, hm1, fun ws hw hl => ?_⟩
  repeat' walk_at "dl"
  · exact mulS (by decide) (by omega)
  refine ⟨_, rfl, by omega, by omega, fun n h1 h2 => ?_⟩
  repeat' walk_at "dl"
  refine k ws n ⟨fun z => ?_, hw.1, hw.2, by omega⟩ hl
  rw [z] at hl
  simp at hl
  omega

theorem eqv_zeros : ∀ {t : List Int}, PyData.eqvAll (t.map .int) ((List.replicate t.length (0 : Int)).map .int) = noneW t
  | [] => rfl
  | n :: t => by
    rw [List.length_cons, List.replicate_succ, List.map_cons, List.map_cons, PyData.eqvAll, eqv_zeros]
    unfold noneW
    rw [List.any_cons]
    by_cases h : n = 0
    · subst h
      simp [PyData.eqv]
    · have h2 : (n == 0) = false := by simpa using h
      have h3 : (n != 0) = true := by simpa using h
      rw [h3]
      simp [PyData.eqv, h2]
theorem eqv_zero_t {t : List Int} : PyData.eqv (wsD t) (wsD (List.replicate t.length 0)) = noneW t := by
  unfold wsD
  rw [PyData.eqv]
  exact eqv_zeros
def barsL (rows : List (List Int × Int)) (ws : List Int) (L : Nat) : Bool := goodW ws rows.length && (decide ((addR rows ws L).2 < 0) && noneW (addR rows ws L).1)
theorem bars_same {rows : List (List Int × Int)} {ws : List Int} {L : Nat} : barsL rows ws L = barsR rows ws L := by
  unfold barsL barsR
  rw [Bool.and_comm (decide _)]
theorem eqv_none_rows {rows : List (List Int × Int)} (h : rows ≠ []) : PyData.eqv (.list (rows.map rowD)) (.list []) = false := by
  cases rows with
  | nil => exact absurd rfl h
  | cons r rs => rfl
theorem fit_row {n : Nat} {r : List Int × Int} (h : r.1.length ≤ 50000) : fit (n + 2) (rowD r) = true := by
  show (Nat.ble 2 50000 && [wsD r.1, PyData.int r.2].all (fit (n + 1))) = true
  simp only [List.all_cons, List.all_nil, fit_ws h]
  rfl
theorem fit_rows {n : Nat} {rows : List (List Int × Int)} {L : Nat} (h : RowsOk rows L) (hl : rows.length ≤ 50000) (hL : L ≤ 50000) : fit (n + 3) (.list (rows.map rowD)) = true := by
  show (Nat.ble (rows.map rowD).length 50000 && (rows.map rowD).all (fit (n + 2))) = true
  rw [Nat.ble_eq_true_of_le (by rw [List.length_map]; exact hl), Bool.true_and, List.all_eq_true]
  intro d hd
  obtain ⟨r, hr, e⟩ := List.mem_map.mp hd
  rw [← e]
  exact fit_row (by have := (h r hr).1; omega)
def R_barred (ds : List PyData) (P : PyData → Prop) : Prop := ∃ (rows : List (List Int × Int)) (ws : List Int) (L : Nat), ds = [.list (rows.map rowD), .list (ws.map .int)] ∧ PapOk rows ws L ∧ 0 < L ∧ P (.bool (barsR rows ws L))
instance : MonoR R_barred := ⟨fun _ _ _ h ⟨rows, ws, L, e, a1, a2, k⟩ => ⟨rows, ws, L, e, a1, a2, h _ k⟩⟩
theorem ok__law_barred {P : Program} {w : World} {K : PySem.W.Frag} {mg : Str → Option Value} {base : Heap} (Fn : FunAt K mg "_law_barred" s__law_barred ["_law_rows", "_law_found"]) (T : Txt mg) (d__law_are_weights : Def P w K mg base "_law_are_weights" 2 ["_law_found", "_law_rows"] (spP K R_areW)) (d__law_adds : Def P w K mg base "_law_adds" 1 ["_law_rows", "_law_weights_here"] (spP K R_adds)) :
    Def P w K mg base "_law_barred" 3 ["_law_rows", "_law_found"] (spP K R_barred) := by
  refine fn_P Fn sc__law_barred (fun ds Q ⟨_, _, _, e, _⟩ => by rw [e]; rfl) fun f cdv A outer s H E hr => ⟨_, (pss_cons (ps_if (PW.pt (pw_or (pt_cmpR (op_eqDK (K := K) rfl hr.units) (pv 0) (pe_lst pa_nil) (nomark _)) (pw_or1 (pt_not (pt_val (pe_def d__law_are_weights hr (by first | decide | omega) (by rfl) (pa_cons (pv 1) (pa_cons (pv 0) pa_nil)))))))) (pss_one (ps_ret pe_bl)) pss_nil)
      (pss_cons (ps_asg (pe_def d__law_adds hr (by first | decide | omega) (by rfl) (pa_cons (pv 0) (pa_cons (pv 1) pa_nil))) (pg_tup (n := 2) rfl (pgs_cons (pg_name (i := 2) sc__law_barred.nd rfl (Or.inl rfl)) (pgs_cons (pg_name (i := 3) sc__law_barred.nd rfl (Or.inl rfl)) pgs_nil))))
      (pss_one (ps_ret (pe_and (pe_cmpR op_lt (pv 3) pe_int (nomark _)) (pe_one (pe_cmpR (op_eqDK (K := K) rfl hr.units) (pv 2) (pe_op (DL.op_repUK (K := K) rfl) (pe_tup (pa_cons pe_int pa_nil)) (pe_callB (call_lenK (K := K) rfl) (by rfl) T.len (by decide +kernel) (pa_cons (pv 2) pa_nil))) (nomark _)))))))), fun ds Q hR => ?_⟩
  obtain ⟨rows, ws, L, rfl, hp, hL0, k⟩ := hR
  have hro := hp.1
  show SW _ _ _ [.d (.list (rows.map rowD)), .d (.list (ws.map .int)), .no, .no] _ _
  walk_at "dn"
  rw [← bars_same] at k
  unfold barsL at k
  repeat' walk_at "dl"
  refine ⟨shaped_fit (n := 3) (fit_rows hro (by have := hp.2.2.2.2.1; omega) (by have := hp.2.2.2.2.2; omega)) (by omega), rfl, ?_⟩
  rw [eqv_none_rows hp.2.2.1]
  refine ⟨_, rfl, ite_false_of rfl ?_⟩
  repeat' walk_at "dl"
  refine ⟨rows, ws, rfl, hp.2.2.2.1, _, rfl, ?_⟩
  cases hg : goodW ws rows.length
  · refine ite_true_of rfl ?_
    rw [hg] at k
    repeat' walk_at "dl"
    exact k
  · refine ite_false_of rfl ?_
    rw [hg] at k
    refine sw_next ?_
    refine sw_seq (sw_asgG ?_)
    repeat' walk_at "dl"
    refine ⟨rows, ws, L, rfl, hp, ?_⟩
    refine gw_tup rfl (gws_name (gws_name (gws_nil ?_)))
    walk_at "dz"
    have hal := addR_len (ws := ws) hro
    generalize ht : addR rows ws L = r at *
    refine sw_ret (we_andV ?_)
    repeat' walk_at "dl"
    cases hb : decide (r.2 < 0)
    · refine ite_false_of rfl ?_
      rw [hb] at k
      exact k
    · refine ite_true_of rfl ?_
      rw [hb] at k
      have ez : (List.replicate ((r.1.length : Nat) : Int).toNat [PyData.int 0]).flatten = (List.replicate r.1.length (0 : Int)).map .int := by
        rw [Int.toNat_natCast, List.map_replicate]
        simp
      have hlen : lenD (.tuple (r.1.map .int)) = some r.1.length := by show some (r.1.map PyData.int).length = _; rw [List.length_map]
      repeat' walk_at "dl"
      · simp
      rw [List.length_map, ez]
      have hL := hp.2.2.2.2.2
      refine ⟨by omega, by omega, by decide, shaped_fit (n := 1) (fit_ws (by omega)) (by omega), shaped_fit (n := 1) (fit_ws (ws := List.replicate r.1.length 0) (by rw [List.length_replicate]; omega)) (by omega), ?_⟩
      have e9 : PyData.eqv (wsD r.1) (.tuple ((List.replicate r.1.length (0 : Int)).map .int)) = noneW r.1 := eqv_zero_t
      rw [e9]
      exact k
def R_shown (ds : List PyData) (P : PyData → Prop) : Prop := ∃ (rows : List (List Int × Int)) (row : List Int × Int) (m : Int) (ws : List Int) (L : Nat), ds = [.list (rows.map rowD), rowD row, .tuple [.int m, .list (ws.map .int)]] ∧ PapOk rows ws L ∧ row.1.length ≤ 1000 ∧ (∀ x ∈ row.1, x.natAbs < 2 ^ 240) ∧ row.2.natAbs < 2 ^ 240 ∧ m.natAbs < 2 ^ 240 ∧ P (.bool (showsR rows row m ws L))
instance : MonoR R_shown := ⟨fun _ _ _ h ⟨rows, row, m, ws, L, e, a1, a2, a3, a4, a5, k⟩ => ⟨rows, row, m, ws, L, e, a1, a2, a3, a4, a5, h _ k⟩⟩
theorem ok__law_shown {P : Program} {w : World} {K : PySem.W.Frag} {mg : Str → Option Value} {base : Heap} (Fn : FunAt K mg "_law_shown" s__law_shown ["_law_rows", "_law_row_here", "_law_paper"]) (T : Txt mg) (d__law_num : Def P w K mg base "_law_num" 1 ["_law_found"] (spP K R_num)) (d__law_are_weights : Def P w K mg base "_law_are_weights" 2 ["_law_found", "_law_rows"] (spP K R_areW)) (d__law_adds : Def P w K mg base "_law_adds" 1 ["_law_rows", "_law_weights_here"] (spP K R_adds)) :
    Def P w K mg base "_law_shown" 3 ["_law_rows", "_law_row_here", "_law_paper"] (spP K R_shown) := by
  refine fn_P Fn sc__law_shown (fun ds Q ⟨_, _, _, _, _, e, _⟩ => by rw [e]; rfl) fun f cdv A outer s H E hr => ⟨_, (pss_cons (ps_if (PW.pt (pw_or (pt_not (pt_val (pe_callB (call_isiKK (K := K) rfl) (by rfl) T.isinstance (by decide +kernel) (pa_cons (pv 2) (pa_cons (pe_bltn (v := .ty "tuple") (by rfl) T.tuple (by decide +kernel) rfl) pa_nil))))) (pw_or (pt_cmpR (op_neDK (K := K) rfl hr.units) (pe_callB (call_lenK (K := K) rfl) (by rfl) T.len (by decide +kernel) (pa_cons (pv 2) pa_nil)) pe_int (nomark _)) (pw_or (pt_not (pt_val (pe_def d__law_num hr (by first | decide | omega) (by rfl) (pa_cons (pe_ix (ix_seqK (K := K) rfl) (pv 2) pe_int (fun _ _ => rfl)) pa_nil)))) (pw_or1 (pt_cmpR op_lt (pe_ix (ix_seqK (K := K) rfl) (pv 2) pe_int (fun _ _ => rfl)) pe_int (nomark _))))))) (pss_one (ps_ret pe_bl)) pss_nil)
      (pss_cons (ps_if (pt_not (pt_val (pe_def d__law_are_weights hr (by first | decide | omega) (by rfl) (pa_cons (pe_ix (ix_seqK (K := K) rfl) (pv 2) pe_int (fun _ _ => rfl)) (pa_cons (pv 0) pa_nil))))) (pss_one (ps_ret pe_bl)) pss_nil)
      (pss_cons (ps_if (pt_cmpR (op_eqDK (K := K) rfl hr.units) (pv 0) (pe_lst pa_nil) (nomark _)) (pss_one (ps_ret (pe_and (pe_cmpR op_ge (pe_ix (ix_seqK (K := K) rfl) (pv 1) pe_int (fun _ _ => rfl)) pe_int (nomark _)) (pe_one (pe_cmpR (op_eqDK (K := K) rfl hr.units) (pe_ix (ix_seqK (K := K) rfl) (pv 1) pe_int (fun _ _ => rfl)) (pe_op (DL.op_repUK (K := K) rfl) (pe_tup (pa_cons pe_int pa_nil)) (pe_callB (call_lenK (K := K) rfl) (by rfl) T.len (by decide +kernel) (pa_cons (pe_ix (ix_seqK (K := K) rfl) (pv 1) pe_int (fun _ _ => rfl)) pa_nil))) (nomark _)))))) pss_nil)
      (pss_cons (ps_asg (pe_def d__law_adds hr (by first | decide | omega) (by rfl) (pa_cons (pv 0) (pa_cons (pe_ix (ix_seqK (K := K) rfl) (pv 2) pe_int (fun _ _ => rfl)) pa_nil))) (pg_tup (n := 2) rfl (pgs_cons (pg_name (i := 3) sc__law_shown.nd rfl (Or.inl rfl)) (pgs_cons (pg_name (i := 4) sc__law_shown.nd rfl (Or.inl rfl)) pgs_nil))))
      (pss_one (ps_ret (pe_and (pe_cmpR (op_eqDK (K := K) rfl hr.units) (pv 3) (pe_callTy (call_tuple_ofK (K := K) rfl) (by rfl) T.tuple (by decide +kernel) (pa_cons (pe_lc (own := [("_law_one", 5)]) (g := (gName 5)) rfl sc__law_shown.nd (pi_tupK (K := K) rfl (pe_ix (ix_seqK (K := K) rfl) (pv 1) pe_int (fun _ _ => rfl))) (blkOk_by (own := [("_law_one", 5)]) (N := ["_law_rows", "_law_row_here", "_law_paper", "_law_total", "_law_bound", "_law_one"]) (sc := defScope s__law_shown) (by decide +kernel)) (fun _ _ _ _ _ => (pg_name (i := 5) sc__law_shown.nd rfl (Or.inl rfl) (hf := Or.inr rfl))) (fun _ _ _ _ _ => pts_nil) (fun _ _ _ _ _ => (pe_op op_mulW (pe_ix (ix_seqK (K := K) rfl) (pv 2) pe_int (fun _ _ => rfl)) (pv 5)))) pa_nil)) (nomark _)) (pe_one (pe_cmpR op_le (pv 4) (pe_op op_mulW (pe_ix (ix_seqK (K := K) rfl) (pv 2) pe_int (fun _ _ => rfl)) (pe_ix (ix_seqK (K := K) rfl) (pv 1) pe_int (fun _ _ => rfl))) (nomark _)))))))))), fun ds Q hR => ?_⟩
  obtain ⟨rows, row, m, ws, L, rfl, hp, r1, r2, r3, r4, k⟩ := hR
  have hro := hp.1
  show SW _ _ _ [.d (.list (rows.map rowD)), .d (rowD row), .d (.tuple [.int m, .list (ws.map .int)]), .no, .no, .no] _ _
  walk_at "dn"
  unfold showsR at k
  repeat' walk_at "dl"
  rw [ty_tt]
  refine ite_false_of rfl ?_
  repeat' walk_at "dl"
  refine ite_false_of (by simp [PyData.eqv]) ?_
  repeat' walk_at "dl"
  refine ⟨m, rfl, _, rfl, ?_⟩
  refine ite_false_of rfl ?_
  repeat' walk_at "dl"
  refine ite2 (fun hm => ?_) (fun hm => ?_)
  · have hm2 : decide (1 ≤ m) = false := by
      have := of_decide_eq_true hm
      exact decide_eq_false (by omega)
    rw [hm2] at k
    repeat' walk_at "dl"
    exact k
  · have hm2 : decide (1 ≤ m) = true := by
      have : ¬ m < 1 := fun z => hm (decide_eq_true z)
      exact decide_eq_true (by omega)
    rw [hm2] at k
    repeat' walk_at "dl"
    refine ⟨rows, ws, rfl, hp.2.2.2.1, _, rfl, ?_⟩
    cases hg : goodW ws rows.length
    · refine ite_true_of rfl ?_
      rw [hg] at k
      repeat' walk_at "dl"
      exact k
    · refine ite_false_of rfl ?_
      rw [hg] at k
      repeat' walk_at "dl"
      refine ⟨shaped_fit (n := 3) (fit_rows hro (by have := hp.2.2.2.2.1; omega) (by have := hp.2.2.2.2.2; omega)) (by omega), rfl, ?_⟩
      rw [eqv_none_rows hp.2.2.1]
      refine ⟨_, rfl, ite_false_of rfl ?_⟩
      refine sw_next ?_
      refine sw_seq (sw_asgG ?_)
      repeat' walk_at "dl"
      refine ⟨rows, ws, L, rfl, hp, ?_⟩
      refine gw_tup rfl (gws_name (gws_name (gws_nil ?_)))
      walk_at "dz"
      have hal := addR_len (ws := ws) hro
      have hL := hp.2.2.2.2.2
      generalize ht : addR rows ws L = r at *
      repeat' walk_at "dl"
      refine we_of (wl_map (ow_name (by decide)) row.1.length (fun i d => (row.1.map PyData.int)[i]? = some d) ((row.1.map fun n => m * n).map .int) ?_ (by omega) (by simp) ?_ ?_)
      · refine iw_tup ?_
        repeat' walk_at "dl"
        refine ⟨_, _, rfl, .tup rfl, _, rfl, by rw [List.length_map], rfl⟩
      · intro i d y p acc hi hd hy
        have hn : row.1[i]? = some row.1[i] := List.getElem?_eq_getElem hi
        rw [List.getElem?_map, hn] at hd
        rw [List.getElem?_map, List.getElem?_map, hn] at hy
        cases hd
        cases hy
        refine gw_name ⟨rfl, ?_⟩
        show WE _ _ _ [_, _, .d (.tuple [.int m, _]), _, _, .d (.int _)] _ _
        repeat' walk_at "dl"
        · exact mulZ r4 (r2 _ (List.getElem_mem hi)) (by decide) (by decide)
        · rfl
      · repeat' walk_at "dl"
        refine ⟨shaped_fit (n := 1) (fit_ws (by omega)) (by omega), shaped_fit (n := 1) (fit_ws (ws := row.1.map fun n => m * n) (by rw [List.length_map]; omega)) (by omega), _, rfl, ?_⟩
        cases he : PyData.eqv (wsD r.1) (wsD (row.1.map fun n => m * n))
        · refine ite_false_of he ?_
          rw [he] at k
          exact k
        · refine ite_true_of he ?_
          rw [he] at k
          repeat' walk_at "dl"
          refine ⟨_, _, rfl, .tup rfl, _, _, rfl, rfl, mulZ r4 r3 (by decide) (by decide), _, _, rfl, rfl, k⟩

def Ints60 (n : Nat) (acc : List PyData) : Prop := acc.length = n ∧ ∀ x ∈ acc, ∃ n : Int, x = .int n ∧ n.natAbs < 2 ^ 60
def R_somew (ds : List PyData) (P : PyData → Prop) : Prop := ∃ m : Int, ds = [.int m] ∧ 0 < m ∧ m ≤ 100 ∧ ∀ ws : List Int, (∀ x ∈ ws, x.natAbs < 2 ^ 60) → (ws.length : Int) ≤ m + 1 → P (.list (ws.map .int))
instance : MonoR R_somew := ⟨fun _ _ _ h ⟨m, e, a1, a2, k⟩ => ⟨m, e, a1, a2, fun ws x y => h _ (k ws x y)⟩⟩
theorem ints_of : ∀ {ds : List PyData}, (∀ d ∈ ds, ∃ n : Int, d = .int n ∧ n.natAbs < 2 ^ 60) → ∃ ns : List Int, ds = ns.map .int ∧ (∀ n ∈ ns, n.natAbs < 2 ^ 60) ∧ ns.length = ds.length
  | [], _ => ⟨[], rfl, fun n h => (by cases h), rfl⟩
  | d :: ds, h => by
    obtain ⟨n, rfl, hn⟩ := h d (List.mem_cons_self ..)
    obtain ⟨ns, e, h2, h3⟩ := ints_of fun d hd => h d (List.mem_cons_of_mem _ hd)
    refine ⟨n :: ns, by rw [e]; rfl, fun m hm => ?_, by simp [h3]⟩
    rcases List.mem_cons.mp hm with e | hm
    · rw [e]; exact hn
    · exact h2 m hm
theorem ok__law_some_weights {P : Program} {w : World} {K : PySem.W.Frag} {mg : Str → Option Value} {base : Heap} (Fn : FunAt K mg "_law_some_weights" s__law_some_weights ["_law_box_here", "_law_many"]) (T : Txt mg) (d__law_take : Def P w K mg base "_law_take" 1 ["_law_box_here", "_law_many"] (spB K R_take)) :
    Def P w K mg base "_law_some_weights" 2 ["_law_box_here", "_law_many"] (spB K R_somew) := by
  refine fn_B Fn sc__law_some_weights (fun ds Q ⟨_, e, _⟩ => by rw [e]; rfl) fun f cdv A outer s H E hr => ⟨_, (pss_cons (ps_setLc (i := 2) (own := [("_law_k", 4)]) (g := (gName 4)) rfl sc__law_some_weights.nd rfl rfl (sw_true rfl rfl rfl (by decide +kernel)) (pi_range1 rfl T.range (pa_cons (pv 1) pa_nil)) (blkOk_by (own := [("_law_k", 4)]) (N := ["_law_box_here", "_law_many", "_law_found", "_law_way", "_law_k"]) (sc := defScope s__law_some_weights) (by decide +kernel)) (fun _ _ _ _ _ => (pg_name (i := 4) sc__law_some_weights.nd rfl (Or.inl rfl) (hf := Or.inr rfl))) (fun _ _ _ _ _ => pts_nil) (fun _ _ _ _ _ => (pe_ix (ix_seqK (K := K) rfl) (pe_lst (pa_cons pe_int (pa_cons pe_int (pa_cons (pe_def d__law_take hr (by first | decide | omega) (by rfl) (pa_cons (pv 0) (pa_cons pe_int pa_nil))) (pa_cons pe_int pa_nil))))) (pe_def d__law_take hr (by first | decide | omega) (by rfl) (pa_cons (pv 0) (pa_cons pe_int pa_nil))) (fun _ _ => rfl))))
      (pss_cons (ps_asg (pe_def d__law_take hr (by first | decide | omega) (by rfl) (pa_cons (pv 0) (pa_cons pe_int pa_nil))) (pg_name (i := 3) sc__law_some_weights.nd rfl (Or.inl rfl)))
      (pss_cons (ps_if (pt_cmpR (op_eqDK (K := K) rfl hr.units) (pv 3) pe_int (nomark _)) (pss_one (ps_expr (pe_bm PySem.F.plainAttrs_list PySem.F.slot_list_append PySem.F.type_list_append mt_append (pv 2) (pa_cons (pe_def d__law_take hr (by first | decide | omega) (by rfl) (pa_cons (pv 0) (pa_cons pe_int pa_nil))) pa_nil)))) pss_nil)
      (pss_cons (ps_if (pt_cmpR (op_eqDK (K := K) rfl hr.units) (pv 3) pe_int (nomark _)) (pss_one (ps_expr (pe_bm0 PySem.F.plainAttrs_list PySem.F.slot_list_pop PySem.F.type_list_pop mt_pop (pv 2)))) pss_nil)
      (pss_cons (ps_if (pt_cmpR (op_eqDK (K := K) rfl hr.units) (pv 3) pe_int (nomark _)) (pss_one (ps_asg (pe_op op_sub (pe_un un_neg pe_int) (pe_def d__law_take hr (by first | decide | omega) (by rfl) (pa_cons (pv 0) (pa_cons pe_int pa_nil)))) (pg_sub (pv 2) (pe_def d__law_take hr (by first | decide | omega) (by rfl) (pa_cons (pv 0) (pa_cons (pv 1) pa_nil))) set_list))) pss_nil)
      (pss_one (ps_ret (pv 2)))))))), fun b ds Q hR => ?_⟩
  obtain ⟨m, rfl, hm0, hm1, k⟩ := hR
  show SW _ _ _ [.v (.ref b), .d (.int m), .no, .no, .no] _ _
  walk_at "dn"
  refine sw_seq (sw_asgL (wl_comp (ow_name (by decide)) (fun i acc => acc.length = i ∧ ∀ x ∈ acc, ∃ n : Int, x = .int n ∧ n.natAbs < 2 ^ 60) m.toNat (fun i d => d = .int (i : Nat)) ?_ ⟨rfl, fun x hx => by cases hx⟩ (by omega) (fun i acc h => Nat.le_of_eq h.1) ?_ ?_))
  · refine iw_rng1 ?_
    repeat' walk_at "dl"
    exact ⟨⟨by omega, by omega⟩, rfl, rfl⟩
  · rintro j _ acc p hj rfl hacc
    refine gw_name ⟨rfl, wt_yes (iteT ?_)⟩
    show WE _ _ _ [.v (.ref b), .d (.int m), .no, .no, .d (.int (j : Nat))] _ _
    refine we_pick (fun x => ∃ n : Int, x = .int n ∧ n.natAbs < 2 ^ 60) ?_ ?_
    · repeat' walk_at "dl"
      refine ⟨_, rfl, by decide, by decide, fun r2 h3 h4 => ?_⟩
      repeat' walk_at "dl"
      refine ⟨_, rfl, by decide, by decide, fun r4 h7 h8 => ?_⟩
      refine item_any h7 h8 fun x hx => ?_
      simp only [List.mem_cons, List.mem_nil_iff, or_false] at hx
      rcases hx with rfl | rfl | rfl | rfl
      · exact ⟨_, rfl, by decide⟩
      · exact ⟨_, rfl, by decide⟩
      · exact ⟨_, rfl, by omega⟩
      · exact ⟨_, rfl, by decide⟩
    · intro d hd
      exact snoc_ok hacc hd
  · intro acc hacc p
    walk_at "dz"
    repeat' walk_at "dm"
    refine ⟨_, rfl, by decide, by decide, fun way h1 h2 => ?_⟩
    try dsimp only
    walk_at "dz"
    let M : List Sk → Own → Prop := fun Z O => ∃ acc : List PyData, (∀ x ∈ acc, ∃ n : Int, x = .int n ∧ n.natAbs < 2 ^ 60) ∧ (acc.length : Int) ≤ m + 1 ∧ Z = [.v (.ref b), .d (.int m), .v (.ref p), .d (.int way), .no] ∧ O = [(p, acc)]
    let M1 : List Sk → Own → Prop := fun Z O => ∃ acc : List PyData, (∀ x ∈ acc, ∃ n : Int, x = .int n ∧ n.natAbs < 2 ^ 60) ∧ (acc.length : Int) ≤ m + 1 ∧ (way ≠ 0 → (acc.length : Int) = m) ∧ Z = [.v (.ref b), .d (.int m), .v (.ref p), .d (.int way), .no] ∧ O = [(p, acc)]
    let M2 : List Sk → Own → Prop := fun Z O => ∃ acc : List PyData, (∀ x ∈ acc, ∃ n : Int, x = .int n ∧ n.natAbs < 2 ^ 60) ∧ (acc.length : Int) ≤ m + 1 ∧ (way = 2 → (acc.length : Int) = m) ∧ Z = [.v (.ref b), .d (.int m), .v (.ref p), .d (.int way), .no] ∧ O = [(p, acc)]
    refine sw_cut M1 (sw_if ?_) ?_
    · repeat' walk_at "dl"
      refine ite2 (fun hw => ?_) (fun hw => ?_)
      · have hw0 : way = 0 := by simpa [PyData.eqv] using hw
        refine sw_app rfl (by omega) ?_
        repeat' walk_at "dl"
        refine ⟨_, rfl, by decide, by decide, fun r2 h3 h4 => ?_⟩
        have := snoc_ok hacc ⟨r2, rfl, by omega⟩
        exact ⟨_, this.2, by rw [this.1]; omega, fun z => absurd hw0 z, rfl, rfl⟩
      · exact sw_next ⟨acc, hacc.2, by rw [hacc.1]; omega, fun _ => by rw [hacc.1]; omega, rfl, rfl⟩
    rintro _ _ ⟨acc, ha1, ha2, ha3, rfl, rfl⟩
    refine sw_cut M2 (sw_if ?_) ?_
    · repeat' walk_at "dl"
      refine ite2 (fun hw => ?_) (fun hw => ?_)
      · have hw0 : way = 1 := by simpa [PyData.eqv] using hw
        refine sw_pop rfl (by have := ha3 (by omega); omega) ?_
        refine ⟨acc.dropLast, fun x hx => ha1 x (List.dropLast_subset _ hx), by rw [List.length_dropLast]; omega, fun z => by omega, rfl, rfl⟩
      · exact sw_next ⟨acc, ha1, ha2, fun z => ha3 (by omega), rfl, rfl⟩
    clear ha1 ha2 ha3
    rintro _ _ ⟨acc, ha1, ha2, ha3, rfl, rfl⟩
    refine sw_cut M (sw_if ?_) ?_
    · repeat' walk_at "dl"
      refine ite2 (fun hw => ?_) (fun hw => ?_)
      · have hw0 : way = 2 := by simpa [PyData.eqv] using hw
        have hl := ha3 hw0
        refine sw_setL rfl ?_
        repeat' walk_at "dl"
        refine ⟨_, rfl, by decide, by decide, fun r2 h3 h4 => ?_⟩
        repeat' walk_at "dl"
        refine ⟨_, rfl, hm0, by omega, fun r h5 h6 => ?_⟩
        refine ⟨r, r.toNat, rfl, ?_, ?_⟩
        · unfold ixN
          rw [if_pos h5, if_pos (by omega)]
        have := set_ok (j := r.toNat) ⟨rfl, ha1⟩ ⟨-1 - r2, rfl, by omega⟩
        exact ⟨_, this.2, by rw [this.1]; omega, rfl, rfl⟩
      · exact sw_next ⟨acc, ha1, ha2, rfl, rfl⟩
    clear ha1 ha2 ha3
    rintro _ _ ⟨acc, ha1, ha2, rfl, rfl⟩
    obtain ⟨ws, e, g1, g2⟩ := ints_of ha1
    subst e
    refine sw_freeze (i := 2) rfl ?_
    walk_at "dz"
    repeat' walk_at "dl"
    exact k ws g1 (by omega)

theorem vadd_bnd {A M : Nat} {w : Int} : ∀ {acc col : List Int}, (∀ x ∈ acc, x.natAbs ≤ A) → (∀ c ∈ col, (w * c).natAbs ≤ M) → ∀ x ∈ vadd acc w col, x.natAbs ≤ A + M
  | [], _, _, _, x, hx => by simp [vadd] at hx
  | _ :: _, [], _, _, x, hx => by simp [vadd] at hx
  | a :: acc, c :: col, h1, h2, x, hx => by
    unfold vadd at hx
    rw [List.zipWith_cons_cons] at hx
    rcases List.mem_cons.mp hx with e | hx
    · have := h1 a (List.mem_cons_self ..)
      have := h2 c (List.mem_cons_self ..)
      rw [e]
      omega
    · exact vadd_bnd (fun x hx => h1 x (List.mem_cons_of_mem _ hx)) (fun x hx => h2 x (List.mem_cons_of_mem _ hx)) x hx
theorem addW_bnd {M : Nat} : ∀ (ps : List ((List Int × Int) × Int)) (A : Nat) (acc : List Int), (∀ x ∈ acc, x.natAbs ≤ A) → (∀ p ∈ ps, ∀ c ∈ p.1.1, (p.2 * c).natAbs ≤ M) → ∀ x ∈ addW acc ps, x.natAbs ≤ A + ps.length * M
  | [], A, acc, h1, _, x, hx => by have := h1 x hx; simp; exact this
  | p :: ps, A, acc, h1, h2, x, hx => by
    have h3 : ∀ x ∈ vadd acc p.2 p.1.1, x.natAbs ≤ A + M := vadd_bnd h1 (h2 p (List.mem_cons_self ..))
    have := addW_bnd ps (A + M) _ h3 (fun q hq => h2 q (List.mem_cons_of_mem _ hq)) x hx
    rw [List.length_cons, Nat.succ_mul]
    omega
theorem addB_bnd {M : Nat} : ∀ (ps : List ((List Int × Int) × Int)) (A : Nat) (b : Int), b.natAbs ≤ A → (∀ p ∈ ps, (p.2 * p.1.2).natAbs ≤ M) → (addB b ps).natAbs ≤ A + ps.length * M
  | [], A, b, h1, _ => by simp; exact h1
  | p :: ps, A, b, h1, h2 => by
    have h3 : (b + p.2 * p.1.2).natAbs ≤ A + M := by
      have := h2 p (List.mem_cons_self ..)
      omega
    have := addB_bnd ps (A + M) _ h3 (fun q hq => h2 q (List.mem_cons_of_mem _ hq))
    rw [List.length_cons, Nat.succ_mul]
    show (addB (b + p.2 * p.1.2) ps).natAbs ≤ _
    omega
/-- the drawn rows of the law -/
def RowsB (k : Nat) (rows : List (List Int × Int)) (L : Nat) : Prop := ∀ r ∈ rows, r.1.length = L ∧ (∀ x ∈ r.1, x.natAbs < 2 ^ k) ∧ r.2.natAbs < 2 ^ k
abbrev Rows10 := RowsB 61
theorem rows61 {rows : List (List Int × Int)} {L : Nat} (h : RowsB 60 rows L) : Rows10 rows L := fun r hr => by
  obtain ⟨a, b, c⟩ := h r hr
  exact ⟨a, fun x hx => sz_up (b x hx) (by decide), sz_up c (by decide)⟩
theorem pow_split : (2 : Nat) ^ 121 = 2 ^ 61 * 2 ^ 60 := by decide
theorem rows10_ok {rows : List (List Int × Int)} {L : Nat} (h : Rows10 rows L) : RowsOk rows L := fun r hr => by
  obtain ⟨a, b, c⟩ := h r hr
  exact ⟨a, fun x hx => sz_up (b x hx) (by decide), sz_up c (by decide)⟩
theorem addR_bnd {rows : List (List Int × Int)} {ws : List Int} {L : Nat} (h : Rows10 rows L) (hw : ∀ w ∈ ws, w.natAbs < 2 ^ 60) (hl : rows.length ≤ 8) : (∀ x ∈ (addR rows ws L).1, x.natAbs < 2 ^ 125) ∧ (addR rows ws L).2.natAbs < 2 ^ 125 := by
  have hz : (rows.zip ws).length ≤ 8 := by rw [List.length_zip]; omega
  have hm : (rows.zip ws).length * 2 ^ 121 ≤ 8 * 2 ^ 121 := Nat.mul_le_mul_right _ hz
  have e : (8 : Nat) * 2 ^ 121 < 2 ^ 125 := by decide
  have pm : ∀ p ∈ rows.zip ws, (∀ c ∈ p.1.1, (p.2 * c).natAbs ≤ 2 ^ 121) ∧ (p.2 * p.1.2).natAbs ≤ 2 ^ 121 := fun p hp => by
    have h1 := List.of_mem_zip hp
    obtain ⟨_, b, c⟩ := h p.1 h1.1
    have w1 := hw p.2 h1.2
    refine ⟨fun x hx => ?_, ?_⟩
    · exact Nat.le_of_lt (sz_mul (a := 60) (b := 61) w1 (b x hx))
    · exact Nat.le_of_lt (sz_mul (a := 60) (b := 61) w1 c)
  constructor
  · intro x hx
    have := addW_bnd (M := 2 ^ 121) (rows.zip ws) 0 (List.replicate L 0) (fun x hx => by rw [(List.mem_replicate.mp hx).2]; decide) (fun p hp => (pm p hp).1) x hx
    omega
  · have := addB_bnd (M := 2 ^ 121) (rows.zip ws) 0 0 (by decide) (fun p hp => (pm p hp).2)
    have e2 : (addR rows ws L).2 = addB 0 (rows.zip ws) := rfl
    rw [e2]
    omega
theorem fit_ints {n : Nat} {ws : List Int} (h : ws.length ≤ 50000) : fit (n + 1) (.list (ws.map .int)) = true := by
  show (Nat.ble (ws.map PyData.int).length 50000 && (ws.map PyData.int).all (fit n)) = true
  rw [Nat.ble_eq_true_of_le (by rw [List.length_map]; exact h)]
  rw [Bool.true_and, List.all_eq_true]
  intro d hd
  obtain ⟨i, _, e⟩ := List.mem_map.mp hd
  rw [← e]
  cases n <;> rfl
theorem ok_law {P : Program} {w : World} {K : PySem.W.Frag} {mg : Str → Option Value} {base : Heap} {f : Addr} {fd : FuncData} (F : Fun K "law" "law" s_law f fd) (T : Txt mg)
    (d__law_box : Def P w K mg base "_law_box" 1 ["_law_script"] (spBox K)) (d__law_take : Def P w K mg base "_law_take" 1 ["_law_box_here", "_law_many"] (spB K R_take)) (d__law_near : Def P w K mg base "_law_near" 2 ["_law_box_here", "_law_far"] (spB K R_near))
    (d__law_row : Def P w K mg base "_law_row" 4 ["_law_box_here", "_law_count", "_law_far"] (spB K R_lrow)) (d__law_some_weights : Def P w K mg base "_law_some_weights" 2 ["_law_box_here", "_law_many"] (spB K R_somew))
    (d__law_are_weights : Def P w K mg base "_law_are_weights" 2 ["_law_found", "_law_rows"] (spP K R_areW)) (d__law_adds : Def P w K mg base "_law_adds" 1 ["_law_rows", "_law_weights_here"] (spP K R_adds)) (d__law_barred : Def P w K mg base "_law_barred" 3 ["_law_rows", "_law_found"] (spP K R_barred)) (d__law_shown : Def P w K mg base "_law_shown" 3 ["_law_rows", "_law_row_here", "_law_paper"] (spP K R_shown))
    (d_added : Def P w K mg base "added" 2 ["rows", "weights"] (spP K R_added)) (d_bars_right : Def P w K mg base "bars_right" 3 ["rows", "weights"] (spP K R_barsr)) (d_paper_right : Def P w K mg base "paper_right" 3 ["rows", "row", "paper"] (spP K R_paperr))
    (d__law_same : Def P w K mg base "_law_same" 4 ["_law_found", "_law_due"] (spP K (R_same 3))) :
    FnOk P w K mg base CX0 5 f fd ["_law_script"] (spLaw K) := by
  refine fn_L F sc_law fun f cdv A outer s H E hr => ⟨_, (pss_cons (ps_asg (pe_def d__law_box hr (by first | decide | omega) (by rfl) (pa_cons (pv 0) pa_nil)) (pg_name (i := 1) sc_law.nd rfl (Or.inr rfl)))
      (pss_cons (ps_for PassesOwn.never rfl (pi_range1 rfl T.range (pa_cons pe_int pa_nil)) (pg_name (i := 2) sc_law.nd rfl (Or.inl rfl))
      (pss_cons (ps_asg (pe_op op_add pe_int (pe_def d__law_take hr (by first | decide | omega) (by rfl) (pa_cons (pv 1) (pa_cons pe_int pa_nil)))) (pg_name (i := 3) sc_law.nd rfl (Or.inr rfl)))
      (pss_cons (ps_asg (pe_lc (own := [("_law_turn", 13)]) (g := (gName 13)) rfl sc_law.nd (pi_range1 rfl T.range (pa_cons (pe_op op_add pe_int (pe_def d__law_take hr (by first | decide | omega) (by rfl) (pa_cons (pv 1) (pa_cons pe_int pa_nil)))) pa_nil)) (blkOk_by (own := [("_law_turn", 13)]) (N := ["_law_script", "_law_box_here", "_law_k", "_law_count", "_law_rows", "_law_weights_here", "_law_handed", "_law_good", "_law_many", "_law_total", "_law_bound", "_law_by", "_law_row_here", "_law_turn", "_law_weight", "_law_at", "_law_one"]) (sc := defScope s_law) (by decide +kernel)) (fun _ _ _ _ _ => (pg_name (i := 13) sc_law.nd rfl (Or.inl rfl) (hf := Or.inr rfl))) (fun _ _ _ _ _ => pts_nil) (fun _ _ _ _ _ => (pe_def d__law_row hr (by first | decide | omega) (by rfl) (pa_cons (pv 1) (pa_cons (pv 3) (pa_cons pe_int pa_nil)))))) (pg_name (i := 4) sc_law.nd rfl (Or.inr rfl)))
      (pss_cons (ps_if (pt_cmpR (op_eqDK (K := K) rfl hr.units) (pe_def d__law_take hr (by first | decide | omega) (by rfl) (pa_cons (pv 1) (pa_cons pe_int pa_nil))) pe_int (nomark _)) (pss_one (ps_expr (pe_bm PySem.F.plainAttrs_list PySem.F.slot_list_append PySem.F.type_list_append mt_append (pv 4) (pa_cons (pe_tup (pa_cons (pe_callTy (call_tuple_ofK (K := K) rfl) (by rfl) T.tuple (by decide +kernel) (pa_cons (pe_lc (own := [("_law_weight", 14)]) (g := (gName 14)) rfl sc_law.nd (pi_tupK (K := K) rfl (pe_ix (ix_seqK (K := K) rfl) (pe_ix (ix_seqK (K := K) rfl) (pv 4) pe_int (fun _ _ => rfl)) pe_int (fun _ _ => rfl))) (blkOk_by (own := [("_law_weight", 14)]) (N := ["_law_script", "_law_box_here", "_law_k", "_law_count", "_law_rows", "_law_weights_here", "_law_handed", "_law_good", "_law_many", "_law_total", "_law_bound", "_law_by", "_law_row_here", "_law_turn", "_law_weight", "_law_at", "_law_one"]) (sc := defScope s_law) (by decide +kernel)) (fun _ _ _ _ _ => (pg_name (i := 14) sc_law.nd rfl (Or.inl rfl) (hf := Or.inr rfl))) (fun _ _ _ _ _ => pts_nil) (fun _ _ _ _ _ => (pe_op op_sub pe_int (pv 14)))) pa_nil)) (pa_cons (pe_op op_sub (pe_op op_sub pe_int (pe_ix (ix_seqK (K := K) rfl) (pe_ix (ix_seqK (K := K) rfl) (pv 4) pe_int (fun _ _ => rfl)) pe_int (fun _ _ => rfl))) (pe_def d__law_take hr (by first | decide | omega) (by rfl) (pa_cons (pv 1) (pa_cons pe_int pa_nil)))) pa_nil))) pa_nil)))) pss_nil)
      (pss_cons (ps_asg (pe_def d__law_some_weights hr (by first | decide | omega) (by rfl) (pa_cons (pv 1) (pa_cons (pe_callB (call_lenK (K := K) rfl) (by rfl) T.len (by decide +kernel) (pa_cons (pv 4) pa_nil)) pa_nil))) (pg_name (i := 5) sc_law.nd rfl (Or.inl rfl)))
      (pss_cons (ps_if (pt_cmpR (op_eqDK (K := K) rfl hr.units) (pe_def d__law_take hr (by first | decide | omega) (by rfl) (pa_cons (pv 1) (pa_cons pe_int pa_nil))) pe_int (nomark _)) (pss_one (ps_setLc (i := 5) (own := [("_law_at", 15)]) (g := (gName 15)) rfl sc_law.nd rfl rfl (sw_true rfl rfl rfl (by decide +kernel)) (pi_range1 rfl T.range (pa_cons (pe_callB (call_lenK (K := K) rfl) (by rfl) T.len (by decide +kernel) (pa_cons (pv 4) pa_nil)) pa_nil)) (blkOk_by (own := [("_law_at", 15)]) (N := ["_law_script", "_law_box_here", "_law_k", "_law_count", "_law_rows", "_law_weights_here", "_law_handed", "_law_good", "_law_many", "_law_total", "_law_bound", "_law_by", "_law_row_here", "_law_turn", "_law_weight", "_law_at", "_law_one"]) (sc := defScope s_law) (by decide +kernel)) (fun _ _ _ _ _ => (pg_name (i := 15) sc_law.nd rfl (Or.inl rfl) (hf := Or.inr rfl))) (fun _ _ _ _ _ => pts_nil) (fun _ _ _ _ _ => (pe_callTy call_int1 (by rfl) T.int (by decide +kernel) (pa_cons (pe_cmpR (DL.op_in_seqK (K := K) rfl) (pv 15) (pe_tup (pa_cons pe_int (pa_cons (pe_op op_sub (pe_callB (call_lenK (K := K) rfl) (by rfl) T.len (by decide +kernel) (pa_cons (pv 4) pa_nil)) pe_int) pa_nil))) (by rfl)) pa_nil))))) pss_nil)
      (pss_cons (ps_asg (pe_lst (pa_cons (pe_callTy (call_list_ofK (K := K) rfl) (by rfl) T.list (by decide +kernel) (pa_cons (pv 4) pa_nil)) (pa_cons (pe_callTy (call_list_ofK (K := K) rfl) (by rfl) T.list (by decide +kernel) (pa_cons (pv 5) pa_nil)) pa_nil))) (pg_name (i := 6) sc_law.nd rfl (Or.inl rfl)))
      (pss_cons (ps_asg (pe_def d__law_are_weights hr (by first | decide | omega) (by rfl) (pa_cons (pv 5) (pa_cons (pv 4) pa_nil))) (pg_name (i := 7) sc_law.nd rfl (Or.inl rfl)))
      (pss_cons (ps_if (PW.pt (pw_and (pt_val (pv 7)) (pw_and1 (pt_not (pt_val (pe_def d__law_same hr (by first | decide | omega) (by rfl) (pa_cons (pe_def d_added hr (by first | decide | omega) (by rfl) (pa_cons (pe_ix (ix_seqK (K := K) rfl) (pv 6) pe_int (fun _ _ => rfl)) (pa_cons (pe_ix (ix_seqK (K := K) rfl) (pv 6) pe_int (fun _ _ => rfl)) pa_nil))) (pa_cons (pe_def d__law_adds hr (by first | decide | omega) (by rfl) (pa_cons (pv 4) (pa_cons (pv 5) pa_nil))) pa_nil)))))))) (pss_one (ps_ret pe_bl)) pss_nil)
      (pss_cons (ps_if (pt_not (pt_val (pe_def d__law_same hr (by first | decide | omega) (by rfl) (pa_cons (pe_def d_bars_right hr (by first | decide | omega) (by rfl) (pa_cons (pe_ix (ix_seqK (K := K) rfl) (pv 6) pe_int (fun _ _ => rfl)) (pa_cons (pe_ix (ix_seqK (K := K) rfl) (pv 6) pe_int (fun _ _ => rfl)) pa_nil))) (pa_cons (pe_and (pv 7) (pe_one (pe_def d__law_barred hr (by first | decide | omega) (by rfl) (pa_cons (pv 4) (pa_cons (pv 5) pa_nil))))) pa_nil))))) (pss_one (ps_ret pe_bl)) pss_nil)
      (pss_cons (ps_asg (pe_ix (ix_seqK (K := K) rfl) (pe_lst (pa_cons pe_int (pa_cons pe_int (pa_cons pe_int (pa_cons pe_int (pa_cons (pe_un un_neg pe_int) pa_nil)))))) (pe_def d__law_take hr (by first | decide | omega) (by rfl) (pa_cons (pv 1) (pa_cons pe_int pa_nil))) (fun _ _ => rfl)) (pg_name (i := 8) sc_law.nd rfl (Or.inl rfl)))
      (pss_cons (ps_asg (pe_def d__law_adds hr (by first | decide | omega) (by rfl) (pa_cons (pv 4) (pa_cons (pv 5) pa_nil))) (pg_tup (n := 2) rfl (pgs_cons (pg_name (i := 9) sc_law.nd rfl (Or.inl rfl)) (pgs_cons (pg_name (i := 10) sc_law.nd rfl (Or.inl rfl)) pgs_nil))))
      (pss_cons (ps_asg (pe_callB (call_max2 rfl) (by rfl) T.max (by decide +kernel) (pa_cons pe_int (pa_cons (pv 8) pa_nil))) (pg_name (i := 11) sc_law.nd rfl (Or.inr rfl)))
      (pss_cons (ps_asg (pe_tup (pa_cons (pe_callTy (call_tuple_ofK (K := K) rfl) (by rfl) T.tuple (by decide +kernel) (pa_cons (pe_lc (own := [("_law_one", 16)]) (g := (gName 16)) rfl sc_law.nd (pi_tupK (K := K) rfl (pv 9)) (blkOk_by (own := [("_law_one", 16)]) (N := ["_law_script", "_law_box_here", "_law_k", "_law_count", "_law_rows", "_law_weights_here", "_law_handed", "_law_good", "_law_many", "_law_total", "_law_bound", "_law_by", "_law_row_here", "_law_turn", "_law_weight", "_law_at", "_law_one"]) (sc := defScope s_law) (by decide +kernel)) (fun _ _ _ _ _ => (pg_name (i := 16) sc_law.nd rfl (Or.inl rfl) (hf := Or.inr rfl))) (fun _ _ _ _ _ => pts_nil) (fun _ _ _ _ _ => (pe_op op_fdivW (pv 16) (pv 11)))) pa_nil)) (pa_cons (pe_op op_add (pe_op op_sub pe_int (pe_op op_fdivW (pe_op op_sub pe_int (pv 10)) (pv 11))) (pe_def d__law_near hr (by first | decide | omega) (by rfl) (pa_cons (pv 1) (pa_cons pe_int pa_nil)))) pa_nil))) (pg_name (i := 12) sc_law.nd rfl (Or.inl rfl)))
      (pss_cons (ps_if (pt_cmpR (op_eqDK (K := K) rfl hr.units) (pe_def d__law_take hr (by first | decide | omega) (by rfl) (pa_cons (pv 1) (pa_cons pe_int pa_nil))) pe_int (nomark _)) (pss_one (ps_asg (pe_def d__law_row hr (by first | decide | omega) (by rfl) (pa_cons (pv 1) (pa_cons (pv 3) (pa_cons pe_int pa_nil)))) (pg_name (i := 12) sc_law.nd rfl (Or.inl rfl)))) pss_nil)
      (pss_cons (ps_if (pt_not (pt_val (pe_def d__law_same hr (by first | decide | omega) (by rfl) (pa_cons (pe_def d_paper_right hr (by first | decide | omega) (by rfl) (pa_cons (pe_ix (ix_seqK (K := K) rfl) (pv 6) pe_int (fun _ _ => rfl)) (pa_cons (pv 12) (pa_cons (pe_tup (pa_cons (pv 8) (pa_cons (pe_ix (ix_seqK (K := K) rfl) (pv 6) pe_int (fun _ _ => rfl)) pa_nil))) pa_nil)))) (pa_cons (pe_def d__law_shown hr (by first | decide | omega) (by rfl) (pa_cons (pv 4) (pa_cons (pv 12) (pa_cons (pe_tup (pa_cons (pv 8) (pa_cons (pv 5) pa_nil))) pa_nil)))) pa_nil))))) (pss_one (ps_ret pe_bl)) pss_nil)
      (pss_one (ps_if (pt_cmpR (op_neDK (K := K) rfl hr.units) (pv 6) (pe_lst (pa_cons (pv 4) (pa_cons (pv 5) pa_nil))) (nomark _)) (pss_one (ps_ret pe_bl)) pss_nil))))))))))))))))))
      (pss_one (ps_ret pe_bl)))), fun ns => ?_⟩
  show SW _ _ _ (.d (.list (ns.map .int)) :: List.replicate 16 .no) _ _
  walk_at "dn"
  refine sw_box rfl fun b => ?_
  refine sw_seq (sw_for (fun i Z O => ∃ z2 z3 z4 z5 z6 z7 z8 z9 z10 z11 z12 z13 z14 z15 z16, Z = [.d (.list (ns.map .int)), .v (.ref b), z2, z3, z4, z5, z6, z7, z8, z9, z10, z11, z12, z13, z14, z15, z16] ∧ O = []) 4 (fun i d => d = .int (i : Nat)) ?_ ⟨_, _, _, _, _, _, _, _, _, _, _, _, _, _, _, rfl, rfl⟩ ?_ ?_)
  · refine iw_rng1 ?_
    repeat' walk_at "dl"
    exact ⟨⟨by decide, by decide⟩, rfl, rfl⟩
  · rintro i _ _ _ hi rfl ⟨z2, z3, z4, z5, z6, z7, z8, z9, z10, z11, z12, z13, z14, z15, z16, rfl, rfl⟩
    refine gw_name ?_
    walk_at "dz"
    repeat' walk_at "dl"
    refine ⟨_, rfl, by decide, by decide, fun r hr0 hr1 => ?_⟩
    refine ⟨_, _, rfl, rfl, ?_⟩
    try dsimp only
    try walk_at "dz"
    obtain ⟨L, hL, hL0, hL3⟩ : ∃ L : Nat, 1 + r = (L : Int) ∧ 0 < L ∧ L ≤ 3 := ⟨(1 + r).toNat, by omega, by omega, by omega⟩
    rw [hL]
    -- the rows
    refine sw_seq (sw_asgL (wl_compN (ow_name (by decide)) (fun i acc => ∃ rows : List (List Int × Int), acc = rows.map rowD ∧ rows.length = i ∧ RowsB 60 rows L) (fun n Yd => 1 ≤ n ∧ n ≤ 6 ∧ Yd = fun i d => d = .int (i : Nat)) ?_ ⟨[], rfl, rfl, fun r hr => by cases hr⟩ (fun n Yd h => by omega) (fun i acc ⟨rows, e, h, _⟩ => by rw [e, List.length_map]; omega) ?_ ?_))
    · refine iw_rng1 ?_
      repeat' walk_at "dl"
      refine ⟨_, rfl, by decide, by decide, fun r hr0 hr1 => ?_⟩
      repeat' walk_at "dl"
      exact ⟨⟨by omega, by omega⟩, by omega, by omega, rfl⟩
    · rintro n _ ⟨hn1, hn6, rfl⟩ j d acc p hj rfl ⟨rows, rfl, hl, hrows⟩
      refine gw_name ⟨rfl, wt_yes (iteT ?_)⟩
      show WE _ _ _ [_, .v (.ref b), _, .d (.int (L : Nat)), _, _, _, _, _, _, _, _, _, .d (.int (j : Nat)), _, _, _] _ _
      repeat' walk_at "dl"
      refine ⟨_, 5, rfl, by omega, by omega, by decide, by decide, fun ws bd hbig hl2 => ?_⟩
      refine ⟨rows ++ [(ws, bd)], by rw [List.map_append]; rfl, by simp [hl], fun r hr => ?_⟩
      rcases List.mem_append.mp hr with hr | hr
      · exact hrows r hr
      · rw [List.mem_singleton.mp hr]
        exact ⟨by show ws.length = L; omega, hbig.2.2.1, hbig.2.2.2⟩
    rintro n _ ⟨hn1, hn6, _⟩ acc ⟨rows, rfl, hl, hrows⟩ p
    walk_at "dz"
    -- one row more, perhaps
    refine sw_cut (fun Z O => ∃ (rows : List (List Int × Int)) (z13 z14 : Sk), 1 ≤ rows.length ∧ rows.length ≤ 7 ∧ Rows10 rows L ∧ Z = [.d (.list (ns.map .int)), .v (.ref b), .d (.int (i : Nat)), .d (.int (L : Nat)), .v (.ref p), z5, z6, z7, z8, z9, z10, z11, z12, z13, z14, z15, z16] ∧ O = [(p, rows.map rowD)]) (sw_if ?_) ?_
    · repeat' walk_at "dm"
      refine ⟨_, rfl, by decide, by decide, fun r2 h3 h4 => ?_⟩
      repeat' walk_at "dl"
      refine ite2 (fun _ => ?_) (fun _ => ?_)
      · refine sw_app rfl (by rw [List.length_map]; omega) ?_
        obtain ⟨r0, rs, rfl⟩ : ∃ c0 cs, rows = c0 :: cs := by
          cases rows with
          | nil => simp at hl; omega
          | cons a b => exact ⟨a, b, rfl⟩
        obtain ⟨q1, q2, q3⟩ := hrows r0 (List.mem_cons_self ..)
        refine we_tupD (wd_cons (we_tuple (wa_cons (we_of (wl_map (ow_name (by decide)) L (fun i d => (r0.1.map PyData.int)[i]? = some d) ((r0.1.map fun x => 0 - x).map .int) ?_ (by omega) (by simp [q1]) ?_ ?_)))))
        · refine iw_tup ?_
          repeat' walk_at "dl"
          refine ⟨_, _, rfl, atI_nat (j := 0) rfl, ?_⟩
          repeat' walk_at "dl"
          refine ⟨_, _, rfl, .tup rfl, _, rfl, by rw [List.length_map, q1], rfl⟩
        · intro i d y p' acc hi hd hy
          have hn : r0.1[i]? = some (r0.1[i]'(by omega)) := List.getElem?_eq_getElem _
          rw [List.getElem?_map, hn] at hd
          rw [List.getElem?_map, List.getElem?_map, hn] at hy
          cases hd
          cases hy
          refine gw_name ⟨rfl, ?_⟩
          show WE _ _ _ [_, _, _, _, _, _, _, _, _, _, _, _, _, _, .d (.int _), _, _] _ _
          repeat' walk_at "dl"
          rfl
        · repeat' walk_at "dl"
          refine ⟨_, _, rfl, atI_nat (j := 0) rfl, ?_⟩
          repeat' walk_at "dl"
          refine ⟨_, _, rfl, .tup rfl, ?_⟩
          repeat' walk_at "dl"
          refine ⟨_, rfl, by decide, by decide, fun r5 h5 h6 => ?_⟩
          repeat' walk_at "dl"
          refine ⟨(r0 :: rs) ++ [(r0.1.map fun x => 0 - x, 0 - r0.2 - r5)], _, _, by simp, by simp at hl ⊢; omega, fun r hr => ?_, rfl, by rw [List.map_append]; rfl⟩
          rcases List.mem_append.mp hr with hr | hr
          · exact rows61 hrows r hr
          · rw [List.mem_singleton.mp hr]
            refine ⟨by simp [q1], fun x hx => ?_, ?_⟩
            · obtain ⟨y, hy, e⟩ := List.mem_map.mp hx
              rw [← e]
              have := q2 y hy
              have e60 : (2 : Nat) ^ 61 = 2 ^ 60 * 2 := by decide
              omega
            · have e60 : (2 : Nat) ^ 61 = 2 ^ 60 * 2 := by decide
              have e61 : 2 < (2 : Nat) ^ 60 := by decide
              show (0 - r0.2 - r5).natAbs < 2 ^ 61
              omega
      · exact sw_next ⟨rows, _, _, by omega, by omega, rows61 hrows, rfl, rfl⟩
    clear hrows hl hn1 hn6
    rintro _ _ ⟨rows, z13, z14, hn1, hn7, hrows, rfl, rfl⟩
    have hne : rows ≠ [] := fun z => by rw [z] at hn1; simp at hn1
    have hro := rows10_ok hrows
    refine sw_freeze (i := 4) rfl ?_
    walk_at "dz"
    repeat' walk_at "dl"
    refine ⟨_, rfl, by rw [List.length_map]; omega, by rw [List.length_map]; omega, fun ws hws hwl => ?_⟩
    rw [List.length_map] at hwl
    try dsimp only
    walk_at "dz"
    refine sw_cut (fun Z O => ∃ (ws : List Int) (z15 : Sk), (∀ x ∈ ws, x.natAbs < 2 ^ 60) ∧ ws.length ≤ 8 ∧ Z = [.d (.list (ns.map .int)), .v (.ref b), .d (.int (i : Nat)), .d (.int (L : Nat)), .d (.list (rows.map rowD)), .d (.list (ws.map .int)), z6, z7, z8, z9, z10, z11, z12, z13, z14, z15, z16] ∧ O = []) (sw_if ?_) ?_
    · repeat' walk_at "dl"
      refine ⟨_, rfl, by decide, by decide, fun r2 h3 h4 => ?_⟩
      repeat' walk_at "dl"
      refine ite2 (fun _ => ?_) (fun _ => ?_)
      · refine sw_asg (we_of (wl_comp (ow_name (by decide)) (fun i acc => acc.length = i ∧ ∀ x ∈ acc, ∃ n : Int, x = .int n ∧ n.natAbs < 2 ^ 60) rows.length (fun i d => d = .int (i : Nat)) ?_ ⟨rfl, fun x hx => by cases hx⟩ (by omega) (fun i acc h => Nat.le_of_eq h.1) ?_ ?_))
        · refine iw_rng1 ?_
          repeat' walk_at "dl"
          exact ⟨by rw [List.length_map]; exact ⟨by omega, by omega⟩, by rw [List.length_map]; rfl, rfl⟩
        · rintro j _ acc p' hj rfl hacc
          refine gw_name ⟨rfl, wt_yes (iteT ?_)⟩
          show WE _ _ _ [_, _, _, _, .d (.list (rows.map rowD)), _, _, _, _, _, _, _, _, _, _, .d (.int (j : Nat)), _] _ _
          repeat' walk_at "dl"
          refine ⟨_, [0, ((rows.map rowD).length : Int) - 1], rfl, rfl, ?_⟩
          refine wa_nil ⟨_, nc_intb, ?_⟩
          exact snoc_ok hacc ⟨_, rfl, by split <;> decide⟩
        · intro acc hacc
          obtain ⟨ws, e, g1, g2⟩ := ints_of hacc.2
          subst e
          exact ⟨ws, _, g1, by rw [g2]; have := hacc.1; omega, rfl, rfl⟩
      · exact sw_next ⟨ws, _, hws, by omega, rfl, rfl⟩
    clear hws hwl
    rintro _ _ ⟨ws, z15, hws, hwl, rfl, rfl⟩
    have hp : PapOk rows ws L := ⟨hro, fun x hx => sz_up (hws x hx) (by decide), hne, by omega, by omega, by omega⟩
    have hbnd := addR_bnd hrows hws (by omega)
    have hal := addR_len (ws := ws) hro
    repeat' walk_at "dl"
    refine ⟨rows, ws, rfl, by omega, ?_⟩
    try dsimp only
    walk_at "dz"
    have fitr : ∀ r : List Int × Int, r.1.length = L → fit 3 (rowD r) = true := fun r h => fit_row (n := 1) (by omega)
    have fl := addR_len (ws := ws) hro
    -- the sum
    refine sw_cut (fun Z O => Z = [.d (.list (ns.map .int)), .v (.ref b), .d (.int (i : Nat)), .d (.int (L : Nat)), .d (.list (rows.map rowD)), .d (.list (ws.map .int)), .d (.list [.list (rows.map rowD), .list (ws.map .int)]), .d (.bool (goodW ws rows.length)), z8, z9, z10, z11, z12, z13, z14, z15, z16] ∧ O = []) (sw_if ?_) ?_
    · repeat' walk_at "dl"
      cases hg : goodW ws rows.length
      · refine ite_false_of rfl ?_
        exact ite_false_of rfl (sw_next ⟨rfl, rfl⟩)
      · refine ite_true_of rfl ?_
        have hgl := good_len hg
        repeat' walk_at "dl"
        refine ⟨rows, ws, L, rfl, hro, hp.2.1, hne, by omega, by omega, by omega, ?_⟩
        repeat' walk_at "dl"
        refine ⟨rows, ws, L, rfl, hp, ?_⟩
        repeat' walk_at "dl"
        refine ⟨_, rfl, fitr _ fl, _, rfl, ite_false_of rfl (sw_next ⟨rfl, rfl⟩)⟩
    rintro _ _ ⟨rfl, rfl⟩
    refine sw_cut (fun Z O => Z = [.d (.list (ns.map .int)), .v (.ref b), .d (.int (i : Nat)), .d (.int (L : Nat)), .d (.list (rows.map rowD)), .d (.list (ws.map .int)), .d (.list [.list (rows.map rowD), .list (ws.map .int)]), .d (.bool (goodW ws rows.length)), z8, z9, z10, z11, z12, z13, z14, z15, z16] ∧ O = []) (sw_if ?_) ?_
    · repeat' walk_at "dl"
      refine ⟨rows, ws, L, rfl, hp, ?_⟩
      repeat' walk_at "dl"
      have hb0 : goodW ws rows.length = false → barsR rows ws L = false := fun h => by unfold barsR; rw [h]; rfl
      cases hg : goodW ws rows.length
      · refine ite_false_of rfl ?_
        rw [hb0 hg]
        repeat' walk_at "dl"
        refine ⟨_, rfl, rfl, _, rfl, ite_false_of rfl (sw_next ⟨rfl, rfl⟩)⟩
      · refine ite_true_of rfl ?_
        repeat' walk_at "dl"
        refine ⟨rows, ws, L, rfl, hp, hL0, ?_⟩
        repeat' walk_at "dl"
        refine ⟨_, rfl, rfl, _, rfl, ite_false_of rfl (sw_next ⟨rfl, rfl⟩)⟩
    rintro _ _ ⟨rfl, rfl⟩
    refine sw_seq (sw_asg (we_pick (fun x => ∃ m : Int, x = .int m ∧ -1 ≤ m ∧ m ≤ 3) ?_ ?_))
    · repeat' walk_at "dl"
      refine ⟨_, rfl, by decide, by decide, fun r4 h7 h8 => ?_⟩
      refine item_any h7 h8 fun x hx => ?_
      simp only [List.mem_cons, List.mem_nil_iff, or_false] at hx
      rcases hx with rfl | rfl | rfl | rfl | rfl <;> exact ⟨_, rfl, by decide, by decide⟩
    rintro _ ⟨m, rfl, hm0, hm3⟩
    try dsimp only
    walk_at "dz"
    refine sw_seq (sw_asgG ?_)
    repeat' walk_at "dl"
    refine ⟨rows, ws, L, rfl, hp, ?_⟩
    refine gw_tup rfl (gws_name (gws_name (gws_nil ?_)))
    try dsimp only
    walk_at "dz"
    generalize hrr : addR rows ws L = tot at *
    refine sw_seq (sw_asg (we_ncall ?_))
    repeat' walk_at "dl"
    refine ⟨_, nc_max (hc := True.intro), ?_⟩
    obtain ⟨by', hby, hby1, hby3⟩ : ∃ by' : Int, (if m > 1 then m else 1) = by' ∧ 1 ≤ by' ∧ by' ≤ 3 := ⟨_, rfl, by split <;> omega, by split <;> omega⟩
    rw [hby]
    try dsimp only
    walk_at "dz"
    refine sw_seq (sw_asg (we_tupD (wd_cons (we_tuple (wa_cons (we_of (wl_map (ow_name (by decide)) L (fun i d => (tot.1.map PyData.int)[i]? = some d) ((tot.1.map fun x => x / by').map .int) ?_ (by omega) (by simp [fl]) ?_ ?_)))))))
    · refine iw_tup ?_
      repeat' walk_at "dl"
      exact ⟨by rw [List.length_map, fl], rfl⟩
    · intro j d y p' acc hj hd hy
      have hn : tot.1[j]? = some (tot.1[j]'(by omega)) := List.getElem?_eq_getElem _
      rw [List.getElem?_map, hn] at hd
      rw [List.getElem?_map, List.getElem?_map, hn] at hy
      cases hd
      cases hy
      refine gw_name ⟨rfl, ?_⟩
      show WE _ _ _ [_, _, _, _, _, _, _, _, _, _, _, .d (.int by'), _, _, _, _, .d (.int _)] _ _
      repeat' walk_at "dl"
      · exact divS (by omega) (by omega)
      · rfl
    repeat' walk_at "dl"
    · exact divS (by omega) (by omega)
    refine ⟨1, rfl, by decide, by decide, fun r6 h6 h7 => ?_⟩
    refine ⟨_, _, rfl, rfl, wd_nil ⟨rfl, ?_⟩⟩
    try dsimp only
    walk_at "dz"
    have tb1 : ∀ x ∈ tot.1, x.natAbs < 2 ^ 125 := hbnd.1
    have tb2 : tot.2.natAbs < 2 ^ 125 := hbnd.2
    have rowb : ∀ (w2 : List Int) (b2 : Int), w2.length ≤ 1000 → (∀ x ∈ w2, x.natAbs < 2 ^ 240) → b2.natAbs < 2 ^ 240 → ∃ row : List Int × Int, PyData.tuple [.tuple (w2.map .int), .int b2] = rowD row ∧ row.1.length ≤ 1000 ∧ (∀ x ∈ row.1, x.natAbs < 2 ^ 240) ∧ row.2.natAbs < 2 ^ 240 := fun w2 b2 h1 h2 h3 => ⟨(w2, b2), rfl, h1, h2, h3⟩
    refine sw_cut (fun Z O => ∃ row : List Int × Int, row.1.length ≤ 1000 ∧ (∀ x ∈ row.1, x.natAbs < 2 ^ 240) ∧ row.2.natAbs < 2 ^ 240 ∧ Z = [.d (.list (ns.map .int)), .v (.ref b), .d (.int (i : Nat)), .d (.int (L : Nat)), .d (.list (rows.map rowD)), .d (.list (ws.map .int)), .d (.list [.list (rows.map rowD), .list (ws.map .int)]), .d (.bool (goodW ws rows.length)), .d (.int m), .d (wsD tot.1), .d (.int tot.2), .d (.int by'), .d (rowD row), z13, z14, z15, z16] ∧ O = []) (sw_if ?_) ?_
    · repeat' walk_at "dl"
      refine ⟨_, rfl, by decide, by decide, fun r2 h3 h4 => ?_⟩
      repeat' walk_at "dl"
      refine ite2 (fun _ => ?_) (fun _ => ?_)
      · repeat' walk_at "dl"
        refine ⟨_, 5, rfl, by omega, by omega, by decide, by decide, fun w2 b2 hbig hl2 => ?_⟩
        exact ⟨(w2, b2), by show w2.length ≤ 1000; have := hbig.2.1; omega, fun x hx => sz_up (hbig.2.2.1 x hx) (by decide), sz_up hbig.2.2.2 (by decide), rfl, True.intro⟩
      · refine sw_next ⟨(tot.1.map fun x => x / by', _), by show (tot.1.map fun x => x / by').length ≤ 1000; rw [List.length_map]; omega, fun x hx => ?_, ?_, rfl, rfl⟩
        · obtain ⟨y, hy, e⟩ := List.mem_map.mp hx
          rw [← e]
          exact sz_up (Nat.lt_of_le_of_lt (Int.natAbs_ediv_le_natAbs y by') (tb1 y hy)) (by decide)
        · have h1 := Int.natAbs_ediv_le_natAbs (0 - tot.2) by'
          have h2 : (2 : Nat) ^ 125 + 10 < 2 ^ 240 := by decide
          show (0 - (0 - tot.2) / by' + r6).natAbs < 2 ^ 240
          omega
    rintro _ _ ⟨row, q1, q2, q3, rfl, rfl⟩
    have hm240 : m.natAbs < 2 ^ 240 := by
      have h2 : (10 : Nat) < 2 ^ 240 := by decide
      omega
    refine sw_cut (fun Z O => ∃ z12, Z = [.d (.list (ns.map .int)), .v (.ref b), .d (.int (i : Nat)), .d (.int (L : Nat)), .d (.list (rows.map rowD)), .d (.list (ws.map .int)), .d (.list [.list (rows.map rowD), .list (ws.map .int)]), .d (.bool (goodW ws rows.length)), .d (.int m), .d (wsD tot.1), .d (.int tot.2), .d (.int by'), z12, z13, z14, z15, z16] ∧ O = []) (sw_if ?_) ?_
    · repeat' walk_at "dl"
      refine ⟨rows, row, m, ws, L, rfl, hp, q1, q2, q3, hm240, ?_⟩
      repeat' walk_at "dl"
      refine ⟨rows, row, m, ws, L, rfl, hp, q1, q2, q3, hm240, ?_⟩
      repeat' walk_at "dl"
      exact ⟨_, rfl, rfl, _, rfl, ite_false_of rfl (sw_next ⟨_, rfl, rfl⟩)⟩
    rintro _ _ ⟨z12, rfl, rfl⟩
    have f3 : fit 4 (.list [.list (rows.map rowD), .list (ws.map .int)]) = true := by
      have a := fit_rows (n := 0) hro (by omega) (by omega)
      have b := fit_ints (n := 2) (ws := ws) (by omega)
      show (Nat.ble 2 50000 && [PyData.list (rows.map rowD), .list (ws.map .int)].all (fit 3)) = true
      simp only [List.all_cons, List.all_nil, a, b]
      rfl
    refine sw_if ?_
    repeat' walk_at "dl"
    refine ⟨shaped_fit f3 (by omega), shaped_fit f3 (by omega), ?_⟩
    rw [eqv_fit f3]
    refine ⟨_, rfl, ite_false_of rfl ?_⟩
    exact sw_next ⟨_, _, _, _, _, _, _, _, _, _, _, _, _, _, _, rfl, rfl⟩
  · rintro _ _ ⟨z2, z3, z4, z5, z6, z7, z8, z9, z10, z11, z12, z13, z14, z15, z16, rfl, rfl⟩
    repeat' walk_at "dl"
    all_goals rfl

theorem all_mk {l : PySem.W.OpenLaw} {w : World} {K : PySem.W.Frag} {h : Heap} {mg : Str → Option Value} {fa : Addr} (X : K.In h) (G : h.Ns mainGlobals mg) (hfa : mg "law" = some (.ref fa))
    {f__law_box f__law_take f__law_near f__law_weights f__law_row f__law_num f__law_are_weights f__law_adds f__law_barred f__law_shown f__law_some_weights f_weighed f_added f__for_rows f_bars_right f_paper_right f__law_same f_law : Addr}
    {oc__law_box kV__law_box dc__law_box pm__law_box cd__law_box ct__law_box : Value} {od__law_box an__law_box : Option Addr} {sl__law_box : Array (Option Value)}
    (a__law_box : PySem.W.nsIn K mainGlobals "_law_box" = some (some (.ref f__law_box))) (l__law_box : K.lookup f__law_box = some ⟨oc__law_box, od__law_box, .func (PySem.W.fnOf "_law_box" "_law_box" (defArgs s__law_box) (defBody s__law_box) (defScope s__law_box) .none kV__law_box dc__law_box pm__law_box an__law_box cd__law_box ct__law_box), sl__law_box⟩) (c__law_box : PySem.W.codeIn K cd__law_box "_law_box" = true) (k__law_box : PySem.W.keepIn K (.ref f__law_box) = true)
    {oc__law_take kV__law_take dc__law_take pm__law_take cd__law_take ct__law_take : Value} {od__law_take an__law_take : Option Addr} {sl__law_take : Array (Option Value)}
    (a__law_take : PySem.W.nsIn K mainGlobals "_law_take" = some (some (.ref f__law_take))) (l__law_take : K.lookup f__law_take = some ⟨oc__law_take, od__law_take, .func (PySem.W.fnOf "_law_take" "_law_take" (defArgs s__law_take) (defBody s__law_take) (defScope s__law_take) .none kV__law_take dc__law_take pm__law_take an__law_take cd__law_take ct__law_take), sl__law_take⟩) (c__law_take : PySem.W.codeIn K cd__law_take "_law_take" = true) (k__law_take : PySem.W.keepIn K (.ref f__law_take) = true)
    {oc__law_near kV__law_near dc__law_near pm__law_near cd__law_near ct__law_near : Value} {od__law_near an__law_near : Option Addr} {sl__law_near : Array (Option Value)}
    (a__law_near : PySem.W.nsIn K mainGlobals "_law_near" = some (some (.ref f__law_near))) (l__law_near : K.lookup f__law_near = some ⟨oc__law_near, od__law_near, .func (PySem.W.fnOf "_law_near" "_law_near" (defArgs s__law_near) (defBody s__law_near) (defScope s__law_near) .none kV__law_near dc__law_near pm__law_near an__law_near cd__law_near ct__law_near), sl__law_near⟩) (c__law_near : PySem.W.codeIn K cd__law_near "_law_near" = true) (k__law_near : PySem.W.keepIn K (.ref f__law_near) = true)
    {oc__law_weights kV__law_weights dc__law_weights pm__law_weights cd__law_weights ct__law_weights : Value} {od__law_weights an__law_weights : Option Addr} {sl__law_weights : Array (Option Value)}
    (a__law_weights : PySem.W.nsIn K mainGlobals "_law_weights" = some (some (.ref f__law_weights))) (l__law_weights : K.lookup f__law_weights = some ⟨oc__law_weights, od__law_weights, .func (PySem.W.fnOf "_law_weights" "_law_weights" (defArgs s__law_weights) (defBody s__law_weights) (defScope s__law_weights) .none kV__law_weights dc__law_weights pm__law_weights an__law_weights cd__law_weights ct__law_weights), sl__law_weights⟩) (c__law_weights : PySem.W.codeIn K cd__law_weights "_law_weights" = true) (k__law_weights : PySem.W.keepIn K (.ref f__law_weights) = true)
    {oc__law_row kV__law_row dc__law_row pm__law_row cd__law_row ct__law_row : Value} {od__law_row an__law_row : Option Addr} {sl__law_row : Array (Option Value)}
    (a__law_row : PySem.W.nsIn K mainGlobals "_law_row" = some (some (.ref f__law_row))) (l__law_row : K.lookup f__law_row = some ⟨oc__law_row, od__law_row, .func (PySem.W.fnOf "_law_row" "_law_row" (defArgs s__law_row) (defBody s__law_row) (defScope s__law_row) .none kV__law_row dc__law_row pm__law_row an__law_row cd__law_row ct__law_row), sl__law_row⟩) (c__law_row : PySem.W.codeIn K cd__law_row "_law_row" = true) (k__law_row : PySem.W.keepIn K (.ref f__law_row) = true)
    {oc__law_num kV__law_num dc__law_num pm__law_num cd__law_num ct__law_num : Value} {od__law_num an__law_num : Option Addr} {sl__law_num : Array (Option Value)}
    (a__law_num : PySem.W.nsIn K mainGlobals "_law_num" = some (some (.ref f__law_num))) (l__law_num : K.lookup f__law_num = some ⟨oc__law_num, od__law_num, .func (PySem.W.fnOf "_law_num" "_law_num" (defArgs s__law_num) (defBody s__law_num) (defScope s__law_num) .none kV__law_num dc__law_num pm__law_num an__law_num cd__law_num ct__law_num), sl__law_num⟩) (c__law_num : PySem.W.codeIn K cd__law_num "_law_num" = true) (k__law_num : PySem.W.keepIn K (.ref f__law_num) = true)
    {oc__law_are_weights kV__law_are_weights dc__law_are_weights pm__law_are_weights cd__law_are_weights ct__law_are_weights : Value} {od__law_are_weights an__law_are_weights : Option Addr} {sl__law_are_weights : Array (Option Value)}
    (a__law_are_weights : PySem.W.nsIn K mainGlobals "_law_are_weights" = some (some (.ref f__law_are_weights))) (l__law_are_weights : K.lookup f__law_are_weights = some ⟨oc__law_are_weights, od__law_are_weights, .func (PySem.W.fnOf "_law_are_weights" "_law_are_weights" (defArgs s__law_are_weights) (defBody s__law_are_weights) (defScope s__law_are_weights) .none kV__law_are_weights dc__law_are_weights pm__law_are_weights an__law_are_weights cd__law_are_weights ct__law_are_weights), sl__law_are_weights⟩) (c__law_are_weights : PySem.W.codeIn K cd__law_are_weights "_law_are_weights" = true) (k__law_are_weights : PySem.W.keepIn K (.ref f__law_are_weights) = true)
    {oc__law_adds kV__law_adds dc__law_adds pm__law_adds cd__law_adds ct__law_adds : Value} {od__law_adds an__law_adds : Option Addr} {sl__law_adds : Array (Option Value)}
    (a__law_adds : PySem.W.nsIn K mainGlobals "_law_adds" = some (some (.ref f__law_adds))) (l__law_adds : K.lookup f__law_adds = some ⟨oc__law_adds, od__law_adds, .func (PySem.W.fnOf "_law_adds" "_law_adds" (defArgs s__law_adds) (defBody s__law_adds) (defScope s__law_adds) .none kV__law_adds dc__law_adds pm__law_adds an__law_adds cd__law_adds ct__law_adds), sl__law_adds⟩) (c__law_adds : PySem.W.codeIn K cd__law_adds "_law_adds" = true) (k__law_adds : PySem.W.keepIn K (.ref f__law_adds) = true)
    {oc__law_barred kV__law_barred dc__law_barred pm__law_barred cd__law_barred ct__law_barred : Value} {od__law_barred an__law_barred : Option Addr} {sl__law_barred : Array (Option Value)}
    (a__law_barred : PySem.W.nsIn K mainGlobals "_law_barred" = some (some (.ref f__law_barred))) (l__law_barred : K.lookup f__law_barred = some ⟨oc__law_barred, od__law_barred, .func (PySem.W.fnOf "_law_barred" "_law_barred" (defArgs s__law_barred) (defBody s__law_barred) (defScope s__law_barred) .none kV__law_barred dc__law_barred pm__law_barred an__law_barred cd__law_barred ct__law_barred), sl__law_barred⟩) (c__law_barred : PySem.W.codeIn K cd__law_barred "_law_barred" = true) (k__law_barred : PySem.W.keepIn K (.ref f__law_barred) = true)
    {oc__law_shown kV__law_shown dc__law_shown pm__law_shown cd__law_shown ct__law_shown : Value} {od__law_shown an__law_shown : Option Addr} {sl__law_shown : Array (Option Value)}
    (a__law_shown : PySem.W.nsIn K mainGlobals "_law_shown" = some (some (.ref f__law_shown))) (l__law_shown : K.lookup f__law_shown = some ⟨oc__law_shown, od__law_shown, .func (PySem.W.fnOf "_law_shown" "_law_shown" (defArgs s__law_shown) (defBody s__law_shown) (defScope s__law_shown) .none kV__law_shown dc__law_shown pm__law_shown an__law_shown cd__law_shown ct__law_shown), sl__law_shown⟩) (c__law_shown : PySem.W.codeIn K cd__law_shown "_law_shown" = true) (k__law_shown : PySem.W.keepIn K (.ref f__law_shown) = true)
    {oc__law_some_weights kV__law_some_weights dc__law_some_weights pm__law_some_weights cd__law_some_weights ct__law_some_weights : Value} {od__law_some_weights an__law_some_weights : Option Addr} {sl__law_some_weights : Array (Option Value)}
    (a__law_some_weights : PySem.W.nsIn K mainGlobals "_law_some_weights" = some (some (.ref f__law_some_weights))) (l__law_some_weights : K.lookup f__law_some_weights = some ⟨oc__law_some_weights, od__law_some_weights, .func (PySem.W.fnOf "_law_some_weights" "_law_some_weights" (defArgs s__law_some_weights) (defBody s__law_some_weights) (defScope s__law_some_weights) .none kV__law_some_weights dc__law_some_weights pm__law_some_weights an__law_some_weights cd__law_some_weights ct__law_some_weights), sl__law_some_weights⟩) (c__law_some_weights : PySem.W.codeIn K cd__law_some_weights "_law_some_weights" = true) (k__law_some_weights : PySem.W.keepIn K (.ref f__law_some_weights) = true)
    {oc_weighed kV_weighed dc_weighed pm_weighed cd_weighed ct_weighed : Value} {od_weighed an_weighed : Option Addr} {sl_weighed : Array (Option Value)}
    (a_weighed : PySem.W.nsIn K mainGlobals "weighed" = some (some (.ref f_weighed))) (l_weighed : K.lookup f_weighed = some ⟨oc_weighed, od_weighed, .func (PySem.W.fnOf "weighed" "weighed" (defArgs s_weighed) (defBody s_weighed) (defScope s_weighed) .none kV_weighed dc_weighed pm_weighed an_weighed cd_weighed ct_weighed), sl_weighed⟩) (c_weighed : PySem.W.codeIn K cd_weighed "weighed" = true) (k_weighed : PySem.W.keepIn K (.ref f_weighed) = true)
    {oc_added kV_added dc_added pm_added cd_added ct_added : Value} {od_added an_added : Option Addr} {sl_added : Array (Option Value)}
    (a_added : PySem.W.nsIn K mainGlobals "added" = some (some (.ref f_added))) (l_added : K.lookup f_added = some ⟨oc_added, od_added, .func (PySem.W.fnOf "added" "added" (defArgs s_added) (defBody s_added) (defScope s_added) .none kV_added dc_added pm_added an_added cd_added ct_added), sl_added⟩) (c_added : PySem.W.codeIn K cd_added "added" = true) (k_added : PySem.W.keepIn K (.ref f_added) = true)
    {oc__for_rows kV__for_rows dc__for_rows pm__for_rows cd__for_rows ct__for_rows : Value} {od__for_rows an__for_rows : Option Addr} {sl__for_rows : Array (Option Value)}
    (a__for_rows : PySem.W.nsIn K mainGlobals "_for_rows" = some (some (.ref f__for_rows))) (l__for_rows : K.lookup f__for_rows = some ⟨oc__for_rows, od__for_rows, .func (PySem.W.fnOf "_for_rows" "_for_rows" (defArgs s__for_rows) (defBody s__for_rows) (defScope s__for_rows) .none kV__for_rows dc__for_rows pm__for_rows an__for_rows cd__for_rows ct__for_rows), sl__for_rows⟩) (c__for_rows : PySem.W.codeIn K cd__for_rows "_for_rows" = true) (k__for_rows : PySem.W.keepIn K (.ref f__for_rows) = true)
    {oc_bars_right kV_bars_right dc_bars_right pm_bars_right cd_bars_right ct_bars_right : Value} {od_bars_right an_bars_right : Option Addr} {sl_bars_right : Array (Option Value)}
    (a_bars_right : PySem.W.nsIn K mainGlobals "bars_right" = some (some (.ref f_bars_right))) (l_bars_right : K.lookup f_bars_right = some ⟨oc_bars_right, od_bars_right, .func (PySem.W.fnOf "bars_right" "bars_right" (defArgs s_bars_right) (defBody s_bars_right) (defScope s_bars_right) .none kV_bars_right dc_bars_right pm_bars_right an_bars_right cd_bars_right ct_bars_right), sl_bars_right⟩) (c_bars_right : PySem.W.codeIn K cd_bars_right "bars_right" = true) (k_bars_right : PySem.W.keepIn K (.ref f_bars_right) = true)
    {oc_paper_right kV_paper_right dc_paper_right pm_paper_right cd_paper_right ct_paper_right : Value} {od_paper_right an_paper_right : Option Addr} {sl_paper_right : Array (Option Value)}
    (a_paper_right : PySem.W.nsIn K mainGlobals "paper_right" = some (some (.ref f_paper_right))) (l_paper_right : K.lookup f_paper_right = some ⟨oc_paper_right, od_paper_right, .func (PySem.W.fnOf "paper_right" "paper_right" (defArgs s_paper_right) (defBody s_paper_right) (defScope s_paper_right) .none kV_paper_right dc_paper_right pm_paper_right an_paper_right cd_paper_right ct_paper_right), sl_paper_right⟩) (c_paper_right : PySem.W.codeIn K cd_paper_right "paper_right" = true) (k_paper_right : PySem.W.keepIn K (.ref f_paper_right) = true)
    {oc__law_same kV__law_same dc__law_same pm__law_same cd__law_same ct__law_same : Value} {od__law_same an__law_same : Option Addr} {sl__law_same : Array (Option Value)}
    (a__law_same : PySem.W.nsIn K mainGlobals "_law_same" = some (some (.ref f__law_same))) (l__law_same : K.lookup f__law_same = some ⟨oc__law_same, od__law_same, .func (PySem.W.fnOf "_law_same" "_law_same" (defArgs s__law_same) (defBody s__law_same) (defScope s__law_same) .none kV__law_same dc__law_same pm__law_same an__law_same cd__law_same ct__law_same), sl__law_same⟩) (c__law_same : PySem.W.codeIn K cd__law_same "_law_same" = true) (k__law_same : PySem.W.keepIn K (.ref f__law_same) = true)
    {oc_law kV_law dc_law pm_law cd_law ct_law : Value} {od_law an_law : Option Addr} {sl_law : Array (Option Value)}
    (a_law : PySem.W.nsIn K mainGlobals "law" = some (some (.ref f_law))) (l_law : K.lookup f_law = some ⟨oc_law, od_law, .func (PySem.W.fnOf "law" "law" (defArgs s_law) (defBody s_law) (defScope s_law) .none kV_law dc_law pm_law an_law cd_law ct_law), sl_law⟩) (c_law : PySem.W.codeIn K cd_law "law" = true) (k_law : PySem.W.keepIn K (.ref f_law) = true)
    (z_all : PySem.W.nsIn K mainGlobals "all" = some none)
    (z_any : PySem.W.nsIn K mainGlobals "any" = some none)
    (z_bool : PySem.W.nsIn K mainGlobals "bool" = some none)
    (z_enumerate : PySem.W.nsIn K mainGlobals "enumerate" = some none)
    (z_int : PySem.W.nsIn K mainGlobals "int" = some none)
    (z_isinstance : PySem.W.nsIn K mainGlobals "isinstance" = some none)
    (z_len : PySem.W.nsIn K mainGlobals "len" = some none)
    (z_list : PySem.W.nsIn K mainGlobals "list" = some none)
    (z_max : PySem.W.nsIn K mainGlobals "max" = some none)
    (z_range : PySem.W.nsIn K mainGlobals "range" = some none)
    (z_str : PySem.W.nsIn K mainGlobals "str" = some none)
    (z_tuple : PySem.W.nsIn K mainGlobals "tuple" = some none)
    (z_zip : PySem.W.nsIn K mainGlobals "zip" = some none)
    : ∃ fd : FuncData, (∀ (s : Shared) (v : Value), BindsTo s fd ⟨[v], []⟩ [("_law_script", v)]) ∧ ∀ base : Heap, K.In base → base.Ns mainGlobals mg → FnOk l.prog w K mg base CX0 5 fa fd ["_law_script"] (spLaw K) := by
  have e := hfa.symm.trans (PySem.W.mg_of X G a_law)
  cases e
  have T : Txt mg := ⟨PySem.W.mg_none_of X G z_all, PySem.W.mg_none_of X G z_any, PySem.W.mg_none_of X G z_bool, PySem.W.mg_none_of X G z_enumerate, PySem.W.mg_none_of X G z_int, PySem.W.mg_none_of X G z_isinstance, PySem.W.mg_none_of X G z_len, PySem.W.mg_none_of X G z_list, PySem.W.mg_none_of X G z_max, PySem.W.mg_none_of X G z_range, PySem.W.mg_none_of X G z_str, PySem.W.mg_none_of X G z_tuple, PySem.W.mg_none_of X G z_zip⟩
  have F__law_box := fun_mk (st := s__law_box) l__law_box c__law_box k__law_box
  have b__law_box := F__law_box.binds (ps := ["_law_script"]) fun _ _ _ _ _ _ us hl => match us, hl with | [_], _ => rfl
  have A__law_box : FunAt K mg "_law_box" s__law_box ["_law_script"] := ⟨_, _, F__law_box, PySem.W.mg_of X G a__law_box, b__law_box⟩
  have F__law_take := fun_mk (st := s__law_take) l__law_take c__law_take k__law_take
  have b__law_take := F__law_take.binds (ps := ["_law_box_here", "_law_many"]) fun _ _ _ _ _ _ us hl => match us, hl with | [_, _], _ => rfl
  have A__law_take : FunAt K mg "_law_take" s__law_take ["_law_box_here", "_law_many"] := ⟨_, _, F__law_take, PySem.W.mg_of X G a__law_take, b__law_take⟩
  have F__law_near := fun_mk (st := s__law_near) l__law_near c__law_near k__law_near
  have b__law_near := F__law_near.binds (ps := ["_law_box_here", "_law_far"]) fun _ _ _ _ _ _ us hl => match us, hl with | [_, _], _ => rfl
  have A__law_near : FunAt K mg "_law_near" s__law_near ["_law_box_here", "_law_far"] := ⟨_, _, F__law_near, PySem.W.mg_of X G a__law_near, b__law_near⟩
  have F__law_weights := fun_mk (st := s__law_weights) l__law_weights c__law_weights k__law_weights
  have b__law_weights := F__law_weights.binds (ps := ["_law_box_here", "_law_count", "_law_far"]) fun _ _ _ _ _ _ us hl => match us, hl with | [_, _, _], _ => rfl
  have A__law_weights : FunAt K mg "_law_weights" s__law_weights ["_law_box_here", "_law_count", "_law_far"] := ⟨_, _, F__law_weights, PySem.W.mg_of X G a__law_weights, b__law_weights⟩
  have F__law_row := fun_mk (st := s__law_row) l__law_row c__law_row k__law_row
  have b__law_row := F__law_row.binds (ps := ["_law_box_here", "_law_count", "_law_far"]) fun _ _ _ _ _ _ us hl => match us, hl with | [_, _, _], _ => rfl
  have A__law_row : FunAt K mg "_law_row" s__law_row ["_law_box_here", "_law_count", "_law_far"] := ⟨_, _, F__law_row, PySem.W.mg_of X G a__law_row, b__law_row⟩
  have F__law_num := fun_mk (st := s__law_num) l__law_num c__law_num k__law_num
  have b__law_num := F__law_num.binds (ps := ["_law_found"]) fun _ _ _ _ _ _ us hl => match us, hl with | [_], _ => rfl
  have A__law_num : FunAt K mg "_law_num" s__law_num ["_law_found"] := ⟨_, _, F__law_num, PySem.W.mg_of X G a__law_num, b__law_num⟩
  have F__law_are_weights := fun_mk (st := s__law_are_weights) l__law_are_weights c__law_are_weights k__law_are_weights
  have b__law_are_weights := F__law_are_weights.binds (ps := ["_law_found", "_law_rows"]) fun _ _ _ _ _ _ us hl => match us, hl with | [_, _], _ => rfl
  have A__law_are_weights : FunAt K mg "_law_are_weights" s__law_are_weights ["_law_found", "_law_rows"] := ⟨_, _, F__law_are_weights, PySem.W.mg_of X G a__law_are_weights, b__law_are_weights⟩
  have F__law_adds := fun_mk (st := s__law_adds) l__law_adds c__law_adds k__law_adds
  have b__law_adds := F__law_adds.binds (ps := ["_law_rows", "_law_weights_here"]) fun _ _ _ _ _ _ us hl => match us, hl with | [_, _], _ => rfl
  have A__law_adds : FunAt K mg "_law_adds" s__law_adds ["_law_rows", "_law_weights_here"] := ⟨_, _, F__law_adds, PySem.W.mg_of X G a__law_adds, b__law_adds⟩
  have F__law_barred := fun_mk (st := s__law_barred) l__law_barred c__law_barred k__law_barred
  have b__law_barred := F__law_barred.binds (ps := ["_law_rows", "_law_found"]) fun _ _ _ _ _ _ us hl => match us, hl with | [_, _], _ => rfl
  have A__law_barred : FunAt K mg "_law_barred" s__law_barred ["_law_rows", "_law_found"] := ⟨_, _, F__law_barred, PySem.W.mg_of X G a__law_barred, b__law_barred⟩
  have F__law_shown := fun_mk (st := s__law_shown) l__law_shown c__law_shown k__law_shown
  have b__law_shown := F__law_shown.binds (ps := ["_law_rows", "_law_row_here", "_law_paper"]) fun _ _ _ _ _ _ us hl => match us, hl with | [_, _, _], _ => rfl
  have A__law_shown : FunAt K mg "_law_shown" s__law_shown ["_law_rows", "_law_row_here", "_law_paper"] := ⟨_, _, F__law_shown, PySem.W.mg_of X G a__law_shown, b__law_shown⟩
  have F__law_some_weights := fun_mk (st := s__law_some_weights) l__law_some_weights c__law_some_weights k__law_some_weights
  have b__law_some_weights := F__law_some_weights.binds (ps := ["_law_box_here", "_law_many"]) fun _ _ _ _ _ _ us hl => match us, hl with | [_, _], _ => rfl
  have A__law_some_weights : FunAt K mg "_law_some_weights" s__law_some_weights ["_law_box_here", "_law_many"] := ⟨_, _, F__law_some_weights, PySem.W.mg_of X G a__law_some_weights, b__law_some_weights⟩
  have F_weighed := fun_mk (st := s_weighed) l_weighed c_weighed k_weighed
  have b_weighed := F_weighed.binds (ps := ["columns", "weights"]) fun _ _ _ _ _ _ us hl => match us, hl with | [_, _], _ => rfl
  have A_weighed : FunAt K mg "weighed" s_weighed ["columns", "weights"] := ⟨_, _, F_weighed, PySem.W.mg_of X G a_weighed, b_weighed⟩
  have F_added := fun_mk (st := s_added) l_added c_added k_added
  have b_added := F_added.binds (ps := ["rows", "weights"]) fun _ _ _ _ _ _ us hl => match us, hl with | [_, _], _ => rfl
  have A_added : FunAt K mg "added" s_added ["rows", "weights"] := ⟨_, _, F_added, PySem.W.mg_of X G a_added, b_added⟩
  have F__for_rows := fun_mk (st := s__for_rows) l__for_rows c__for_rows k__for_rows
  have b__for_rows := F__for_rows.binds (ps := ["rows", "weights"]) fun _ _ _ _ _ _ us hl => match us, hl with | [_, _], _ => rfl
  have A__for_rows : FunAt K mg "_for_rows" s__for_rows ["rows", "weights"] := ⟨_, _, F__for_rows, PySem.W.mg_of X G a__for_rows, b__for_rows⟩
  have F_bars_right := fun_mk (st := s_bars_right) l_bars_right c_bars_right k_bars_right
  have b_bars_right := F_bars_right.binds (ps := ["rows", "weights"]) fun _ _ _ _ _ _ us hl => match us, hl with | [_, _], _ => rfl
  have A_bars_right : FunAt K mg "bars_right" s_bars_right ["rows", "weights"] := ⟨_, _, F_bars_right, PySem.W.mg_of X G a_bars_right, b_bars_right⟩
  have F_paper_right := fun_mk (st := s_paper_right) l_paper_right c_paper_right k_paper_right
  have b_paper_right := F_paper_right.binds (ps := ["rows", "row", "paper"]) fun _ _ _ _ _ _ us hl => match us, hl with | [_, _, _], _ => rfl
  have A_paper_right : FunAt K mg "paper_right" s_paper_right ["rows", "row", "paper"] := ⟨_, _, F_paper_right, PySem.W.mg_of X G a_paper_right, b_paper_right⟩
  have F__law_same := fun_mk (st := s__law_same) l__law_same c__law_same k__law_same
  have b__law_same := F__law_same.binds (ps := ["_law_found", "_law_due"]) fun _ _ _ _ _ _ us hl => match us, hl with | [_, _], _ => rfl
  have A__law_same : FunAt K mg "_law_same" s__law_same ["_law_found", "_law_due"] := ⟨_, _, F__law_same, PySem.W.mg_of X G a__law_same, b__law_same⟩
  have F_law := fun_mk (st := s_law) l_law c_law k_law
  have b_law := F_law.binds (ps := ["_law_script"]) fun _ _ _ _ _ _ us hl => match us, hl with | [_], _ => rfl
  have A_law : FunAt K mg "law" s_law ["_law_script"] := ⟨_, _, F_law, PySem.W.mg_of X G a_law, b_law⟩
  refine ⟨PySem.W.fnOf "law" "law" (defArgs s_law) (defBody s_law) (defScope s_law) .none kV_law dc_law pm_law an_law cd_law ct_law, fun s v => .of_eq rfl, fun base _ _ => ?_⟩
  have d__law_box := ok__law_box (P := l.prog) (w := w) (base := base) A__law_box T 
  have d__law_take := ok__law_take (P := l.prog) (w := w) (base := base) A__law_take T 
  have d__law_near := ok__law_near (P := l.prog) (w := w) (base := base) A__law_near T d__law_take
  have d__law_weights := ok__law_weights (P := l.prog) (w := w) (base := base) A__law_weights T d__law_take d__law_near
  have d__law_row := ok__law_row (P := l.prog) (w := w) (base := base) A__law_row T d__law_near d__law_weights
  have d__law_num := ok__law_num (P := l.prog) (w := w) (base := base) A__law_num T 
  have d__law_are_weights := ok__law_are_weights (P := l.prog) (w := w) (base := base) A__law_are_weights T d__law_num
  have d__law_adds := ok__law_adds (P := l.prog) (w := w) (base := base) A__law_adds T 
  have d__law_barred := ok__law_barred (P := l.prog) (w := w) (base := base) A__law_barred T d__law_are_weights d__law_adds
  have d__law_shown := ok__law_shown (P := l.prog) (w := w) (base := base) A__law_shown T d__law_num d__law_are_weights d__law_adds
  have d__law_some_weights := ok__law_some_weights (P := l.prog) (w := w) (base := base) A__law_some_weights T d__law_take
  have d_weighed := ok_weighed (P := l.prog) (w := w) (base := base) A_weighed T 
  have d_added := ok_added (P := l.prog) (w := w) (base := base) A_added T d_weighed
  have d__for_rows := ok__for_rows (P := l.prog) (w := w) (base := base) A__for_rows T 
  have d_bars_right := ok_bars_right (P := l.prog) (w := w) (base := base) A_bars_right T d__for_rows d_added
  have d_paper_right := ok_paper_right (P := l.prog) (w := w) (base := base) A_paper_right T d__for_rows d_added
  have d__law_same := ok__law_same (P := l.prog) (w := w) (base := base) A__law_same T 3
  exact ok_law F_law T d__law_box d__law_take d__law_near d__law_row d__law_some_weights d__law_are_weights d__law_adds d__law_barred d__law_shown d_added d_bars_right d_paper_right d__law_same
theorem walk {l : PySem.W.OpenLaw} {q : Program} {loose : List Str} {XP : (Str → Option Value) → Heap → Prop} {YP : World → Heap → Prop} {d : DefRec} {K : Params → PySem.W.Frag} (hn : l.most = some 63) (hdf : d.params.defaults = [])
    (hY : ∀ (w : World) (h : Heap), YP w h → (K w.params).In h)
    (F : ∀ (w : World) (mg : Str → Option Value) (fa : Addr) (h : Heap), (K w.params).In h → h.Ns mainGlobals mg → mg d.name = some (.ref fa) →
      ∃ fd : FuncData, (∀ (s : Shared) (u : Value), BindsTo s fd ⟨[u], []⟩ [("_law_script", u)]) ∧ ∀ base : Heap, (K w.params).In base → base.Ns mainGlobals mg → FnOk l.prog w (K w.params) mg base CX0 5 fa fd ["_law_script"] (spLaw (K w.params))) :
    PySem.W.WalkO q loose XP YP l.row.toRowW d [] (fun f vs => PySem.call f vs) :=
  L2.walk_of (n := 63) (k := 5) (x := "_law_script") (CX := fun _ => CX0) (sp := fun w => spLaw (K w.params)) hn (by decide) hdf ⟨rfl, by decide, by decide⟩ hY F (fun _ _ a ns hl _ hS => ⟨a, ns, rfl, hS, hl, fun _ => rfl⟩) fun _ _ _ _ _ z => z
end My
open PySem PySem.W PyProof.Rows
set_option maxRecDepth 100000 in
set_option maxHeartbeats 0 in
theorem PySem.Challenge.cw_slopeyard_k10_sums_of_rows_and_papers_ju_holds : PySem.Challenge.rw_slopeyard_k10_sums_of_rows_and_papers_ju.Holds := by
  w_on; o_law; k_head; (case hw => w_witness2)
  k_fill
  refine My.walk (l := PySem.Challenge.rw_slopeyard_k10_sums_of_rows_and_papers_ju) rfl rfl (fun w h Y => PySem.W.kIn_of Y) ?F
  case F =>
    intro w mg fa h KX G hmg
    refine' My.all_mk KX G hmg ?a__law_box ?l__law_box ?c__law_box ?k__law_box ?a__law_take ?l__law_take ?c__law_take ?k__law_take ?a__law_near ?l__law_near ?c__law_near ?k__law_near ?a__law_weights ?l__law_weights ?c__law_weights ?k__law_weights ?a__law_row ?l__law_row ?c__law_row ?k__law_row ?a__law_num ?l__law_num ?c__law_num ?k__law_num ?a__law_are_weights ?l__law_are_weights ?c__law_are_weights ?k__law_are_weights ?a__law_adds ?l__law_adds ?c__law_adds ?k__law_adds ?a__law_barred ?l__law_barred ?c__law_barred ?k__law_barred ?a__law_shown ?l__law_shown ?c__law_shown ?k__law_shown ?a__law_some_weights ?l__law_some_weights ?c__law_some_weights ?k__law_some_weights ?a_weighed ?l_weighed ?c_weighed ?k_weighed ?a_added ?l_added ?c_added ?k_added ?a__for_rows ?l__for_rows ?c__for_rows ?k__for_rows ?a_bars_right ?l_bars_right ?c_bars_right ?k_bars_right ?a_paper_right ?l_paper_right ?c_paper_right ?k_paper_right ?a__law_same ?l__law_same ?c__law_same ?k__law_same ?a_law ?l_law ?c_law ?k_law ?z_all ?z_any ?z_bool ?z_enumerate ?z_int ?z_isinstance ?z_len ?z_list ?z_max ?z_range ?z_str ?z_tuple ?z_zip
    (case a__law_box => k_is)
    (case l__law_box => k_is)
    (case c__law_box => k_is)
    (case k__law_box => k_is)
    (case a__law_take => k_is)
    (case l__law_take => k_is)
    (case c__law_take => k_is)
    (case k__law_take => k_is)
    (case a__law_near => k_is)
    (case l__law_near => k_is)
    (case c__law_near => k_is)
    (case k__law_near => k_is)
    (case a__law_weights => k_is)
    (case l__law_weights => k_is)
    (case c__law_weights => k_is)
    (case k__law_weights => k_is)
    (case a__law_row => k_is)
    (case l__law_row => k_is)
    (case c__law_row => k_is)
    (case k__law_row => k_is)
    (case a__law_num => k_is)
    (case l__law_num => k_is)
    (case c__law_num => k_is)
    (case k__law_num => k_is)
    (case a__law_are_weights => k_is)
    (case l__law_are_weights => k_is)
    (case c__law_are_weights => k_is)
    (case k__law_are_weights => k_is)
    (case a__law_adds => k_is)
    (case l__law_adds => k_is)
    (case c__law_adds => k_is)
    (case k__law_adds => k_is)
    (case a__law_barred => k_is)
    (case l__law_barred => k_is)
    (case c__law_barred => k_is)
    (case k__law_barred => k_is)
    (case a__law_shown => k_is)
    (case l__law_shown => k_is)
    (case c__law_shown => k_is)
    (case k__law_shown => k_is)
    (case a__law_some_weights => k_is)
    (case l__law_some_weights => k_is)
    (case c__law_some_weights => k_is)
    (case k__law_some_weights => k_is)
    (case a_weighed => k_is)
    (case l_weighed => k_is)
    (case c_weighed => k_is)
    (case k_weighed => k_is)
    (case a_added => k_is)
    (case l_added => k_is)
    (case c_added => k_is)
    (case k_added => k_is)
    (case a__for_rows => k_is)
    (case l__for_rows => k_is)
    (case c__for_rows => k_is)
    (case k__for_rows => k_is)
    (case a_bars_right => k_is)
    (case l_bars_right => k_is)
    (case c_bars_right => k_is)
    (case k_bars_right => k_is)
    (case a_paper_right => k_is)
    (case l_paper_right => k_is)
    (case c_paper_right => k_is)
    (case k_paper_right => k_is)
    (case a__law_same => k_is)
    (case l__law_same => k_is)
    (case c__law_same => k_is)
    (case k__law_same => k_is)
    (case a_law => k_is)
    (case l_law => k_is)
    (case c_law => k_is)
    (case k_law => k_is)
    (case z_all => k_is)
    (case z_any => k_is)
    (case z_bool => k_is)
    (case z_enumerate => k_is)
    (case z_int => k_is)
    (case z_isinstance => k_is)
    (case z_len => k_is)
    (case z_list => k_is)
    (case z_max => k_is)
    (case z_range => k_is)
    (case z_str => k_is)
    (case z_tuple => k_is)
    (case z_zip => k_is)

