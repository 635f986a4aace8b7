import PyProof.Rows.All
import Wide.All
import OpenK.AllK
import Wide.FinOn
import HandS.ForMost
import HandS.Gcd
import HandS.Wide
import HandS.IsInst
import HandS.Walk
import HandS.Evl
import HandS.Zip
import HandS.Style
import HandS.Star
import HandS.TupAny
import HandS.TupMul
import HandS.Text
import KE.GoesNew
import KE.GoesMore
import HandS.ForExc
import HandS.ExcIs
import HandS.ExcOwn
import PySem.Challenge.RW_slopeyard_k05_rows_kept_by_states
set_option Elab.async false
set_option linter.all false
set_option maxRecDepth 100000
set_option maxHeartbeats 4000000
/-! DL: the readings of the hand layer told by data: G is the part of the heap that stands still (all data are told by it),
the box (the law's own drawing list) and lists that a def makes and grows stand outside of it. -/
namespace DL
open PySem PySem.Spec PyProof.Rows L2
open Evl (Ex)

/-! ### data stay told where the heap grows -/
theorem rd_mono {H H' : Hp} {a : Addr} {u : HO} (e : Ex H H') (h : Rd H a u) : Rd H' a u := Evl.ex_rd e h
mutual
theorem dp_mono {K : PySem.W.Frag} {H H' : Hp} (e : Ex H H') : ∀ (d : PyData) (v : V), Dp K H v d → Dp K H' v d
  | .none, _, h => by cases h; exact .non
  | .bool b, _, h => by cases h; exact .bl b
  | .int i, _, h => by cases h; exact .int i
  | .str x, _, h => by cases h; exact .str x
  | .list ds, _, h => by
    cases h with
    | lst hs ha => exact .lst (Evl.ex_l e hs) (dpa_mono e ds _ ha)
  | .tuple ds, _, h => by
    cases h with
    | tup hs ha => exact .tup (Evl.ex_t e hs) (dpa_mono e ds _ ha)
  | .dict _, _, h => by cases h
theorem dpa_mono {K : PySem.W.Frag} {H H' : Hp} (e : Ex H H') : ∀ (ds : List PyData) (vs : List V), DpAll K H vs ds → DpAll K H' vs ds
  | [], _, h => by cases h; exact .nil
  | d :: ds, _, h => by
    cases h with
    | cons h1 h2 => exact .cons (dp_mono e d _ h1) (dpa_mono e ds _ h2)
end
theorem dpa_len {K : PySem.W.Frag} {G : Hp} : ∀ {vs : List V} {ds : List PyData}, DpAll K G vs ds → vs.length = ds.length
  | _, _, .nil => rfl
  | _, _, .cons _ t => congrArg (· + 1) (dpa_len t)
theorem dpa_app {K : PySem.W.Frag} {G : Hp} : ∀ {vs ws : List V} {ds es : List PyData}, DpAll K G vs ds → DpAll K G ws es → DpAll K G (vs ++ ws) (ds ++ es)
  | _, _, _, _, .nil, h => h
  | _, _, _, _, .cons a t, h => .cons a (dpa_app t h)
theorem dpa_at {K : PySem.W.Frag} {G : Hp} : ∀ {vs : List V} {ds : List PyData} {i : Nat} {v : V}, DpAll K G vs ds → vs[i]? = some v → ∃ d, ds[i]? = some d ∧ Dp K G v d
  | _, _, i, _, .nil, e => by simp at e
  | _, _, 0, _, .cons a _, e => by
    simp at e
    subst e
    exact ⟨_, rfl, a⟩
  | _, _, i + 1, _, .cons _ t, e => by
    obtain ⟨d, h1, h2⟩ := dpa_at (i := i) t (by simpa using e)
    exact ⟨d, by simpa using h1, h2⟩
theorem dpa_atd {K : PySem.W.Frag} {G : Hp} {vs : List V} {ds : List PyData} {i : Nat} {d : PyData} (h : DpAll K G vs ds) (e : ds[i]? = some d) : ∃ v, vs[i]? = some v ∧ Dp K G v d := by
  have hl := dpa_len h
  have hi : i < ds.length := (List.getElem?_eq_some_iff.mp e).1
  have hv : vs[i]? = some vs[i] := List.getElem?_eq_getElem (by omega)
  obtain ⟨d', h1, h2⟩ := dpa_at h hv
  rw [e] at h1
  cases h1
  exact ⟨_, hv, h2⟩
theorem dpa_set {K : PySem.W.Frag} {G : Hp} {v : V} {d : PyData} (hd : Dp K G v d) : ∀ {vs : List V} {ds : List PyData} (i : Nat), DpAll K G vs ds → DpAll K G (vs.set i v) (ds.set i d)
  | _, _, _, .nil => .nil
  | _, _, 0, .cons _ t => .cons hd t
  | _, _, i + 1, .cons a t => .cons a (dpa_set hd i t)
theorem dpa_drop {K : PySem.W.Frag} {G : Hp} : ∀ {vs : List V} {ds : List PyData} (n : Nat), DpAll K G vs ds → DpAll K G (vs.drop n) (ds.drop n)
  | _, _, 0, h => h
  | _, _, _ + 1, .nil => .nil
  | _, _, n + 1, .cons _ t => dpa_drop n t
theorem dpa_take {K : PySem.W.Frag} {G : Hp} : ∀ {vs : List V} {ds : List PyData} (n : Nat), DpAll K G vs ds → DpAll K G (vs.take n) (ds.take n)
  | _, _, 0, _ => .nil
  | _, _, _ + 1, .nil => .nil
  | _, _, n + 1, .cons a t => .cons a (dpa_take n t)
theorem dpa_ints {K : PySem.W.Frag} {G : Hp} : ∀ {ns : List Int}, DpAll K G (ns.map V.int) (ns.map PyData.int)
  | [] => .nil
  | n :: _ => .cons (.int n) dpa_ints
theorem dpa_ints_inv {K : PySem.W.Frag} {G : Hp} : ∀ {ns : List Int} {vs : List V}, DpAll K G vs (ns.map PyData.int) → vs = ns.map V.int
  | [], _, .nil => rfl
  | n :: ns, _, .cons a t => by
    cases a
    rw [dpa_ints_inv t]
    rfl

/-! ### the box -/
def BoxOk (K : PySem.W.Frag) (b : Addr) (G H : Hp) : Prop := ∃ (c : Addr) (ns : List Int) (i x sd : Int), H b = some (.lst [.ref c, .int i, .int x, .int sd]) ∧ G b = none ∧ SqL K G c (ns.map V.int) ∧ ns.length ≤ 63 ∧
  0 ≤ i ∧ i ≤ 63 ∧ 0 ≤ x ∧ 0 ≤ sd ∧ sd < 2147483399
def BoxO (K : PySem.W.Frag) (s : Option Addr) (G H : Hp) : Prop := ∀ b, s = some b → BoxOk K b G H

/-! ### slots, lists that are one's own, the state -/
inductive Sk where
  | no | d (x : PyData) | v (u : V)
def SkOk (K : PySem.W.Frag) (G : Hp) : Sk → Option V → Prop
  | .no, _ => True
  | .d x, o => ∃ v, o = some v ∧ Dp K G v x
  | .v u, o => o = some u
theorem SkOk.mono {K : PySem.W.Frag} {G G' : Hp} (e : Ex G G') : ∀ {k : Sk} {o : Option V}, SkOk K G k o → SkOk K G' k o
  | .no, _, _ => True.intro
  | .d x, _, ⟨v, h, q⟩ => ⟨v, h, dp_mono e x v q⟩
  | .v _, _, h => h
abbrev Own := List (Addr × List PyData)
structure Fb where
  M : Addr → Prop
  G : Hp
  H : Hp
structure Cfg (K : PySem.W.Frag) (F : Fb) (s : Option Addr) (Z : List Sk) (O : Own) (σ : L2.St) (G H : Hp) : Prop where
  len : σ.length = Z.length
  sl : ∀ (i : Nat) (k : Sk), Z[i]? = some k → ∃ o, σ[i]? = some o ∧ SkOk K G k o
  ex : Ex G H
  box : BoxO K s G H
  bxM : ∀ b, s = some b → F.M b ∨ F.H b = none
  own : ∀ p ds, (p, ds) ∈ O → G p = none ∧ s ≠ some p ∧ (F.H p = none) ∧ ∃ vs, H p = some (.lst vs) ∧ DpAll K G vs ds
  nd : (O.map (·.1)).Nodup
  e0 : Ex F.G G
  h0 : ∀ a o, ¬ F.M a → F.H a = some o → H a = some o
  h1 : ∀ a o, F.H a = some o → ∃ o', H a = some o'
  g0 : ∀ a o, F.H a = some o → G a = F.G a

section
variable {K : PySem.W.Frag} {F : Fb} {s : Option Addr} {Z : List Sk} {O : Own} {σ : L2.St} {G H : Hp}
/-- the heap grows, the still part grows, what stood stands -/
theorem Cfg.grow (c : Cfg K F s Z O σ G H) {G' H' : Hp} (e : Ex G G') (e' : Ex G' H') (h : Ex H H') (k : ∀ a o, H a = some o → G' a = G a) : Cfg K F s Z O σ G' H' := by
  refine ⟨c.len, fun i k' hk => ?_, e', fun b hb => ?_, c.bxM, fun p ds hp => ?_, c.nd, c.e0.trans e, fun a o hm ha => h a o (c.h0 a o hm ha), fun a o ha => ?_, fun a o ha => ?_⟩
  · obtain ⟨o, h1, h2⟩ := c.sl i k' hk
    exact ⟨o, h1, h2.mono e⟩
  · obtain ⟨cc, ns, i, x, sd, b1, b2, b3, b4⟩ := c.box b hb
    exact ⟨cc, ns, i, x, sd, h _ _ b1, by rw [k _ _ b1]; exact b2, Evl.ex_l e b3, b4⟩
  · obtain ⟨o1, o2, o3, vs, o4, o5⟩ := c.own p ds hp
    exact ⟨by rw [k _ _ o4]; exact o1, o2, o3, vs, h _ _ o4, dpa_mono e ds vs o5⟩
  · obtain ⟨o', h'⟩ := c.h1 a o ha
    exact ⟨o', h _ _ h'⟩
  · obtain ⟨o', h'⟩ := c.h1 a o ha
    rw [k a o' h']
    exact c.g0 a o ha
/-- the same where the box has turned -/
theorem Cfg.growB {b : Addr} (c : Cfg K F (some b) Z O σ G H) {G' H' : Hp} (e : Ex G G') (e' : Ex G' H') (h : ∀ a o, a ≠ b → H a = some o → H' a = some o) (k : ∀ a o, H a = some o → G' a = G a) (hb : BoxOk K b G' H') : Cfg K F (some b) Z O σ G' H' := by
  refine ⟨c.len, fun i k' hk => ?_, e', fun b' hb' => ?_, c.bxM, fun p ds hp => ?_, c.nd, c.e0.trans e, fun a o hm ha => ?_, fun a o ha => ?_, fun a o ha => ?_⟩
  · obtain ⟨o, h1, h2⟩ := c.sl i k' hk
    exact ⟨o, h1, h2.mono e⟩
  · cases hb'
    exact hb
  · obtain ⟨o1, o2, o3, vs, o4, o5⟩ := c.own p ds hp
    exact ⟨by rw [k _ _ o4]; exact o1, o2, o3, vs, h _ _ (fun z => o2 (by rw [z])) o4, dpa_mono e ds vs o5⟩
  · refine h a o (fun z => ?_) (c.h0 a o hm ha)
    rcases c.bxM b rfl with q | q
    · exact hm (by rw [z]; exact q)
    · rw [z, q] at ha
      cases ha
  · obtain ⟨o', h'⟩ := c.h1 a o ha
    by_cases z : a = b
    · obtain ⟨_, _, _, _, _, b1, _⟩ := hb
      exact ⟨_, by rw [z]; exact b1⟩
    · exact ⟨o', h _ _ z h'⟩
  · obtain ⟨o', h'⟩ := c.h1 a o ha
    rw [k a o' h']
    exact c.g0 a o ha
/-- a new thing that stands still -/
theorem Cfg.new (c : Cfg K F s Z O σ G H) {p : Addr} {o : HO} (hp : H p = none) : Cfg K F s Z O σ (upd G p o) (upd H p o) ∧ Ex G (upd G p o) := by
  have hg : G p = none := by
    cases q : G p with
    | none => rfl
    | some u =>
      rw [c.ex p u q] at hp
      cases hp
  refine ⟨c.grow (Evl.Ex.new hg) (fun a u hu => ?_) (Evl.Ex.new hp) (fun a u hu => ?_), Evl.Ex.new hg⟩
  · by_cases z : a = p
    · subst z
      rw [upd_same] at hu ⊢
      exact hu
    · rw [upd_ne z] at hu ⊢
      exact c.ex a u hu
  · rw [upd_ne (ne_of_none hu hp)]
theorem Cfg.gnone (c : Cfg K F s Z O σ G H) {p : Addr} (hp : H p = none) : G p = none := by
  cases q : G p with
  | none => rfl
  | some u =>
    rw [c.ex p u q] at hp
    cases hp
theorem Cfg.hnone (c : Cfg K F s Z O σ G H) {p : Addr} (hp : H p = none) : F.H p = none := by
  cases q : F.H p with
  | none => rfl
  | some u =>
    obtain ⟨o', h'⟩ := c.h1 p u q
    rw [h'] at hp
    cases hp
/-- a new list of one's own -/
theorem Cfg.newOwn (c : Cfg K F s Z O σ G H) {p : Addr} {vs : List V} {ds : List PyData} (hp : H p = none) (hd : DpAll K G vs ds) : Cfg K F s Z ((p, ds) :: O) σ G (upd H p (.lst vs)) := by
  have hg : G p = none := c.gnone hp
  have c' := c.grow (G' := G) (H' := upd H p (.lst vs)) (Evl.Ex.refl _) (c.ex.trans (Evl.Ex.new hp)) (Evl.Ex.new hp) (fun _ _ _ => rfl)
  refine ⟨c'.len, c'.sl, c'.ex, c'.box, c'.bxM, fun q es hq => ?_, ?_, c'.e0, c'.h0, c'.h1, c'.g0⟩
  · rcases List.mem_cons.mp hq with z | z
    · cases z
      refine ⟨hg, fun z => ?_, c.hnone hp, vs, upd_same, hd⟩
      obtain ⟨_, _, _, _, _, b1, _⟩ := c.box p z
      rw [hp] at b1
      cases b1
    · exact c'.own q es z
  · rw [List.map_cons, List.nodup_cons]
    refine ⟨fun z => ?_, c.nd⟩
    obtain ⟨⟨q, es⟩, hq, e⟩ := List.mem_map.mp z
    obtain ⟨_, _, _, ws, o4, _⟩ := c.own q es hq
    have e : q = p := e
    rw [e, hp] at o4
    cases o4
/-- the own list at the head changes -/
theorem Cfg.setOwn {p : Addr} {ds es : List PyData} {ws : List V} (c : Cfg K F s Z ((p, ds) :: O) σ G H) (hd : DpAll K G ws es) : Cfg K F s Z ((p, es) :: O) σ G (upd H p (.lst ws)) := by
  obtain ⟨o1, o2, o3, vs, o4, o5⟩ := c.own p ds (List.mem_cons_self ..)
  have nd := c.nd
  rw [List.map_cons, List.nodup_cons] at nd
  have keep : ∀ a o, a ≠ p → H a = some o → (upd H p (.lst ws)) a = some o := fun a o ha h => by
    rw [upd_ne ha]
    exact h
  refine ⟨c.len, c.sl, fun a u hu => keep a u (fun z => by rw [z, o1] at hu; cases hu) (c.ex a u hu), fun b hb => ?_, c.bxM, fun q fs hq => ?_, ?_, c.e0, fun a o hm ha => keep a o (fun z => by rw [z, o3] at ha; cases ha) (c.h0 a o hm ha), fun a o ha => ?_, c.g0⟩
  · obtain ⟨cc, ns, i, x, sd, b1, b2, b3, b4⟩ := c.box b hb
    exact ⟨cc, ns, i, x, sd, keep _ _ (fun z => o2 (by rw [← z]; exact hb)) b1, b2, b3, b4⟩
  · rcases List.mem_cons.mp hq with z | z
    · cases z
      exact ⟨o1, o2, o3, ws, upd_same, hd⟩
    · obtain ⟨p1, p2, p3, us, p4, p5⟩ := c.own q fs (List.mem_cons_of_mem _ z)
      refine ⟨p1, p2, p3, us, keep _ _ (fun e => nd.1 ?_) p4, p5⟩
      exact List.mem_map.mpr ⟨(q, fs), z, e⟩
  · rw [List.map_cons, List.nodup_cons]
    exact nd
  · obtain ⟨o', h'⟩ := c.h1 a o ha
    exact ⟨o', keep _ _ (fun z => by rw [z, o3] at ha; cases ha) h'⟩
/-- an own list at the head comes to stand still -/
theorem Cfg.freeze {p : Addr} {ds : List PyData} (c : Cfg K F s Z ((p, ds) :: O) σ G H) : ∃ G', Cfg K F s Z O σ G' H ∧ Ex G G' ∧ Dp K G' (.ref p) (.list ds) := by
  obtain ⟨o1, o2, o3, vs, o4, o5⟩ := c.own p ds (List.mem_cons_self ..)
  have nd := c.nd
  rw [List.map_cons, List.nodup_cons] at nd
  have e : Ex G (upd G p (.lst vs)) := Evl.Ex.new o1
  refine ⟨upd G p (.lst vs), ⟨c.len, fun i k hk => ?_, fun a u hu => ?_, fun b hb => ?_, c.bxM, fun q fs hq => ?_, nd.2, c.e0.trans e, c.h0, c.h1, fun a o ha => ?_⟩, e, .lst (.inl (.inl upd_same)) (dpa_mono e ds vs o5)⟩
  · obtain ⟨o, h1, h2⟩ := c.sl i k hk
    exact ⟨o, h1, h2.mono e⟩
  · by_cases z : a = p
    · subst z
      rw [upd_same] at hu
      cases hu
      exact o4
    · rw [upd_ne z] at hu
      exact c.ex a u hu
  · obtain ⟨cc, ns, i, x, sd, b1, b2, b3, b4⟩ := c.box b hb
    exact ⟨cc, ns, i, x, sd, b1, by rw [upd_ne (fun z => o2 (by rw [← z]; exact hb))]; exact b2, Evl.ex_l e b3, b4⟩
  · obtain ⟨p1, p2, p3, us, p4, p5⟩ := c.own q fs (List.mem_cons_of_mem _ hq)
    refine ⟨?_, p2, p3, us, p4, dpa_mono e fs us p5⟩
    rw [upd_ne (fun z => nd.1 (List.mem_map.mpr ⟨(q, fs), hq, z⟩))]
    exact p1
  · rw [upd_ne (fun z => by rw [z, o3] at ha; cases ha)]
    exact c.g0 a o ha
theorem Cfg.set (c : Cfg K F s Z O σ G H) {i : Nat} {k : Sk} {v : V} (h : SkOk K G k (some v)) : Cfg K F s (Z.set i k) O (σ.set i (some v)) G H := by
  refine ⟨by rw [List.length_set, List.length_set]; exact c.len, fun j k' hj => ?_, c.ex, c.box, c.bxM, c.own, c.nd, c.e0, c.h0, c.h1, c.g0⟩
  by_cases z : i = j
  · subst z
    have hi : i < Z.length := by
      have := (List.getElem?_eq_some_iff.mp hj).1
      rwa [List.length_set] at this
    rw [List.getElem?_set_self hi] at hj
    cases hj
    exact ⟨_, List.getElem?_set_self (by rw [c.len]; exact hi), h⟩
  · rw [List.getElem?_set_ne z] at hj ⊢
    exact c.sl j k' hj
theorem Cfg.forget (c : Cfg K F s Z O σ G H) : Cfg K F s [] [] [] G H :=
  ⟨rfl, fun i k h => by simp at h, c.ex, c.box, c.bxM, fun p ds h => by simp at h, List.nodup_nil, c.e0, c.h0, c.h1, c.g0⟩
/-- slots told again, of another list of places -/
theorem Cfg.slots (c : Cfg K F s Z O σ G H) {Z' : List Sk} {σ' : L2.St} (hl : σ'.length = Z'.length) (h : ∀ (i : Nat) (k : Sk), Z'[i]? = some k → ∃ o, σ'[i]? = some o ∧ SkOk K G k o) : Cfg K F s Z' O σ' G H :=
  ⟨hl, h, c.ex, c.box, c.bxM, c.own, c.nd, c.e0, c.h0, c.h1, c.g0⟩
end

/-! ### what an expression comes to, by data -/
section
variable (K : PySem.W.Frag) (s : Option Addr)
def WE (te : TE) (Z : List Sk) (O : Own) (P : PyData → Prop) : Prop :=
  ∀ (F : Fb) σ G H, Cfg K F s Z O σ G H → ∀ Q : VK, (∀ v d G' H', Cfg K F s Z O σ G' H' → Ex G G' → Dp K G' v d → P d → Q v H') → te σ H Q
def WT (tt : TT) (Z : List Sk) (O : Own) (P : Bool → Prop) : Prop :=
  ∀ (F : Fb) σ G H, Cfg K F s Z O σ G H → ∀ Q : Bool → Hp → Prop, (∀ b G' H', Cfg K F s Z O σ G' H' → Ex G G' → P b → Q b H') → tt σ H Q
/-- a new list that is nobody's yet -/
def WL (te : TE) (Z : List Sk) (O : Own) (P : List PyData → Prop) : Prop :=
  ∀ (F : Fb) σ G H, Cfg K F s Z O σ G H → ∀ Q : VK, (∀ p ds G' H', Cfg K F s Z ((p, ds) :: O) σ G' H' → Ex G G' → P ds → Q (.ref p) H') → te σ H Q
def ArgOk (G : Hp) : List V → List Sk → Prop
  | [], [] => True
  | v :: vs, k :: ks => SkOk K G k (some v) ∧ ArgOk G vs ks
  | _, _ => False
def WA (ta : TA) (Z : List Sk) (O : Own) (P : List Sk → Prop) : Prop :=
  ∀ (F : Fb) σ G H, Cfg K F s Z O σ G H → ∀ Q : List V → Hp → Prop, (∀ vs ks G' H', Cfg K F s Z O σ G' H' → Ex G G' → ArgOk K G' vs ks → P ks → Q vs H') → ta σ H Q
end
theorem argOk_mono {K : PySem.W.Frag} {G G' : Hp} (e : Ex G G') : ∀ {vs : List V} {ks : List Sk}, ArgOk K G vs ks → ArgOk K G' vs ks
  | [], [], _ => True.intro
  | _ :: _, _ :: _, h => ⟨h.1.mono e, argOk_mono e h.2⟩
  | [], _ :: _, h => h.elim
  | _ :: _, [], h => h.elim

section
variable {K : PySem.W.Frag} {F : Fb} {s : Option Addr} {Z : List Sk} {O : Own} {P : PyData → Prop} {PB : Bool → Prop} {ta tb te : TE} {t u : TT}
theorem we_imp {P' : PyData → Prop} (h : WE K s te Z O P') (k : ∀ d, P' d → P d) : WE K s te Z O P := fun F σ G H c Q q => h F σ G H c Q fun v d G' H' c' e hd hp => q v d G' H' c' e hd (k d hp)
theorem wt_imp {P' : Bool → Prop} (h : WT K s t Z O P') (k : ∀ d, P' d → PB d) : WT K s t Z O PB := fun F σ G H c Q q => h F σ G H c Q fun b G' H' c' e hp => q b G' H' c' e (k b hp)
theorem we_var {i : Nat} {d : PyData} (h : Z[i]? = some (.d d)) (p : P d) : WE K s (tVar i) Z O P := fun F σ G H c Q q => by
  obtain ⟨o, h1, v, h2, h3⟩ := c.sl i _ h
  subst h2
  exact ⟨v, h1, q v d G H c (Evl.Ex.refl _) h3 p⟩
theorem we_int {i : Int} (p : P (.int i)) : WE K s (tC (.int i)) Z O P := fun F σ G H c Q q => q _ _ G H c (Evl.Ex.refl _) (.int i) p
theorem we_bl {b : Bool} (p : P (.bool b)) : WE K s (tC (.bl b)) Z O P := fun F σ G H c Q q => q _ _ G H c (Evl.Ex.refl _) (.bl b) p
theorem we_non (p : P .none) : WE K s (tC .non) Z O P := fun F σ G H c Q q => q _ _ G H c (Evl.Ex.refl _) .non p
theorem we_str {x : Str} (p : P (.str x)) : WE K s (tC (.str x)) Z O P := fun F σ G H c Q q => q _ _ G H c (Evl.Ex.refl _) (.str x) p
/-- a new list that comes to stand still at once -/
theorem we_of {P : PyData → Prop} (h : WL K s te Z O fun ds => P (.list ds)) : WE K s te Z O P := fun F σ G H c Q q => h F σ G H c Q fun p ds G' H' c' e hp => by
  obtain ⟨G2, c2, e2, hd⟩ := c'.freeze
  exact q (.ref p) _ G2 H' c2 (e.trans e2) hd hp

/-- an operation of two values that leaves the heap -/
def NOp (K : PySem.W.Frag) (r : R2) (x y z : PyData) : Prop := ∀ v w G H (Q : VK), Ex G H → Dp K G v x → Dp K G w y → (∀ u, Dp K G u z → Q u H) → r v w H Q
theorem we_nop {r : R2} (h : WE K s ta Z O fun x => WE K s tb Z O fun y => ∃ z, NOp K r x y z ∧ P z) : WE K s (tOp r ta tb) Z O P := fun F σ G H c Q q =>
  h F σ G H c _ fun v x G1 H1 c1 e1 hx hp => hp F σ G1 H1 c1 _ fun w y G2 H2 c2 e2 hy ⟨z, hz, p⟩ =>
    hz v w G2 H2 Q c2.ex (dp_mono e2 _ _ hx) hy fun u hu => q u z G2 H2 c2 (e1.trans e2) hu p
theorem nop_I0 {g : Int → Int → V} {i j : Int} {z : PyData} (hz : ∀ G, Dp K G (g i j) z) : NOp K (rI0 g) (.int i) (.int j) z := fun v w G H Q _ hv hw q => by
  cases hv
  cases hw
  exact ⟨i, j, rfl, rfl, q _ (hz G)⟩
theorem nop_I {C : Int → Int → Prop} {g : Int → Int → V} {i j : Int} {z : PyData} (hc : C i j) (hz : ∀ G, Dp K G (g i j) z) : NOp K (rI C g) (.int i) (.int j) z := fun v w G H Q _ hv hw q => by
  cases hv
  cases hw
  exact ⟨i, j, rfl, rfl, hc, q _ (hz G)⟩
theorem we_opI {f : Int → Int → Int} (h : WE K s ta Z O fun x => WE K s tb Z O fun y => ∃ i j, x = .int i ∧ y = .int j ∧ P (.int (f i j))) : WE K s (tOp (rI0 fun i j => .int (f i j)) ta tb) Z O P :=
  we_nop (we_imp h fun x hx => we_imp hx fun y ⟨i, j, e1, e2, p⟩ => ⟨_, by subst e1; subst e2; exact nop_I0 fun G => .int _, p⟩)
theorem we_opB {f : Int → Int → Bool} (h : WE K s ta Z O fun x => WE K s tb Z O fun y => ∃ i j, x = .int i ∧ y = .int j ∧ P (.bool (f i j))) : WE K s (tOp (rI0 fun i j => .bl (f i j)) ta tb) Z O P :=
  we_nop (we_imp h fun x hx => we_imp hx fun y ⟨i, j, e1, e2, p⟩ => ⟨_, by subst e1; subst e2; exact nop_I0 fun G => .bl _, p⟩)
theorem we_opC {C : Int → Int → Prop} {f : Int → Int → Int} (h : WE K s ta Z O fun x => WE K s tb Z O fun y => ∃ i j, x = .int i ∧ y = .int j ∧ C i j ∧ P (.int (f i j))) : WE K s (tOp (rI C fun i j => .int (f i j)) ta tb) Z O P :=
  we_nop (we_imp h fun x hx => we_imp hx fun y ⟨i, j, e1, e2, hc, p⟩ => ⟨_, by subst e1; subst e2; exact nop_I hc fun G => .int _, p⟩)
theorem we_neg (h : WE K s ta Z O fun x => ∃ i, x = .int i ∧ P (.int (-i))) : WE K s (tUn (rU fun i => .int (-i)) ta) Z O P := fun F σ G H c Q q =>
  h F σ G H c _ fun v x G1 H1 c1 e1 hx ⟨i, ex, p⟩ => by
    subst ex
    cases hx
    exact ⟨i, rfl, q _ _ G1 H1 c1 e1 (.int _) p⟩
/-- == of data -/
theorem we_eqD (h : WE K s ta Z O fun x => WE K s tb Z O fun y => SeqAt.shaped x = true ∧ SeqAt.shaped y = true ∧ P (.bool (PyData.eqv x y))) : WE K s (tOp (rEqD K) ta tb) Z O P :=
  we_nop (we_imp h fun x hx => we_imp hx fun y ⟨s1, s2, p⟩ => ⟨_, fun v w G H Q e hv hw q => ⟨x, y, dp_mono e _ _ hv, dp_mono e _ _ hw, s1, s2, q _ (.bl _)⟩, p⟩)
theorem we_neD (h : WE K s ta Z O fun x => WE K s tb Z O fun y => SeqAt.shaped x = true ∧ SeqAt.shaped y = true ∧ P (.bool (!PyData.eqv x y))) : WE K s (tOp (rNeD K) ta tb) Z O P :=
  we_nop (we_imp h fun x hx => we_imp hx fun y ⟨s1, s2, p⟩ => ⟨_, fun v w G H Q e hv hw q => ⟨x, y, dp_mono e _ _ hv, dp_mono e _ _ hw, s1, s2, q _ (.bl _)⟩, p⟩)
/-- an item, by what the thing is -/
inductive ItemAt : PyData → Int → PyData → Prop where
  | lst {ds : List PyData} {i : Int} {d : PyData} : atI ds i = some d → ItemAt (.list ds) i d
  | tup {ds : List PyData} {i : Int} {d : PyData} : atI ds i = some d → ItemAt (.tuple ds) i d
  | str {z : Str} {i : Int} {c : Nat} : z.length ≤ sizeLine → atI z.cps.toList i = some c → ItemAt (.str z) i (.str ⟨#[c]⟩)
theorem dpa_atI {G : Hp} {vs : List V} {ds : List PyData} {i : Int} {d : PyData} (h : DpAll K G vs ds) (e : atI ds i = some d) : ∃ v, atI vs i = some v ∧ Dp K G v d := by
  unfold atI at e ⊢
  rw [dpa_len h]
  cases q : ixN ds.length i with
  | none => rw [q] at e; cases e
  | some j =>
    rw [q] at e
    obtain ⟨v, h1, h2⟩ := dpa_atd h e
    exact ⟨v, h1, h2⟩
theorem we_ix (h : WE K s ta Z O fun x => WE K s tb Z O fun y => ∃ i d, y = .int i ∧ ItemAt x i d ∧ P d) : WE K s (tOp (rIx K) ta tb) Z O P :=
  we_nop (we_imp h fun x hx => we_imp hx fun y ⟨i, d, e1, hi, p⟩ => ⟨d, fun v w G H Q e hv hw q => by
    subst e1
    cases hw
    cases hi with
    | lst hi =>
      cases hv with
      | lst hs ha =>
        obtain ⟨u, h1, h2⟩ := dpa_atI ha hi
        exact .inl ⟨_, _, i, u, rfl, rfl, Evl.ex_l e hs, h1, q u h2⟩
    | tup hi =>
      cases hv with
      | tup hs ha =>
        obtain ⟨u, h1, h2⟩ := dpa_atI ha hi
        exact .inr (.inl ⟨_, _, i, u, rfl, rfl, Evl.ex_t e hs, h1, q u h2⟩)
    | str hz hi =>
      cases hv
      exact .inr (.inr ⟨_, i, _, rfl, rfl, hz, hi, q _ (.str _)⟩), p⟩)

/-! ### tests -/
theorem wt_test (h : WE K s te Z O fun x => ∃ b, x = .bool b ∧ PB b) : WT K s (tTest te) Z O PB := fun F σ G H c Q q => h F σ G H c _ fun v x G1 H1 c1 e1 hx ⟨b, ex, p⟩ => by
  subst ex
  cases hx
  exact ⟨b, rfl, q b G1 H1 c1 e1 p⟩
theorem wt_B (h : WE K s te Z O fun x => ∃ b, x = .bool b ∧ PB b) : WT K s (tB te) Z O PB := fun F σ G H c Q q => h F σ G H c _ fun v x G1 H1 c1 e1 hx ⟨b, ex, p⟩ => by
  subst ex
  cases hx
  exact ⟨b, rfl, q b G1 H1 c1 e1 p⟩
theorem wt_and (h : WT K s t Z O fun b => if b = true then WT K s u Z O PB else PB false) : WT K s (tAnd t u) Z O PB := fun F σ G H c Q q => h F σ G H c _ fun b G1 H1 c1 e1 p => by
  cases b with
  | true =>
    rw [if_pos rfl] at p ⊢
    exact p F σ G1 H1 c1 Q fun b2 G2 H2 c2 e2 p2 => q b2 G2 H2 c2 (e1.trans e2) p2
  | false =>
    rw [if_neg Bool.false_ne_true] at p ⊢
    exact q false G1 H1 c1 e1 p
theorem wt_or (h : WT K s t Z O fun b => if b = true then PB true else WT K s u Z O PB) : WT K s (tOr t u) Z O PB := fun F σ G H c Q q => h F σ G H c _ fun b G1 H1 c1 e1 p => by
  cases b with
  | true =>
    rw [if_pos rfl] at p ⊢
    exact q true G1 H1 c1 e1 p
  | false =>
    rw [if_neg Bool.false_ne_true] at p ⊢
    exact p F σ G1 H1 c1 Q fun b2 G2 H2 c2 e2 p2 => q b2 G2 H2 c2 (e1.trans e2) p2
theorem wt_not (h : WT K s t Z O fun b => PB (!b)) : WT K s (tNot t) Z O PB := fun F σ G H c Q q => h F σ G H c _ fun b G1 H1 c1 e1 p => q (!b) G1 H1 c1 e1 p
theorem we_andV (h : WE K s ta Z O fun x => ∃ b, x = .bool b ∧ if b = true then WE K s tb Z O P else P (.bool false)) : WE K s (tAndV ta tb) Z O P := fun F σ G H c Q q => h F σ G H c _ fun v x G1 H1 c1 e1 hx ⟨b, ex, p⟩ => by
  subst ex
  cases hx
  refine ⟨b, rfl, ?_⟩
  cases b with
  | true =>
    rw [if_pos rfl] at p ⊢
    exact p F σ G1 H1 c1 Q fun w d G2 H2 c2 e2 hd p2 => q w d G2 H2 c2 (e1.trans e2) hd p2
  | false =>
    rw [if_neg Bool.false_ne_true] at p ⊢
    exact q _ _ G1 H1 c1 e1 (.bl false) p
theorem we_orV (h : WE K s ta Z O fun x => ∃ b, x = .bool b ∧ if b = true then P (.bool true) else WE K s tb Z O P) : WE K s (tOrV ta tb) Z O P := fun F σ G H c Q q => h F σ G H c _ fun v x G1 H1 c1 e1 hx ⟨b, ex, p⟩ => by
  subst ex
  cases hx
  refine ⟨b, rfl, ?_⟩
  cases b with
  | true =>
    rw [if_pos rfl] at p ⊢
    exact q _ _ G1 H1 c1 e1 (.bl true) p
  | false =>
    rw [if_neg Bool.false_ne_true] at p ⊢
    exact p F σ G1 H1 c1 Q fun w d G2 H2 c2 e2 hd p2 => q w d G2 H2 c2 (e1.trans e2) hd p2
theorem we_notV (h : WE K s ta Z O fun x => ∃ b, x = .bool b ∧ P (.bool (!b))) : WE K s (tNotV ta) Z O P := fun F σ G H c Q q => h F σ G H c _ fun v x G1 H1 c1 e1 hx ⟨b, ex, p⟩ => by
  subst ex
  cases hx
  exact ⟨b, rfl, q _ _ G1 H1 c1 e1 (.bl _) p⟩
theorem we_if (h : WT K s t Z O fun b => if b = true then WE K s ta Z O P else WE K s tb Z O P) : WE K s (tIf t ta tb) Z O P := fun F σ G H c Q q => h F σ G H c _ fun b G1 H1 c1 e1 p => by
  cases b with
  | true =>
    rw [if_pos rfl] at p ⊢
    exact p F σ G1 H1 c1 Q fun w d G2 H2 c2 e2 hd p2 => q w d G2 H2 c2 (e1.trans e2) hd p2
  | false =>
    rw [if_neg Bool.false_ne_true] at p ⊢
    exact p F σ G1 H1 c1 Q fun w d G2 H2 c2 e2 hd p2 => q w d G2 H2 c2 (e1.trans e2) hd p2
theorem dp_none_iff {G : Hp} {v : V} {x : PyData} (h : Dp K G v x) : (v = .non) ↔ x = .none := by
  cases h <;> simp
def isNone : PyData → Bool
  | .none => true
  | _ => false
theorem dp_isNone {G : Hp} {v : V} {x : PyData} (h : Dp K G v x) : decide (v = .non) = isNone x := by
  cases h <;> rfl
theorem we_isN (h : WE K s ta Z O fun x => P (.bool (isNone x))) : WE K s (tIsN ta) Z O P := fun F σ G H c Q q => h F σ G H c _ fun v x G1 H1 c1 e1 hx p => by
  show Q (.bl (decide (v = .non))) H1
  rw [dp_isNone hx]
  exact q _ _ G1 H1 c1 e1 (.bl _) p
theorem we_notN (h : WE K s ta Z O fun x => P (.bool (!isNone x))) : WE K s (tNotN ta) Z O P := fun F σ G H c Q q => h F σ G H c _ fun v x G1 H1 c1 e1 hx p => by
  show Q (.bl (!decide (v = .non))) H1
  rw [dp_isNone hx]
  exact q _ _ G1 H1 c1 e1 (.bl _) p

/-! ### arguments, displays -/
variable {PA : List Sk → Prop} {tr : TA}
theorem wa_nil (p : PA []) : WA K s tNil Z O PA := fun F σ G H c Q q => q [] [] G H c (Evl.Ex.refl _) True.intro p
theorem wa_cons (h : WE K s ta Z O fun x => WA K s tr Z O fun ks => PA (.d x :: ks)) : WA K s (tCons ta tr) Z O PA := fun F σ G H c Q q =>
  h F σ G H c _ fun v x G1 H1 c1 e1 hx hp => hp F σ G1 H1 c1 _ fun vs ks G2 H2 c2 e2 hk p => q (v :: vs) (.d x :: ks) G2 H2 c2 (e1.trans e2) ⟨⟨v, rfl, dp_mono e2 _ _ hx⟩, hk⟩ p
/-- an argument that is no data: the box -/
theorem wa_raw {i : Nat} {w : V} (hi : Z[i]? = some (.v w)) (h : WA K s tr Z O fun ks => PA (.v w :: ks)) : WA K s (tCons (tVar i) tr) Z O PA := fun F σ G H c Q q => by
  obtain ⟨o, h1, h2⟩ := c.sl i _ hi
  have h2 : o = some w := h2
  subst h2
  exact ⟨w, h1, h F σ G H c _ fun vs ks G2 H2 c2 e2 hk p => q (w :: vs) (.v w :: ks) G2 H2 c2 e2 ⟨rfl, hk⟩ p⟩
/-- a built-in class as an argument -/
theorem wa_ty {n : String} (h : WA K s tr Z O fun ks => PA (.v (.ty n) :: ks)) : WA K s (tCons (tC (.ty n)) tr) Z O PA := fun F σ G H c Q q =>
  h F σ G H c _ fun vs ks G2 H2 c2 e2 hk p => q (.ty n :: vs) (.v (.ty n) :: ks) G2 H2 c2 e2 ⟨rfl, hk⟩ p
/-- kinds that are all data -/
def datas : List Sk → Option (List PyData)
  | [] => some []
  | .d x :: r => (datas r).map (x :: ·)
  | _ :: _ => none
theorem datas_ok {G : Hp} : ∀ {ks : List Sk} {vs : List V} {ds : List PyData}, datas ks = some ds → ArgOk K G vs ks → DpAll K G vs ds
  | [], [], _, h, _ => by
    cases h
    exact .nil
  | [], _ :: _, _, _, z => z.elim
  | .d x :: r, [], _, _, z => z.elim
  | .d x :: r, v :: vs, ds, h, z => by
    unfold datas at h
    cases q : datas r with
    | none => rw [q] at h; cases h
    | some es =>
      rw [q] at h
      cases h
      obtain ⟨⟨w, e, hd⟩, z2⟩ := z
      cases e
      exact .cons hd (datas_ok q z2)
  | .no :: r, _, _, h, _ => by cases h
  | .v _ :: r, _, _, h, _ => by cases h
theorem wl_lst (h : WA K s tr Z O fun ks => ∃ ds, datas ks = some ds ∧ ds.length ≤ 100000 ∧ PL ds) : WL K s (tLst tr) Z O PL := fun F σ G H c Q q =>
  h F σ G H c _ fun vs ks G1 H1 c1 e1 ha ⟨ds, hd, hl, p⟩ => by
    have da := datas_ok hd ha
    refine ⟨Evl.sz_of (by rw [dpa_len da]; exact hl), fun pp hp => q pp ds G1 _ (c1.newOwn hp da) e1 p⟩
theorem we_tup (h : WA K s tr Z O fun ks => ∃ ds, datas ks = some ds ∧ ds.length ≤ 100000 ∧ P (.tuple ds)) : WE K s (tTup tr) Z O P := fun F σ G H c Q q =>
  h F σ G H c _ fun vs ks G1 H1 c1 e1 ha ⟨ds, hd, hl, p⟩ => by
    have da := datas_ok hd ha
    refine ⟨Evl.sz_of (by rw [dpa_len da]; exact hl), fun pp hp => ?_⟩
    obtain ⟨c2, e2⟩ := c1.new (o := .tup vs) hp
    exact q (.ref pp) (.tuple ds) _ _ c2 (e1.trans e2) (.tup (.inl (.inl upd_same)) (dpa_mono e2 ds vs da)) p
end

/-! ### what a def promises, by data -/
/-- a def of data alone -/
def spP (K : PySem.W.Frag) (R : List PyData → (PyData → Prop) → Prop) : Sp := fun vs H Q _ => ∃ G ds, Ex G H ∧ DpAll K G vs ds ∧
  R ds fun d => ∀ v G' H', Ex G G' → Ex G' H' → Ex H H' → (∀ a o, H a = some o → G' a = G a) → Dp K G' v d → Q v H'
/-- a def whose first argument is the box -/
def spB (K : PySem.W.Frag) (R : List PyData → (PyData → Prop) → Prop) : Sp := fun vs H Q _ => ∃ b us G ds, vs = .ref b :: us ∧ Ex G H ∧ BoxOk K b G H ∧ DpAll K G us ds ∧
  R ds fun d => ∀ v G' H', Ex G G' → Ex G' H' → (∀ a o, a ≠ b → H a = some o → H' a = some o) → (∀ a o, H a = some o → G' a = G a) → BoxOk K b G' H' → Dp K G' v d → Q v H'
section
variable {K : PySem.W.Frag} {F : Fb} {s : Option Addr} {Z : List Sk} {O : Own} {P : PyData → Prop} {tr : TA} {R : List PyData → (PyData → Prop) → Prop} {E : XK}
theorem we_call (h : WA K s tr Z O fun ks => ∃ ds, datas ks = some ds ∧ R ds P) (mono : ∀ ds P Q, (∀ d, P d → Q d) → R ds P → R ds Q) : WE K s (tCall (spP K R) [] E tr) Z O P := fun F σ G H c Q q =>
  h F σ G H c _ fun vs ks G1 H1 c1 e1 ha ⟨ds, hd, hr⟩ => by
    show spP K R (vs ++ []) H1 Q E
    rw [List.append_nil]
    exact ⟨G1, ds, c1.ex, datas_ok hd ha, mono ds _ _ (fun d p v G' H' e e' hh k hv => q v d G' H' (c1.grow e e' hh k) (e1.trans e) hv p) hr⟩
theorem we_callB {b : Addr} (h : WA K (some b) tr Z O fun ks => ∃ ks' ds, ks = .v (.ref b) :: ks' ∧ datas ks' = some ds ∧ R ds P) (mono : ∀ ds P Q, (∀ d, P d → Q d) → R ds P → R ds Q) : WE K (some b) (tCall (spB K R) [] E tr) Z O P := fun F σ G H c Q q =>
  h F σ G H c _ fun vs ks G1 H1 c1 e1 ha ⟨ks', ds, ek, hd, hr⟩ => by
    show spB K R (vs ++ []) H1 Q E
    rw [List.append_nil]
    subst ek
    match vs, ha with
    | v :: us, ha =>
      obtain ⟨ev, ha⟩ := ha
      have ev : some v = some (.ref b) := ev
      cases ev
      exact ⟨b, us, G1, ds, rfl, c1.ex, c1.box b rfl, datas_ok hd ha, mono ds _ _ (fun d p v G' H' e e' hh k hb hv => q v d G' H' (c1.growB e e' hh k hb) (e1.trans e) hv p) hr⟩
/-- a built-in by what it does to data, the heap left -/
def NCall (K : PySem.W.Frag) (r : List V → Hp → VK → Prop) (ks : List Sk) (z : PyData) : Prop := ∀ vs G H (Q : VK), Ex G H → ArgOk K G vs ks → (∀ u, Dp K G u z → Q u H) → r vs H Q
theorem we_ncall {r : List V → Hp → VK → Prop} (h : WA K s tr Z O fun ks => ∃ z, NCall K r ks z ∧ P z) : WE K s (tCB r tr) Z O P := fun F σ G H c Q q =>
  h F σ G H c _ fun vs ks G1 H1 c1 e1 ha ⟨z, hz, p⟩ => hz vs G1 H1 Q c1.ex ha fun u hu => q u z G1 H1 c1 e1 hu p
theorem nc_gcd {i j : Int} : NCall K rGcd [.d (.int i), .d (.int j)] (.int ((Nat.gcd i.natAbs j.natAbs : Nat) : Int)) := fun vs G H Q _ ha q => by
  match vs, ha with
  | [v, w], ⟨⟨_, e1, h1⟩, ⟨_, e2, h2⟩, _⟩ =>
    cases e1
    cases e2
    cases h1
    cases h2
    exact ⟨i, j, rfl, q _ (.int _)⟩
end
end DL

/-! DLs: statements by data. -/
namespace DL
open PySem PySem.Spec PyProof.Rows L2
open Evl (Ex)

structure DE where
  nx : List Sk → Own → Prop
  rt : PyData → Prop
  bk : List Sk → Own → Prop := fun _ _ => False
  ct : List Sk → Own → Prop := fun _ _ => False
structure Conv (K : PySem.W.Frag) (F : Fb) (s : Option Addr) (D : DE) (E : Ends) : Prop where
  nx : ∀ Z O σ G H, Cfg K F s Z O σ G H → D.nx Z O → E.nx σ H
  rt : ∀ v d G H, Cfg K F s [] [] [] G H → Dp K G v d → D.rt d → E.rt v H
  bk : ∀ Z O σ G H, Cfg K F s Z O σ G H → D.bk Z O → E.bk σ H
  ct : ∀ Z O σ G H, Cfg K F s Z O σ G H → D.ct Z O → E.ct σ H
def SW (K : PySem.W.Frag) (s : Option Addr) (t : TS) (Z : List Sk) (O : Own) (D : DE) : Prop := ∀ (F : Fb) σ G H E, Cfg K F s Z O σ G H → Conv K F s D E → t E σ H

section
variable {K : PySem.W.Frag} {F : Fb} {s : Option Addr} {Z : List Sk} {O : Own} {D : DE} {t u : TS} {te ta tb : TE} {tt : TT}
theorem Conv.seq {E : Ends} (c : Conv K F s D E) : Conv K F s { D with nx := fun Z O => SW K s u Z O D } { E with nx := u E } :=
  ⟨fun Z O σ G H cf h => h F σ G H E cf c, c.rt, c.bk, c.ct⟩
theorem sw_seq (h : SW K s t Z O { D with nx := fun Z O => SW K s u Z O D }) : SW K s (tSeq t u) Z O D := fun F σ G H E c cv => h F σ G H _ c cv.seq
theorem sw_next (h : D.nx Z O) : SW K s tNext Z O D := fun F σ G H E c cv => cv.nx Z O σ G H c h
theorem sw_break (h : D.bk Z O) : SW K s tBreak Z O D := fun F σ G H E c cv => cv.bk Z O σ G H c h
theorem sw_cont (h : D.ct Z O) : SW K s tCont Z O D := fun F σ G H E c cv => cv.ct Z O σ G H c h
theorem sw_ret (h : WE K s te Z O D.rt) : SW K s (tRet te) Z O D := fun F σ G H E c cv => h F σ G H c _ fun v d G' H' c' e hd p => cv.rt v d G' H' c'.forget hd p
theorem sw_retN (h : D.rt .none) : SW K s tRetN Z O D := fun F σ G H E c cv => cv.rt .non .none G H c.forget .non h
theorem sw_drop (h : WE K s te Z O fun _ => D.nx Z O) : SW K s (tDrop te) Z O D := fun F σ G H E c cv => h F σ G H c _ fun v d G' H' c' e hd p => cv.nx Z O σ G' H' c' p
theorem sw_asg {i : Nat} (h : WE K s te Z O fun d => D.nx (Z.set i (.d d)) O) : SW K s (tAsg te (gName i)) Z O D := fun F σ G H E c cv =>
  h F σ G H c _ fun v d G' H' c' e hd p => cv.nx _ _ _ G' H' (c'.set (k := .d d) ⟨v, rfl, hd⟩) p
/-- a new list, kept as one's own -/
theorem sw_asgL {i : Nat} (h : WL K s te Z O fun ds => ∀ p, D.nx (Z.set i (.v (.ref p))) ((p, ds) :: O)) : SW K s (tAsg te (gName i)) Z O D := fun F σ G H E c cv =>
  h F σ G H c _ fun p ds G' H' c' e q => cv.nx _ _ _ G' H' (c'.set (k := .v (.ref p)) rfl) (q p)
theorem sw_if (h : WT K s tt Z O fun b => if b = true then SW K s t Z O D else SW K s u Z O D) : SW K s (tIfS tt t u) Z O D := fun F σ G H E c cv =>
  h F σ G H c _ fun b G1 H1 c1 e1 p => by
    cases b with
    | true =>
      rw [if_pos rfl] at p ⊢
      exact p F σ G1 H1 E c1 cv
    | false =>
      rw [if_neg Bool.false_ne_true] at p ⊢
      exact p F σ G1 H1 E c1 cv
/-- the own list at the head stands still from here on -/
theorem sw_freeze {p : Addr} {ds : List PyData} {i : Nat} (hi : Z[i]? = some (.v (.ref p))) (h : SW K s t (Z.set i (.d (.list ds))) O D) : SW K s t Z ((p, ds) :: O) D := fun F σ G H E c cv => by
  obtain ⟨G', c', e, hd⟩ := c.freeze
  obtain ⟨o, h1, h2⟩ := c'.sl i _ hi
  have h2 : o = some (.ref p) := h2
  subst h2
  have c2 := c'.set (i := i) (k := .d (.list ds)) (v := .ref p) ⟨.ref p, rfl, hd⟩
  have e2 : σ.set i (some (.ref p)) = σ := by
    apply List.ext_getElem?
    intro j
    by_cases z : i = j
    · subst z
      have hl := (List.getElem?_eq_some_iff.mp h1).1
      rw [List.getElem?_set_self hl, h1]
    · rw [List.getElem?_set_ne z]
  rw [e2] at c2
  exact h F σ G' H E c2 cv
/-- xs.append(e) on the own list at the head -/
theorem sw_app {p : Addr} {ds : List PyData} {i : Nat} (hi : Z[i]? = some (.v (.ref p))) (hl : ds.length < 100000) (h : WE K s te Z ((p, ds) :: O) fun d => D.nx Z ((p, ds ++ [d]) :: O)) :
    SW K s (tDrop (tBM K "list" rAppend (tVar i) (tCons te tNil))) Z ((p, ds) :: O) D := fun F σ G H E c cv => by
  obtain ⟨o, h1, h2⟩ := c.sl i _ hi
  have h2 : o = some (.ref p) := h2
  subst h2
  obtain ⟨_, _, _, vs0, b4, _⟩ := c.own p ds (List.mem_cons_self ..)
  refine ⟨.ref p, h1, .inl ⟨rfl, vs0, Evl.sq_of b4⟩, ?_⟩
  refine h F σ G H c _ fun v d G' H' c' e hd p' => ?_
  obtain ⟨_, _, _, vs, o4, o5⟩ := c'.own p ds (List.mem_cons_self ..)
  refine ⟨p, vs, v, rfl, rfl, o4, Evl.sz_lt (by rw [dpa_len o5]; exact hl), ?_⟩
  exact cv.nx _ _ _ _ _ (c'.setOwn (dpa_app o5 (.cons hd .nil))) p'
/-- xs[i] = e on the own list at the head -/
theorem sw_setL {p : Addr} {ds : List PyData} {i : Nat} (hi : Z[i]? = some (.v (.ref p)))
    (h : WE K s te Z ((p, ds) :: O) fun d => WE K s tb Z ((p, ds) :: O) fun y => ∃ k j, y = .int k ∧ ixN ds.length k = some j ∧ D.nx Z ((p, ds.set j d) :: O)) :
    SW K s (tAsg te (gSub (tVar i) tb rSetL)) Z ((p, ds) :: O) D := fun F σ G H E c cv => by
  obtain ⟨o, h1, h2⟩ := c.sl i _ hi
  have h2 : o = some (.ref p) := h2
  subst h2
  refine h F σ G H c _ fun v d G' H' c' e hd p' => ?_
  refine ⟨.ref p, h1, ?_⟩
  refine p' F σ G' H' c' _ fun w y G2 H2 c2 e2 hy ⟨k, j, ey, hj, q⟩ => ?_
  subst ey
  cases hy
  obtain ⟨_, _, _, vs, o4, o5⟩ := c2.own p ds (List.mem_cons_self ..)
  refine ⟨p, vs, k, j, rfl, rfl, o4, by rw [dpa_len o5]; exact hj, ?_⟩
  exact cv.nx _ _ _ _ _ (c2.setOwn (dpa_set (dp_mono e2 _ _ hd) j o5)) q
/-- the same of the next own list but one -/
theorem Cfg.swap {p q : Addr × List PyData} {σ : L2.St} {G H : Hp} (c : Cfg K F s Z (p :: q :: O) σ G H) : Cfg K F s Z (q :: p :: O) σ G H := by
  refine ⟨c.len, c.sl, c.ex, c.box, c.bxM, fun a ds h => c.own a ds ?_, ?_, c.e0, c.h0, c.h1, c.g0⟩
  · simp only [List.mem_cons] at h ⊢
    rcases h with h | h | h
    · exact .inr (.inl h)
    · exact .inl h
    · exact .inr (.inr h)
  · have nd := c.nd
    simp only [List.map_cons, List.nodup_cons, List.mem_cons, not_or] at nd ⊢
    exact ⟨⟨fun z => nd.1.1 z.symm, nd.2.1⟩, nd.1.2, nd.2.2⟩
theorem sw_swap {p q : Addr × List PyData} (h : SW K s t Z (q :: p :: O) D) : SW K s t Z (p :: q :: O) D := fun F σ G H E c cv => h F σ G H E c.swap cv
/-- a slot's word let go of, or told otherwise -/
theorem sw_imp {D' : DE} (h : SW K s t Z O D') (hn : ∀ Z O, D'.nx Z O → D.nx Z O) (hr : ∀ d, D'.rt d → D.rt d) (hb : ∀ Z O, D'.bk Z O → D.bk Z O) (hc : ∀ Z O, D'.ct Z O → D.ct Z O) : SW K s t Z O D := fun F σ G H E c cv =>
  h F σ G H E c ⟨fun Z O σ G H c h => cv.nx Z O σ G H c (hn Z O h), fun v d G H c hd h => cv.rt v d G H c hd (hr d h), fun Z O σ G H c h => cv.bk Z O σ G H c (hb Z O h), fun Z O σ G H c h => cv.ct Z O σ G H c (hc Z O h)⟩

/-- a statement, then the rest, by a word between them -/
theorem sw_cut (M : List Sk → Own → Prop) (h : SW K s t Z O { D with nx := M }) (k : ∀ Z' O', M Z' O' → SW K s u Z' O' D) : SW K s (tSeq t u) Z O D :=
  sw_seq (sw_imp h k (fun _ h => h) (fun _ _ h => h) (fun _ _ h => h))
/-! ### targets -/
/-- what a target does with a datum -/
def GW (K : PySem.W.Frag) (s : Option Addr) (g : TG) (d : PyData) (Z : List Sk) (O : Own) (N : List Sk → Own → Prop) : Prop :=
  ∀ (F : Fb) v σ G H, Cfg K F s Z O σ G H → Dp K G v d → ∀ Q : L2.St → Hp → Prop, (∀ Z' O' σ' G' H', Cfg K F s Z' O' σ' G' H' → Ex G G' → N Z' O' → Q σ' H') → g v σ H Q
theorem gw_name {i : Nat} {d : PyData} {N : List Sk → Own → Prop} (h : N (Z.set i (.d d)) O) : GW K s (gName i) d Z O N := fun F v σ G H c hd Q q => q _ _ _ G H (c.set (k := .d d) ⟨v, rfl, hd⟩) (Evl.Ex.refl _) h
def GWs (K : PySem.W.Frag) (s : Option Addr) (g : TGs) (ds : List PyData) (Z : List Sk) (O : Own) (N : List Sk → Own → Prop) : Prop :=
  ∀ (F : Fb) vs σ G H, Cfg K F s Z O σ G H → DpAll K G vs ds → ∀ Q : L2.St → Hp → Prop, (∀ Z' O' σ' G' H', Cfg K F s Z' O' σ' G' H' → Ex G G' → N Z' O' → Q σ' H') → g vs σ H Q
theorem gws_nil {N : List Sk → Own → Prop} (h : N Z O) : GWs K s gNil [] Z O N := fun F vs σ G H c hd Q q => by
  cases hd
  exact ⟨rfl, q _ _ _ G H c (Evl.Ex.refl _) h⟩
theorem gws_name {i : Nat} {g : TGs} {d : PyData} {ds : List PyData} {N : List Sk → Own → Prop} (h : GWs K s g ds (Z.set i (.d d)) O N) : GWs K s (gCons (gName i) g) (d :: ds) Z O N := fun F vs σ G H c hd Q q => by
  cases hd with
  | cons h1 h2 => exact ⟨_, _, rfl, h F _ _ G H (c.set (k := .d d) ⟨_, rfl, h1⟩) h2 Q q⟩
theorem gw_tup {n : Nat} {g : TGs} {ds : List PyData} {N : List Sk → Own → Prop} (hn : ds.length = n) (h : GWs K s g ds Z O N) : GW K s (gTup K n g) (.tuple ds) Z O N := fun F v σ G H c hd Q q => by
  cases hd with
  | tup hs ha => exact ⟨_, _, rfl, Evl.ex_t c.ex hs, by rw [dpa_len ha]; exact hn, h F _ σ G H c ha Q q⟩
theorem sw_asgG {g : TG} (h : WE K s te Z O fun d => GW K s g d Z O D.nx) : SW K s (tAsg te g) Z O D := fun F σ G H E c cv =>
  h F σ G H c _ fun v d G' H' c' e hd p => p F v σ G' H' c' hd _ fun Z' O' σ' G2 H2 c2 _ n => cv.nx _ _ _ _ _ c2 n
/-- a, b = e1, e2 -/
theorem sw_par {i j : Nat} (h : WE K s ta Z O fun x => WE K s tb Z O fun y => D.nx ((Z.set i (.d x)).set j (.d y)) O) : SW K s (tPar i j (tCons ta (tCons tb tNil))) Z O D := fun F σ G H E c cv =>
  h F σ G H c _ fun v x G1 H1 c1 e1 hx p => p F σ G1 H1 c1 _ fun w y G2 H2 c2 e2 hy q =>
    ⟨v, w, rfl, cv.nx _ _ _ G2 H2 ((c2.set (k := .d x) ⟨v, rfl, dp_mono e2 _ _ hx⟩).set (k := .d y) ⟨w, rfl, hy⟩) q⟩
theorem sw_par3 {i j l : Nat} {tc : TE} (h : WE K s ta Z O fun x => WE K s tb Z O fun y => WE K s tc Z O fun z => D.nx (((Z.set i (.d x)).set j (.d y)).set l (.d z)) O) : SW K s (tPar3 i j l (tCons ta (tCons tb (tCons tc tNil)))) Z O D := fun F σ G H E c cv =>
  h F σ G H c _ fun v x G1 H1 c1 e1 hx p => p F σ G1 H1 c1 _ fun w y G2 H2 c2 e2 hy q => q F σ G2 H2 c2 _ fun u z G3 H3 c3 e3 hz r =>
    ⟨v, w, u, rfl, cv.nx _ _ _ G3 H3 (((c3.set (k := .d x) ⟨v, rfl, dp_mono (e2.trans e3) _ _ hx⟩).set (k := .d y) ⟨w, rfl, dp_mono e3 _ _ hy⟩).set (k := .d z) ⟨u, rfl, hz⟩) r⟩
theorem sw_aug {i : Nat} {f : Int → Int → Int} {a : Int} (hi : Z[i]? = some (.d (.int a))) (h : WE K s te Z O fun y => ∃ b, y = .int b ∧ D.nx (Z.set i (.d (.int (f a b)))) O) : SW K s (tAug i te (ipI f)) Z O D := fun F σ G H E c cv => by
  obtain ⟨o, h1, v, h2, h3⟩ := c.sl i _ hi
  subst h2
  cases h3
  exact ⟨.int a, h1, h F σ G H c _ fun w y G1 H1 c1 e1 hy ⟨b, ey, p⟩ => by
    subst ey
    cases hy
    exact ⟨a, b, rfl, rfl, cv.nx _ _ _ G1 H1 (c1.set (k := .d (.int (f a b))) ⟨_, rfl, .int _⟩) p⟩⟩

/-! ### loops -/
/-- what is walked, by data: n turns, the i-th datum -/
def IW (K : PySem.W.Frag) (s : Option Addr) (wi : TI) (Z : List Sk) (O : Own) (P : Nat → (Nat → PyData → Prop) → Prop) : Prop :=
  ∀ (F : Fb) σ G H, Cfg K F s Z O σ G H → ∀ R : It → Hp → Prop, (∀ (J : It) (n : Nat) (Yd : Nat → PyData → Prop) (G1 H1 : Hp), Cfg K F s Z O σ G1 H1 → Ex G G1 → P n Yd →
    (∀ i G2 H2, Ex G1 G2 → Ex G2 H2 → (i < n → J.go i H2) ∧ (i = n → J.stop i H2) ∧ ∀ x H3, i < n → J.yld i H2 x H3 →
      ∃ d, Yd i d ∧ ((H3 = H2 ∧ Dp K G2 x d) ∨ ∃ T vs, x = .ref T ∧ H2 T = none ∧ H3 = upd H2 T (.tup vs) ∧ ∃ ds, d = .tuple ds ∧ DpAll K G2 vs ds)) → R J H1) → wi σ H R
theorem Cfg.rebase {Z' : List Sk} {O' : Own} {σ σ' : L2.St} {G1 H1 G2 H2 : Hp} (c : Cfg K F s Z O σ G2 H2) (c1 : Cfg K F s Z' O' σ' G1 H1) (e : Ex G1 G2) : Cfg K { F with G := G1 } s Z O σ G2 H2 :=
  ⟨c.len, c.sl, c.ex, c.box, c.bxM, c.own, c.nd, e, c.h0, c.h1, fun a o h => (c.g0 a o h).trans (c1.g0 a o h).symm⟩
theorem Cfg.unbase {Z' : List Sk} {O' : Own} {σ σ' : L2.St} {G1 H1 G2 H2 : Hp} (c : Cfg K { F with G := G1 } s Z O σ G2 H2) (c1 : Cfg K F s Z' O' σ' G1 H1) : Cfg K F s Z O σ G2 H2 :=
  ⟨c.len, c.sl, c.ex, c.box, c.bxM, c.own, c.nd, c1.e0.trans c.e0, c.h0, c.h1, fun a o h => (c.g0 a o h).trans (c1.g0 a o h)⟩
/-- for: an invariant over the turn, the slots' words and the own lists -/
theorem sw_for {wi : TI} {g : TG} {tb : TS} (I : Nat → List Sk → Own → Prop) (n : Nat) (Yd : Nat → PyData → Prop) (hw : IW K s wi Z O fun n' Y' => n' = n ∧ Y' = Yd) (h0 : I 0 Z O)
    (hs : ∀ i d Z' O', i < n → Yd i d → I i Z' O' → GW K s g d Z' O' fun Z2 O2 => SW K s tb Z2 O2 { D with nx := I (i + 1), ct := I (i + 1), bk := D.nx }) (hd : ∀ Z' O', I n Z' O' → D.nx Z' O') : SW K s (tFor wi g tb) Z O D := fun F σ G H E c cv =>
  hw F σ G H c _ fun J n' Y' G1 H1 c1 e1 ⟨en, ey⟩ hj => by
    subst en ey
    refine ⟨fun i m σ2 H2 => m = n' - i ∧ i ≤ n' ∧ ∃ Z2 O2 G2, Cfg K { F with G := G1 } s Z2 O2 σ2 G2 H2 ∧ I i Z2 O2, ⟨_, rfl, Nat.zero_le _, Z, O, G1, c1.rebase c1 (Evl.Ex.refl _), h0⟩, ?_⟩
    rintro i m σ2 H2 ⟨rfl, hi, Z2, O2, G2, c2, inv⟩
    obtain ⟨j1, j2, j3⟩ := hj i G2 H2 c2.e0 c2.ex
    by_cases hlt : i < n'
    · refine .inr ⟨j1 hlt, fun σ' H' => ∃ Z2 O2 G2, Cfg K { F with G := G1 } s Z2 O2 σ' G2 H' ∧ I (i + 1) Z2 O2, fun σ' H' p' => ⟨n' - (i + 1), by omega, rfl, hlt, p'⟩, fun x H3 hy => ?_⟩
      obtain ⟨d, hd', hcase⟩ := j3 x H3 hlt hy
      have main : ∀ (G3 : Hp), Cfg K { F with G := G1 } s Z2 O2 σ2 G3 H3 → Dp K G3 x d → g x σ2 H3 fun σ4 H4 => tb { E with nx := fun σ' H' => ∃ Z2 O2 G2, Cfg K { F with G := G1 } s Z2 O2 σ' G2 H' ∧ I (i + 1) Z2 O2, ct := fun σ' H' => ∃ Z2 O2 G2, Cfg K { F with G := G1 } s Z2 O2 σ' G2 H' ∧ I (i + 1) Z2 O2, bk := E.nx } σ4 H4 := fun G3 c3 hx =>
        hs i d Z2 O2 hlt hd' inv _ x σ2 G3 H3 c3 hx _ fun Z4 O4 σ4 G4 H4 c4 _ body => body _ σ4 G4 H4 _ c4
          ⟨fun Z O σ G H c h => ⟨Z, O, G, c, h⟩, fun v d G H c hd h => cv.rt v d G H (c.unbase c1) hd h, fun Z O σ G H c h => cv.nx Z O σ G H (c.unbase c1) h, fun Z O σ G H c h => ⟨Z, O, G, c, h⟩⟩
      rcases hcase with ⟨e3, hx⟩ | ⟨T, vs, ex, hT, e3, ds, ed, hds⟩
      · subst e3
        exact main G2 c2 hx
      · subst e3 ex ed
        obtain ⟨c3, e4⟩ := c2.new (o := .tup vs) hT
        exact main _ c3 (.tup (.inl (.inl upd_same)) (dpa_mono e4 ds vs hds))
    · have e : i = n' := by omega
      subst e
      exact .inl ⟨j2 rfl, cv.nx _ _ _ _ _ (c2.unbase c1) (hd _ _ inv)⟩
/-- the same by data and slots: W, a word over the turn and the slots -/
theorem iw_list {tl : TE} {P : Nat → (Nat → PyData → Prop) → Prop} (h : WE K s tl Z O fun x => ∃ ds, x = .list ds ∧ P ds.length fun i d => ds[i]? = some d) : IW K s (iList K tl) Z O P := fun F σ G H c R r =>
  h F σ G H c _ fun v x G1 H1 c1 e1 hx ⟨ds, ex, p⟩ => by
    subst ex
    cases hx with
    | @lst a vs _ hs ha =>
      refine ⟨a, rfl, ⟨vs, Evl.ex_l c1.ex hs⟩, r _ _ _ G1 H1 c1 e1 p fun i G2 H2 e2 e3 => ⟨fun hi => ?_, fun hi => ?_, fun x H3 hi hy => ?_⟩⟩
      · exact ⟨vs, vs[i]'(by rw [dpa_len ha]; exact hi), Evl.ex_l (e2.trans e3) hs, List.getElem?_eq_getElem _⟩
      · exact ⟨vs, Evl.ex_l (e2.trans e3) hs, by rw [dpa_len ha, hi]; exact Nat.le_refl _⟩
      · obtain ⟨h1, h2⟩ := hy
        obtain ⟨d, q1, q2⟩ := dpa_at ha (h2 vs (Evl.ex_l (e2.trans e3) hs))
        exact ⟨d, q1, .inl ⟨h1, dp_mono e2 _ _ q2⟩⟩
theorem iw_tup {tl : TE} {P : Nat → (Nat → PyData → Prop) → Prop} (h : WE K s tl Z O fun x => ∃ ds, x = .tuple ds ∧ P ds.length fun i d => ds[i]? = some d) : IW K s (iTup K tl) Z O P := fun F σ G H c R r =>
  h F σ G H c _ fun v x G1 H1 c1 e1 hx ⟨ds, ex, p⟩ => by
    subst ex
    cases hx with
    | @tup a vs _ hs ha =>
      refine ⟨a, rfl, ⟨vs, Evl.ex_t c1.ex hs⟩, r _ _ _ G1 H1 c1 e1 p fun i G2 H2 e2 e3 => ⟨fun hi => ?_, fun hi => ?_, fun x H3 hi hy => ?_⟩⟩
      · exact ⟨vs, vs[i]'(by rw [dpa_len ha]; exact hi), Evl.ex_t (e2.trans e3) hs, List.getElem?_eq_getElem _⟩
      · exact ⟨vs, Evl.ex_t (e2.trans e3) hs, by rw [dpa_len ha, hi]; exact Nat.le_refl _⟩
      · obtain ⟨h1, h2⟩ := hy
        obtain ⟨d, q1, q2⟩ := dpa_at ha (h2 vs (Evl.ex_t (e2.trans e3) hs))
        exact ⟨d, q1, .inl ⟨h1, dp_mono e2 _ _ q2⟩⟩
theorem iw_rng1 {ta : TA} {P : Nat → (Nat → PyData → Prop) → Prop} (h : WA K s ta Z O fun ks => ∃ j : Int, ks = [.d (.int j)] ∧ (-(2 ^ 62) ≤ j ∧ j < 2 ^ 62) ∧ P j.toNat fun i d => d = .int (i : Nat)) : IW K s (iRng1 ta) Z O P := fun F σ G H c R r =>
  h F σ G H c _ fun vs ks G1 H1 c1 e1 ha ⟨j, ek, ⟨hj1, hj2⟩, p⟩ => by
    subst ek
    match vs, ha with
    | [v], ⟨⟨_, ev, hv⟩, _⟩ =>
      cases ev
      cases hv
      refine ⟨j, rfl, hj1, hj2, r _ _ _ G1 H1 c1 e1 p fun i G2 H2 e2 e3 => ⟨fun hi => hi, fun hi => Nat.le_of_eq hi.symm, fun x H3 hi hy => ?_⟩⟩
      obtain ⟨h1, h2⟩ := hy
      subst h2
      exact ⟨_, rfl, .inl ⟨h1, by rw [Int.zero_add]; exact .int _⟩⟩
theorem iw_rng2 {ta : TA} {P : Nat → (Nat → PyData → Prop) → Prop} (h : WA K s ta Z O fun ks => ∃ l j : Int, ks = [.d (.int l), .d (.int j)] ∧ (-(2 ^ 62) ≤ l ∧ l < 2 ^ 62 ∧ -(2 ^ 62) ≤ j ∧ j < 2 ^ 62) ∧ P (j - l).toNat fun i d => d = .int (l + (i : Nat))) : IW K s (iRng2 ta) Z O P := fun F σ G H c R r =>
  h F σ G H c _ fun vs ks G1 H1 c1 e1 ha ⟨l, j, ek, hb, p⟩ => by
    subst ek
    match vs, ha with
    | [v, w], ⟨⟨_, ev, hv⟩, ⟨_, ew, hw⟩, _⟩ =>
      cases ev
      cases ew
      cases hv
      cases hw
      refine ⟨l, j, rfl, hb, r _ _ _ G1 H1 c1 e1 p fun i G2 H2 e2 e3 => ⟨fun hi => hi, fun hi => Nat.le_of_eq hi.symm, fun x H3 hi hy => ?_⟩⟩
      obtain ⟨h1, h2⟩ := hy
      subst h2
      exact ⟨_, rfl, .inl ⟨h1, .int _⟩⟩
/-- zip of two lists or of two tuples -/
theorem iw_zipA {ta : TA} {P : Nat → (Nat → PyData → Prop) → Prop} (h : WA K s ta Z O fun ks => ∃ ds es, (ks = [.d (.list ds), .d (.list es)] ∨ ks = [.d (.tuple ds), .d (.tuple es)]) ∧
    P (min ds.length es.length) fun i d => ∃ x y, ds[i]? = some x ∧ es[i]? = some y ∧ d = .tuple [x, y]) : IW K s (RZ.iZipA K ta) Z O P := fun F σ G H c R r =>
  h F σ G H c _ fun vs ks G1 H1 c1 e1 ha ⟨ds, es, ek, p⟩ => by
    rcases ek with ek | ek
    · subst ek
      match vs, ha with
      | [v, w], ⟨⟨_, ev, hv⟩, ⟨_, ew, hw⟩, _⟩ =>
        cases ev
        cases ew
        cases hv with
        | @lst a xs _ hs ha =>
          cases hw with
          | @lst b ys _ ht hb =>
            refine ⟨a, b, xs, ys, rfl, .inl ⟨Evl.ex_l c1.ex hs, Evl.ex_l c1.ex ht, r _ _ _ G1 H1 c1 e1 p fun i G2 H2 e2 e3 => ?_⟩⟩
            have W := walk_zip (K := K) (a := a) (b := b) (xs := xs) (ys := ys) (n := min ds.length es.length) (by rw [dpa_len ha, dpa_len hb])
            have GG : SqL K H2 a xs ∧ SqL K H2 b ys := ⟨Evl.ex_l (e2.trans e3) hs, Evl.ex_l (e2.trans e3) ht⟩
            refine ⟨fun hi => W.goes i H2 hi GG, fun hi => by rw [hi]; exact W.stops H2 GG, fun x H3 hi hy => ?_⟩
            obtain ⟨T, x1, y1, q1, q2, q3, q4, q5⟩ := W.yields i H2 x H3 hi GG hy
            obtain ⟨dx, r1, r2⟩ := dpa_at ha q4
            obtain ⟨dy, s1, s2⟩ := dpa_at hb q5
            exact ⟨_, ⟨dx, dy, r1, s1, rfl⟩, .inr ⟨T, [x1, y1], q1, q2, q3, _, rfl, .cons (dp_mono e2 _ _ r2) (.cons (dp_mono e2 _ _ s2) .nil)⟩⟩
    · subst ek
      match vs, ha with
      | [v, w], ⟨⟨_, ev, hv⟩, ⟨_, ew, hw⟩, _⟩ =>
        cases ev
        cases ew
        cases hv with
        | @tup a xs _ hs ha =>
          cases hw with
          | @tup b ys _ ht hb =>
            refine ⟨a, b, xs, ys, rfl, .inr ⟨Evl.ex_t c1.ex hs, Evl.ex_t c1.ex ht, r _ _ _ G1 H1 c1 e1 p fun i G2 H2 e2 e3 => ?_⟩⟩
            have qa := Evl.ex_t (e2.trans e3) hs
            have qb := Evl.ex_t (e2.trans e3) ht
            have la := dpa_len ha
            have lb := dpa_len hb
            refine ⟨fun hi => ?_, fun hi => ?_, fun x H3 hi hy => ?_⟩
            · exact ⟨xs, ys, xs[i]'(by omega), ys[i]'(by omega), qa, qb, List.getElem?_eq_getElem _, List.getElem?_eq_getElem _⟩
            · exact ⟨xs, ys, qa, qb, by omega⟩
            · obtain ⟨T, x1, y1, q1, q2, q3, q4, q5⟩ := hy
              obtain ⟨dx, r1, r2⟩ := dpa_at ha (q4 xs qa)
              obtain ⟨dy, s1, s2⟩ := dpa_at hb (q5 ys qb)
              exact ⟨_, ⟨dx, dy, r1, s1, rfl⟩, .inr ⟨T, [x1, y1], q1, q2, q3, _, rfl, .cons (dp_mono e2 _ _ r2) (.cons (dp_mono e2 _ _ s2) .nil)⟩⟩
/-- while: an invariant and a measure over the slots' words -/
theorem sw_while {tb : TS} (I : Nat → List Sk → Own → Prop) (m0 : Nat) (h0 : I m0 Z O)
    (hs : ∀ m Z' O', I m Z' O' → WT K s tt Z' O' fun b => if b = true then SW K s tb Z' O' { D with nx := fun Z2 O2 => ∃ m', m' < m ∧ I m' Z2 O2, ct := fun Z2 O2 => ∃ m', m' < m ∧ I m' Z2 O2, bk := D.nx } else D.nx Z' O') : SW K s (tWhile tt tb) Z O D := fun F σ G H E c cv => by
  refine ⟨fun m σ2 H2 => ∃ Z2 O2 G2, Cfg K F s Z2 O2 σ2 G2 H2 ∧ I m Z2 O2, ⟨m0, Z, O, G, c, h0⟩, ?_⟩
  rintro m σ2 H2 ⟨Z2, O2, G2, c2, inv⟩
  refine hs m Z2 O2 inv F σ2 G2 H2 c2 _ fun b G3 H3 c3 e3 p => ?_
  cases b with
  | true =>
    rw [if_pos rfl] at p ⊢
    refine ⟨fun σ' H' => ∃ m', m' < m ∧ ∃ Z2 O2 G2, Cfg K F s Z2 O2 σ' G2 H' ∧ I m' Z2 O2, fun σ' H' ⟨m', hm, q⟩ => ⟨m', hm, q⟩, ?_⟩
    exact p F σ2 G3 H3 _ c3 ⟨fun Z O σ G H c ⟨m', hm, h⟩ => ⟨m', hm, Z, O, G, c, h⟩, cv.rt, fun Z O σ G H c h => cv.nx Z O σ G H c h, fun Z O σ G H c ⟨m', hm, h⟩ => ⟨m', hm, Z, O, G, c, h⟩⟩
  | false =>
    rw [if_neg Bool.false_ne_true] at p ⊢
    exact cv.nx _ _ _ _ _ c3 p

/-! ### comprehensions -/
/-- the slots' words with the block's own forgotten -/
def wipeZ (Z : List Sk) : List Nat → List Sk
  | [] => Z
  | v :: vs => (wipeZ Z vs).set v .no
theorem wipe_cfg {σ : L2.St} {G H : Hp} (c : Cfg K F s Z O σ G H) : ∀ vs, Cfg K F s (wipeZ Z vs) O (wipe σ vs) G H
  | [] => c
  | v :: vs => by
    have c2 := wipe_cfg c vs
    refine c2.slots ?_ fun i k hk => ?_
    · show ((wipe σ vs).set v none).length = ((wipeZ Z vs).set v .no).length
      rw [List.length_set, List.length_set]
      exact c2.len
    · show ∃ o, ((wipe σ vs).set v none)[i]? = some o ∧ SkOk K G k o
      have hk : ((wipeZ Z vs).set v .no)[i]? = some k := hk
      by_cases z : v = i
      · subst z
        have hi : v < (wipeZ Z vs).length := by
          have := (List.getElem?_eq_some_iff.mp hk).1
          rwa [List.length_set] at this
        rw [List.getElem?_set_self hi] at hk
        cases hk
        exact ⟨none, List.getElem?_set_self (by rw [c2.len]; exact hi), True.intro⟩
      · rw [List.getElem?_set_ne z] at hk ⊢
        exact c2.sl i k hk
/-- [e for target in iter if test]: I by the turn and what is made so far; ow: the target's stores touch the block's own names alone -/
theorem wl_lc {wi : TI} {g : TG} {tt : TT} {te : TE} {vs : List Nat} {PL : List PyData → Prop} (I : Nat → List PyData → Prop) (n : Nat) (Yd : Nat → PyData → Prop) (hw : IW K s wi Z O fun n' Y' => n' = n ∧ Y' = Yd) (h0 : I 0 []) (hn : n ≤ 50000)
    (hil : ∀ i acc, I i acc → acc.length ≤ i)
    (ow : ∀ x σ H (Q : L2.St → Hp → Prop), g x (wipe σ vs) H (fun σ2 H2 => wipe σ2 vs = wipe σ vs → Q σ2 H2) → g x (wipe σ vs) H fun σ2 H2 => wipe σ2 vs = wipe σ vs ∧ Q σ2 H2)
    (hs : ∀ i d acc p, i < n → Yd i d → I i acc → GW K s g d (wipeZ Z vs) ((p, acc) :: O) fun Z2 O2 => O2 = (p, acc) :: O ∧ WT K s tt Z2 O2 fun b => if b = true then WE K s te Z2 O2 fun y => I (i + 1) (acc ++ [y]) else I (i + 1) acc)
    (hd : ∀ acc, I n acc → PL acc) : WL K s (tLc wi g tt te vs) Z O PL := fun F σ G H c Q q =>
  hw F σ G H c _ fun J n' Y' G1 H1 c1 e1 ⟨en, ey⟩ hj => by
    subst en ey
    intro Dl hD
    have c1r := (c1.rebase c1 (Evl.Ex.refl _)).newOwn (vs := []) hD .nil
    refine ⟨fun i m H2 => m = n' - i ∧ i ≤ n' ∧ ∃ acc G2, Cfg K { F with G := G1 } s Z ((Dl, acc) :: O) σ G2 H2 ∧ I i acc, ⟨_, rfl, Nat.zero_le _, [], G1, c1r, h0⟩, ?_⟩
    rintro i m H2 ⟨rfl, hi, acc, G2, c2, inv⟩
    obtain ⟨j1, j2, j3⟩ := hj i G2 H2 c2.e0 c2.ex
    by_cases hlt : i < n'
    · refine .inr ⟨j1 hlt, fun H' => ∃ acc G2, Cfg K { F with G := G1 } s Z ((Dl, acc) :: O) σ G2 H' ∧ I (i + 1) acc, fun H' p' => ⟨n' - (i + 1), by omega, rfl, hlt, p'⟩, fun x H3 hy => ?_⟩
      obtain ⟨d, hd', hcase⟩ := j3 x H3 hlt hy
      have main : ∀ (G3 : Hp), Cfg K { F with G := G1 } s Z ((Dl, acc) :: O) σ G3 H3 → Dp K G3 x d → g x (wipe σ vs) H3 fun σ2 H2 => wipe σ2 vs = wipe σ vs ∧ tt σ2 H2 fun b H3 =>
          if b = true then te σ2 H3 fun y H4 => ∃ acc, H4 Dl = some (.lst acc) ∧ acc.length < sizeLine ∧ (∃ acc2 G2, Cfg K { F with G := G1 } s Z ((Dl, acc2) :: O) σ G2 (upd H4 Dl (.lst (acc ++ [y]))) ∧ I (i + 1) acc2) else ∃ acc G2, Cfg K { F with G := G1 } s Z ((Dl, acc) :: O) σ G2 H3 ∧ I (i + 1) acc := fun G3 c3 hx => by
        refine ow x σ H3 _ ?_
        refine hs i d acc Dl hlt hd' inv _ x (wipe σ vs) G3 H3 (wipe_cfg c3 vs) hx _ fun Z4 O4 σ4 G4 H4 c4 e34 ⟨eo, body⟩ hwp => ?_
        subst eo
        have back : ∀ {acc' : List PyData} {G5 H5 : Hp}, Cfg K { F with G := G1 } s Z4 ((Dl, acc') :: O) σ4 G5 H5 → Ex G3 G5 → Cfg K { F with G := G1 } s Z ((Dl, acc') :: O) σ G5 H5 := fun c5 e5 =>
          c5.slots c3.len fun j k hk => by
            obtain ⟨o, h1, h2⟩ := c3.sl j k hk
            exact ⟨o, h1, h2.mono e5⟩
        refine body _ σ4 G4 H4 c4 _ fun b G5 H5 c5 e5 pb => ?_
        cases b with
        | false =>
          rw [if_neg Bool.false_ne_true] at pb ⊢
          exact ⟨acc, G5, back c5 (e34.trans e5), pb⟩
        | true =>
          rw [if_pos rfl] at pb ⊢
          refine pb _ σ4 G5 H5 c5 _ fun y dy G6 H6 c6 e6 hy pi => ?_
          obtain ⟨_, _, _, us, o4, o5⟩ := c6.own Dl acc (List.mem_cons_self ..)
          refine ⟨us, o4, Evl.sz_lt ?_, acc ++ [dy], G6, (back c6 ((e34.trans e5).trans e6)).setOwn (dpa_app o5 (.cons hy .nil)), pi⟩
          have := hil i acc inv
          rw [dpa_len o5]
          omega
      rcases hcase with ⟨e3, hx⟩ | ⟨T, vs, ex, hT, e3, ds, ed, hds⟩
      · subst e3
        exact main G2 c2 hx
      · subst e3 ex ed
        obtain ⟨c3, e4⟩ := c2.new (o := .tup vs) hT
        exact main _ c3 (.tup (.inl (.inl upd_same)) (dpa_mono e4 ds vs hds))
    · have e : i = n' := by omega
      subst e
      exact .inl ⟨j2 rfl, q _ _ _ _ (c2.unbase c1) (e1.trans c2.e0) (hd _ inv)⟩
end
end DL

/-! DLf: defs by data, built-ins by data, the box. -/
namespace DL
open PySem PySem.Spec PyProof.Rows L2
open Evl (Ex)

/-! ### a def that may be called -/
structure Def (P : Program) (w : World) (K : PySem.W.Frag) (mg : Str → Option Value) (base : Heap) (x : Str) (k : Nat) (ps : List Str) (sp : Sp) : Prop where
  ex : ∃ f fd, mg x = some (.ref f) ∧ PySem.W.keepIn K (.ref f) = true ∧ Binds K fd ps [] ∧ FnOk P w K mg base CX0 k f fd ps sp
/-- a def as it stands behind the top -/
structure FunAt (K : PySem.W.Frag) (mg : Str → Option Value) (x : Str) (st : Stmt) (ps : List Str) : Prop where
  ex : ∃ f fd, Fun K x x st f fd ∧ mg x = some (.ref f) ∧ Binds K fd ps []
section
variable {X : Cx} {k j : Nat} {ps : List Str} {sp : Sp} {x : Str} {p pos : Pos} {e : Expr} {es : List Expr} {t : TA}
theorem pe_def (D : Def X.prog X.w X.K X.mg X.base x k ps sp) (hr : Room j X.A) (hk : k ≤ j) (hg : Gl X x) (ha : PA X (e :: es) t) (hdb : (x == ("__debug__" : Str)) = false := by decide)
    (he : starEach (e :: es) X.env = (false, eval e X.env) :: starEach es X.env := by rfl) (hpl : (backTo pos (starEach es X.env)).any (·.1) = false := by rfl) : PE X (.Call (.Name x p) (e :: es) [] pos) (tCall sp [] E0 t) := by
  obtain ⟨f, fd, h1, h2, h3, h4⟩ := D.ex
  exact pe_call h4 (hr.mono hk) hg h1 h2 h3 .nil pass0 ha hdb he hpl
end
section
variable {P : Program} {w : World} {K : PySem.W.Frag} {mg : Str → Option Value} {base : Heap} {x : Str} {st : Stmt} {N ps : List Str} {k : Nat} {R : List PyData → (PyData → Prop) → Prop}
/-- the slots at the start -/
def Z0 (N : List Str) (ks : List Sk) : List Sk := ks ++ List.replicate (N.length - ks.length) .no
theorem sl_start {G : Hp} {N : List Str} : ∀ {ks : List Sk} {vs : List V}, ArgOk K G vs ks → (L2.start N vs).length = (Z0 N ks).length ∧ ∀ (i : Nat) (k : Sk), (Z0 N ks)[i]? = some k → ∃ o, (L2.start N vs)[i]? = some o ∧ SkOk K G k o := fun {ks vs} h => by
  have hl : ∀ {ks : List Sk} {vs : List V}, ArgOk K G vs ks → vs.length = ks.length := by
    intro ks
    induction ks with
    | nil => intro vs h; cases vs with
      | nil => rfl
      | cons _ _ => exact h.elim
    | cons k ks ih => intro vs h; cases vs with
      | nil => exact h.elim
      | cons v vs => exact congrArg (· + 1) (ih h.2)
  have at' : ∀ {ks : List Sk} {vs : List V} {i : Nat} {k : Sk}, ArgOk K G vs ks → ks[i]? = some k → ∃ o, (vs.map some)[i]? = some o ∧ SkOk K G k o := by
    intro ks
    induction ks with
    | nil => intro vs i k _ h; simp at h
    | cons k ks ih =>
      intro vs i k' h e
      cases vs with
      | nil => exact h.elim
      | cons v vs =>
        cases i with
        | zero =>
          simp at e
          subst e
          exact ⟨some v, rfl, h.1⟩
        | succ i =>
          obtain ⟨o, q1, q2⟩ := ih (vs := vs) (i := i) (k := k') h.2 (by simpa using e)
          exact ⟨o, by simpa using q1, q2⟩
  have l := hl h
  refine ⟨by simp [L2.start, Z0, l], fun i k e => ?_⟩
  unfold Z0 at e
  unfold L2.start
  by_cases hi : i < ks.length
  · rw [List.getElem?_append_left hi] at e
    obtain ⟨o, h1, h2⟩ := at' h e
    exact ⟨o, by rw [List.getElem?_append_left (by simp [l, hi])]; exact h1, h2⟩
  · rw [List.getElem?_append_right (by omega)] at e
    have e3 := List.mem_replicate.mp (List.mem_of_getElem? e)
    have e4 := (List.getElem?_eq_some_iff.mp e).1
    rw [List.length_replicate] at e4
    obtain ⟨_, e3⟩ := e3
    subst e3
    refine ⟨none, ?_, True.intro⟩
    rw [List.getElem?_append_right (by simp [l]; omega)]
    simp only [List.length_map, l]
    rw [List.getElem?_replicate, if_pos e4]
theorem argOk_datas {G : Hp} : ∀ {vs : List V} {ds : List PyData}, DpAll K G vs ds → ArgOk K G vs (ds.map .d)
  | _, _, .nil => True.intro
  | _, _, .cons a t => ⟨⟨_, rfl, a⟩, argOk_datas t⟩
/-- a def of data: its body's term and what it comes to -/
theorem fn_P (Fn : FunAt K mg x st ps) (S : FnScope N ps (defScope st)) (hl : ∀ ds Q, R ds Q → ds.length = ps.length)
    (hb : ∀ (f : Addr) (cdv : Value) (A : Around) (outer : List Env) (s : Shared) (H : Hp) (E : XK), Room k (A.deeper (envOfC x (defScope st) s.heap.objs.size f cdv)) →
      ∃ t, PSs (cxOf CX0 P w K mg base N x (defScope st) f cdv A outer s H E).nox (defBody st) t ∧ ∀ ds Q, R ds Q → SW K none t (Z0 N (ds.map .d)) [] { nx := fun _ _ => Q .none, rt := Q }) :
    Def P w K mg base x (k + 1) ps (spP K R) := by
  obtain ⟨f, fd, hf, hm, hbd⟩ := Fn.ex
  refine ⟨f, fd, hm, hf.kp, hbd, hf.ok S (fun vs H Q E h => ?_) fun cdv A outer s H vs Q E hr h => ?_⟩
  · obtain ⟨G, ds, _, hd, hR⟩ := h
    rw [dpa_len hd, hl _ _ hR]
  · obtain ⟨G, ds, e, hd, hR⟩ := h
    obtain ⟨t, ht, sw⟩ := hb f cdv A outer s H E hr
    refine ⟨t, ht, sw ds _ hR ⟨fun _ => False, G, H⟩ _ G H _ ?_ ?_⟩
    · obtain ⟨h1, h2⟩ := sl_start (N := N) (argOk_datas hd)
      exact ⟨h1, h2, e, fun b z => (by cases z), fun b z => (by cases z), fun p ds z => (by simp at z), List.nodup_nil, Evl.Ex.refl _, fun a o _ h => h, fun a o h => ⟨o, h⟩, fun _ _ _ => rfl⟩
    · have fin : ∀ (v : V) (d : PyData) (G' H' : Hp), Cfg K ⟨fun _ => False, G, H⟩ none [] [] [] G' H' → Dp K G' v d → (∀ v G' H', Ex G G' → Ex G' H' → Ex H H' → (∀ a o, H a = some o → G' a = G a) → Dp K G' v d → Q v H') → Q v H' := fun v d G' H' c hv q =>
        q v G' H' c.e0 c.ex (fun a o h => c.h0 a o (fun z => z) h) c.g0 hv
      exact ⟨fun Z O σ G' H' c q => fin _ _ _ _ c.forget .non q, fun v d G' H' c hv q => fin _ _ _ _ c hv q, fun _ _ _ _ _ _ z => z.elim, fun _ _ _ _ _ _ z => z.elim⟩
/-- a def whose first argument is the box -/
theorem fn_B (Fn : FunAt K mg x st ps) (S : FnScope N ps (defScope st)) (hl : ∀ ds Q, R ds Q → ds.length + 1 = ps.length)
    (hb : ∀ (f : Addr) (cdv : Value) (A : Around) (outer : List Env) (s : Shared) (H : Hp) (E : XK), Room k (A.deeper (envOfC x (defScope st) s.heap.objs.size f cdv)) →
      ∃ t, PSs (cxOf CX0 P w K mg base N x (defScope st) f cdv A outer s H E).nox (defBody st) t ∧ ∀ b ds Q, R ds Q → SW K (some b) t (Z0 N (.v (.ref b) :: ds.map .d)) [] { nx := fun _ _ => Q .none, rt := Q }) :
    Def P w K mg base x (k + 1) ps (spB K R) := by
  obtain ⟨f, fd, hf, hm, hbd⟩ := Fn.ex
  refine ⟨f, fd, hm, hf.kp, hbd, hf.ok S (fun vs H Q E h => ?_) fun cdv A outer s H vs Q E hr h => ?_⟩
  · obtain ⟨b, us, G, ds, ev, _, _, hd, hR⟩ := h
    rw [ev, List.length_cons, dpa_len hd, hl _ _ hR]
  · obtain ⟨b, us, G, ds, ev, e, bx, hd, hR⟩ := h
    subst ev
    obtain ⟨t, ht, sw⟩ := hb f cdv A outer s H E hr
    refine ⟨t, ht, sw b ds _ hR ⟨fun a => a = b, G, H⟩ _ G H _ ?_ ?_⟩
    · obtain ⟨h1, h2⟩ := sl_start (N := N) (ks := .v (.ref b) :: ds.map .d) (vs := .ref b :: us) ⟨rfl, argOk_datas hd⟩
      exact ⟨h1, h2, e, fun b' z => (by cases z; exact bx), fun b' z => (by cases z; exact .inl rfl), fun p ds z => (by simp at z), List.nodup_nil, Evl.Ex.refl _, fun a o _ h => h, fun a o h => ⟨o, h⟩, fun _ _ _ => rfl⟩
    · have fin : ∀ (v : V) (d : PyData) (G' H' : Hp), Cfg K ⟨fun a => a = b, G, H⟩ (some b) [] [] [] G' H' → Dp K G' v d → (∀ v G' H', Ex G G' → Ex G' H' → (∀ a o, a ≠ b → H a = some o → H' a = some o) → (∀ a o, H a = some o → G' a = G a) → BoxOk K b G' H' → Dp K G' v d → Q v H') → Q v H' := fun v d G' H' c hv q =>
        q v G' H' c.e0 c.ex (fun a o z h => c.h0 a o z h) c.g0 (c.box b rfl) hv
      exact ⟨fun Z O σ G' H' c q => fin _ _ _ _ c.forget .non q, fun v d G' H' c hv q => fin _ _ _ _ c hv q, fun _ _ _ _ _ _ z => z.elim, fun _ _ _ _ _ _ z => z.elim⟩
theorem Def.mono {sp : Sp} {j : Nat} (d : Def P w K mg base x k ps sp) (h : k ≤ j) : Def P w K mg base x j ps sp := by
  obtain ⟨f, fd, h1, h2, h3, h4⟩ := d.ex
  exact ⟨f, fd, h1, h2, h3, h4.mono h⟩
end

/-! ### built-ins by data -/
section
variable {K : PySem.W.Frag} {s : Option Addr} {Z : List Sk} {O : Own} {P : PyData → Prop} {PL : List PyData → Prop} {ta tr : TA}
theorem nc1 {r : List V → Hp → VK → Prop} {d z : PyData} (h : ∀ v G H (Q : VK), Ex G H → Dp K G v d → (∀ u, Dp K G u z → Q u H) → r [v] H Q) : NCall K r [.d d] z := fun vs G H Q e ha q => by
  match vs, ha with
  | [v], ⟨⟨_, ev, hv⟩, _⟩ =>
    cases ev
    exact h v G H Q e hv q
def lenD : PyData → Option Nat
  | .str y => if y.length ≤ sizeLine then some y.length else none
  | .list ds => some ds.length
  | .tuple ds => some ds.length
  | _ => none
theorem nc_len {d : PyData} {n : Nat} (h : lenD d = some n) : NCall K (fun xs H Q => ∃ x n, xs = [x] ∧ LenV K x H n ∧ Q (.int n) H) [.d d] (.int n) := nc1 fun v G H Q e hv q => by
  refine ⟨v, n, rfl, ?_, q _ (.int _)⟩
  cases hv with
  | str y =>
    simp only [lenD] at h
    split at h
    · rename_i hy
      cases h
      exact ⟨hy, rfl⟩
    · cases h
  | lst hs ha =>
    cases h
    exact .inl ⟨_, Evl.ex_l e hs, (dpa_len ha).symm⟩
  | tup hs ha =>
    cases h
    exact .inr ⟨_, Evl.ex_t e hs, (dpa_len ha).symm⟩
  | non => cases h
  | bl b => cases h
  | int i => cases h
theorem nc_abs {i : Int} : NCall K (fun xs H Q => ∃ i, xs = [.int i] ∧ Q (.int (if i < 0 then -i else i)) H) [.d (.int i)] (.int (if i < 0 then -i else i)) := nc1 fun v G H Q e hv q => by
  cases hv
  exact ⟨i, rfl, q _ (.int _)⟩
theorem nc_int {i : Int} : NCall K (fun xs H Q => (∃ i, xs = [.int i] ∧ Q (.int i) H) ∨ ∃ k, xs = [.bl k] ∧ Q (.int (if k then 1 else 0)) H) [.d (.int i)] (.int i) := nc1 fun v G H Q e hv q => by
  cases hv
  exact .inl ⟨i, rfl, q _ (.int _)⟩
theorem nc_intb {b : Bool} : NCall K (fun xs H Q => (∃ i, xs = [.int i] ∧ Q (.int i) H) ∨ ∃ k, xs = [.bl k] ∧ Q (.int (if k then 1 else 0)) H) [.d (.bool b)] (.int (if b then 1 else 0)) := nc1 fun v G H Q e hv q => by
  cases hv
  exact .inr ⟨b, rfl, q _ (.int _)⟩
theorem dpa_bools {G : Hp} : ∀ {bs : List Bool} {vs : List V}, DpAll K G vs (bs.map PyData.bool) → vs = bs.map V.bl
  | [], _, .nil => rfl
  | b :: bs, _, .cons a t => by
    cases a
    rw [dpa_bools t]
    rfl
theorem nc_all {bs : List Bool} : NCall K (rAll K) [.d (.list (bs.map .bool))] (.bool (bs.all id)) := nc1 fun v G H Q e hv q => by
  cases hv with
  | lst hs ha =>
    rw [dpa_bools ha] at hs
    exact ⟨_, bs, rfl, Evl.ex_l e hs, q _ (.bl _)⟩
theorem nc_any {bs : List Bool} : NCall K (rAny K) [.d (.list (bs.map .bool))] (.bool (bs.any id)) := nc1 fun v G H Q e hv q => by
  cases hv with
  | lst hs ha =>
    rw [dpa_bools ha] at hs
    exact ⟨_, bs, rfl, Evl.ex_l e hs, q _ (.bl _)⟩
theorem nc_sum {ns : List Int} : NCall K (rSum K) [.d (.list (ns.map .int))] (.int ns.sum) := nc1 fun v G H Q e hv q => by
  cases hv with
  | lst hs ha =>
    rw [dpa_ints_inv ha] at hs
    exact ⟨_, ns, rfl, Evl.ex_l e hs, q _ (.int _)⟩
/-- tuple(xs) -/
theorem we_tuple (h : WA K s tr Z O fun ks => ∃ ds, (ks = [.d (.list ds)] ∨ ks = [.d (.tuple ds)]) ∧ P (.tuple ds)) :
    WE K s (tCB (fun xs H Q => ∃ p ys, xs = [.ref p] ∧ ((SqL K H p ys ∧ ∀ l, H l = none → Q (.ref l) (upd H l (.tup ys))) ∨ (SqT K H p ys ∧ Q (.ref p) H))) tr) Z O P := fun F σ G H c Q q =>
  h F σ G H c _ fun vs ks G1 H1 c1 e1 ha ⟨ds, ek, p⟩ => by
    rcases ek with ek | ek
    · subst ek
      match vs, ha with
      | [v], ⟨⟨_, ev, hv⟩, _⟩ =>
        cases ev
        cases hv with
        | @lst a ys _ hs ha =>
          refine ⟨a, ys, rfl, .inl ⟨Evl.ex_l c1.ex hs, fun l hl => ?_⟩⟩
          obtain ⟨c2, e2⟩ := c1.new (o := .tup ys) hl
          exact q (.ref l) _ _ _ c2 (e1.trans e2) (.tup (.inl (.inl upd_same)) (dpa_mono e2 ds ys ha)) p
    · subst ek
      match vs, ha with
      | [v], ⟨⟨_, ev, hv⟩, _⟩ =>
        cases ev
        cases hv with
        | @tup a ys _ hs ha => exact ⟨a, ys, rfl, .inr ⟨Evl.ex_t c1.ex hs, q (.ref a) _ G1 H1 c1 e1 (.tup hs ha) p⟩⟩
/-- list(xs) -/
theorem wl_list (h : WA K s tr Z O fun ks => ∃ ds, (ks = [.d (.list ds)] ∨ ks = [.d (.tuple ds)]) ∧ PL ds) :
    WL K s (tCB (fun xs H Q => ∃ p ys, xs = [.ref p] ∧ (SqL K H p ys ∨ SqT K H p ys) ∧ ∀ l, H l = none → Q (.ref l) (upd H l (.lst ys))) tr) Z O PL := fun F σ G H c Q q =>
  h F σ G H c _ fun vs ks G1 H1 c1 e1 ha ⟨ds, ek, p⟩ => by
    rcases ek with ek | ek
    · subst ek
      match vs, ha with
      | [v], ⟨⟨_, ev, hv⟩, _⟩ =>
        cases ev
        cases hv with
        | @lst a ys _ hs ha => exact ⟨a, ys, rfl, .inl (Evl.ex_l c1.ex hs), fun l hl => q l ds G1 _ (c1.newOwn hl ha) e1 p⟩
    · subst ek
      match vs, ha with
      | [v], ⟨⟨_, ev, hv⟩, _⟩ =>
        cases ev
        cases hv with
        | @tup a ys _ hs ha => exact ⟨a, ys, rfl, .inr (Evl.ex_t c1.ex hs), fun l hl => q l ds G1 _ (c1.newOwn hl ha) e1 p⟩
theorem we_listB (h : WA K s tr Z O fun ks => ∃ ds, (ks = [.d (.list ds)] ∨ ks = [.d (.tuple ds)]) ∧ P (.list ds)) :
    WE K s (tCB (fun xs H Q => ∃ p ys, xs = [.ref p] ∧ (SqL K H p ys ∨ SqT K H p ys) ∧ ∀ l, H l = none → Q (.ref l) (upd H l (.lst ys))) tr) Z O P := we_of (wl_list h)
/-! isinstance -/
def tyD : PyData → String
  | .none => "NoneType" | .bool _ => "bool" | .int _ => "int" | .str _ => "str" | .list _ => "list" | .tuple _ => "tuple" | .dict _ => "dict"
def isTy (t T : String) : Bool := (t == T) || (T == "int" && t == "bool")
def isD (d : PyData) (T : String) : Bool := isTy (tyD d) T
theorem kit_all {T : String} (hT : T = "list" ∨ T = "tuple" ∨ T = "int" ∨ T = "bool" ∨ T = "str") :
    kitB "NoneType" T = some (isTy "NoneType" T) ∧ kitB "bool" T = some (isTy "bool" T) ∧ kitB "int" T = some (isTy "int" T) ∧ kitB "str" T = some (isTy "str" T) ∧ kitB "list" T = some (isTy "list" T) ∧ kitB "tuple" T = some (isTy "tuple" T) := by
  rcases hT with h | h | h | h | h <;> subst h <;> decide +kernel
theorem seqL_ty {H : Hp} {a : Addr} {xs : List V} (h : SqL K H a xs) : TyX K H (.ref a) (.type "list") := by
  rcases h with (h | ⟨o, h⟩) | ⟨o, its, n, h, hc, _⟩
  · exact .base (.lst h)
  · exact .base (.frz h)
  · exact .kList h hc
theorem seqT_ty {H : Hp} {a : Addr} {xs : List V} (h : SqT K H a xs) : TyX K H (.ref a) (.type "tuple") := by
  rcases h with (h | ⟨o, h⟩) | ⟨o, its, n, h, hc, _⟩
  · exact .base (.tup h)
  · exact .fTuple h
  · exact .kTuple h hc
theorem nc_isi {d : PyData} {T : String} (hT : T = "list" ∨ T = "tuple" ∨ T = "int" ∨ T = "bool" ∨ T = "str") : NCall K (rIsi K) [.d d, .v (.ty T)] (.bool (isD d T)) := fun vs G H Q e ha q => by
  match vs, ha with
  | [v, w], ⟨⟨_, ev, hv⟩, ew, _⟩ =>
    cases ev
    have ew : some w = some (.ty T) := ew
    cases ew
    cases hv with
    | non => exact ⟨_, _, _, _, isD .none T, rfl, .ty T, .base .non, kit_ty (kit_all hT).1, q _ (.bl _)⟩
    | bl b => exact ⟨_, _, _, _, isD (.bool b) T, rfl, .ty T, .base (.bl b), kit_ty (kit_all hT).2.1, q _ (.bl _)⟩
    | int b => exact ⟨_, _, _, _, isD (.int b) T, rfl, .ty T, .base (.int b), kit_ty (kit_all hT).2.2.1, q _ (.bl _)⟩
    | str b => exact ⟨_, _, _, _, isD (.str b) T, rfl, .ty T, .base (.str b), kit_ty (kit_all hT).2.2.2.1, q _ (.bl _)⟩
    | @lst a xs ds hs ha => exact ⟨_, _, _, _, isD (.list ds) T, rfl, .ty T, seqL_ty (Evl.ex_l e hs), kit_ty (kit_all hT).2.2.2.2.1, q _ (.bl _)⟩
    | @tup a xs ds hs ha => exact ⟨_, _, _, _, isD (.tuple ds) T, rfl, .ty T, seqT_ty (Evl.ex_t e hs), kit_ty (kit_all hT).2.2.2.2.2, q _ (.bl _)⟩
end

/-! ### the rules with the written part named (within a comprehension no term may hang on the block) -/
section
variable {X : Cx} {K : PySem.W.Frag}
theorem ix_seqK (h : X.K = K) : IxR X (rIx K) := h ▸ ix_seq
theorem op_eqDK (h : X.K = K) (hu : X.A.units + 64 < cLine) : OpR X (compareOp .Eq) (rEqD K) := h ▸ op_eqD hu
theorem op_neDK (h : X.K = K) (hu : X.A.units + 64 < cLine) : OpR X (compareOp .NotEq) (rNeD K) := h ▸ op_neD hu
theorem call_lenK (h : X.K = K) : CallR X (.builtin "len") (fun xs H Q => ∃ x n, xs = [x] ∧ LenV K x H n ∧ Q (.int n) H) := h ▸ call_len
theorem call_isiKK (h : X.K = K) : CallR X (.builtin "isinstance") (rIsi K) := h ▸ call_isi
theorem cr_allK (h : X.K = K) (hc : X.calm = true) : CallR X (.builtin "all") (rAll K) := h ▸ cr_all hc
theorem cr_anyK (h : X.K = K) (hc : X.calm = true) : CallR X (.builtin "any") (rAny K) := h ▸ cr_any hc
theorem cr_sumK (h : X.K = K) (hc : X.calm = true) : CallR X (.builtin "sum") (rSum K) := h ▸ cr_sum hc
theorem call_tuple_ofK (h : X.K = K) : CallR X (.type "tuple") (fun xs H Q => ∃ p ys, xs = [.ref p] ∧ ((SqL K H p ys ∧ ∀ l, H l = none → Q (.ref l) (upd H l (.tup ys))) ∨ (SqT K H p ys ∧ Q (.ref p) H))) := h ▸ call_tuple_of
theorem call_list_ofK (h : X.K = K) : CallR X (.type "list") (fun xs H Q => ∃ p ys, xs = [.ref p] ∧ (SqL K H p ys ∨ SqT K H p ys) ∧ ∀ l, H l = none → Q (.ref l) (upd H l (.lst ys))) := h ▸ call_list_of
theorem pi_listK {tg e : Expr} {t : TE} (h : X.K = K) (he : PE X e t) : PI X tg e (iList K t) := h ▸ pi_list he
theorem pi_tupK {tg e : Expr} {t : TE} (h : X.K = K) (he : PE X e t) : PI X tg e (iTup K t) := h ▸ pi_tup he
end
end DL

/-! DLx: the law's own drawing: _law_box, _law_take by their readings. -/
namespace DL
open PySem PySem.Spec PyProof.Rows L2
open Evl (Ex)

theorem mulS {i j : Int} (ha : i.natAbs < 2 ^ 250) (hb : j.natAbs < 2 ^ 250) : CMulW i j := wide_mul ha hb (by decide) (by decide) (by decide)
theorem divS {i j : Int} (h : 0 < j) (hb : j.natAbs < 2 ^ 250) : CDivW i j := wide_div h hb (by decide) (by decide)

/-! ### readings that leave the heap -/
def RE (te : TE) (σ : L2.St) (H : Hp) (v : V) : Prop := ∀ Q : VK, Q v H → te σ H Q
def RT (tt : TT) (σ : L2.St) (H : Hp) (b : Bool) : Prop := ∀ Q : Bool → Hp → Prop, Q b H → tt σ H Q
section
variable {K : PySem.W.Frag} {σ : L2.St} {H : Hp} {ta tb te : TE} {x y z v : V} {t u : TT}
theorem re_var {i : Nat} (h : σ[i]? = some (some v)) : RE (tVar i) σ H v := fun Q q => ⟨v, h, q⟩
theorem re_c : RE (tC v) σ H v := fun Q q => q
theorem re_I {f : Int → Int → Int} {i j : Int} (ha : RE ta σ H (.int i)) (hb : RE tb σ H (.int j)) : RE (tOp (rI0 fun i j => .int (f i j)) ta tb) σ H (.int (f i j)) := fun Q q => ha _ (hb _ ⟨i, j, rfl, rfl, q⟩)
theorem re_B {f : Int → Int → Bool} {i j : Int} (ha : RE ta σ H (.int i)) (hb : RE tb σ H (.int j)) : RE (tOp (rI0 fun i j => .bl (f i j)) ta tb) σ H (.bl (f i j)) := fun Q q => ha _ (hb _ ⟨i, j, rfl, rfl, q⟩)
theorem re_C {C : Int → Int → Prop} {f : Int → Int → Int} {i j : Int} (ha : RE ta σ H (.int i)) (hb : RE tb σ H (.int j)) (hc : C i j) : RE (tOp (rI C fun i j => .int (f i j)) ta tb) σ H (.int (f i j)) := fun Q q => ha _ (hb _ ⟨i, j, rfl, rfl, hc, q⟩)
theorem re_eq {i j : Int} (ha : RE ta σ H (.int i)) (hb : RE tb σ H (.int j)) : RE (tOp (rEqD K) ta tb) σ H (.bl (PyData.eqv (.int i) (.int j))) := fun Q q => ha _ (hb _ ⟨.int i, .int j, .int i, .int j, rfl, rfl, q⟩)
theorem re_ix {p : Addr} {xs : List V} {i : Int} (ha : RE ta σ H (.ref p)) (hs : SqL K H p xs) (hb : RE tb σ H (.int i)) (h : atI xs i = some v) : RE (tOp (rIx K) ta tb) σ H v := fun Q q => ha _ (hb _ (.inl ⟨p, xs, i, v, rfl, rfl, hs, h, q⟩))
theorem re_len {p : Addr} {xs : List V} (ha : RE ta σ H (.ref p)) (hs : SqL K H p xs) : RE (tCB (fun xs H Q => ∃ x n, xs = [x] ∧ LenV K x H n ∧ Q (.int n) H) (tCons ta tNil)) σ H (.int xs.length) := fun Q q => ha _ ⟨_, _, rfl, .inl ⟨xs, hs, rfl⟩, q⟩
theorem rt_test {b : Bool} (h : RE te σ H (.bl b)) : RT (tTest te) σ H b := fun Q q => h _ ⟨b, rfl, q⟩
theorem rt_and {a b : Bool} (h1 : RT t σ H a) (h2 : RT u σ H b) : RT (tAnd t u) σ H (a && b) := fun Q q => h1 _ (by
  cases a with
  | true => exact h2 _ q
  | false => exact q)
theorem rs_if {tt : TT} {t u : TS} {D : Ends} {b : Bool} (h : RT tt σ H b) (h1 : b = true → t D σ H) (h2 : b = false → u D σ H) : tIfS tt t u D σ H := h _ (by
  cases b with
  | true => exact h1 rfl
  | false => exact h2 rfl)
theorem rs_asg {D : Ends} {i : Nat} (h : RE te σ H v) (k : D.nx (σ.set i (some v)) H) : tAsg te (gName i) D σ H := h _ k
theorem rs_set {D : Ends} {p : Addr} {xs : List V} {i : Int} {j : Nat} (h : RE te σ H v) (ha : RE ta σ H (.ref p)) (hb : RE tb σ H (.int i)) (hp : H p = some (.lst xs)) (hj : ixN xs.length i = some j) (k : D.nx σ (upd H p (.lst (xs.set j v)))) :
    tAsg te (gSub ta tb rSetL) D σ H := h _ (ha _ (hb _ ⟨p, xs, i, j, rfl, rfl, hp, hj, k⟩))
theorem rs_ret {D : Ends} (h : RE te σ H v) (k : D.rt v H) : tRet te D σ H := h _ k
theorem seq_tail {t u : TS} {D : Ends} (M : L2.St → Hp → Prop) (tail : ∀ σ' H', M σ' H' → u D σ' H') (main : ∀ N : L2.St → Hp → Prop, (∀ σ' H', M σ' H' → N σ' H') → t { D with nx := N } σ H) : tSeq t u D σ H := main (u D) tail
theorem rs_seq {t u : TS} {D : Ends} (h : t { D with nx := u D } σ H) : tSeq t u D σ H := h
end

/-! ### _law_take -/
def R_take (ds : List PyData) (P : PyData → Prop) : Prop := ∃ m : Int, ds = [.int m] ∧ 0 < m ∧ m < 2 ^ 250 ∧ ∀ r : Int, 0 ≤ r → r < m → P (.int r)
theorem R_take_mono : ∀ ds P Q, (∀ d, P d → Q d) → R_take ds P → R_take ds Q := fun _ _ _ h ⟨m, e, h1, h2, k⟩ => ⟨m, e, h1, h2, fun r a b => h _ (k r a b)⟩
structure TkTxt (mg : Str → Option Value) : Prop where
  len : mg "len" = none

abbrev tIx (K : PySem.W.Frag) (k : Int) : TE := tOp (rIx K) (tVar 0) (tC (.int k))
theorem atI4 {a b c d : V} : atI [a, b, c, d] 0 = some a ∧ atI [a, b, c, d] 1 = some b ∧ atI [a, b, c, d] 2 = some c ∧ atI [a, b, c, d] 3 = some d := ⟨rfl, rfl, rfl, rfl⟩

/-! ### arguments that are all data -/
section
variable {K : PySem.W.Frag} {s : Option Addr} {Z : List Sk} {O : Own} {P : PyData → Prop} {PD PL : List PyData → Prop} {ta te : TE} {tr : TA} {R : List PyData → (PyData → Prop) → Prop} {E : XK}
theorem wa_imp {PA PA' : List Sk → Prop} (h : WA K s tr Z O PA') (k : ∀ d, PA' d → PA d) : WA K s tr Z O PA := fun F σ G H c Q q => h F σ G H c Q fun v d G' H' c' e hd hp => q v d G' H' c' e hd (k d hp)
def WD (K : PySem.W.Frag) (s : Option Addr) (ta : TA) (Z : List Sk) (O : Own) (P : List PyData → Prop) : Prop := WA K s ta Z O fun ks => ∃ ds, datas ks = some ds ∧ P ds
theorem wd_nil (p : PD []) : WD K s tNil Z O PD := wa_nil ⟨[], rfl, p⟩
theorem wd_cons (h : WE K s ta Z O fun x => WD K s tr Z O fun ds => PD (x :: ds)) : WD K s (tCons ta tr) Z O PD :=
  wa_cons (we_imp h fun x hx => wa_imp hx fun ks ⟨ds, e, p⟩ => ⟨x :: ds, by
    show (datas ks).map (x :: ·) = _
    rw [e]
    rfl, p⟩)
theorem we_tupD (h : WD K s tr Z O fun ds => Nat.ble ds.length 100000 = true ∧ P (.tuple ds)) : WE K s (tTup tr) Z O P :=
  we_tup (wa_imp h fun ks ⟨ds, e, hl, p⟩ => ⟨ds, e, Nat.le_of_ble_eq_true hl, p⟩)
theorem wl_lstD (h : WD K s tr Z O fun ds => Nat.ble ds.length 100000 = true ∧ PL ds) : WL K s (tLst tr) Z O PL :=
  wl_lst (wa_imp h fun ks ⟨ds, e, hl, p⟩ => ⟨ds, e, Nat.le_of_ble_eq_true hl, p⟩)
theorem we_lstD (h : WD K s tr Z O fun ds => Nat.ble ds.length 100000 = true ∧ P (.list ds)) : WE K s (tLst tr) Z O P := we_of (wl_lstD h)
/-- a contract grows with what is wanted -/
class MonoR (R : List PyData → (PyData → Prop) → Prop) : Prop where
  mono : ∀ ds P Q, (∀ d, P d → Q d) → R ds P → R ds Q
theorem we_callP [m : MonoR R] (h : WD K s tr Z O fun ds => R ds P) : WE K s (tCall (spP K R) [] E tr) Z O P :=
  we_call (wa_imp h fun ks ⟨ds, e, p⟩ => ⟨ds, e, p⟩) m.mono
theorem we_callX [m : MonoR R] {b : Addr} {i : Nat} (hi : Z[i]? = some (.v (.ref b))) (h : WD K (some b) tr Z O fun ds => R ds P) : WE K (some b) (tCall (spB K R) [] E (tCons (tVar i) tr)) Z O P :=
  we_callB (wa_raw hi (wa_imp h fun ks ⟨ds, e, p⟩ => ⟨ks, ds, rfl, e, p⟩)) m.mono
instance : MonoR R_take := ⟨R_take_mono⟩
end
theorem mono_ex {α : Type} {A B : α → Prop} (h : ∀ x, A x → B x) : (∃ x, A x) → ∃ x, B x := fun ⟨x, a⟩ => ⟨x, h x a⟩
theorem mono_and {a b b' : Prop} (h : b → b') : a ∧ b → a ∧ b' := fun ⟨x, y⟩ => ⟨x, h y⟩
theorem mono_imp {a b b' : Prop} (h : b → b') : (a → b) → a → b' := fun f x => h (f x)
theorem mono_all {α : Type} {A B : α → Prop} (h : ∀ x, A x → B x) : (∀ x, A x) → ∀ x, B x := fun f x => h x (f x)

/-! ### a target that stores a block's own names alone -/
def Ow (g : TG) (vs : List Nat) : Prop := ∀ x σ H (Q Q' : L2.St → Hp → Prop), (∀ σ2 H2, wipe σ2 vs = wipe σ vs → Q σ2 H2 → Q' σ2 H2) → g x σ H Q → g x σ H Q'
def Ows (g : TGs) (vs : List Nat) : Prop := ∀ x σ H (Q Q' : L2.St → Hp → Prop), (∀ σ2 H2, wipe σ2 vs = wipe σ vs → Q σ2 H2 → Q' σ2 H2) → g x σ H Q → g x σ H Q'
theorem wipe_at : ∀ (vs : List Nat) (σ : L2.St) (i : Nat), (wipe σ vs)[i]? = if i ∈ vs ∧ i < σ.length then some none else σ[i]?
  | [], σ, i => by simp [wipe]
  | v :: vs, σ, i => by
    show ((wipe σ vs).set v none)[i]? = _
    rw [List.getElem?_set, wipe_at vs σ i, wipe_length]
    by_cases h : v = i
    · subst h
      by_cases h2 : v < σ.length
      · simp [h2]
      · simp [h2]
    · have h' : i ≠ v := fun z => h z.symm
      simp [h, h']
theorem wipe_set {vs : List Nat} {σ : L2.St} {i : Nat} {x : Option V} (h : i ∈ vs) : wipe (σ.set i x) vs = wipe σ vs := by
  apply List.ext_getElem?
  intro j
  rw [wipe_at, wipe_at, List.length_set, List.getElem?_set]
  by_cases hj : i = j
  · subst hj
    by_cases h2 : i < σ.length
    · simp [h, h2]
    · simp [h, h2]
  · simp [hj]
theorem wipe_wipe {vs : List Nat} {σ : L2.St} : wipe (wipe σ vs) vs = wipe σ vs := by
  apply List.ext_getElem?
  intro j
  rw [wipe_at, wipe_length, wipe_at]
  split <;> rfl
theorem ow_name {i : Nat} {vs : List Nat} (h : i ∈ vs) : Ow (gName i) vs := fun x σ H Q Q' k q => k _ _ (wipe_set h) q
theorem ows_nil {vs : List Nat} : Ows gNil vs := fun x σ H Q Q' k ⟨e, q⟩ => ⟨e, k _ _ rfl q⟩
theorem ows_cons {g : TG} {u : TGs} {vs : List Nat} (hg : Ow g vs) (hu : Ows u vs) : Ows (gCons g u) vs := fun x σ H Q Q' k ⟨v, r, e, q⟩ =>
  ⟨v, r, e, hg v σ H _ _ (fun σ1 H1 e1 q1 => hu r σ1 H1 _ _ (fun σ2 H2 e2 q2 => k σ2 H2 (e2.trans e1) q2) q1) q⟩
theorem ow_tup {K : PySem.W.Frag} {n : Nat} {u : TGs} {vs : List Nat} (hu : Ows u vs) : Ow (gTup K n u) vs := fun x σ H Q Q' k ⟨a, xs, e, h, hl, q⟩ => ⟨a, xs, e, h, hl, hu xs σ H _ _ k q⟩
section
variable {K : PySem.W.Frag} {s : Option Addr} {Z : List Sk} {O : Own} {P : PyData → Prop}
theorem wl_comp {wi : TI} {g : TG} {tt : TT} {te : TE} {vs : List Nat} {PL : List PyData → Prop} (og : Ow g vs) (I : Nat → List PyData → Prop) (n : Nat) (Yd : Nat → PyData → Prop) (hw : IW K s wi Z O fun n' Y' => n' = n ∧ Y' = Yd) (h0 : I 0 []) (hn : n ≤ 50000)
    (hil : ∀ i acc, I i acc → acc.length ≤ i)
    (hs : ∀ i d acc p, i < n → Yd i d → I i acc → GW K s g d (wipeZ Z vs) ((p, acc) :: O) fun Z2 O2 => O2 = (p, acc) :: O ∧ WT K s tt Z2 O2 fun b => if b = true then WE K s te Z2 O2 fun y => I (i + 1) (acc ++ [y]) else I (i + 1) acc)
    (hd : ∀ acc, I n acc → PL acc) : WL K s (tLc wi g tt te vs) Z O PL :=
  wl_lc I n Yd hw h0 hn hil (fun x σ H Q h => og x _ H _ _ (fun σ2 H2 e q => ⟨e.trans wipe_wipe, q (e.trans wipe_wipe)⟩) h) hs hd
/-- no test, each element by a function of the turn's datum: the list is told -/
theorem wl_map {wi : TI} {g : TG} {te : TE} {vs : List Nat} {PL : List PyData → Prop} (og : Ow g vs) (n : Nat) (Yd : Nat → PyData → Prop) (out : List PyData) (hw : IW K s wi Z O fun n' Y' => n' = n ∧ Y' = Yd) (hn : n ≤ 50000) (ho : out.length = n)
    (hs : ∀ i d y p acc, i < n → Yd i d → out[i]? = some y → GW K s g d (wipeZ Z vs) ((p, acc) :: O) fun Z2 O2 => O2 = (p, acc) :: O ∧ WE K s te Z2 O2 fun z => z = y)
    (hd : PL out) : WL K s (tLc wi g tYes te vs) Z O PL := by
  refine wl_comp og (fun i acc => acc = out.take i) n Yd hw rfl hn (fun i acc e => by rw [e, List.length_take]; omega) (fun i d acc p hi hy e => ?_) (fun acc e => ?_)
  · have hi2 : i < out.length := by omega
    have h1 : out[i]? = some out[i] := List.getElem?_eq_getElem hi2
    intro F v σ G H c hx Q q
    refine hs i d _ p acc hi hy h1 F v σ G H c hx Q fun Z' O' σ' G' H' c' e' ⟨eo, h2⟩ => q Z' O' σ' G' H' c' e' ⟨eo, ?_⟩
    intro F2 σ2 G2 H2 c2 Q2 q2
    refine q2 true G2 H2 c2 (Evl.Ex.refl _) ?_
    show if true = true then _ else _
    rw [if_pos rfl]
    refine we_imp h2 fun z hz => ?_
    rw [hz, e, List.take_succ, h1]
    rfl
  · have e2 : acc = out := by rw [e, ← ho, List.take_length]
    rw [e2]
    exact hd
end

section
variable {K : PySem.W.Frag} {s : Option Addr} {Z : List Sk} {O : Own} {PB : Bool → Prop} {t : TT} {te : TE} {P : PyData → Prop}
theorem wt_true (h : WT K s t Z O fun b => b = true) (k : PB true) : WT K s t Z O PB := wt_imp h fun b e => by
  subst e
  exact k
theorem wt_false (h : WT K s t Z O fun b => b = false) (k : PB false) : WT K s t Z O PB := wt_imp h fun b e => by
  subst e
  exact k
theorem wt_is {c : Bool} (h : WT K s t Z O fun b => b = c) (k : PB c) : WT K s t Z O PB := wt_imp h fun b e => by
  subst e
  exact k
theorem we_is {d : PyData} (h : WE K s te Z O fun x => x = d) (k : P d) : WE K s te Z O P := we_imp h fun b e => by
  subst e
  exact k
end

theorem wl_imp {K : PySem.W.Frag} {s : Option Addr} {Z : List Sk} {O : Own} {te : TE} {PL PL' : List PyData → Prop} (h : WL K s te Z O PL') (k : ∀ d, PL' d → PL d) : WL K s te Z O PL := fun F σ G H c Q q => h F σ G H c Q fun p ds G' H' c' e hp => q p ds G' H' c' e (k ds hp)

section
variable {K : PySem.W.Frag} {s : Option Addr} {Z : List Sk} {O : Own} {P : PyData → Prop} {ta tb tc : TE} {tr : TA}
theorem we_ixV {i : Nat} (h : WE K s (tVar i) Z O fun x => WE K s tb Z O fun y => ∃ i d, y = .int i ∧ ItemAt x i d ∧ P d) : WE K s (tOp (rIx K) (tVar i) tb) Z O P := we_ix h
theorem we_ixI (h : WE K s (tOp (rIx K) ta tc) Z O fun x => WE K s tb Z O fun y => ∃ i d, y = .int i ∧ ItemAt x i d ∧ P d) : WE K s (tOp (rIx K) (tOp (rIx K) ta tc) tb) Z O P := we_ix h
theorem we_ixC {sp : Sp} {dvs : List V} {E : XK} (h : WE K s (tCall sp dvs E tr) Z O fun x => WE K s tb Z O fun y => ∃ i d, y = .int i ∧ ItemAt x i d ∧ P d) : WE K s (tOp (rIx K) (tCall sp dvs E tr) tb) Z O P := we_ix h
/-- an item of a display by a drawn place: what holds of each -/
theorem we_pick (P' : PyData → Prop) (h : WE K s (tLst tr) Z O fun x => WE K s tb Z O fun y => ∃ i d, y = .int i ∧ ItemAt x i d ∧ P' d) (k : ∀ d, P' d → P d) : WE K s (tOp (rIx K) (tLst tr) tb) Z O P := we_imp (we_ix h) k
end

theorem wt_yes {K : PySem.W.Frag} {s : Option Addr} {Z : List Sk} {O : Own} {PB : Bool → Prop} (p : PB true) : WT K s tYes Z O PB := fun F σ G H c Q q => q true G H c (Evl.Ex.refl _) p
end DL

/-! DLm: more operators by data: stars in displays, slices, sums and multiples of lists and tuples, chains of comparisons. -/
namespace DL
open PySem PySem.Spec PyProof.Rows L2
open Evl (Ex)
section
variable {K : PySem.W.Frag} {F : Fb} {s : Option Addr} {Z : List Sk} {O : Own} {P : PyData → Prop} {PB : Bool → Prop} {PD PL : List PyData → Prop} {ta tb tc te : TE} {tr : TA} {σ : L2.St} {G H : Hp}
theorem Cfg.tail {p : Addr × List PyData} (c : Cfg K F s Z (p :: O) σ G H) : Cfg K F s Z O σ G H :=
  ⟨c.len, c.sl, c.ex, c.box, c.bxM, fun q ds h => c.own q ds (List.mem_cons_of_mem _ h), (List.nodup_cons.mp (by have := c.nd; rwa [List.map_cons] at this)).2, c.e0, c.h0, c.h1, c.g0⟩
/-- *e in a display -/
theorem wd_star (h : WE K s ta Z O fun x => ∃ ds, (x = .list ds ∨ x = .tuple ds) ∧ WD K s tr Z O fun es => PD (ds ++ es)) : WD K s (StX.tStar K ta tr) Z O PD := fun F σ G H c Q q =>
  h F σ G H c _ fun v x G1 H1 c1 e1 hx ⟨ds, ex, hp⟩ => by
    have dapp : ∀ {a : List Sk} {b : List PyData} (as : List PyData), datas a = some b → datas (as.map Sk.d ++ a) = some (as ++ b) := by
      intro a b as e
      induction as with
      | nil => exact e
      | cons y ys ih =>
        show (datas (ys.map Sk.d ++ a)).map (y :: ·) = _
        rw [ih]
        rfl
    have aapp : ∀ {G : Hp} {us vs : List V} {as : List PyData} {b : List Sk}, DpAll K G us as → ArgOk K G vs b → ArgOk K G (us ++ vs) (as.map Sk.d ++ b) := by
      intro G us vs as b h1 h2
      induction as generalizing us with
      | nil => cases h1; exact h2
      | cons y ys ih =>
        cases h1 with
        | cons q1 q2 => exact ⟨⟨_, rfl, q1⟩, ih q2⟩
    rcases ex with ex | ex <;> subst ex
    · cases hx with
      | @lst a vs _ hs ha =>
        refine ⟨a, vs, rfl, .inr (Evl.ex_l c1.ex hs), hp F σ G1 H1 c1 _ fun us ks G2 H2 c2 e2 hk ⟨es, he, p⟩ => ?_⟩
        exact q (vs ++ us) (ds.map Sk.d ++ ks) G2 H2 c2 (e1.trans e2) (aapp (dpa_mono e2 _ _ ha) hk) ⟨_, dapp ds he, p⟩
    · cases hx with
      | @tup a vs _ hs ha =>
        refine ⟨a, vs, rfl, .inl (Evl.ex_t c1.ex hs), hp F σ G1 H1 c1 _ fun us ks G2 H2 c2 e2 hk ⟨es, he, p⟩ => ?_⟩
        exact q (vs ++ us) (ds.map Sk.d ++ ks) G2 H2 c2 (e1.trans e2) (aapp (dpa_mono e2 _ _ ha) hk) ⟨_, dapp ds he, p⟩

/-! ### slices -/
def WO (K : PySem.W.Frag) (s : Option Addr) (to : TO) (Z : List Sk) (O : Own) (P : Option Int → Prop) : Prop :=
  ∀ (F : Fb) σ G H, Cfg K F s Z O σ G H → ∀ Q : Option Int → Hp → Prop, (∀ o G' H', Cfg K F s Z O σ G' H' → Ex G G' → P o → Q o H') → to σ H Q
theorem wo_no {PO : Option Int → Prop} (p : PO none) : WO K s tNoPart Z O PO := fun F σ G H c Q q => q none G H c (Evl.Ex.refl _) p
theorem wo_part {PO : Option Int → Prop} (h : WE K s te Z O fun x => ∃ i, x = .int i ∧ PO (some i)) : WO K s (tPart te) Z O PO := fun F σ G H c Q q =>
  h F σ G H c _ fun v x G1 H1 c1 e1 hx ⟨i, ex, p⟩ => by
    subst ex
    cases hx
    exact ⟨i, rfl, q _ G1 H1 c1 e1 p⟩
def sliceD (ds : List PyData) (lo hi : Option Int) : List PyData := (ds.drop (HT.sIx ds.length 0 lo)).take (HT.sIx ds.length ds.length hi - HT.sIx ds.length 0 lo)
theorem dpa_cut {vs : List V} {ds : List PyData} {lo hi : Option Int} (h : DpAll K G vs ds) : DpAll K G (cutV vs lo hi) (sliceD ds lo hi) := by
  unfold cutV sliceD
  rw [dpa_len h]
  exact dpa_take _ (dpa_drop _ h)
theorem wl_slice {tl th : TO} (h : WE K s ta Z O fun x => ∃ ds, x = .list ds ∧ WO K s tl Z O fun lo => WO K s th Z O fun hi => PL (sliceD ds lo hi)) : WL K s (tSl (rSlL K) ta tl th) Z O PL := fun F σ G H c Q q =>
  h F σ G H c _ fun v x G1 H1 c1 e1 hx ⟨ds, ex, hl⟩ => hl F σ G1 H1 c1 _ fun lo G2 H2 c2 e2 hh => hh F σ G2 H2 c2 _ fun hi G3 H3 c3 e3 p => by
    subst ex
    cases hx with
    | @lst a vs _ hs ha =>
      have e23 := e2.trans e3
      refine ⟨a, vs, rfl, Evl.ex_l (e23.trans c3.ex) hs, fun pp hp => q pp _ G3 _ (c3.newOwn hp (dpa_cut (dpa_mono e23 _ _ ha))) (e1.trans e23) p⟩
theorem we_slTup {tl th : TO} (h : WE K s ta Z O fun x => ∃ ds, x = .tuple ds ∧ WO K s tl Z O fun lo => WO K s th Z O fun hi => P (.tuple (sliceD ds lo hi))) : WE K s (tSl (rSlA K) ta tl th) Z O P := fun F σ G H c Q q =>
  h F σ G H c _ fun v x G1 H1 c1 e1 hx ⟨ds, ex, hl⟩ => hl F σ G1 H1 c1 _ fun lo G2 H2 c2 e2 hh => hh F σ G2 H2 c2 _ fun hi G3 H3 c3 e3 p => by
    subst ex
    cases hx with
    | @tup a vs _ hs ha =>
      have e23 := e2.trans e3
      have hs3 := Evl.ex_t e23 hs
      have ha3 := dpa_mono e23 _ _ ha
      refine ⟨a, vs, rfl, Evl.ex_t c3.ex hs3, fun hw => ?_, fun hw pp hp => ?_⟩
      · refine q (.ref a) _ G3 H3 c3 (e1.trans e23) ?_ p
        have e : sliceD ds lo hi = ds := by
          have hl := dpa_len ha
          unfold sliceD
          rw [← hl, hw.1, hw.2, List.drop_zero, Nat.sub_zero, hl, List.take_length]
        rw [e]
        exact .tup hs3 ha3
      · obtain ⟨c4, e4⟩ := c3.new (o := .tup (cutV vs lo hi)) hp
        exact q (.ref pp) _ _ _ c4 ((e1.trans e23).trans e4) (.tup (.inl (.inl upd_same)) (dpa_mono e4 _ _ (dpa_cut ha3))) p
theorem we_slStr {tl th : TO} (h : WE K s ta Z O fun x => ∃ z, x = .str z ∧ z.length ≤ 100000 ∧ WO K s tl Z O fun lo => WO K s th Z O fun hi => P (.str (cutS z lo hi))) : WE K s (tSl rSlS ta tl th) Z O P := fun F σ G H c Q q =>
  h F σ G H c _ fun v x G1 H1 c1 e1 hx ⟨z, ex, hz, hl⟩ => hl F σ G1 H1 c1 _ fun lo G2 H2 c2 e2 hh => hh F σ G2 H2 c2 _ fun hi G3 H3 c3 e3 p => by
    subst ex
    cases hx
    exact ⟨z, rfl, Evl.sz_of hz, q _ _ G3 H3 c3 ((e1.trans e2).trans e3) (.str _) p⟩

/-! ### sums and multiples -/
theorem wl_cat (h : WL K s ta Z O fun xs => ∀ p, WL K s tb Z ((p, xs) :: O) fun ys => xs.length + ys.length ≤ 100000 ∧ PL (xs ++ ys)) : WL K s (tOp rCat ta tb) Z O PL := fun F σ G H c Q q =>
  h F σ G H c _ fun p xs G1 H1 c1 e1 hp => hp p F σ G1 H1 c1 _ fun r ys G2 H2 c2 e2 ⟨hl, pl⟩ => by
    obtain ⟨_, _, _, us, u4, u5⟩ := c2.own r ys (List.mem_cons_self ..)
    obtain ⟨_, _, _, vs, v4, v5⟩ := c2.own p xs (List.mem_cons_of_mem _ (List.mem_cons_self ..))
    refine ⟨p, r, vs, us, rfl, rfl, v4, u4, Evl.sz_of (by rw [dpa_len u5, dpa_len v5]; exact hl), fun t ht => q t _ G2 _ (c2.tail.tail.newOwn ht (dpa_app v5 u5)) (e1.trans e2) pl⟩
theorem dpa_rep {vs : List V} {ds : List PyData} (h : DpAll K G vs ds) : ∀ n : Nat, DpAll K G (List.replicate n vs).flatten (List.replicate n ds).flatten
  | 0 => .nil
  | n + 1 => by
    rw [List.replicate_succ, List.replicate_succ, List.flatten_cons, List.flatten_cons]
    exact dpa_app h (dpa_rep h n)
theorem wl_rep (h : WL K s ta Z O fun xs => ∀ p, WE K s tb Z ((p, xs) :: O) fun y => ∃ k : Int, y = .int k ∧ -(2 ^ 62) ≤ k ∧ k < 2 ^ 62 ∧ xs.length * k.toNat ≤ 100000 ∧ PL (List.replicate k.toNat xs).flatten) : WL K s (tOp rRep ta tb) Z O PL := fun F σ G H c Q q =>
  h F σ G H c _ fun p xs G1 H1 c1 e1 hp => hp p F σ G1 H1 c1 _ fun w y G2 H2 c2 e2 hy ⟨k, ey, k1, k2, hl, pl⟩ => by
    subst ey
    cases hy
    obtain ⟨_, _, _, vs, v4, v5⟩ := c2.own p xs (List.mem_cons_self ..)
    refine ⟨p, k, vs, rfl, rfl, v4, by omega, by omega, Evl.sz_of (by rw [dpa_len v5]; exact hl), fun t ht => q t _ G2 _ (c2.tail.newOwn ht (dpa_rep v5 _)) (e1.trans e2) pl⟩
theorem we_catT (h : WE K s ta Z O fun x => WE K s tb Z O fun y => ∃ ds es, x = .tuple ds ∧ y = .tuple es ∧ ds.length + es.length ≤ 100000 ∧ P (.tuple (ds ++ es))) : WE K s (tOp (rCatA K) ta tb) Z O P := fun F σ G H c Q q =>
  h F σ G H c _ fun v x G1 H1 c1 e1 hx hp => hp F σ G1 H1 c1 _ fun w y G2 H2 c2 e2 hy ⟨ds, es, ex, ey, hl, p⟩ => by
    subst ex ey
    cases hx with
    | @tup a vs _ hs ha =>
      cases hy with
      | @tup b ws _ ht hb =>
        have ha2 := dpa_mono e2 _ _ ha
        have hs2 := Evl.ex_t e2 hs
        refine ⟨a, b, vs, ws, rfl, rfl, Evl.ex_t c2.ex hs2, Evl.ex_t c2.ex ht, Evl.sz_of (by rw [dpa_len ha, dpa_len hb]; exact hl), fun e => ?_, fun _ e => ?_, fun _ _ t hn => ?_⟩
        · subst e
          cases ha
          exact q _ _ G2 H2 c2 (e1.trans e2) (.tup ht hb) p
        · subst e
          cases hb
          rw [List.append_nil] at p
          exact q _ _ G2 H2 c2 (e1.trans e2) (.tup hs2 ha2) p
        · obtain ⟨c3, e3⟩ := c2.new (o := .tup (vs ++ ws)) hn
          exact q (.ref t) _ _ _ c3 ((e1.trans e2).trans e3) (.tup (.inl (.inl upd_same)) (dpa_mono e3 _ _ (dpa_app ha2 hb))) p

/-! ### a < b < c of ints -/
theorem we_chainI {f g : Int → Int → Bool} (h : WE K s ta Z O fun x => WE K s tb Z O fun y => ∃ i j, x = .int i ∧ y = .int j ∧ if f i j = true then WE K s tc Z O fun z => ∃ l, z = .int l ∧ P (.bool (g j l)) else P (.bool false)) :
    WE K s (tChain (rI0 fun i j => .bl (f i j)) (rI0 fun i j => .bl (g i j)) ta tb tc) Z O P := fun F σ G H c Q q =>
  h F σ G H c _ fun v x G1 H1 c1 e1 hx hp => hp F σ G1 H1 c1 _ fun w y G2 H2 c2 e2 hy ⟨i, j, ex, ey, p⟩ => by
    subst ex ey
    cases hx
    cases hy
    refine ⟨i, j, rfl, rfl, f i j, rfl, ?_⟩
    cases hf : f i j with
    | true =>
      rw [hf, if_pos rfl] at p
      rw [if_pos rfl]
      exact p F σ G2 H2 c2 _ fun u z G3 H3 c3 e3 hz ⟨l, ez, p3⟩ => by
        subst ez
        cases hz
        exact ⟨j, l, rfl, rfl, q _ _ G3 H3 c3 ((e1.trans e2).trans e3) (.bl _) p3⟩
    | false =>
      rw [hf, if_neg Bool.false_ne_true] at p
      rw [if_neg Bool.false_ne_true]
      exact q _ _ G2 H2 c2 (e1.trans e2) (.bl false) p
theorem nc_max {hc : True} {i j : Int} : NCall K (fun xs H Q => ∃ i j, xs = [.int i, .int j] ∧ Q (.int (if j > i then j else i)) H) [.d (.int i), .d (.int j)] (.int (if j > i then j else i)) := fun vs G H Q _ ha q => by
  match vs, ha with
  | [v, w], ⟨⟨_, e1, h1⟩, ⟨_, e2, h2⟩, _⟩ =>
    cases e1
    cases e2
    cases h1
    cases h2
    exact ⟨i, j, rfl, q _ (.int _)⟩
end
section
variable {X : Cx} {K : PySem.W.Frag}
theorem sl_listK (h : X.K = K) : SlR X (rSlL K) := h ▸ sl_list
theorem sl_tupK (h : X.K = K) : SlR X (rSlA K) := h ▸ sl_tupA
theorem op_catAK (h : X.K = K) : OpR X (binaryOp .Add) (rCatA K) := h ▸ op_catA
theorem pa_starK {e : Expr} {es : List Expr} {te : TE} {t : TA} {p : Pos} (h : X.K = K) (he : PE X e te) (hr : PA X es t) (hs : starEach (.Starred e p :: es) X.env = (true, eval e X.env) :: starEach es X.env := by rfl) : PA X (.Starred e p :: es) (StX.tStar K te t) := h ▸ StX.pa_star he hr hs
end
end DL

/-! DLz: zip of two sequences of any kinds (a list and a tuple, too). -/
namespace DL
open PySem PySem.Spec PyProof.Rows L2
open Evl (Ex)
/-- a list (false) or a tuple (true) that is read -/
def SqB (K : PySem.W.Frag) (b : Bool) (H : Hp) (a : Addr) (xs : List V) : Prop := match b with
  | false => SqL K H a xs
  | true => SqT K H a xs
/-- the place of its iterator -/
def ItAt (b : Bool) (h : Heap) (it a : Addr) (i : Nat) : Prop := match b with
  | false => h.IsListIter it a i
  | true => h.IsTupleIter it a i
def SeqIs (b : Bool) (h : Heap) (a : Addr) (its : Array Value) : Prop := match b with
  | false => h.IsList a its
  | true => h.IsTuple a its
theorem SqB.mono {K : PySem.W.Frag} {b : Bool} {H H' : Hp} {a : Addr} {xs : List V} (e : Ex H H') (h : SqB K b H a xs) : SqB K b H' a xs := by
  cases b with
  | false => exact Evl.ex_l e h
  | true => exact Evl.ex_t e h
theorem ItAt.at {b : Bool} {h h' : Heap} {it a : Addr} {i : Nat} (x : ItAt b h it a i) (k : ∀ o, h.get? it = some o → h'.get? it = some o) : ItAt b h' it a i := by
  cases b with
  | false => exact Heap.IsListIter.at x k
  | true => exact Heap.IsTupleIter.at x k
theorem ItAt.obj {b : Bool} {h : Heap} {it a : Addr} {i : Nat} (x : ItAt b h it a i) : ∃ o, h.get? it = some o ∧ ∀ v, o.data ≠ .cell v := by
  cases b with
  | false =>
    obtain ⟨o, e, _, d⟩ := x
    exact ⟨o, e, fun v z => by rw [d] at z; cases z⟩
  | true =>
    obtain ⟨o, e, _, d⟩ := x
    exact ⟨o, e, fun v z => by rw [d] at z; cases z⟩
theorem draws {prog : Program} {w : World} {A : Around} (b : Bool) (hh : A.handled = none) (it l : Addr) (hne : l ≠ it) (items : Array Value) :
    Draws prog w A it [it, l] items.size (fun i v => items[i]? = some v) (fun i h => ItAt b h it l i ∧ SeqIs b h l items) := by
  cases b with
  | false => exact Draws.list hh it l hne items
  | true => exact Draws.tuple hh it l hne items
theorem seq_inv {X : Cx} {pins : List (Addr × Obj)} {σ : L2.St} {H : Hp} {s : Shared} {b : Bool} {a : Addr} {xs : List V} (I : Inv X pins σ H s) (h : SqB X.K b H a xs) : ∃ its : List Value, Vals xs its ∧ SeqIs b s.heap a its.toArray ∧ a < s.heap.objs.size := by
  cases b with
  | false =>
    obtain ⟨its, r, p, _⟩ := I.list h
    exact ⟨its, r, p.isList, p.lt⟩
  | true =>
    obtain ⟨its, r, p, _⟩ := I.tuple h
    obtain ⟨o, ho, _⟩ := id p
    exact ⟨its, r, p, Heap.lt_size ho⟩
theorem begins {b : Bool} (a : Addr) (its : Array Value) : ∃ o, Begins (.ref a) o (fun h => SeqIs b h a its) ∧ ∀ h it, h.get? it = some o → ItAt b h it a 0 := by
  cases b with
  | false => exact ⟨_, begins_list a its, fun h it e => ⟨_, e, rfl, rfl⟩⟩
  | true => exact ⟨_, begins_tuple a its, fun h it e => ⟨_, e, rfl, rfl⟩⟩
/-- both, as they stand all along: a new pair at each turn -/
def ItzB (K : PySem.W.Frag) (b1 b2 : Bool) (a1 a2 : Addr) (xs ys : List V) : It :=
  ⟨fun i H => SqB K b1 H a1 xs ∧ SqB K b2 H a2 ys ∧ i < min xs.length ys.length,
    fun i H v H' => ∃ T x y, v = .ref T ∧ H T = none ∧ H' = upd H T (.tup [x, y]) ∧ xs[i]? = some x ∧ ys[i]? = some y,
    fun i H => SqB K b1 H a1 xs ∧ SqB K b2 H a2 ys ∧ i = min xs.length ys.length⟩
/-- the five cells of a zip that were made at N -/
abbrev zfp (N : Nat) : List Addr := [N + 4, N + 2, N + 3, N, N + 1]
theorem turn_zipB {P : Program} {w : World} {K : PySem.W.Frag} {elts : List Expr} {kk : Nat} {tpos : Pos} {b1 b2 : Bool} {a1 a2 : Addr} {xs ys : List V} {N : Nat} (l1 : a1 < N) (l2 : a2 < N) :
    Turn P w K (.Tuple elts kk tpos) (ItzB K b1 b2 a1 a2 xs ys) (zfp N) (N + 4 : Nat)
      (fun i h => IsZip h (N + 4 : Nat) (N + 2 : Nat) (N + 3 : Nat) .none ∧ IsTupOf2 h (N + 2 : Nat) (.ref N) (.ref (N + 1 : Nat)) ∧ (∃ x y, IsTupOf2 h (N + 3 : Nat) x y) ∧ ItAt b1 h N a1 i ∧ ItAt b2 h (N + 1 : Nat) a2 i) where
  mem := List.mem_cons_self ..
  obj := fun i h st c hc => by
    obtain ⟨hz, hTI, ⟨x, y, hTO⟩, h1, h2⟩ := st
    simp only [zfp, List.mem_cons, List.mem_nil_iff, or_false] at hc
    rcases hc with q | q | q | q | q
    · rw [q]; exact ⟨_, hz, fun v z => nomatch z⟩
    · rw [q]; exact ⟨_, hTI, fun v z => nomatch z⟩
    · rw [q]; exact ⟨_, hTO, fun v z => nomatch z⟩
    · rw [q]; exact h1.obj
    · rw [q]; exact h2.obj
  keep := fun i h h' st k => by
    obtain ⟨hz, hTI, ⟨x, y, hTO⟩, h1, h2⟩ := st
    exact ⟨k _ (by simp [zfp]) _ hz, k _ (by simp [zfp]) _ hTI, ⟨x, y, k _ (by simp [zfp]) _ hTO⟩, h1.at fun o q => k _ (by simp [zfp]) o q, h2.at fun o q => k _ (by simp [zfp]) o q⟩
  item := by
    intro X hP hw hK hc i pins s σ H E I hf st hg
    subst hP hw hK
    obtain ⟨hz, hTI, hTO, h1, h2⟩ := st
    obtain ⟨hqx, hqy, hi⟩ := hg
    obtain ⟨its1, r1, p1, _⟩ := seq_inv I hqx
    obtain ⟨its2, r2, p2, _⟩ := seq_inv I hqy
    have hh : X.A.in1.handled = none := I.ok.hd hc
    have S := zip_sep2 (N := N) (fp1 := [a1]) (fp2 := [a2]) (fun b hb => by rw [List.mem_singleton.mp hb]; exact l1) (fun b hb => by rw [List.mem_singleton.mp hb]; exact l2)
    have W := GoesN.zip2 (elts := elts) (x1 := kk) (pos := tpos) S (draws (prog := X.prog) (w := X.w) b1 hh N a1 (Nat.ne_of_lt l1) its1.toArray) (draws (prog := X.prog) (w := X.w) b2 hh (N + 1 : Nat) a2 (Nat.ne_of_lt (Nat.lt_succ_of_lt l2)) its2.toArray)
    have hn : i < min its1.toArray.size its2.toArray.size := by
      rw [List.size_toArray, List.size_toArray, ← r1.length, ← r2.length]
      exact hi
    have hgo := W.goes i s (fun u s2 => ∃ x H', Inv X pins σ H' s2 ∧ RelV x u ∧ (ItzB X.K b1 b2 a1 a2 xs ys).yld i H x H' ∧ (IsZip s2.heap (N + 4 : Nat) (N + 2 : Nat) (N + 3 : Nat) .none ∧ IsTupOf2 s2.heap (N + 2 : Nat) (.ref N) (.ref (N + 1 : Nat)) ∧ (∃ x y, IsTupOf2 s2.heap (N + 3 : Nat) x y) ∧ ItAt b1 s2.heap N a1 (i + 1) ∧ ItAt b2 s2.heap (N + 1 : Nat) a2 (i + 1)) ∧ ∀ b ∈ zfp N, H' b = none) E hn ⟨hz, hTI, hTO, ⟨h1, p1⟩, ⟨h2, p2⟩⟩ ?_
    · exact wpAny_mono hgo (fun r s1 q => q) fun _ _ e => e
    intro v h' tk hy st' hk htk
    obtain ⟨T, u1, u2, ev, hT, hu1, hu2, hTup⟩ := hy
    obtain ⟨hz', hTI', hTO', ⟨h1', _⟩, ⟨h2', _⟩⟩ := st'
    have e1 : xs[i]? = some xs[i] := List.getElem?_eq_getElem (by omega)
    have e2 : ys[i]? = some ys[i] := List.getElem?_eq_getElem (by omega)
    obtain ⟨w1, g1, rv1⟩ := r1.get e1
    obtain ⟨w2, g2, rv2⟩ := r2.get e2
    have f1 : w1 = u1 := by
      have : its1[i]? = some u1 := by simpa using hu1
      rw [g1] at this
      exact Option.some.inj this
    have f2 : w2 = u2 := by
      have : its2[i]? = some u2 := by simpa using hu2
      rw [g2] at this
      exact Option.some.inj this
    subst f1 f2
    have new : ObjOk X.prog X.w (upd H T (.tup [xs[i], ys[i]])) h' T (.tup [xs[i], ys[i]]) := by
      refine ⟨by show 2 ≤ sizeLine; decide, [w1, w2], .cons rv1 (.cons rv2 .nil), ?_⟩
      exact hTup
    have I1 := I.turnedNew (t' := tk) (ch := zfp N) (fun c o hb q => hk c o (fun z => hb (by
      simp only [List.mem_cons, List.mem_nil_iff, or_false] at z
      simp only [zfp, List.mem_cons, List.mem_nil_iff, or_false]
      rcases z with z | z | z | z <;> simp [z])) q) hf hT new
    refine ⟨.ref T, _, I1, ev, ⟨T, _, _, rfl, I.hok.fresh hT, rfl, e1, e2⟩, ⟨hz', hTI', hTO', h1', h2'⟩, fun c hcm => ?_⟩
    have hlt : c < s.heap.objs.size := by
      obtain ⟨x0, y0, hTO0⟩ := hTO
      obtain ⟨o1, q1, _⟩ := h1.obj
      obtain ⟨o2, q2, _⟩ := h2.obj
      simp only [zfp, List.mem_cons, List.mem_nil_iff, or_false] at hcm
      rcases hcm with q | q | q | q | q
      · rw [q]; exact Heap.lt_size hz
      · rw [q]; exact Heap.lt_size hTI
      · rw [q]; exact Heap.lt_size hTO0
      · rw [q]; exact Heap.lt_size q1
      · rw [q]; exact Heap.lt_size q2
    rw [upd_ne (Nat.ne_of_lt (Nat.lt_of_lt_of_le hlt hT))]
    exact (hf c hcm).1
  done := by
    intro X hP hw hK hc i pins s σ H E I hf st hg
    subst hP hw hK
    obtain ⟨hz, hTI, hTO, h1, h2⟩ := st
    obtain ⟨hqx, hqy, hi⟩ := hg
    obtain ⟨its1, r1, p1, _⟩ := seq_inv I hqx
    obtain ⟨its2, r2, p2, _⟩ := seq_inv I hqy
    have hh : X.A.in1.handled = none := I.ok.hd hc
    have S := zip_sep2 (N := N) (fp1 := [a1]) (fp2 := [a2]) (fun b hb => by rw [List.mem_singleton.mp hb]; exact l1) (fun b hb => by rw [List.mem_singleton.mp hb]; exact l2)
    have W := GoesN.zip2 (elts := elts) (x1 := kk) (pos := tpos) S (draws (prog := X.prog) (w := X.w) b1 hh N a1 (Nat.ne_of_lt l1) its1.toArray) (draws (prog := X.prog) (w := X.w) b2 hh (N + 1 : Nat) a2 (Nat.ne_of_lt (Nat.lt_succ_of_lt l2)) its2.toArray)
    have hn : i = min its1.toArray.size its2.toArray.size := by
      rw [List.size_toArray, List.size_toArray, ← r1.length, ← r2.length]
      exact hi
    subst hn
    refine W.stops s (fun s1 => Inv X pins σ H s1) E ⟨hz, hTI, hTO, ⟨h1, p1⟩, ⟨h2, p2⟩⟩ fun h' tk hk htk => ?_
    exact I.turnedL (t' := tk) (ch := zfp N) (fun c o hb q => hk c o (fun z => hb (by
      simp only [List.mem_cons, List.mem_nil_iff, or_false] at z
      simp only [zfp, List.mem_cons, List.mem_nil_iff, or_false]
      rcases z with z | z | z | z <;> simp [z])) q) hf
  self := fun A i s Q E st h => wpAny_pyIter_zip st.1 h
/-- zip(.., ..) to a target of several names -/
def iZipB (K : PySem.W.Frag) (ta : TA) : TI := fun σ H R => ta σ H fun vs H1 => ∃ b1 b2 a1 a2 xs ys, vs = [.ref a1, .ref a2] ∧ SqB K b1 H1 a1 xs ∧ SqB K b2 H1 a2 ys ∧ R (ItzB K b1 b2 a1 a2 xs ys) H1
theorem pi_zipB {X : Cx} {e e2 : Expr} {ta : TA} {p pos tpos : Pos} {elts : List Expr} {kk : Nat} (hg : Gl X "zip") (hm : X.mg "zip" = none) (ha : PA X [e, e2] ta)
    (hs : starEach [e, e2] X.env = (false, eval e X.env) :: starEach [e2] X.env := by rfl) (hpl : (backTo pos (starEach [e2] X.env)).any (·.1) = false := by rfl) :
    PI X (.Tuple elts kk tpos) (.Call (.Name "zip" p) [e, e2] [] pos) (iZipB X.K ta) := by
  refine ⟨fun pins s σ H R I h => ?_⟩
  refine Call_ (ld_blt I hg hm boot_zip (callWith_type1 (thn (ha.run pos pins s σ H _ I h) fun us s1 ⟨vs, H1, I1, rr, q1⟩ => ?_) hs hpl))
  obtain ⟨b1, b2, a1, a2, xs, ys, ex, hqx, hqy, q⟩ := q1
  subst ex
  obtain ⟨u1, u2, eu, r1, r2⟩ := vals2 rr
  subst eu
  cases r1
  cases r2
  obtain ⟨its1, rv1, p1, lt1⟩ := seq_inv I1 hqx
  obtain ⟨its2, rv2, p2, lt2⟩ := seq_inv I1 hqy
  obtain ⟨o1, B1, g1⟩ := begins (b := b1) a1 its1.toArray
  obtain ⟨o2, B2, g2⟩ := begins (b := b2) a2 its2.toArray
  refine zip_begins2 B1 B2 p1 p2 fun h' hz hTI hTO c1 c2 hsz hk => wpAny_pyIter_zip hz ?_
  have I2 : Inv X pins σ H1 { s1 with heap := h' } := I1.kept (t' := s1.toks) hk
  have big : ∀ c, c ∈ zfp s1.heap.objs.size → s1.heap.objs.size ≤ c := fun c hc => by
    simp only [zfp, List.mem_cons, List.mem_nil_iff, or_false] at hc
    rcases hc with q | q | q | q | q <;> rw [q] <;> first | exact Nat.le_refl _ | exact Nat.le_add_right _ _
  exact ⟨_, zfp s1.heap.objs.size, _, _, H1, rfl, I2, turn_zipB lt1 lt2, ⟨hz, hTI, ⟨_, _, hTO⟩, g1 _ _ c1, g2 _ _ c2⟩, fun c hc => I1.fpOk (big c hc) (I1.hok.fresh (big c hc)), q⟩
theorem pi_zipK {X : Cx} {K : PySem.W.Frag} {e e2 : Expr} {ta : TA} {p pos tpos : Pos} {elts : List Expr} {kk : Nat} (h : X.K = K) (hg : Gl X "zip") (hm : X.mg "zip" = none) (ha : PA X [e, e2] ta)
    (hs : starEach [e, e2] X.env = (false, eval e X.env) :: starEach [e2] X.env := by rfl) (hpl : (backTo pos (starEach [e2] X.env)).any (·.1) = false := by rfl) :
    PI X (.Tuple elts kk tpos) (.Call (.Name "zip" p) [e, e2] [] pos) (iZipB K ta) := h ▸ pi_zipB hg hm ha hs hpl
/-- the items of a list or a tuple -/
def itemsD : PyData → Option (List PyData)
  | .list ds => some ds
  | .tuple ds => some ds
  | _ => none
theorem items_sq {K : PySem.W.Frag} {G : Hp} {v : V} {d : PyData} {ds : List PyData} (hd : Dp K G v d) (hi : itemsD d = some ds) : ∃ b a xs, v = .ref a ∧ SqB K b G a xs ∧ DpAll K G xs ds := by
  cases hd with
  | lst hs ha =>
    cases hi
    exact ⟨false, _, _, rfl, hs, ha⟩
  | tup hs ha =>
    cases hi
    exact ⟨true, _, _, rfl, hs, ha⟩
  | non => cases hi
  | bl _ => cases hi
  | int _ => cases hi
  | str _ => cases hi
theorem iw_zip {K : PySem.W.Frag} {s : Option Addr} {Z : List Sk} {O : Own} {ta : TA} {P : Nat → (Nat → PyData → Prop) → Prop} (h : WA K s ta Z O fun ks => ∃ x y ds es, ks = [.d x, .d y] ∧ itemsD x = some ds ∧ itemsD y = some es ∧
    P (min ds.length es.length) fun i d => ∃ x y, ds[i]? = some x ∧ es[i]? = some y ∧ d = .tuple [x, y]) : IW K s (iZipB K ta) Z O P := fun F σ G H c R r =>
  h F σ G H c _ fun vs ks G1 H1 c1 e1 ha ⟨x, y, ds, es, ek, hx, hy, p⟩ => by
    subst ek
    match vs, ha with
    | [v, w], ⟨⟨_, ev, hv⟩, ⟨_, ew, hw⟩, _⟩ =>
      cases ev
      cases ew
      obtain ⟨b1, a1, xs, rfl, q1, d1⟩ := items_sq hv hx
      obtain ⟨b2, a2, ys, rfl, q2, d2⟩ := items_sq hw hy
      have n1 := dpa_len d1
      have n2 := dpa_len d2
      refine ⟨b1, b2, a1, a2, xs, ys, rfl, q1.mono c1.ex, q2.mono c1.ex, r _ _ _ G1 H1 c1 e1 p fun i G2 H2 e2 e3 => ⟨fun hi => ⟨q1.mono (e2.trans e3), q2.mono (e2.trans e3), by rw [n1, n2]; exact hi⟩, fun hi => ⟨q1.mono (e2.trans e3), q2.mono (e2.trans e3), by rw [n1, n2]; exact hi⟩, fun x H3 hi hy => ?_⟩⟩
      obtain ⟨T, x1, y1, f1, f2, f3, f4, f5⟩ := hy
      obtain ⟨dx, r1, r2⟩ := dpa_at d1 f4
      obtain ⟨dy, s1, s2⟩ := dpa_at d2 f5
      exact ⟨_, ⟨dx, dy, r1, s1, rfl⟩, .inr ⟨T, [x1, y1], f1, f2, f3, _, rfl, .cons (dp_mono e2 _ _ r2) (.cons (dp_mono e2 _ _ s2) .nil)⟩⟩
end DL

/-! SLa: a symbolic heap over the hand layer. G: the part of the heap that stands still (data are told by it); O: the cells that are one's own,
told by what they hold; the box: the law's own drawing list; X: what may be raised, of class and field. -/
namespace SL
open PySem PySem.Spec PyProof.Rows L2
open Evl (Ex)

/-! ### data stay told where the heap grows -/
theorem rd_mono {H H' : Hp} {a : Addr} {u : HO} (e : Ex H H') (h : Rd H a u) : Rd H' a u := Evl.ex_rd e h
mutual
theorem dp_mono {K : PySem.W.Frag} {H H' : Hp} (e : Ex H H') : ∀ (d : PyData) (v : V), Dp K H v d → Dp K H' v d
  | .none, _, h => by cases h; exact .non
  | .bool b, _, h => by cases h; exact .bl b
  | .int i, _, h => by cases h; exact .int i
  | .str x, _, h => by cases h; exact .str x
  | .list ds, _, h => by
    cases h with
    | lst hs ha => exact .lst (Evl.ex_l e hs) (dpa_mono e ds _ ha)
  | .tuple ds, _, h => by
    cases h with
    | tup hs ha => exact .tup (Evl.ex_t e hs) (dpa_mono e ds _ ha)
  | .dict _, _, h => by cases h
theorem dpa_mono {K : PySem.W.Frag} {H H' : Hp} (e : Ex H H') : ∀ (ds : List PyData) (vs : List V), DpAll K H vs ds → DpAll K H' vs ds
  | [], _, h => by cases h; exact .nil
  | d :: ds, _, h => by
    cases h with
    | cons h1 h2 => exact .cons (dp_mono e d _ h1) (dpa_mono e ds _ h2)
end
theorem dpa_len {K : PySem.W.Frag} {G : Hp} : ∀ {vs : List V} {ds : List PyData}, DpAll K G vs ds → vs.length = ds.length
  | _, _, .nil => rfl
  | _, _, .cons _ t => congrArg (· + 1) (dpa_len t)
theorem dpa_app {K : PySem.W.Frag} {G : Hp} : ∀ {vs ws : List V} {ds es : List PyData}, DpAll K G vs ds → DpAll K G ws es → DpAll K G (vs ++ ws) (ds ++ es)
  | _, _, _, _, .nil, h => h
  | _, _, _, _, .cons a t, h => .cons a (dpa_app t h)
theorem dpa_at {K : PySem.W.Frag} {G : Hp} : ∀ {vs : List V} {ds : List PyData} {i : Nat} {v : V}, DpAll K G vs ds → vs[i]? = some v → ∃ d, ds[i]? = some d ∧ Dp K G v d
  | _, _, i, _, .nil, e => by simp at e
  | _, _, 0, _, .cons a _, e => by
    simp at e
    subst e
    exact ⟨_, rfl, a⟩
  | _, _, i + 1, _, .cons _ t, e => by
    obtain ⟨d, h1, h2⟩ := dpa_at (i := i) t (by simpa using e)
    exact ⟨d, by simpa using h1, h2⟩
theorem dpa_atd {K : PySem.W.Frag} {G : Hp} {vs : List V} {ds : List PyData} {i : Nat} {d : PyData} (h : DpAll K G vs ds) (e : ds[i]? = some d) : ∃ v, vs[i]? = some v ∧ Dp K G v d := by
  have hl := dpa_len h
  have hi : i < ds.length := (List.getElem?_eq_some_iff.mp e).1
  have hv : vs[i]? = some vs[i] := List.getElem?_eq_getElem (by omega)
  obtain ⟨d', h1, h2⟩ := dpa_at h hv
  rw [e] at h1
  cases h1
  exact ⟨_, hv, h2⟩
theorem dpa_set {K : PySem.W.Frag} {G : Hp} {v : V} {d : PyData} (hd : Dp K G v d) : ∀ {vs : List V} {ds : List PyData} (i : Nat), DpAll K G vs ds → DpAll K G (vs.set i v) (ds.set i d)
  | _, _, _, .nil => .nil
  | _, _, 0, .cons _ t => .cons hd t
  | _, _, i + 1, .cons a t => .cons a (dpa_set hd i t)
theorem dpa_drop {K : PySem.W.Frag} {G : Hp} : ∀ {vs : List V} {ds : List PyData} (n : Nat), DpAll K G vs ds → DpAll K G (vs.drop n) (ds.drop n)
  | _, _, 0, h => h
  | _, _, _ + 1, .nil => .nil
  | _, _, n + 1, .cons _ t => dpa_drop n t
theorem dpa_take {K : PySem.W.Frag} {G : Hp} : ∀ {vs : List V} {ds : List PyData} (n : Nat), DpAll K G vs ds → DpAll K G (vs.take n) (ds.take n)
  | _, _, 0, _ => .nil
  | _, _, _ + 1, .nil => .nil
  | _, _, n + 1, .cons a t => .cons a (dpa_take n t)
theorem dpa_ints {K : PySem.W.Frag} {G : Hp} : ∀ {ns : List Int}, DpAll K G (ns.map V.int) (ns.map PyData.int)
  | [] => .nil
  | n :: _ => .cons (.int n) dpa_ints
theorem dpa_ints_inv {K : PySem.W.Frag} {G : Hp} : ∀ {ns : List Int} {vs : List V}, DpAll K G vs (ns.map PyData.int) → vs = ns.map V.int
  | [], _, .nil => rfl
  | n :: ns, _, .cons a t => by
    cases a
    rw [dpa_ints_inv t]
    rfl

/-! ### kinds of values, cells -/
/-- what is known of a value: nothing, its datum, or the value itself -/
inductive Sk where
  | no | d (x : PyData) | v (u : V)
def SkV (K : PySem.W.Frag) (G : Hp) : Sk → V → Prop
  | .no, _ => True
  | .d x, v => Dp K G v x
  | .v u, v => v = u
def SkO (K : PySem.W.Frag) (G : Hp) : Sk → Option V → Prop
  | .no, _ => True
  | .d x, o => ∃ v, o = some v ∧ Dp K G v x
  | .v u, o => o = some u
theorem SkV.mono {K : PySem.W.Frag} {G G' : Hp} (e : Ex G G') : ∀ {k : Sk} {v : V}, SkV K G k v → SkV K G' k v
  | .no, _, _ => True.intro
  | .d x, v, h => dp_mono e x v h
  | .v _, _, h => h
theorem SkO.mono {K : PySem.W.Frag} {G G' : Hp} (e : Ex G G') : ∀ {k : Sk} {o : Option V}, SkO K G k o → SkO K G' k o
  | .no, _, _ => True.intro
  | .d x, _, ⟨v, h, q⟩ => ⟨v, h, dp_mono e x v q⟩
  | .v _, _, h => h
theorem SkV.toO {K : PySem.W.Frag} {G : Hp} : ∀ {k : Sk} {v : V}, SkV K G k v → SkO K G k (some v)
  | .no, _, _ => True.intro
  | .d _, v, h => ⟨v, rfl, h⟩
  | .v _, _, h => congrArg some h
def SkAll (K : PySem.W.Frag) (G : Hp) : List V → List Sk → Prop
  | [], [] => True
  | v :: vs, k :: ks => SkV K G k v ∧ SkAll K G vs ks
  | _, _ => False
theorem SkAll.mono {K : PySem.W.Frag} {G G' : Hp} (e : Ex G G') : ∀ {vs : List V} {ks : List Sk}, SkAll K G vs ks → SkAll K G' vs ks
  | [], [], _ => True.intro
  | _ :: _, _ :: _, h => ⟨h.1.mono e, SkAll.mono e h.2⟩
  | [], _ :: _, h => h.elim
  | _ :: _, [], h => h.elim
theorem SkAll.len {K : PySem.W.Frag} {G : Hp} : ∀ {vs : List V} {ks : List Sk}, SkAll K G vs ks → vs.length = ks.length
  | [], [], _ => rfl
  | _ :: _, _ :: _, h => congrArg (· + 1) (SkAll.len h.2)
  | [], _ :: _, h => h.elim
  | _ :: _, [], h => h.elim
theorem SkAll.app {K : PySem.W.Frag} {G : Hp} : ∀ {vs ws : List V} {ks ls : List Sk}, SkAll K G vs ks → SkAll K G ws ls → SkAll K G (vs ++ ws) (ks ++ ls)
  | [], _, [], _, _, h => h
  | _ :: _, _, _ :: _, _, h, h2 => ⟨h.1, SkAll.app h.2 h2⟩
  | [], _, _ :: _, _, h, _ => h.elim
  | _ :: _, _, [], _, h, _ => h.elim
theorem SkAll.at {K : PySem.W.Frag} {G : Hp} : ∀ {vs : List V} {ks : List Sk} {i : Nat} {k : Sk}, SkAll K G vs ks → ks[i]? = some k → ∃ v, vs[i]? = some v ∧ SkV K G k v
  | [], [], i, _, _, e => by simp at e
  | v :: _, _ :: _, 0, _, h, e => by
    simp at e
    subst e
    exact ⟨v, rfl, h.1⟩
  | _ :: _, _ :: _, i + 1, _, h, e => by
    obtain ⟨v, h1, h2⟩ := SkAll.at (i := i) h.2 (by simpa using e)
    exact ⟨v, by simpa using h1, h2⟩
  | [], _ :: _, _, _, h, _ => h.elim
  | _ :: _, [], _, _, h, _ => h.elim
theorem SkAll.set {K : PySem.W.Frag} {G : Hp} {v : V} {k : Sk} (hk : SkV K G k v) : ∀ {vs : List V} {ks : List Sk} (i : Nat), SkAll K G vs ks → SkAll K G (vs.set i v) (ks.set i k)
  | [], [], _, _ => True.intro
  | _ :: _, _ :: _, 0, h => ⟨hk, h.2⟩
  | _ :: _, _ :: _, i + 1, h => ⟨h.1, SkAll.set hk i h.2⟩
  | [], _ :: _, _, h => h.elim
  | _ :: _, [], _, h => h.elim
theorem SkAll.data {K : PySem.W.Frag} {G : Hp} : ∀ {vs : List V} {ds : List PyData}, DpAll K G vs ds → SkAll K G vs (ds.map .d)
  | _, _, .nil => True.intro
  | _, _, .cons a t => ⟨a, SkAll.data t⟩
theorem SkAll.undata {K : PySem.W.Frag} {G : Hp} : ∀ {vs : List V} {ds : List PyData}, SkAll K G vs (ds.map .d) → DpAll K G vs ds
  | [], [], _ => .nil
  | _ :: _, _ :: _, h => .cons h.1 (SkAll.undata h.2)
  | [], _ :: _, h => h.elim
  | _ :: _, [], h => h.elim
/-- entries by key -/
def KvAll (K : PySem.W.Frag) (G : Hp) {κ : Type} : List (κ × V) → List (κ × Sk) → Prop
  | [], [] => True
  | (a, v) :: r, (b, k) :: r' => a = b ∧ SkV K G k v ∧ KvAll K G r r'
  | _, _ => False
theorem KvAll.mono {K : PySem.W.Frag} {κ : Type} {G G' : Hp} (e : Ex G G') : ∀ {r : List (κ × V)} {r' : List (κ × Sk)}, KvAll K G r r' → KvAll K G' r r'
  | [], [], _ => True.intro
  | (_, _) :: _, (_, _) :: _, h => ⟨h.1, h.2.1.mono e, KvAll.mono e h.2.2⟩
  | [], (_, _) :: _, h => h.elim
  | (_, _) :: _, [], h => h.elim
/-- what one's own cell holds -/
inductive Cell where
  | lst (ks : List Sk)
  | dct (kvs : List (Key × Sk))
  | dcT (kvs : List (List Key × Sk))
  | ins (C dx : Addr) (fs : List (Str × Sk))
  | own (x : Addr)
  | xd (fs : List (Str × Sk))
  | tup (ks : List Sk)
  | lck (od : Obj) (us : List (Key × V)) (kvs : List (Key × Sk))
def CellOk (K : PySem.W.Frag) (G : Hp) : Cell → HO → Prop
  | .lst ks, o => ∃ vs, o = .lst vs ∧ SkAll K G vs ks
  | .dct kvs, o => ∃ us, o = .dK us ∧ KvAll K G us kvs
  | .dcT kvs, o => ∃ us, o = .dT us ∧ KvAll K G us kvs
  | .ins C dx fs, o => ∃ us, o = .ins C dx us ∧ KvAll K G us fs
  | .own x, o => o = .own x
  | .xd fs, o => ∃ us, o = .xd us ∧ KvAll K G us fs
  | .tup ks, o => ∃ vs, o = .tup vs ∧ SkAll K G vs ks
  | .lck od us kvs, o => o = .frz od (.dK us) ∧ KvAll K G us kvs
theorem CellOk.mono {K : PySem.W.Frag} {G G' : Hp} (e : Ex G G') : ∀ {c : Cell} {o : HO}, CellOk K G c o → CellOk K G' c o
  | .lst _, _, ⟨vs, h, q⟩ => ⟨vs, h, q.mono e⟩
  | .dct _, _, ⟨vs, h, q⟩ => ⟨vs, h, q.mono e⟩
  | .dcT _, _, ⟨vs, h, q⟩ => ⟨vs, h, q.mono e⟩
  | .ins _ _ _, _, ⟨vs, h, q⟩ => ⟨vs, h, q.mono e⟩
  | .own _, _, h => h
  | .xd _, _, ⟨vs, h, q⟩ => ⟨vs, h, q.mono e⟩
  | .tup _, _, ⟨vs, h, q⟩ => ⟨vs, h, q.mono e⟩
  | .lck _ _ _, _, ⟨h, q⟩ => ⟨h, q.mono e⟩
abbrev Own := List (Addr × Cell)

/-! ### the box -/
def BoxOk (K : PySem.W.Frag) (b : Addr) (G H : Hp) : Prop := ∃ (c : Addr) (ns : List Int) (i x sd : Int), H b = some (.lst [.ref c, .int i, .int x, .int sd]) ∧ G b = none ∧ SqL K G c (ns.map V.int) ∧ ns.length ≤ 63 ∧
  0 ≤ i ∧ i ≤ 63 ∧ 0 ≤ x ∧ 0 ≤ sd ∧ sd < 2147483399
def BoxO (K : PySem.W.Frag) (s : Option Addr) (G H : Hp) : Prop := ∀ b, s = some b → BoxOk K b G H

/-! ### the state -/
structure Fb where
  M : Addr → Prop
  G : Hp
  H : Hp
structure Cfg (K : PySem.W.Frag) (F : Fb) (s : Option Addr) (Z : List Sk) (O : Own) (σ : L2.St) (G H : Hp) : Prop where
  len : σ.length = Z.length
  sl : ∀ (i : Nat) (k : Sk), Z[i]? = some k → ∃ o, σ[i]? = some o ∧ SkO K G k o
  ex : Ex G H
  box : BoxO K s G H
  bxM : ∀ b, s = some b → F.M b ∨ F.H b = none
  own : ∀ p c, (p, c) ∈ O → G p = none ∧ s ≠ some p ∧ (F.M p ∨ F.H p = none) ∧ ∃ o, H p = some o ∧ CellOk K G c o
  nd : (O.map (·.1)).Nodup
  e0 : Ex F.G G
  h0 : ∀ a o, ¬ F.M a → F.H a = some o → H a = some o
  h1 : ∀ a o, F.H a = some o → ∃ o', H a = some o'
  g0 : ∀ a o, ¬ F.M a → F.H a = some o → G a = F.G a
section
variable {K : PySem.W.Frag} {F : Fb} {s : Option Addr} {Z : List Sk} {O : Own} {σ : L2.St} {G H : Hp}
/-- the heap grows, the still part grows, what stood stands -/
theorem Cfg.grow (c : Cfg K F s Z O σ G H) {G' H' : Hp} (e : Ex G G') (e' : Ex G' H') (h : Ex H H') (k : ∀ a o, H a = some o → G' a = G a) : Cfg K F s Z O σ G' H' := by
  refine ⟨c.len, fun i k' hk => ?_, e', fun b hb => ?_, c.bxM, fun p cc hp => ?_, c.nd, c.e0.trans e, fun a o hm ha => h a o (c.h0 a o hm ha), fun a o ha => ?_, fun a o hm ha => ?_⟩
  · obtain ⟨o, h1, h2⟩ := c.sl i k' hk
    exact ⟨o, h1, h2.mono e⟩
  · obtain ⟨cc, ns, i, x, sd, b1, b2, b3, b4⟩ := c.box b hb
    exact ⟨cc, ns, i, x, sd, h _ _ b1, by rw [k _ _ b1]; exact b2, Evl.ex_l e b3, b4⟩
  · obtain ⟨o1, o2, o3, o, o4, o5⟩ := c.own p cc hp
    exact ⟨by rw [k _ _ o4]; exact o1, o2, o3, o, h _ _ o4, o5.mono e⟩
  · obtain ⟨o', h'⟩ := c.h1 a o ha
    exact ⟨o', h _ _ h'⟩
  · obtain ⟨o', h'⟩ := c.h1 a o ha
    rw [k a o' h']
    exact c.g0 a o hm ha
/-- the same where the box has turned -/
theorem Cfg.growB {b : Addr} (c : Cfg K F (some b) Z O σ G H) {G' H' : Hp} (e : Ex G G') (e' : Ex G' H') (h : ∀ a o, a ≠ b → H a = some o → H' a = some o) (k : ∀ a o, H a = some o → G' a = G a) (hb : BoxOk K b G' H') : Cfg K F (some b) Z O σ G' H' := by
  refine ⟨c.len, fun i k' hk => ?_, e', fun b' hb' => ?_, c.bxM, fun p cc hp => ?_, c.nd, c.e0.trans e, fun a o hm ha => ?_, fun a o ha => ?_, fun a o hm ha => ?_⟩
  · obtain ⟨o, h1, h2⟩ := c.sl i k' hk
    exact ⟨o, h1, h2.mono e⟩
  · cases hb'
    exact hb
  · obtain ⟨o1, o2, o3, o, o4, o5⟩ := c.own p cc hp
    exact ⟨by rw [k _ _ o4]; exact o1, o2, o3, o, h _ _ (fun z => o2 (by rw [z])) o4, o5.mono e⟩
  · refine h a o (fun z => ?_) (c.h0 a o hm ha)
    rcases c.bxM b rfl with q | q
    · exact hm (by rw [z]; exact q)
    · rw [z, q] at ha
      cases ha
  · obtain ⟨o', h'⟩ := c.h1 a o ha
    by_cases z : a = b
    · obtain ⟨_, _, _, _, _, b1, _⟩ := hb
      exact ⟨_, by rw [z]; exact b1⟩
    · exact ⟨o', h _ _ z h'⟩
  · obtain ⟨o', h'⟩ := c.h1 a o ha
    rw [k a o' h']
    exact c.g0 a o hm ha
theorem Cfg.gnone (c : Cfg K F s Z O σ G H) {p : Addr} (hp : H p = none) : G p = none := by
  cases q : G p with
  | none => rfl
  | some u =>
    rw [c.ex p u q] at hp
    cases hp
theorem Cfg.hnone (c : Cfg K F s Z O σ G H) {p : Addr} (hp : H p = none) : F.H p = none := by
  cases q : F.H p with
  | none => rfl
  | some u =>
    obtain ⟨o', h'⟩ := c.h1 p u q
    rw [h'] at hp
    cases hp
/-- a new thing that stands still -/
theorem Cfg.new (c : Cfg K F s Z O σ G H) {p : Addr} {o : HO} (hp : H p = none) : Cfg K F s Z O σ (upd G p o) (upd H p o) ∧ Ex G (upd G p o) := by
  have hg : G p = none := c.gnone hp
  refine ⟨c.grow (Evl.Ex.new hg) (fun a u hu => ?_) (Evl.Ex.new hp) (fun a u hu => ?_), Evl.Ex.new hg⟩
  · by_cases z : a = p
    · subst z
      rw [upd_same] at hu ⊢
      exact hu
    · rw [upd_ne z] at hu ⊢
      exact c.ex a u hu
  · rw [upd_ne (ne_of_none hu hp)]
theorem Cfg.notOwn (c : Cfg K F s Z O σ G H) {p : Addr} (hp : H p = none) : p ∉ O.map (·.1) := fun z => by
  obtain ⟨⟨q, es⟩, hq, e⟩ := List.mem_map.mp z
  obtain ⟨_, _, _, o, o4, _⟩ := c.own q es hq
  have e : q = p := e
  rw [e, hp] at o4
  cases o4
theorem Cfg.notBox (c : Cfg K F s Z O σ G H) {p : Addr} (hp : H p = none) : s ≠ some p := fun z => by
  obtain ⟨_, _, _, _, _, b1, _⟩ := c.box p z
  rw [hp] at b1
  cases b1
/-- a new cell of one's own -/
theorem Cfg.newOwn (c : Cfg K F s Z O σ G H) {p : Addr} {cc : Cell} {o : HO} (hp : H p = none) (hc : CellOk K G cc o) : Cfg K F s Z ((p, cc) :: O) σ G (upd H p o) := by
  have hg : G p = none := c.gnone hp
  have c' := c.grow (G' := G) (H' := upd H p o) (Evl.Ex.refl _) (c.ex.trans (Evl.Ex.new hp)) (Evl.Ex.new hp) (fun _ _ _ => rfl)
  refine ⟨c'.len, c'.sl, c'.ex, c'.box, c'.bxM, fun q es hq => ?_, ?_, c'.e0, c'.h0, c'.h1, c'.g0⟩
  · rcases List.mem_cons.mp hq with z | z
    · cases z
      exact ⟨hg, c.notBox hp, .inr (c.hnone hp), o, upd_same, hc⟩
    · exact c'.own q es z
  · rw [List.map_cons, List.nodup_cons]
    exact ⟨c.notOwn hp, c.nd⟩
theorem Cfg.perm {O' : Own} (c : Cfg K F s Z O σ G H) (h : O.Perm O') : Cfg K F s Z O' σ G H :=
  ⟨c.len, c.sl, c.ex, c.box, c.bxM, fun p cc hp => c.own p cc (h.mem_iff.mpr hp), (h.map (·.1)).nodup_iff.mp c.nd, c.e0, c.h0, c.h1, c.g0⟩
theorem Cfg.tail {p : Addr × Cell} (c : Cfg K F s Z (p :: O) σ G H) : Cfg K F s Z O σ G H :=
  ⟨c.len, c.sl, c.ex, c.box, c.bxM, fun q ds h => c.own q ds (List.mem_cons_of_mem _ h), (List.nodup_cons.mp (by have := c.nd; rwa [List.map_cons] at this)).2, c.e0, c.h0, c.h1, c.g0⟩
/-- the cell at the head changes -/
theorem Cfg.setOwn {p : Addr} {cc cd : Cell} {o : HO} (c : Cfg K F s Z ((p, cc) :: O) σ G H) (hd : CellOk K G cd o) : Cfg K F s Z ((p, cd) :: O) σ G (upd H p o) := by
  obtain ⟨o1, o2, o3, u, o4, o5⟩ := c.own p cc (List.mem_cons_self ..)
  have nd := c.nd
  rw [List.map_cons, List.nodup_cons] at nd
  have keep : ∀ a v, a ≠ p → H a = some v → (upd H p o) a = some v := fun a v ha h => by
    rw [upd_ne ha]
    exact h
  refine ⟨c.len, c.sl, fun a u hu => keep a u (fun z => by rw [z, o1] at hu; cases hu) (c.ex a u hu), fun b hb => ?_, c.bxM, fun q fs hq => ?_, ?_, c.e0, fun a v hm ha => ?_, fun a v ha => ?_, c.g0⟩
  · obtain ⟨cc, ns, i, x, sd, b1, b2, b3, b4⟩ := c.box b hb
    exact ⟨cc, ns, i, x, sd, keep _ _ (fun z => o2 (by rw [← z]; exact hb)) b1, b2, b3, b4⟩
  · rcases List.mem_cons.mp hq with z | z
    · cases z
      exact ⟨o1, o2, o3, o, upd_same, hd⟩
    · obtain ⟨p1, p2, p3, us, p4, p5⟩ := c.own q fs (List.mem_cons_of_mem _ z)
      refine ⟨p1, p2, p3, us, keep _ _ (fun e => nd.1 ?_) p4, p5⟩
      exact List.mem_map.mpr ⟨(q, fs), z, e⟩
  · rw [List.map_cons, List.nodup_cons]
    exact nd
  · refine keep a v (fun z => ?_) (c.h0 a v hm ha)
    rcases o3 with q | q
    · exact hm (by rw [z]; exact q)
    · rw [z, q] at ha
      cases ha
  · by_cases z : a = p
    · subst z
      exact ⟨_, upd_same⟩
    · obtain ⟨o', h'⟩ := c.h1 a v ha
      exact ⟨o', keep _ _ z h'⟩
/-- an own list of data at the head comes to stand still -/
theorem Cfg.freeze {p : Addr} {ds : List PyData} (c : Cfg K F s Z ((p, .lst (ds.map .d)) :: O) σ G H) : ∃ G', Cfg K F s Z O σ G' H ∧ Ex G G' ∧ Dp K G' (.ref p) (.list ds) := by
  obtain ⟨o1, o2, o3, u, o4, vs, eu, o5⟩ := c.own p _ (List.mem_cons_self ..)
  subst eu
  have nd := c.nd
  rw [List.map_cons, List.nodup_cons] at nd
  have e : Ex G (upd G p (.lst vs)) := Evl.Ex.new o1
  refine ⟨upd G p (.lst vs), ⟨c.len, fun i k hk => ?_, fun a u hu => ?_, fun b hb => ?_, c.bxM, fun q fs hq => ?_, nd.2, c.e0.trans e, c.h0, c.h1, fun a o hm ha => ?_⟩, e, .lst (.inl (.inl upd_same)) (dpa_mono e ds vs (SkAll.undata o5))⟩
  · obtain ⟨o, h1, h2⟩ := c.sl i k hk
    exact ⟨o, h1, h2.mono e⟩
  · by_cases z : a = p
    · subst z
      rw [upd_same] at hu
      cases hu
      exact o4
    · rw [upd_ne z] at hu
      exact c.ex a u hu
  · obtain ⟨cc, ns, i, x, sd, b1, b2, b3, b4⟩ := c.box b hb
    exact ⟨cc, ns, i, x, sd, b1, by rw [upd_ne (fun z => o2 (by rw [← z]; exact hb))]; exact b2, Evl.ex_l e b3, b4⟩
  · obtain ⟨p1, p2, p3, us, p4, p5⟩ := c.own q fs (List.mem_cons_of_mem _ hq)
    refine ⟨?_, p2, p3, us, p4, p5.mono e⟩
    rw [upd_ne (fun z => nd.1 (List.mem_map.mpr ⟨(q, fs), hq, z⟩))]
    exact p1
  · rw [upd_ne (fun z => ?_)]
    · exact c.g0 a o hm ha
    · rcases o3 with q | q
      · exact hm (by rw [z]; exact q)
      · rw [z, q] at ha
        cases ha
theorem Cfg.setO (c : Cfg K F s Z O σ G H) {i : Nat} {k : Sk} {o : Option V} (h : SkO K G k o) : Cfg K F s (Z.set i k) O (σ.set i o) G H := by
  refine ⟨by rw [List.length_set, List.length_set]; exact c.len, fun j k' hj => ?_, c.ex, c.box, c.bxM, c.own, c.nd, c.e0, c.h0, c.h1, c.g0⟩
  by_cases z : i = j
  · subst z
    have hi : i < Z.length := by
      have := (List.getElem?_eq_some_iff.mp hj).1
      rwa [List.length_set] at this
    rw [List.getElem?_set_self hi] at hj
    cases hj
    exact ⟨_, List.getElem?_set_self (by rw [c.len]; exact hi), h⟩
  · rw [List.getElem?_set_ne z] at hj ⊢
    exact c.sl j k' hj
theorem Cfg.set (c : Cfg K F s Z O σ G H) {i : Nat} {k : Sk} {v : V} (h : SkV K G k v) : Cfg K F s (Z.set i k) O (σ.set i (some v)) G H := c.setO h.toO
theorem Cfg.forget (c : Cfg K F s Z O σ G H) : Cfg K F s [] O [] G H :=
  ⟨rfl, fun i k h => by simp at h, c.ex, c.box, c.bxM, c.own, c.nd, c.e0, c.h0, c.h1, c.g0⟩
theorem Cfg.drop (c : Cfg K F s Z O σ G H) : Cfg K F s Z [] σ G H :=
  ⟨c.len, c.sl, c.ex, c.box, c.bxM, fun p ds h => by simp at h, List.nodup_nil, c.e0, c.h0, c.h1, c.g0⟩
/-- slots told again -/
theorem Cfg.slots (c : Cfg K F s Z O σ G H) {Z' : List Sk} {σ' : L2.St} (hl : σ'.length = Z'.length) (h : ∀ (i : Nat) (k : Sk), Z'[i]? = some k → ∃ o, σ'[i]? = some o ∧ SkO K G k o) : Cfg K F s Z' O σ' G H :=
  ⟨hl, h, c.ex, c.box, c.bxM, c.own, c.nd, c.e0, c.h0, c.h1, c.g0⟩
theorem Cfg.rebase {Z' : List Sk} {O' : Own} {σ σ' : L2.St} {G1 H1 G2 H2 : Hp} (c : Cfg K F s Z O σ G2 H2) (c1 : Cfg K F s Z' O' σ' G1 H1) (e : Ex G1 G2) : Cfg K { F with G := G1 } s Z O σ G2 H2 :=
  ⟨c.len, c.sl, c.ex, c.box, c.bxM, c.own, c.nd, e, c.h0, c.h1, fun a o m h => (c.g0 a o m h).trans (c1.g0 a o m h).symm⟩
theorem Cfg.unbase {Z' : List Sk} {O' : Own} {σ σ' : L2.St} {G1 H1 G2 H2 : Hp} (c : Cfg K { F with G := G1 } s Z O σ G2 H2) (c1 : Cfg K F s Z' O' σ' G1 H1) : Cfg K F s Z O σ G2 H2 :=
  ⟨c.len, c.sl, c.ex, c.box, c.bxM, c.own, c.nd, c1.e0.trans c.e0, c.h0, c.h1, fun a o m h => (c.g0 a o m h).trans (c1.g0 a o m h)⟩
end

/-! ### what may be raised -/
structure Sx where
  box : Option Addr := none
  E : WX := fun _ _ _ _ => False
  X : Value → Option Addr → List Sk → Own → Prop := fun _ _ _ _ => False
def FX (K : PySem.W.Frag) (F : Fb) (s : Sx) : Prop := ∀ cls d Z O σ G H, Cfg K F s.box Z O σ G H → s.X cls d Z O → s.E cls d σ H
theorem FX.rebase {K : PySem.W.Frag} {F : Fb} {s : Sx} {Z' : List Sk} {O' : Own} {σ' : L2.St} {G1 H1 : Hp} (x : FX K F s) (c1 : Cfg K F s.box Z' O' σ' G1 H1) : FX K { F with G := G1 } s :=
  fun cls d Z O σ G H c q => x cls d Z O σ G H (c.unbase c1) q

/-! ### judgements -/
section
variable (K : PySem.W.Frag) (s : Sx)
def WE (te : TE) (Z : List Sk) (O : Own) (P : Sk → Own → Prop) : Prop :=
  ∀ (F : Fb) (x : FX K F s) σ G H, Cfg K F s.box Z O σ G H → ∀ Q : VK, (∀ v k O' G' H', Cfg K F s.box Z O' σ G' H' → Ex G G' → SkV K G' k v → P k O' → Q v H') → te σ H Q
def WT (tt : TT) (Z : List Sk) (O : Own) (P : Bool → Own → Prop) : Prop :=
  ∀ (F : Fb) (x : FX K F s) σ G H, Cfg K F s.box Z O σ G H → ∀ Q : Bool → Hp → Prop, (∀ b O' G' H', Cfg K F s.box Z O' σ G' H' → Ex G G' → P b O' → Q b H') → tt σ H Q
def WA (ta : TA) (Z : List Sk) (O : Own) (P : List Sk → Own → Prop) : Prop :=
  ∀ (F : Fb) (x : FX K F s) σ G H, Cfg K F s.box Z O σ G H → ∀ Q : List V → Hp → Prop, (∀ vs ks O' G' H', Cfg K F s.box Z O' σ G' H' → Ex G G' → SkAll K G' vs ks → P ks O' → Q vs H') → ta σ H Q
def WO (to : TO) (Z : List Sk) (O : Own) (P : Option Int → Own → Prop) : Prop :=
  ∀ (F : Fb) (x : FX K F s) σ G H, Cfg K F s.box Z O σ G H → ∀ Q : Option Int → Hp → Prop, (∀ o O' G' H', Cfg K F s.box Z O' σ G' H' → Ex G G' → P o O' → Q o H') → to σ H Q
structure DE where
  nx : List Sk → Own → Prop
  rt : Sk → Own → Prop
  bk : List Sk → Own → Prop := fun _ _ => False
  ct : List Sk → Own → Prop := fun _ _ => False
structure Conv (F : Fb) (D : DE) (E : Ends) : Prop where
  nx : ∀ Z O σ G H, Cfg K F s.box Z O σ G H → D.nx Z O → E.nx σ H
  rt : ∀ v k O G H, Cfg K F s.box [] O [] G H → SkV K G k v → D.rt k O → E.rt v H
  bk : ∀ Z O σ G H, Cfg K F s.box Z O σ G H → D.bk Z O → E.bk σ H
  ct : ∀ Z O σ G H, Cfg K F s.box Z O σ G H → D.ct Z O → E.ct σ H
def SW (t : TS) (Z : List Sk) (O : Own) (D : DE) : Prop := ∀ (F : Fb) (x : FX K F s) σ G H E, Cfg K F s.box Z O σ G H → Conv K s F D E → t E σ H
/-- what a target does with a value -/
def GW (g : TG) (k : Sk) (Z : List Sk) (O : Own) (N : List Sk → Own → Prop) : Prop :=
  ∀ (F : Fb) (x : FX K F s) v σ G H, Cfg K F s.box Z O σ G H → SkV K G k v → ∀ Q : L2.St → Hp → Prop, (∀ Z' O' σ' G' H', Cfg K F s.box Z' O' σ' G' H' → Ex G G' → N Z' O' → Q σ' H') → g v σ H Q
def GWs (g : TGs) (ks : List Sk) (Z : List Sk) (O : Own) (N : List Sk → Own → Prop) : Prop :=
  ∀ (F : Fb) (x : FX K F s) vs σ G H, Cfg K F s.box Z O σ G H → SkAll K G vs ks → ∀ Q : L2.St → Hp → Prop, (∀ Z' O' σ' G' H', Cfg K F s.box Z' O' σ' G' H' → Ex G G' → N Z' O' → Q σ' H') → g vs σ H Q
/-- what is walked, by data: n turns, the i-th datum -/
def IW (wi : TI) (Z : List Sk) (O : Own) (P : Nat → (Nat → PyData → Prop) → Own → Prop) : Prop :=
  ∀ (F : Fb) (x : FX K F s) σ G H, Cfg K F s.box Z O σ G H → ∀ R : It → Hp → Prop, (∀ (J : It) (n : Nat) (Yd : Nat → PyData → Prop) (O' : Own) (G1 H1 : Hp), Cfg K F s.box Z O' σ G1 H1 → Ex G G1 → P n Yd O' →
    (∀ i G2 H2, Ex G1 G2 → Ex G2 H2 → (i < n → J.go i H2) ∧ (i = n → J.stop i H2) ∧ ∀ x H3, i < n → J.yld i H2 x H3 →
      ∃ d, Yd i d ∧ ((H3 = H2 ∧ Dp K G2 x d) ∨ ∃ T vs, x = .ref T ∧ H2 T = none ∧ H3 = upd H2 T (.tup vs) ∧ ∃ ds, d = .tuple ds ∧ DpAll K G2 vs ds)) → R J H1) → wi σ H R
end
end SL

/-! SLb: expressions. -/
namespace SL
open PySem PySem.Spec PyProof.Rows L2
open Evl (Ex)
theorem skd {K : PySem.W.Frag} {G : Hp} {v : V} {x : PyData} (h : Dp K G v x) : SkV K G (.d x) v := h
theorem skv {K : PySem.W.Frag} {G : Hp} {v : V} : SkV K G (.v v) v := rfl
section
variable {K : PySem.W.Frag} {F : Fb} {s : Sx} {Z : List Sk} {O : Own} {P : Sk → Own → Prop} {PB : Bool → Own → Prop} {ta tb tc te : TE} {t u : TT} {tr : TA} {G H : Hp} {σ : L2.St}
theorem we_imp {P' : Sk → Own → Prop} (h : WE K s te Z O P') (k : ∀ d O', P' d O' → P d O') : WE K s te Z O P := fun F x σ G H c Q q => h F x σ G H c Q fun v d O' G' H' c' e hd hp => q v d O' G' H' c' e hd (k d O' hp)
theorem wt_imp {P' : Bool → Own → Prop} (h : WT K s t Z O P') (k : ∀ d O', P' d O' → PB d O') : WT K s t Z O PB := fun F x σ G H c Q q => h F x σ G H c Q fun b O' G' H' c' e hp => q b O' G' H' c' e (k b O' hp)
theorem wa_imp {PA PA' : List Sk → Own → Prop} (h : WA K s tr Z O PA') (k : ∀ d O', PA' d O' → PA d O') : WA K s tr Z O PA := fun F x σ G H c Q q => h F x σ G H c Q fun v d O' G' H' c' e hd hp => q v d O' G' H' c' e hd (k d O' hp)
/-- a value that is not yet known is known, the own cells as they were -/
theorem we_is {k : Sk} (h : WE K s te Z O fun x O' => x = k ∧ O' = O) (p : P k O) : WE K s te Z O P := we_imp h fun d O' ⟨e, e'⟩ => by
  subst e e'
  exact p
theorem wt_is {c : Bool} (h : WT K s t Z O fun b O' => b = c ∧ O' = O) (k : PB c O) : WT K s t Z O PB := wt_imp h fun b O' ⟨e, e'⟩ => by
  subst e e'
  exact k
theorem wt_true (h : WT K s t Z O fun b O' => b = true ∧ O' = O) (k : PB true O) : WT K s t Z O PB := wt_is h k
theorem wt_false (h : WT K s t Z O fun b O' => b = false ∧ O' = O) (k : PB false O) : WT K s t Z O PB := wt_is h k
theorem we_var {i : Nat} {k : Sk} (h : Z[i]? = some k) (hk : k ≠ .no) (p : P k O) : WE K s (tVar i) Z O P := fun F x σ G H c Q q => by
  obtain ⟨o, h1, h2⟩ := c.sl i _ h
  cases k with
  | no => exact absurd rfl hk
  | d y =>
    obtain ⟨v, h2, h3⟩ := h2
    subst h2
    exact ⟨v, h1, q v (.d y) O G H c (Evl.Ex.refl _) h3 p⟩
  | v w =>
    have h2 : o = some w := h2
    subst h2
    exact ⟨w, h1, q w (.v w) O G H c (Evl.Ex.refl _) skv p⟩
theorem we_varD {i : Nat} {y : PyData} (h : Z[i]? = some (.d y)) (p : P (.d y) O) : WE K s (tVar i) Z O P := we_var h (fun z => nomatch z) p
theorem we_varV {i : Nat} {w : V} (h : Z[i]? = some (.v w)) (p : P (.v w) O) : WE K s (tVar i) Z O P := we_var h (fun z => nomatch z) p
theorem we_int {i : Int} (p : P (.d (.int i)) O) : WE K s (tC (.int i)) Z O P := fun F x σ G H c Q q => q _ _ O G H c (Evl.Ex.refl _) (skd (Dp.int i)) p
theorem we_bl {b : Bool} (p : P (.d (.bool b)) O) : WE K s (tC (.bl b)) Z O P := fun F x σ G H c Q q => q _ _ O G H c (Evl.Ex.refl _) (skd (Dp.bl b)) p
theorem we_non (p : P (.d .none) O) : WE K s (tC .non) Z O P := fun F x σ G H c Q q => q _ _ O G H c (Evl.Ex.refl _) (skd Dp.non) p
theorem we_str {y : Str} (p : P (.d (.str y)) O) : WE K s (tC (.str y)) Z O P := fun F x σ G H c Q q => q _ _ O G H c (Evl.Ex.refl _) (skd (Dp.str y)) p
theorem we_ty {n : String} (p : P (.v (.ty n)) O) : WE K s (tC (.ty n)) Z O P := fun F x σ G H c Q q => q _ _ O G H c (Evl.Ex.refl _) skv p
theorem we_refc {a : Addr} (p : P (.v (.ref a)) O) : WE K s (tC (.ref a)) Z O P := fun F x σ G H c Q q => q _ _ O G H c (Evl.Ex.refl _) skv p
/-- a new list of data comes to stand still -/
theorem we_frz (h : WE K s te Z O fun k O' => ∃ p ds O1, k = .v (.ref p) ∧ O' = (p, .lst (ds.map .d)) :: O1 ∧ P (.d (.list ds)) O1) : WE K s te Z O P := fun F x σ G H c Q q => h F x σ G H c Q fun v k O' G' H' c' e hk ⟨p, ds, O1, ek, eo, hp⟩ => by
  subst ek eo
  have hk : v = .ref p := hk
  subst hk
  obtain ⟨G2, c2, e2, hd⟩ := c'.freeze
  exact q (.ref p) _ O1 G2 H' c2 (e.trans e2) (skd hd) hp
theorem we_perm (h : WE K s te Z O fun k O' => ∃ O'', O'.Perm O'' ∧ P k O'') : WE K s te Z O P := fun F x σ G H c Q q => h F x σ G H c Q fun v k O' G' H' c' e hk ⟨O'', hp, p⟩ => q v k O'' G' H' (c'.perm hp) e hk p

/-! ### operations -/
/-- an operation of two data that leaves the heap -/
def NOp (K : PySem.W.Frag) (r : R2) (x y z : PyData) : Prop := ∀ v w G H (Q : VK), Ex G H → Dp K G v x → Dp K G w y → (∀ u, Dp K G u z → Q u H) → r v w H Q
theorem we_nop {r : R2} (h : WE K s ta Z O fun k1 O1 => WE K s tb Z O1 fun k2 O2 => ∃ x y z, k1 = .d x ∧ k2 = .d y ∧ NOp K r x y z ∧ P (.d z) O2) : WE K s (tOp r ta tb) Z O P := fun F x σ G H c Q q =>
  h F x σ G H c _ fun v k1 O1 G1 H1 c1 e1 h1 hp => hp F x σ G1 H1 c1 _ fun w k2 O2 G2 H2 c2 e2 h2 ⟨a, b, z, ea, eb, hz, p⟩ => by
    subst ea eb
    exact hz v w G2 H2 Q c2.ex (dp_mono e2 _ _ h1) h2 fun u hu => q u (.d z) O2 G2 H2 c2 (e1.trans e2) hu p
theorem we_opI {f : Int → Int → Int} (h : WE K s ta Z O fun k1 O1 => WE K s tb Z O1 fun k2 O2 => ∃ i j, k1 = .d (.int i) ∧ k2 = .d (.int j) ∧ P (.d (.int (f i j))) O2) : WE K s (tOp (rI0 fun i j => .int (f i j)) ta tb) Z O P :=
  we_nop (we_imp h fun x O1 hx => we_imp hx fun y O2 ⟨i, j, e1, e2, p⟩ => ⟨_, _, .int (f i j), e1, e2, fun v w G H Q _ hv hw q => by
    cases hv
    cases hw
    exact ⟨i, j, rfl, rfl, q _ (Dp.int _)⟩, p⟩)
theorem we_opB {f : Int → Int → Bool} (h : WE K s ta Z O fun k1 O1 => WE K s tb Z O1 fun k2 O2 => ∃ i j, k1 = .d (.int i) ∧ k2 = .d (.int j) ∧ P (.d (.bool (f i j))) O2) : WE K s (tOp (rI0 fun i j => .bl (f i j)) ta tb) Z O P :=
  we_nop (we_imp h fun x O1 hx => we_imp hx fun y O2 ⟨i, j, e1, e2, p⟩ => ⟨_, _, .bool (f i j), e1, e2, fun v w G H Q _ hv hw q => by
    cases hv
    cases hw
    exact ⟨i, j, rfl, rfl, q _ (Dp.bl _)⟩, p⟩)
theorem we_opC {C : Int → Int → Prop} {f : Int → Int → Int} (h : WE K s ta Z O fun k1 O1 => WE K s tb Z O1 fun k2 O2 => ∃ i j, k1 = .d (.int i) ∧ k2 = .d (.int j) ∧ C i j ∧ P (.d (.int (f i j))) O2) : WE K s (tOp (rI C fun i j => .int (f i j)) ta tb) Z O P :=
  we_nop (we_imp h fun x O1 hx => we_imp hx fun y O2 ⟨i, j, e1, e2, hc, p⟩ => ⟨_, _, .int (f i j), e1, e2, fun v w G H Q _ hv hw q => by
    cases hv
    cases hw
    exact ⟨i, j, rfl, rfl, hc, q _ (Dp.int _)⟩, p⟩)
theorem we_neg (h : WE K s ta Z O fun k O1 => ∃ i, k = .d (.int i) ∧ P (.d (.int (-i))) O1) : WE K s (tUn (rU fun i => .int (-i)) ta) Z O P := fun F x σ G H c Q q =>
  h F x σ G H c _ fun v k O1 G1 H1 c1 e1 hx ⟨i, ex, p⟩ => by
    subst ex
    cases hx
    exact ⟨i, rfl, q _ _ O1 G1 H1 c1 e1 (skd (Dp.int _)) p⟩
theorem we_eqD (h : WE K s ta Z O fun k1 O1 => WE K s tb Z O1 fun k2 O2 => ∃ x y, k1 = .d x ∧ k2 = .d y ∧ SeqAt.shaped x = true ∧ SeqAt.shaped y = true ∧ P (.d (.bool (PyData.eqv x y))) O2) : WE K s (tOp (rEqD K) ta tb) Z O P :=
  we_nop (we_imp h fun k1 O1 hx => we_imp hx fun k2 O2 ⟨x, y, e1, e2, s1, s2, p⟩ => ⟨x, y, _, e1, e2, fun v w G H Q e hv hw q => ⟨x, y, dp_mono e _ _ hv, dp_mono e _ _ hw, s1, s2, q _ (Dp.bl _)⟩, p⟩)
theorem we_neD (h : WE K s ta Z O fun k1 O1 => WE K s tb Z O1 fun k2 O2 => ∃ x y, k1 = .d x ∧ k2 = .d y ∧ SeqAt.shaped x = true ∧ SeqAt.shaped y = true ∧ P (.d (.bool (!PyData.eqv x y))) O2) : WE K s (tOp (rNeD K) ta tb) Z O P :=
  we_nop (we_imp h fun k1 O1 hx => we_imp hx fun k2 O2 ⟨x, y, e1, e2, s1, s2, p⟩ => ⟨x, y, _, e1, e2, fun v w G H Q e hv hw q => ⟨x, y, dp_mono e _ _ hv, dp_mono e _ _ hw, s1, s2, q _ (Dp.bl _)⟩, p⟩)
/-- an item, by what the thing is -/
inductive ItemAt : PyData → Int → PyData → Prop where
  | lst {ds : List PyData} {i : Int} {d : PyData} : atI ds i = some d → ItemAt (.list ds) i d
  | tup {ds : List PyData} {i : Int} {d : PyData} : atI ds i = some d → ItemAt (.tuple ds) i d
  | str {z : Str} {i : Int} {c : Nat} : z.length ≤ sizeLine → atI z.cps.toList i = some c → ItemAt (.str z) i (.str ⟨#[c]⟩)
theorem dpa_atI {G : Hp} {vs : List V} {ds : List PyData} {i : Int} {d : PyData} (h : DpAll K G vs ds) (e : atI ds i = some d) : ∃ v, atI vs i = some v ∧ Dp K G v d := by
  unfold atI at e ⊢
  rw [dpa_len h]
  cases q : ixN ds.length i with
  | none => rw [q] at e; cases e
  | some j =>
    rw [q] at e
    obtain ⟨v, h1, h2⟩ := dpa_atd h e
    exact ⟨v, h1, h2⟩
theorem we_ix (h : WE K s ta Z O fun k1 O1 => WE K s tb Z O1 fun k2 O2 => ∃ x i d, k1 = .d x ∧ k2 = .d (.int i) ∧ ItemAt x i d ∧ P (.d d) O2) : WE K s (tOp (rIx K) ta tb) Z O P :=
  we_nop (we_imp h fun k1 O1 hx => we_imp hx fun k2 O2 ⟨x, i, d, e1, e2, hi, p⟩ => ⟨x, .int i, d, e1, e2, fun v w G H Q e hv hw q => by
    cases hw
    cases hi with
    | lst hi =>
      cases hv with
      | lst hs ha =>
        obtain ⟨u, h1, h2⟩ := dpa_atI ha hi
        exact .inl ⟨_, _, i, u, rfl, rfl, Evl.ex_l e hs, h1, q u h2⟩
    | tup hi =>
      cases hv with
      | tup hs ha =>
        obtain ⟨u, h1, h2⟩ := dpa_atI ha hi
        exact .inr (.inl ⟨_, _, i, u, rfl, rfl, Evl.ex_t e hs, h1, q u h2⟩)
    | str hz hi =>
      cases hv
      exact .inr (.inr ⟨_, i, _, rfl, rfl, hz, hi, q _ (Dp.str _)⟩), p⟩)
theorem SkAll.atI {G : Hp} {vs : List V} {ks : List Sk} {i : Int} {k : Sk} (h : SkAll K G vs ks) (e : atI ks i = some k) : ∃ v, L2.atI vs i = some v ∧ SkV K G k v := by
  unfold L2.atI at e ⊢
  rw [h.len]
  cases q : ixN ks.length i with
  | none => rw [q] at e; cases e
  | some j =>
    rw [q] at e
    obtain ⟨v, h1, h2⟩ := SkAll.at h e
    exact ⟨v, h1, h2⟩
/-- an item of an own list -/
theorem we_ixO (h : WE K s ta Z O fun k1 O1 => WE K s tb Z O1 fun k2 O2 => ∃ p ks i k, k1 = .v (.ref p) ∧ k2 = .d (.int i) ∧ (p, .lst ks) ∈ O2 ∧ atI ks i = some k ∧ P k O2) : WE K s (tOp (rIx K) ta tb) Z O P := fun F x σ G H c Q q =>
  h F x σ G H c _ fun v k1 O1 G1 H1 c1 e1 h1 hp => hp F x σ G1 H1 c1 _ fun w k2 O2 G2 H2 c2 e2 h2 ⟨p, ks, i, k, ea, eb, hm, ha, pk⟩ => by
    subst ea eb
    have h1 : v = .ref p := h1
    subst h1
    cases h2
    obtain ⟨_, _, _, o, o4, vs, eo, o5⟩ := c2.own p _ hm
    subst eo
    obtain ⟨u, u1, u2⟩ := o5.atI ha
    exact .inl ⟨p, vs, i, u, rfl, rfl, Evl.sq_of o4, u1, q u k O2 G2 H2 c2 (e1.trans e2) u2 pk⟩

/-! ### tests -/
theorem wt_test (h : WE K s te Z O fun k O' => ∃ b, k = .d (.bool b) ∧ PB b O') : WT K s (tTest te) Z O PB := fun F x σ G H c Q q => h F x σ G H c _ fun v k O' G1 H1 c1 e1 hx ⟨b, ex, p⟩ => by
  subst ex
  cases hx
  exact ⟨b, rfl, q b O' G1 H1 c1 e1 p⟩
theorem wt_B (h : WE K s te Z O fun k O' => ∃ b, k = .d (.bool b) ∧ PB b O') : WT K s (tB te) Z O PB := fun F x σ G H c Q q => h F x σ G H c _ fun v k O' G1 H1 c1 e1 hx ⟨b, ex, p⟩ => by
  subst ex
  cases hx
  exact ⟨b, rfl, q b O' G1 H1 c1 e1 p⟩
theorem wt_yes (p : PB true O) : WT K s tYes Z O PB := fun F x σ G H c Q q => q true O G H c (Evl.Ex.refl _) p
theorem wt_and (h : WT K s t Z O fun b O' => if b = true then WT K s u Z O' PB else PB false O') : WT K s (tAnd t u) Z O PB := fun F x σ G H c Q q => h F x σ G H c _ fun b O1 G1 H1 c1 e1 p => by
  cases b with
  | true =>
    rw [if_pos rfl] at p ⊢
    exact p F x σ G1 H1 c1 Q fun b2 O2 G2 H2 c2 e2 p2 => q b2 O2 G2 H2 c2 (e1.trans e2) p2
  | false =>
    rw [if_neg Bool.false_ne_true] at p ⊢
    exact q false O1 G1 H1 c1 e1 p
theorem wt_or (h : WT K s t Z O fun b O' => if b = true then PB true O' else WT K s u Z O' PB) : WT K s (tOr t u) Z O PB := fun F x σ G H c Q q => h F x σ G H c _ fun b O1 G1 H1 c1 e1 p => by
  cases b with
  | true =>
    rw [if_pos rfl] at p ⊢
    exact q true O1 G1 H1 c1 e1 p
  | false =>
    rw [if_neg Bool.false_ne_true] at p ⊢
    exact p F x σ G1 H1 c1 Q fun b2 O2 G2 H2 c2 e2 p2 => q b2 O2 G2 H2 c2 (e1.trans e2) p2
theorem wt_not (h : WT K s t Z O fun b O' => PB (!b) O') : WT K s (tNot t) Z O PB := fun F x σ G H c Q q => h F x σ G H c _ fun b O1 G1 H1 c1 e1 p => q (!b) O1 G1 H1 c1 e1 p
theorem we_andV (h : WE K s ta Z O fun k O' => ∃ b, k = .d (.bool b) ∧ if b = true then WE K s tb Z O' P else P (.d (.bool false)) O') : WE K s (tAndV ta tb) Z O P := fun F x σ G H c Q q => h F x σ G H c _ fun v k O1 G1 H1 c1 e1 hx ⟨b, ex, p⟩ => by
  subst ex
  cases hx
  refine ⟨b, rfl, ?_⟩
  cases b with
  | true =>
    rw [if_pos rfl] at p ⊢
    exact p F x σ G1 H1 c1 Q fun w d O2 G2 H2 c2 e2 hd p2 => q w d O2 G2 H2 c2 (e1.trans e2) hd p2
  | false =>
    rw [if_neg Bool.false_ne_true] at p ⊢
    exact q _ _ O1 G1 H1 c1 e1 (skd (Dp.bl false)) p
theorem we_orV (h : WE K s ta Z O fun k O' => ∃ b, k = .d (.bool b) ∧ if b = true then P (.d (.bool true)) O' else WE K s tb Z O' P) : WE K s (tOrV ta tb) Z O P := fun F x σ G H c Q q => h F x σ G H c _ fun v k O1 G1 H1 c1 e1 hx ⟨b, ex, p⟩ => by
  subst ex
  cases hx
  refine ⟨b, rfl, ?_⟩
  cases b with
  | true =>
    rw [if_pos rfl] at p ⊢
    exact q _ _ O1 G1 H1 c1 e1 (skd (Dp.bl true)) p
  | false =>
    rw [if_neg Bool.false_ne_true] at p ⊢
    exact p F x σ G1 H1 c1 Q fun w d O2 G2 H2 c2 e2 hd p2 => q w d O2 G2 H2 c2 (e1.trans e2) hd p2
theorem we_notV (h : WE K s ta Z O fun k O' => ∃ b, k = .d (.bool b) ∧ P (.d (.bool (!b))) O') : WE K s (tNotV ta) Z O P := fun F x σ G H c Q q => h F x σ G H c _ fun v k O1 G1 H1 c1 e1 hx ⟨b, ex, p⟩ => by
  subst ex
  cases hx
  exact ⟨b, rfl, q _ _ O1 G1 H1 c1 e1 (skd (Dp.bl _)) p⟩
theorem we_if (h : WT K s t Z O fun b O' => if b = true then WE K s ta Z O' P else WE K s tb Z O' P) : WE K s (tIf t ta tb) Z O P := fun F x σ G H c Q q => h F x σ G H c _ fun b O1 G1 H1 c1 e1 p => by
  cases b with
  | true =>
    rw [if_pos rfl] at p ⊢
    exact p F x σ G1 H1 c1 Q fun w d O2 G2 H2 c2 e2 hd p2 => q w d O2 G2 H2 c2 (e1.trans e2) hd p2
  | false =>
    rw [if_neg Bool.false_ne_true] at p ⊢
    exact p F x σ G1 H1 c1 Q fun w d O2 G2 H2 c2 e2 hd p2 => q w d O2 G2 H2 c2 (e1.trans e2) hd p2
/-- is it None: a datum that is None; an own thing is not -/
def isNoneK : Sk → Option Bool
  | .d .none => some true
  | .d _ => some false
  | .v .non => some true
  | .v _ => some false
  | .no => none
theorem skv_none {G : Hp} {k : Sk} {v : V} {b : Bool} (h : SkV K G k v) (e : isNoneK k = some b) : decide (v = .non) = b := by
  cases k with
  | no => cases e
  | d y =>
    cases y <;> cases h <;> cases e <;> rfl
  | v u =>
    have h : v = u := h
    subst h
    cases v <;> cases e <;> rfl
theorem we_isN (h : WE K s ta Z O fun k O' => ∃ b, isNoneK k = some b ∧ P (.d (.bool b)) O') : WE K s (tIsN ta) Z O P := fun F x σ G H c Q q => h F x σ G H c _ fun v k O1 G1 H1 c1 e1 hx ⟨b, hb, p⟩ => by
  show Q (.bl (decide (v = .non))) H1
  rw [skv_none hx hb]
  exact q _ _ O1 G1 H1 c1 e1 (skd (Dp.bl _)) p
theorem we_notN (h : WE K s ta Z O fun k O' => ∃ b, isNoneK k = some b ∧ P (.d (.bool (!b))) O') : WE K s (tNotN ta) Z O P := fun F x σ G H c Q q => h F x σ G H c _ fun v k O1 G1 H1 c1 e1 hx ⟨b, hb, p⟩ => by
  show Q (.bl (!decide (v = .non))) H1
  rw [skv_none hx hb]
  exact q _ _ O1 G1 H1 c1 e1 (skd (Dp.bl _)) p

/-! ### arguments, displays -/
variable {PA : List Sk → Own → Prop} {PD : List PyData → Own → Prop}
theorem wa_nil (p : PA [] O) : WA K s tNil Z O PA := fun F x σ G H c Q q => q [] [] O G H c (Evl.Ex.refl _) True.intro p
theorem wa_cons (h : WE K s ta Z O fun k O1 => WA K s tr Z O1 fun ks O2 => PA (k :: ks) O2) : WA K s (tCons ta tr) Z O PA := fun F x σ G H c Q q =>
  h F x σ G H c _ fun v k O1 G1 H1 c1 e1 hx hp => hp F x σ G1 H1 c1 _ fun vs ks O2 G2 H2 c2 e2 hk p => q (v :: vs) (k :: ks) O2 G2 H2 c2 (e1.trans e2) ⟨hx.mono e2, hk⟩ p
/-- arguments that are all data -/
def WD (K : PySem.W.Frag) (s : Sx) (ta : TA) (Z : List Sk) (O : Own) (P : List PyData → Own → Prop) : Prop := WA K s ta Z O fun ks O' => ∃ ds, ks = ds.map .d ∧ P ds O'
theorem wd_nil (p : PD [] O) : WD K s tNil Z O PD := wa_nil ⟨[], rfl, p⟩
theorem wd_cons (h : WE K s ta Z O fun k O1 => ∃ y, k = .d y ∧ WD K s tr Z O1 fun ds O2 => PD (y :: ds) O2) : WD K s (tCons ta tr) Z O PD :=
  wa_cons (we_imp h fun k O1 ⟨y, ek, hx⟩ => wa_imp hx fun ks O2 ⟨ds, e, p⟩ => ⟨y :: ds, by rw [ek, e]; rfl, p⟩)
/-- *e in a display -/
theorem wd_star (h : WE K s ta Z O fun k O1 => ∃ ds, (k = .d (.list ds) ∨ k = .d (.tuple ds)) ∧ WD K s tr Z O1 fun es O2 => PD (ds ++ es) O2) : WD K s (StX.tStar K ta tr) Z O PD := fun F x σ G H c Q q =>
  h F x σ G H c _ fun v k O1 G1 H1 c1 e1 hx ⟨ds, ex, hp⟩ => by
    rcases ex with ex | ex <;> subst ex
    · cases hx with
      | @lst a vs _ hs ha =>
        refine ⟨a, vs, rfl, .inr (Evl.ex_l c1.ex hs), hp F x σ G1 H1 c1 _ fun us ks O2 G2 H2 c2 e2 hk ⟨es, he, p⟩ => ?_⟩
        subst he
        exact q (vs ++ us) ((ds ++ es).map .d) O2 G2 H2 c2 (e1.trans e2) (by rw [List.map_append]; exact (SkAll.data (dpa_mono e2 _ _ ha)).app hk) ⟨_, rfl, p⟩
    · cases hx with
      | @tup a vs _ hs ha =>
        refine ⟨a, vs, rfl, .inl (Evl.ex_t c1.ex hs), hp F x σ G1 H1 c1 _ fun us ks O2 G2 H2 c2 e2 hk ⟨es, he, p⟩ => ?_⟩
        subst he
        exact q (vs ++ us) ((ds ++ es).map .d) O2 G2 H2 c2 (e1.trans e2) (by rw [List.map_append]; exact (SkAll.data (dpa_mono e2 _ _ ha)).app hk) ⟨_, rfl, p⟩
theorem we_tupD (h : WD K s tr Z O fun ds O' => Nat.ble ds.length 100000 = true ∧ P (.d (.tuple ds)) O') : WE K s (tTup tr) Z O P := fun F x σ G H c Q q =>
  h F x σ G H c _ fun vs ks O1 G1 H1 c1 e1 ha ⟨ds, hd, hl, p⟩ => by
    subst hd
    have da := SkAll.undata ha
    refine ⟨Evl.sz_of (by rw [dpa_len da]; exact Nat.le_of_ble_eq_true hl), fun pp hp => ?_⟩
    obtain ⟨c2, e2⟩ := c1.new (o := .tup vs) hp
    exact q (.ref pp) (.d (.tuple ds)) O1 _ _ c2 (e1.trans e2) (.tup (.inl (.inl upd_same)) (dpa_mono e2 ds vs da)) p
/-- a new list of one's own, its items of any kind -/
theorem we_lstO (h : WA K s tr Z O fun ks O' => Nat.ble ks.length 100000 = true ∧ ∀ p, P (.v (.ref p)) ((p, .lst ks) :: O')) : WE K s (tLst tr) Z O P := fun F x σ G H c Q q =>
  h F x σ G H c _ fun vs ks O1 G1 H1 c1 e1 ha ⟨hl, p⟩ =>
    ⟨Evl.sz_of (by rw [ha.len]; exact Nat.le_of_ble_eq_true hl), fun pp hp => q (.ref pp) (.v (.ref pp)) _ G1 _ (c1.newOwn hp (cc := .lst ks) ⟨vs, rfl, ha⟩) e1 rfl (p pp)⟩
/-- .. of data, that comes to stand still -/
theorem we_lstD (h : WD K s tr Z O fun ds O' => Nat.ble ds.length 100000 = true ∧ P (.d (.list ds)) O') : WE K s (tLst tr) Z O P :=
  we_frz (we_lstO (wa_imp h fun ks O' ⟨ds, e, hl, p⟩ => ⟨by rw [e, List.length_map]; exact hl, fun pp => ⟨pp, ds, O', rfl, by rw [e], p⟩⟩))
/-- a new list of data of one's own: what is made is told -/
def WL (K : PySem.W.Frag) (s : Sx) (te : TE) (Z : List Sk) (O : Own) (P : List PyData → Own → Prop) : Prop := WE K s te Z O fun k O' => ∃ p ds O1, k = .v (.ref p) ∧ O' = (p, .lst (ds.map .d)) :: O1 ∧ P ds O1
theorem we_of (h : WL K s te Z O fun ds O' => P (.d (.list ds)) O') : WE K s te Z O P := we_frz h
theorem wl_own (h : WL K s te Z O fun ds O' => ∀ p, P (.v (.ref p)) ((p, .lst (ds.map .d)) :: O')) : WE K s te Z O P := we_imp h fun k O' ⟨p, ds, O1, e1, e2, h⟩ => by
  subst e1 e2
  exact h p
theorem wl_imp {PL PL' : List PyData → Own → Prop} (h : WL K s te Z O PL') (k : ∀ d O', PL' d O' → PL d O') : WL K s te Z O PL := we_imp h fun x O' ⟨p, ds, O1, e1, e2, h⟩ => ⟨p, ds, O1, e1, e2, k ds O1 h⟩
theorem wl_lstD (h : WD K s tr Z O fun ds O' => Nat.ble ds.length 100000 = true ∧ PD ds O') : WL K s (tLst tr) Z O PD :=
  we_lstO (wa_imp h fun ks O' ⟨ds, e, hl, p⟩ => ⟨by rw [e, List.length_map]; exact hl, fun pp => ⟨pp, ds, O', rfl, by rw [e], p⟩⟩)

/-! ### items of displays -/
theorem we_ixV {i : Nat} (h : WE K s (tVar i) Z O fun k1 O1 => WE K s tb Z O1 fun k2 O2 => ∃ x i d, k1 = .d x ∧ k2 = .d (.int i) ∧ ItemAt x i d ∧ P (.d d) O2) : WE K s (tOp (rIx K) (tVar i) tb) Z O P := we_ix h
theorem we_ixI (h : WE K s (tOp (rIx K) ta tc) Z O fun k1 O1 => WE K s tb Z O1 fun k2 O2 => ∃ x i d, k1 = .d x ∧ k2 = .d (.int i) ∧ ItemAt x i d ∧ P (.d d) O2) : WE K s (tOp (rIx K) (tOp (rIx K) ta tc) tb) Z O P := we_ix h
theorem we_ixC {sp : Sp} {dvs : List V} {E : XK} (h : WE K s (tCall sp dvs E tr) Z O fun k1 O1 => WE K s tb Z O1 fun k2 O2 => ∃ x i d, k1 = .d x ∧ k2 = .d (.int i) ∧ ItemAt x i d ∧ P (.d d) O2) : WE K s (tOp (rIx K) (tCall sp dvs E tr) tb) Z O P := we_ix h
theorem we_pick (P' : PyData → Prop) (h : WE K s (tLst tr) Z O fun k1 O1 => WE K s tb Z O1 fun k2 O2 => ∃ x i d, k1 = .d x ∧ k2 = .d (.int i) ∧ ItemAt x i d ∧ P' d ∧ O2 = O) (k : ∀ d, P' d → P (.d d) O) : WE K s (tOp (rIx K) (tLst tr) tb) Z O P :=
  we_ix (we_imp h fun x O1 hx => we_imp hx fun y O2 ⟨x, i, d, e1, e2, hi, hp, eo⟩ => ⟨x, i, d, e1, e2, hi, by rw [eo]; exact k d hp⟩)

/-! ### slices -/
theorem wo_no {PO : Option Int → Own → Prop} (p : PO none O) : WO K s tNoPart Z O PO := fun F x σ G H c Q q => q none O G H c (Evl.Ex.refl _) p
theorem wo_part {PO : Option Int → Own → Prop} (h : WE K s te Z O fun k O' => ∃ i, k = .d (.int i) ∧ PO (some i) O') : WO K s (tPart te) Z O PO := fun F x σ G H c Q q =>
  h F x σ G H c _ fun v k O1 G1 H1 c1 e1 hx ⟨i, ex, p⟩ => by
    subst ex
    cases hx
    exact ⟨i, rfl, q _ O1 G1 H1 c1 e1 p⟩
def sliceD {α : Type} (ds : List α) (lo hi : Option Int) : List α := (ds.drop (HT.sIx ds.length 0 lo)).take (HT.sIx ds.length ds.length hi - HT.sIx ds.length 0 lo)
theorem dpa_cut {vs : List V} {ds : List PyData} {lo hi : Option Int} (h : DpAll K G vs ds) : DpAll K G (cutV vs lo hi) (sliceD ds lo hi) := by
  unfold cutV sliceD
  rw [dpa_len h]
  exact dpa_take _ (dpa_drop _ h)
theorem wl_slice {tl th : TO} (h : WE K s ta Z O fun k O1 => ∃ ds, k = .d (.list ds) ∧ WO K s tl Z O1 fun lo O2 => WO K s th Z O2 fun hi O3 => PD (sliceD ds lo hi) O3) : WL K s (tSl (rSlL K) ta tl th) Z O PD := fun F x σ G H c Q q =>
  h F x σ G H c _ fun v k O1 G1 H1 c1 e1 hx ⟨ds, ex, hl⟩ => hl F x σ G1 H1 c1 _ fun lo O2 G2 H2 c2 e2 hh => hh F x σ G2 H2 c2 _ fun hi O3 G3 H3 c3 e3 p => by
    subst ex
    cases hx with
    | @lst a vs _ hs ha =>
      have e23 := e2.trans e3
      refine ⟨a, vs, rfl, Evl.ex_l (e23.trans c3.ex) hs, fun pp hp => q (.ref pp) (.v (.ref pp)) _ G3 _ (c3.newOwn hp (cc := .lst ((sliceD ds lo hi).map .d)) ⟨_, rfl, SkAll.data (dpa_cut (dpa_mono e23 _ _ ha))⟩) (e1.trans e23) rfl ⟨pp, _, O3, rfl, rfl, p⟩⟩
theorem we_slTup {tl th : TO} (h : WE K s ta Z O fun k O1 => ∃ ds, k = .d (.tuple ds) ∧ WO K s tl Z O1 fun lo O2 => WO K s th Z O2 fun hi O3 => P (.d (.tuple (sliceD ds lo hi))) O3) : WE K s (tSl (rSlA K) ta tl th) Z O P := fun F x σ G H c Q q =>
  h F x σ G H c _ fun v k O1 G1 H1 c1 e1 hx ⟨ds, ex, hl⟩ => hl F x σ G1 H1 c1 _ fun lo O2 G2 H2 c2 e2 hh => hh F x σ G2 H2 c2 _ fun hi O3 G3 H3 c3 e3 p => by
    subst ex
    cases hx with
    | @tup a vs _ hs ha =>
      have e23 := e2.trans e3
      have hs3 := Evl.ex_t e23 hs
      have ha3 := dpa_mono e23 _ _ ha
      refine ⟨a, vs, rfl, Evl.ex_t c3.ex hs3, fun hw => ?_, fun hw pp hp => ?_⟩
      · refine q (.ref a) (.d (.tuple (sliceD ds lo hi))) O3 G3 H3 c3 (e1.trans e23) ?_ p
        have e : sliceD ds lo hi = ds := by
          have hl := dpa_len ha
          unfold sliceD
          rw [← hl, hw.1, hw.2, List.drop_zero, Nat.sub_zero, hl, List.take_length]
        rw [e]
        exact skd (.tup hs3 ha3)
      · obtain ⟨c4, e4⟩ := c3.new (o := .tup (cutV vs lo hi)) hp
        exact q (.ref pp) _ O3 _ _ c4 ((e1.trans e23).trans e4) (skd (.tup (.inl (.inl upd_same)) (dpa_mono e4 _ _ (dpa_cut ha3)))) p
theorem we_slStr {tl th : TO} (h : WE K s ta Z O fun k O1 => ∃ z, k = .d (.str z) ∧ z.length ≤ 100000 ∧ WO K s tl Z O1 fun lo O2 => WO K s th Z O2 fun hi O3 => P (.d (.str (cutS z lo hi))) O3) : WE K s (tSl rSlS ta tl th) Z O P := fun F x σ G H c Q q =>
  h F x σ G H c _ fun v k O1 G1 H1 c1 e1 hx ⟨z, ex, hz, hl⟩ => hl F x σ G1 H1 c1 _ fun lo O2 G2 H2 c2 e2 hh => hh F x σ G2 H2 c2 _ fun hi O3 G3 H3 c3 e3 p => by
    subst ex
    cases hx
    exact ⟨z, rfl, Evl.sz_of hz, q _ _ O3 G3 H3 c3 ((e1.trans e2).trans e3) (skd (Dp.str _)) p⟩

/-! ### sums and multiples -/
theorem wl_cat (h : WL K s ta Z O fun xs O1 => ∀ p, WL K s tb Z ((p, .lst (xs.map .d)) :: O1) fun ys O2 => ∃ O3, O2 = (p, .lst (xs.map .d)) :: O3 ∧ xs.length + ys.length ≤ 100000 ∧ PD (xs ++ ys) O3) : WL K s (tOp rCat ta tb) Z O PD := fun F x σ G H c Q q =>
  h F x σ G H c _ fun v k O1 G1 H1 c1 e1 hk ⟨p, xs, O1', ek, eo, hp⟩ => by
    subst ek eo
    have hk : v = .ref p := hk
    subst hk
    exact hp p F x σ G1 H1 c1 _ fun w k2 O2 G2 H2 c2 e2 hk2 ⟨r, ys, O2', ek2, eo2, O3, eo3, hl, pl⟩ => by
      subst ek2 eo2 eo3
      have hk2 : w = .ref r := hk2
      subst hk2
      obtain ⟨_, _, _, _, u4, us, eu, u5⟩ := c2.own r _ (List.mem_cons_self ..)
      subst eu
      obtain ⟨_, _, _, _, v4, vs, ev, v5⟩ := c2.own p _ (List.mem_cons_of_mem _ (List.mem_cons_self ..))
      subst ev
      have l1 := u5.len
      have l2 := v5.len
      rw [List.length_map] at l1 l2
      refine ⟨p, r, vs, us, rfl, rfl, v4, u4, Evl.sz_of (by rw [l1, l2]; exact hl), fun t ht => q (.ref t) (.v (.ref t)) _ G2 _ (c2.tail.tail.newOwn ht (cc := .lst ((xs ++ ys).map .d)) ⟨_, rfl, by rw [List.map_append]; exact v5.app u5⟩) (e1.trans e2) rfl ⟨t, _, O3, rfl, rfl, pl⟩⟩
theorem dpa_rep {vs : List V} {ds : List PyData} (h : DpAll K G vs ds) : ∀ n : Nat, DpAll K G (List.replicate n vs).flatten (List.replicate n ds).flatten
  | 0 => .nil
  | n + 1 => by
    rw [List.replicate_succ, List.replicate_succ, List.flatten_cons, List.flatten_cons]
    exact dpa_app h (dpa_rep h n)
theorem wl_rep (h : WL K s ta Z O fun xs O1 => ∀ p, WE K s tb Z ((p, .lst (xs.map .d)) :: O1) fun y O2 => ∃ (k : Int) (O3 : Own), O2 = (p, .lst (xs.map .d)) :: O3 ∧ y = .d (.int k) ∧ -(2 ^ 62) ≤ k ∧ k < 2 ^ 62 ∧ xs.length * k.toNat ≤ 100000 ∧ PD (List.replicate k.toNat xs).flatten O3) : WL K s (tOp rRep ta tb) Z O PD := fun F x σ G H c Q q =>
  h F x σ G H c _ fun v k O1 G1 H1 c1 e1 hk ⟨p, xs, O1', ek, eo, hp⟩ => by
    subst ek eo
    have hk : v = .ref p := hk
    subst hk
    exact hp p F x σ G1 H1 c1 _ fun w y O2 G2 H2 c2 e2 hy ⟨k, O3, eo3, ey, k1, k2, hl, pl⟩ => by
      subst ey eo3
      cases hy
      obtain ⟨_, _, _, _, v4, vs, ev, v5⟩ := c2.own p _ (List.mem_cons_self ..)
      subst ev
      have l2 := v5.len
      rw [List.length_map] at l2
      refine ⟨p, k, vs, rfl, rfl, v4, by omega, by omega, Evl.sz_of (by rw [l2]; exact hl), fun t ht => q (.ref t) (.v (.ref t)) _ G2 _ (c2.tail.newOwn ht (cc := .lst ((List.replicate k.toNat xs).flatten.map .d)) ⟨_, rfl, SkAll.data (dpa_rep (SkAll.undata v5) _)⟩) (e1.trans e2) rfl ⟨t, _, O3, rfl, rfl, pl⟩⟩
theorem we_catT (h : WE K s ta Z O fun k1 O1 => WE K s tb Z O1 fun k2 O2 => ∃ ds es, k1 = .d (.tuple ds) ∧ k2 = .d (.tuple es) ∧ ds.length + es.length ≤ 100000 ∧ P (.d (.tuple (ds ++ es))) O2) : WE K s (tOp (rCatA K) ta tb) Z O P := fun F x σ G H c Q q =>
  h F x σ G H c _ fun v k1 O1 G1 H1 c1 e1 hx hp => hp F x σ G1 H1 c1 _ fun w k2 O2 G2 H2 c2 e2 hy ⟨ds, es, ex, ey, hl, p⟩ => by
    subst ex ey
    cases hx with
    | @tup a vs _ hs ha =>
      cases hy with
      | @tup b ws _ ht hb =>
        have ha2 := dpa_mono e2 _ _ ha
        have hs2 := Evl.ex_t e2 hs
        refine ⟨a, b, vs, ws, rfl, rfl, Evl.ex_t c2.ex hs2, Evl.ex_t c2.ex ht, Evl.sz_of (by rw [dpa_len ha, dpa_len hb]; exact hl), fun e => ?_, fun _ e => ?_, fun _ _ t hn => ?_⟩
        · subst e
          cases ha
          exact q _ _ O2 G2 H2 c2 (e1.trans e2) (skd (.tup ht hb)) p
        · subst e
          cases hb
          rw [List.append_nil] at p
          exact q _ _ O2 G2 H2 c2 (e1.trans e2) (skd (.tup hs2 ha2)) p
        · obtain ⟨c3, e3⟩ := c2.new (o := .tup (vs ++ ws)) hn
          exact q (.ref t) _ O2 _ _ c3 ((e1.trans e2).trans e3) (skd (.tup (.inl (.inl upd_same)) (dpa_mono e3 _ _ (dpa_app ha2 hb)))) p
/-- a < b < c of ints -/
theorem we_chainI {f g : Int → Int → Bool} (h : WE K s ta Z O fun k1 O1 => WE K s tb Z O1 fun k2 O2 => ∃ i j, k1 = .d (.int i) ∧ k2 = .d (.int j) ∧ if f i j = true then WE K s tc Z O2 fun k3 O3 => ∃ l, k3 = .d (.int l) ∧ P (.d (.bool (g j l))) O3 else P (.d (.bool false)) O2) :
    WE K s (tChain (rI0 fun i j => .bl (f i j)) (rI0 fun i j => .bl (g i j)) ta tb tc) Z O P := fun F x σ G H c Q q =>
  h F x σ G H c _ fun v k1 O1 G1 H1 c1 e1 hx hp => hp F x σ G1 H1 c1 _ fun w k2 O2 G2 H2 c2 e2 hy ⟨i, j, ex, ey, p⟩ => by
    subst ex ey
    cases hx
    cases hy
    refine ⟨i, j, rfl, rfl, f i j, rfl, ?_⟩
    cases hf : f i j with
    | true =>
      rw [hf, if_pos rfl] at p
      rw [if_pos rfl]
      exact p F x σ G2 H2 c2 _ fun u k3 O3 G3 H3 c3 e3 hz ⟨l, ez, p3⟩ => by
        subst ez
        cases hz
        exact ⟨j, l, rfl, rfl, q _ _ O3 G3 H3 c3 ((e1.trans e2).trans e3) (skd (Dp.bl _)) p3⟩
    | false =>
      rw [hf, if_neg Bool.false_ne_true] at p
      rw [if_neg Bool.false_ne_true]
      exact q _ _ O2 G2 H2 c2 (e1.trans e2) (skd (Dp.bl false)) p
end
end SL

/-! SLc: statements, loops, comprehensions. -/
namespace SL
open PySem PySem.Spec PyProof.Rows L2
open Evl (Ex)
section
variable {K : PySem.W.Frag} {s : Sx} {Z : List Sk} {O : Own} {D : DE} {t u : TS} {te ta tb tc : TE} {tt : TT}
theorem Conv.seq {F : Fb} {E : Ends} (c : Conv K s F D E) (x : FX K F s) : Conv K s F { D with nx := fun Z O => SW K s u Z O D } { E with nx := u E } :=
  ⟨fun Z O σ G H cf h => h F x σ G H E cf c, c.rt, c.bk, c.ct⟩
theorem sw_seq (h : SW K s t Z O { D with nx := fun Z O => SW K s u Z O D }) : SW K s (tSeq t u) Z O D := fun F x σ G H E c cv => h F x σ G H _ c (cv.seq x)
theorem sw_next (h : D.nx Z O) : SW K s tNext Z O D := fun F x σ G H E c cv => cv.nx Z O σ G H c h
theorem sw_break (h : D.bk Z O) : SW K s tBreak Z O D := fun F x σ G H E c cv => cv.bk Z O σ G H c h
theorem sw_cont (h : D.ct Z O) : SW K s tCont Z O D := fun F x σ G H E c cv => cv.ct Z O σ G H c h
theorem sw_never (h : False) : SW K s tNever Z O D := h.elim
theorem sw_ret (h : WE K s te Z O D.rt) : SW K s (tRet te) Z O D := fun F x σ G H E c cv => h F x σ G H c _ fun v k O' G' H' c' e hd p => cv.rt v k O' G' H' c'.forget hd p
theorem sw_retN (h : D.rt (.d .none) O) : SW K s tRetN Z O D := fun F x σ G H E c cv => cv.rt .non (.d .none) O G H c.forget (skd .non) h
theorem sw_drop (h : WE K s te Z O fun _ O' => D.nx Z O') : SW K s (tDrop te) Z O D := fun F x σ G H E c cv => h F x σ G H c _ fun v k O' G' H' c' e hd p => cv.nx Z O' σ G' H' c' p
theorem sw_asg {i : Nat} (h : WE K s te Z O fun k O' => D.nx (Z.set i k) O') : SW K s (tAsg te (gName i)) Z O D := fun F x σ G H E c cv =>
  h F x σ G H c _ fun v k O' G' H' c' e hd p => cv.nx _ _ _ G' H' (c'.set hd) p
theorem sw_if (h : WT K s tt Z O fun b O' => if b = true then SW K s t Z O' D else SW K s u Z O' D) : SW K s (tIfS tt t u) Z O D := fun F x σ G H E c cv =>
  h F x σ G H c _ fun b O1 G1 H1 c1 e1 p => by
    cases b with
    | true =>
      rw [if_pos rfl] at p ⊢
      exact p F x σ G1 H1 E c1 cv
    | false =>
      rw [if_neg Bool.false_ne_true] at p ⊢
      exact p F x σ G1 H1 E c1 cv
theorem Cfg.same {F : Fb} {σ : L2.St} {G H : Hp} {b : Option Addr} {i : Nat} {o : Option V} {k : Sk} (c : Cfg K F b Z O σ G H) (h : σ[i]? = some o) (hk : SkO K G k o) : Cfg K F b (Z.set i k) O σ G H := by
  have c2 := c.setO (i := i) hk
  have e2 : σ.set i o = σ := by
    apply List.ext_getElem?
    intro j
    by_cases z : i = j
    · subst z
      have hl := (List.getElem?_eq_some_iff.mp h).1
      rw [List.getElem?_set_self hl, h]
    · rw [List.getElem?_set_ne z]
  rw [e2] at c2
  exact c2
/-- the own list of data at the head stands still from here on -/
theorem sw_freeze {p : Addr} {ds : List PyData} {i : Nat} (hi : Z[i]? = some (.v (.ref p))) (h : SW K s t (Z.set i (.d (.list ds))) O D) : SW K s t Z ((p, .lst (ds.map .d)) :: O) D := fun F x σ G H E c cv => by
  obtain ⟨G', c', e, hd⟩ := c.freeze
  obtain ⟨o, h1, h2⟩ := c'.sl i _ hi
  have h2 : o = some (.ref p) := h2
  subst h2
  exact h F x σ G' H E (c'.same h1 (k := .d (.list ds)) ⟨.ref p, rfl, hd⟩) cv
theorem sw_perm {O' : Own} (hp : O.Perm O') (h : SW K s t Z O' D) : SW K s t Z O D := fun F x σ G H E c cv => h F x σ G H E (c.perm hp) cv
theorem sw_forget {p : Addr × Cell} (h : SW K s t Z O D) : SW K s t Z (p :: O) D := fun F x σ G H E c cv => h F x σ G H E c.tail cv
theorem sw_imp {D' : DE} (h : SW K s t Z O D') (hn : ∀ Z O, D'.nx Z O → D.nx Z O) (hr : ∀ k O, D'.rt k O → D.rt k O) (hb : ∀ Z O, D'.bk Z O → D.bk Z O) (hc : ∀ Z O, D'.ct Z O → D.ct Z O) : SW K s t Z O D := fun F x σ G H E c cv =>
  h F x σ G H E c ⟨fun Z O σ G H c h => cv.nx Z O σ G H c (hn Z O h), fun v k O G H c hd h => cv.rt v k O G H c hd (hr k O h), fun Z O σ G H c h => cv.bk Z O σ G H c (hb Z O h), fun Z O σ G H c h => cv.ct Z O σ G H c (hc Z O h)⟩
/-- a statement, then the rest, by a word between them -/
theorem sw_cut (M : List Sk → Own → Prop) (h : SW K s t Z O { D with nx := M }) (k : ∀ Z' O', M Z' O' → SW K s u Z' O' D) : SW K s (tSeq t u) Z O D :=
  sw_seq (sw_imp h k (fun _ _ h => h) (fun _ _ h => h) (fun _ _ h => h))
/-- xs.append(e) on the own list at the head -/
theorem sw_app {p : Addr} {ks : List Sk} {i : Nat} (hi : Z[i]? = some (.v (.ref p))) (hl : ks.length < 100000) (h : WE K s te Z ((p, .lst ks) :: O) fun k O' => ∃ O2, O' = (p, .lst ks) :: O2 ∧ D.nx Z ((p, .lst (ks ++ [k])) :: O2)) :
    SW K s (tDrop (tBM K "list" rAppend (tVar i) (tCons te tNil))) Z ((p, .lst ks) :: O) D := fun F x σ G H E c cv => by
  obtain ⟨o, h1, h2⟩ := c.sl i _ hi
  have h2 : o = some (.ref p) := h2
  subst h2
  obtain ⟨_, _, _, _, b4, vs0, e0, _⟩ := c.own p _ (List.mem_cons_self ..)
  subst e0
  refine ⟨.ref p, h1, .inl ⟨rfl, vs0, Evl.sq_of b4⟩, ?_⟩
  refine h F x σ G H c _ fun v k O' G' H' c' e hd ⟨O2, eo, p'⟩ => ?_
  subst eo
  obtain ⟨_, _, _, _, o4, vs, e5, o5⟩ := c'.own p _ (List.mem_cons_self ..)
  subst e5
  refine ⟨p, vs, v, rfl, rfl, o4, Evl.sz_lt (by rw [o5.len]; exact hl), ?_⟩
  exact cv.nx _ _ _ _ _ (c'.setOwn (cd := .lst (ks ++ [k])) ⟨_, rfl, o5.app ⟨hd, True.intro⟩⟩) p'
/-- xs[i] = e on the own list at the head -/
theorem sw_setL {p : Addr} {ks : List Sk} {i : Nat} (hi : Z[i]? = some (.v (.ref p)))
    (h : WE K s te Z ((p, .lst ks) :: O) fun k O1 => WE K s tb Z O1 fun y O2 => ∃ n j O3, O2 = (p, .lst ks) :: O3 ∧ y = .d (.int n) ∧ ixN ks.length n = some j ∧ D.nx Z ((p, .lst (ks.set j k)) :: O3)) :
    SW K s (tAsg te (gSub (tVar i) tb rSetL)) Z ((p, .lst ks) :: O) D := fun F x σ G H E c cv => by
  obtain ⟨o, h1, h2⟩ := c.sl i _ hi
  have h2 : o = some (.ref p) := h2
  subst h2
  refine h F x σ G H c _ fun v k O1 G' H' c' e hd p' => ?_
  refine ⟨.ref p, h1, ?_⟩
  refine p' F x σ G' H' c' _ fun w y O2 G2 H2 c2 e2 hy ⟨n, j, O3, eo, ey, hj, q⟩ => ?_
  subst ey eo
  cases hy
  obtain ⟨_, _, _, _, o4, vs, e5, o5⟩ := c2.own p _ (List.mem_cons_self ..)
  subst e5
  refine ⟨p, vs, n, j, rfl, rfl, o4, by rw [o5.len]; exact hj, ?_⟩
  exact cv.nx _ _ _ _ _ (c2.setOwn (cd := .lst (ks.set j k)) ⟨_, rfl, o5.set (hd.mono e2) j⟩) q

/-! ### targets -/
theorem gw_name {i : Nat} {k : Sk} {N : List Sk → Own → Prop} (h : N (Z.set i k) O) : GW K s (gName i) k Z O N := fun F x v σ G H c hd Q q => q _ _ _ G H (c.set hd) (Evl.Ex.refl _) h
theorem gws_nil {N : List Sk → Own → Prop} (h : N Z O) : GWs K s gNil [] Z O N := fun F x vs σ G H c hd Q q => by
  cases vs with
  | nil => exact ⟨rfl, q _ _ _ G H c (Evl.Ex.refl _) h⟩
  | cons _ _ => exact hd.elim
theorem gws_name {i : Nat} {g : TGs} {k : Sk} {ks : List Sk} {N : List Sk → Own → Prop} (h : GWs K s g ks (Z.set i k) O N) : GWs K s (gCons (gName i) g) (k :: ks) Z O N := fun F x vs σ G H c hd Q q => by
  cases vs with
  | nil => exact hd.elim
  | cons v vs => exact ⟨_, _, rfl, h F x _ _ G H (c.set hd.1) hd.2 Q q⟩
theorem gw_tup {n : Nat} {g : TGs} {ds : List PyData} {N : List Sk → Own → Prop} (hn : ds.length = n) (h : GWs K s g (ds.map .d) Z O N) : GW K s (gTup K n g) (.d (.tuple ds)) Z O N := fun F x v σ G H c hd Q q => by
  cases hd with
  | tup hs ha => exact ⟨_, _, rfl, Evl.ex_t c.ex hs, by rw [dpa_len ha]; exact hn, h F x _ σ G H c (SkAll.data ha) Q q⟩
/-- a nested target within a target -/
theorem gws_tup {g : TG} {u : TGs} {k : Sk} {ks : List Sk} {N : List Sk → Own → Prop} (h : GW K s g k Z O fun Z' O' => GWs K s u ks Z' O' N) : GWs K s (gCons g u) (k :: ks) Z O N := fun F x vs σ G H c hd Q q => by
  cases vs with
  | nil => exact hd.elim
  | cons v vs => exact ⟨_, _, rfl, h F x v σ G H c hd.1 _ fun Z' O' σ' G' H' c' e hn => hn F x vs σ' G' H' c' (hd.2.mono e) Q fun Z2 O2 σ2 G2 H2 c2 e2 n => q Z2 O2 σ2 G2 H2 c2 (e.trans e2) n⟩
theorem sw_asgG {g : TG} (h : WE K s te Z O fun k O' => GW K s g k Z O' D.nx) : SW K s (tAsg te g) Z O D := fun F x σ G H E c cv =>
  h F x σ G H c _ fun v k O' G' H' c' e hd p => p F x v σ G' H' c' hd _ fun Z' O' σ' G2 H2 c2 _ n => cv.nx _ _ _ _ _ c2 n
theorem sw_par {i j : Nat} (h : WE K s ta Z O fun x O1 => WE K s tb Z O1 fun y O2 => D.nx ((Z.set i x).set j y) O2) : SW K s (tPar i j (tCons ta (tCons tb tNil))) Z O D := fun F x σ G H E c cv =>
  h F x σ G H c _ fun v k1 O1 G1 H1 c1 e1 hx p => p F x σ G1 H1 c1 _ fun w k2 O2 G2 H2 c2 e2 hy q =>
    ⟨v, w, rfl, cv.nx _ _ _ G2 H2 ((c2.set (hx.mono e2)).set hy) q⟩
theorem sw_par3 {i j l : Nat} (h : WE K s ta Z O fun x O1 => WE K s tb Z O1 fun y O2 => WE K s tc Z O2 fun z O3 => D.nx (((Z.set i x).set j y).set l z) O3) : SW K s (tPar3 i j l (tCons ta (tCons tb (tCons tc tNil)))) Z O D := fun F x σ G H E c cv =>
  h F x σ G H c _ fun v k1 O1 G1 H1 c1 e1 hx p => p F x σ G1 H1 c1 _ fun w k2 O2 G2 H2 c2 e2 hy q => q F x σ G2 H2 c2 _ fun u k3 O3 G3 H3 c3 e3 hz r =>
    ⟨v, w, u, rfl, cv.nx _ _ _ G3 H3 (((c3.set (hx.mono (e2.trans e3))).set (hy.mono e3)).set hz) r⟩
theorem sw_aug {i : Nat} {f : Int → Int → Int} {a : Int} (hi : Z[i]? = some (.d (.int a))) (h : WE K s te Z O fun y O' => ∃ b, y = .d (.int b) ∧ D.nx (Z.set i (.d (.int (f a b)))) O') : SW K s (tAug i te (ipI f)) Z O D := fun F x σ G H E c cv => by
  obtain ⟨o, h1, v, h2, h3⟩ := c.sl i _ hi
  subst h2
  cases h3
  exact ⟨.int a, h1, h F x σ G H c _ fun w y O1 G1 H1 c1 e1 hy ⟨b, ey, p⟩ => by
    subst ey
    cases hy
    exact ⟨a, b, rfl, rfl, cv.nx _ _ _ G1 H1 (c1.set (skd (Dp.int (f a b)))) p⟩⟩

/-! ### loops -/
/-- for: an invariant over the turn, the slots' words and the own cells -/
theorem sw_for {wi : TI} {g : TG} {tb : TS} (I : Nat → List Sk → Own → Prop) (n : Nat) (Yd : Nat → PyData → Prop) (hw : IW K s wi Z O fun n' Y' O' => n' = n ∧ Y' = Yd ∧ I 0 Z O')
    (hs : ∀ i d Z' O', i < n → Yd i d → I i Z' O' → GW K s g (.d d) Z' O' fun Z2 O2 => SW K s tb Z2 O2 { D with nx := I (i + 1), ct := I (i + 1), bk := D.nx }) (hd : ∀ Z' O', I n Z' O' → D.nx Z' O') : SW K s (tFor wi g tb) Z O D := fun F x σ G H E c cv =>
  hw F x σ G H c _ fun J n' Y' O1 G1 H1 c1 e1 ⟨en, ey, h0⟩ hj => by
    subst en ey
    have x1 := x.rebase c1
    refine ⟨fun i m σ2 H2 => m = n' - i ∧ i ≤ n' ∧ ∃ Z2 O2 G2, Cfg K { F with G := G1 } s.box Z2 O2 σ2 G2 H2 ∧ I i Z2 O2, ⟨_, rfl, Nat.zero_le _, Z, O1, G1, c1.rebase c1 (Evl.Ex.refl _), h0⟩, ?_⟩
    rintro i m σ2 H2 ⟨rfl, hi, Z2, O2, G2, c2, inv⟩
    obtain ⟨j1, j2, j3⟩ := hj i G2 H2 c2.e0 c2.ex
    by_cases hlt : i < n'
    · refine .inr ⟨j1 hlt, fun σ' H' => ∃ Z2 O2 G2, Cfg K { F with G := G1 } s.box Z2 O2 σ' G2 H' ∧ I (i + 1) Z2 O2, fun σ' H' p' => ⟨n' - (i + 1), by omega, rfl, hlt, p'⟩, fun y H3 hy => ?_⟩
      obtain ⟨d, hd', hcase⟩ := j3 y H3 hlt hy
      have main : ∀ (G3 : Hp), Cfg K { F with G := G1 } s.box Z2 O2 σ2 G3 H3 → Dp K G3 y d → g y σ2 H3 fun σ4 H4 => tb { E with nx := fun σ' H' => ∃ Z2 O2 G2, Cfg K { F with G := G1 } s.box Z2 O2 σ' G2 H' ∧ I (i + 1) Z2 O2, ct := fun σ' H' => ∃ Z2 O2 G2, Cfg K { F with G := G1 } s.box Z2 O2 σ' G2 H' ∧ I (i + 1) Z2 O2, bk := E.nx } σ4 H4 := fun G3 c3 hx =>
        hs i d Z2 O2 hlt hd' inv _ x1 y σ2 G3 H3 c3 hx _ fun Z4 O4 σ4 G4 H4 c4 _ body => body _ x1 σ4 G4 H4 _ c4
          ⟨fun Z O σ G H c h => ⟨Z, O, G, c, h⟩, fun v k O G H c hd h => cv.rt v k O G H (c.unbase c1) hd h, fun Z O σ G H c h => cv.nx Z O σ G H (c.unbase c1) h, fun Z O σ G H c h => ⟨Z, O, G, c, h⟩⟩
      rcases hcase with ⟨e3, hx⟩ | ⟨T, vs, ex, hT, e3, ds, ed, hds⟩
      · subst e3
        exact main G2 c2 hx
      · subst e3 ex ed
        obtain ⟨c3, e4⟩ := c2.new (o := .tup vs) hT
        exact main _ c3 (.tup (.inl (.inl upd_same)) (dpa_mono e4 ds vs hds))
    · have e : i = n' := by omega
      subst e
      exact .inl ⟨j2 rfl, cv.nx _ _ _ _ _ (c2.unbase c1) (hd _ _ inv)⟩
theorem iw_list {tl : TE} {P : Nat → (Nat → PyData → Prop) → Own → Prop} (h : WE K s tl Z O fun k O' => ∃ ds, k = .d (.list ds) ∧ P ds.length (fun i d => ds[i]? = some d) O') : IW K s (iList K tl) Z O P := fun F x σ G H c R r =>
  h F x σ G H c _ fun v k O1 G1 H1 c1 e1 hx ⟨ds, ex, p⟩ => by
    subst ex
    cases hx with
    | @lst a vs _ hs ha =>
      refine ⟨a, rfl, ⟨vs, Evl.ex_l c1.ex hs⟩, r _ _ _ O1 G1 H1 c1 e1 p fun i G2 H2 e2 e3 => ⟨fun hi => ?_, fun hi => ?_, fun x H3 hi hy => ?_⟩⟩
      · exact ⟨vs, vs[i]'(by rw [dpa_len ha]; exact hi), Evl.ex_l (e2.trans e3) hs, List.getElem?_eq_getElem _⟩
      · exact ⟨vs, Evl.ex_l (e2.trans e3) hs, by rw [dpa_len ha, hi]; exact Nat.le_refl _⟩
      · obtain ⟨h1, h2⟩ := hy
        obtain ⟨d, q1, q2⟩ := dpa_at ha (h2 vs (Evl.ex_l (e2.trans e3) hs))
        exact ⟨d, q1, .inl ⟨h1, dp_mono e2 _ _ q2⟩⟩
theorem iw_tup {tl : TE} {P : Nat → (Nat → PyData → Prop) → Own → Prop} (h : WE K s tl Z O fun k O' => ∃ ds, k = .d (.tuple ds) ∧ P ds.length (fun i d => ds[i]? = some d) O') : IW K s (iTup K tl) Z O P := fun F x σ G H c R r =>
  h F x σ G H c _ fun v k O1 G1 H1 c1 e1 hx ⟨ds, ex, p⟩ => by
    subst ex
    cases hx with
    | @tup a vs _ hs ha =>
      refine ⟨a, rfl, ⟨vs, Evl.ex_t c1.ex hs⟩, r _ _ _ O1 G1 H1 c1 e1 p fun i G2 H2 e2 e3 => ⟨fun hi => ?_, fun hi => ?_, fun x H3 hi hy => ?_⟩⟩
      · exact ⟨vs, vs[i]'(by rw [dpa_len ha]; exact hi), Evl.ex_t (e2.trans e3) hs, List.getElem?_eq_getElem _⟩
      · exact ⟨vs, Evl.ex_t (e2.trans e3) hs, by rw [dpa_len ha, hi]; exact Nat.le_refl _⟩
      · obtain ⟨h1, h2⟩ := hy
        obtain ⟨d, q1, q2⟩ := dpa_at ha (h2 vs (Evl.ex_t (e2.trans e3) hs))
        exact ⟨d, q1, .inl ⟨h1, dp_mono e2 _ _ q2⟩⟩
theorem iw_rng1 {ta : TA} {P : Nat → (Nat → PyData → Prop) → Own → Prop} (h : WA K s ta Z O fun ks O' => ∃ j : Int, ks = [.d (.int j)] ∧ (-(2 ^ 62) ≤ j ∧ j < 2 ^ 62) ∧ P j.toNat (fun i d => d = .int (i : Nat)) O') : IW K s (iRng1 ta) Z O P := fun F x σ G H c R r =>
  h F x σ G H c _ fun vs ks O1 G1 H1 c1 e1 ha ⟨j, ek, ⟨hj1, hj2⟩, p⟩ => by
    subst ek
    match vs, ha with
    | [v], ⟨hv, _⟩ =>
      cases hv
      refine ⟨j, rfl, hj1, hj2, r _ _ _ O1 G1 H1 c1 e1 p fun i G2 H2 e2 e3 => ⟨fun hi => hi, fun hi => Nat.le_of_eq hi.symm, fun x H3 hi hy => ?_⟩⟩
      obtain ⟨h1, h2⟩ := hy
      subst h2
      exact ⟨_, rfl, .inl ⟨h1, by rw [Int.zero_add]; exact .int _⟩⟩
theorem iw_rng2 {ta : TA} {P : Nat → (Nat → PyData → Prop) → Own → Prop} (h : WA K s ta Z O fun ks O' => ∃ l j : Int, ks = [.d (.int l), .d (.int j)] ∧ (-(2 ^ 62) ≤ l ∧ l < 2 ^ 62 ∧ -(2 ^ 62) ≤ j ∧ j < 2 ^ 62) ∧ P (j - l).toNat (fun i d => d = .int (l + (i : Nat))) O') : IW K s (iRng2 ta) Z O P := fun F x σ G H c R r =>
  h F x σ G H c _ fun vs ks O1 G1 H1 c1 e1 ha ⟨l, j, ek, hb, p⟩ => by
    subst ek
    match vs, ha with
    | [v, w], ⟨hv, hw, _⟩ =>
      cases hv
      cases hw
      refine ⟨l, j, rfl, hb, r _ _ _ O1 G1 H1 c1 e1 p fun i G2 H2 e2 e3 => ⟨fun hi => hi, fun hi => Nat.le_of_eq hi.symm, fun x H3 hi hy => ?_⟩⟩
      obtain ⟨h1, h2⟩ := hy
      subst h2
      exact ⟨_, rfl, .inl ⟨h1, .int _⟩⟩
/-- while: an invariant and a measure -/
theorem sw_while {tb : TS} (I : Nat → List Sk → Own → Prop) (m0 : Nat) (h0 : I m0 Z O)
    (hs : ∀ m Z' O', I m Z' O' → WT K s tt Z' O' fun b O1 => if b = true then SW K s tb Z' O1 { D with nx := fun Z2 O2 => ∃ m', m' < m ∧ I m' Z2 O2, ct := fun Z2 O2 => ∃ m', m' < m ∧ I m' Z2 O2, bk := D.nx } else D.nx Z' O1) : SW K s (tWhile tt tb) Z O D := fun F x σ G H E c cv => by
  refine ⟨fun m σ2 H2 => ∃ Z2 O2 G2, Cfg K F s.box Z2 O2 σ2 G2 H2 ∧ I m Z2 O2, ⟨m0, Z, O, G, c, h0⟩, ?_⟩
  rintro m σ2 H2 ⟨Z2, O2, G2, c2, inv⟩
  refine hs m Z2 O2 inv F x σ2 G2 H2 c2 _ fun b O3 G3 H3 c3 e3 p => ?_
  cases b with
  | true =>
    rw [if_pos rfl] at p ⊢
    refine ⟨fun σ' H' => ∃ m', m' < m ∧ ∃ Z2 O2 G2, Cfg K F s.box Z2 O2 σ' G2 H' ∧ I m' Z2 O2, fun σ' H' ⟨m', hm, q⟩ => ⟨m', hm, q⟩, ?_⟩
    exact p F x σ2 G3 H3 _ c3 ⟨fun Z O σ G H c ⟨m', hm, h⟩ => ⟨m', hm, Z, O, G, c, h⟩, cv.rt, fun Z O σ G H c h => cv.nx Z O σ G H c h, fun Z O σ G H c ⟨m', hm, h⟩ => ⟨m', hm, Z, O, G, c, h⟩⟩
  | false =>
    rw [if_neg Bool.false_ne_true] at p ⊢
    exact cv.nx _ _ _ _ _ c3 p

/-! ### comprehensions -/
def wipeZ (Z : List Sk) : List Nat → List Sk
  | [] => Z
  | v :: vs => (wipeZ Z vs).set v .no
theorem wipe_cfg {F : Fb} {b : Option Addr} {σ : L2.St} {G H : Hp} (c : Cfg K F b Z O σ G H) : ∀ vs, Cfg K F b (wipeZ Z vs) O (wipe σ vs) G H
  | [] => c
  | v :: vs => (wipe_cfg c vs).setO (k := .no) True.intro
/-- a target that stores a block's own names alone -/
def Ow (g : TG) (vs : List Nat) : Prop := ∀ x σ H (Q Q' : L2.St → Hp → Prop), (∀ σ2 H2, wipe σ2 vs = wipe σ vs → Q σ2 H2 → Q' σ2 H2) → g x σ H Q → g x σ H Q'
def Ows (g : TGs) (vs : List Nat) : Prop := ∀ x σ H (Q Q' : L2.St → Hp → Prop), (∀ σ2 H2, wipe σ2 vs = wipe σ vs → Q σ2 H2 → Q' σ2 H2) → g x σ H Q → g x σ H Q'
theorem wipe_at : ∀ (vs : List Nat) (σ : L2.St) (i : Nat), (wipe σ vs)[i]? = if i ∈ vs ∧ i < σ.length then some none else σ[i]?
  | [], σ, i => by simp [wipe]
  | v :: vs, σ, i => by
    show ((wipe σ vs).set v none)[i]? = _
    rw [List.getElem?_set, wipe_at vs σ i, wipe_length]
    by_cases h : v = i
    · subst h
      by_cases h2 : v < σ.length
      · simp [h2]
      · simp [h2]
    · have h' : i ≠ v := fun z => h z.symm
      simp [h, h']
theorem wipe_set {vs : List Nat} {σ : L2.St} {i : Nat} {x : Option V} (h : i ∈ vs) : wipe (σ.set i x) vs = wipe σ vs := by
  apply List.ext_getElem?
  intro j
  rw [wipe_at, wipe_at, List.length_set, List.getElem?_set]
  by_cases hj : i = j
  · subst hj
    by_cases h2 : i < σ.length
    · simp [h, h2]
    · simp [h, h2]
  · simp [hj]
theorem wipe_wipe {vs : List Nat} {σ : L2.St} : wipe (wipe σ vs) vs = wipe σ vs := by
  apply List.ext_getElem?
  intro j
  rw [wipe_at, wipe_length, wipe_at]
  split <;> rfl
theorem ow_name {i : Nat} {vs : List Nat} (h : i ∈ vs) : Ow (gName i) vs := fun x σ H Q Q' k q => k _ _ (wipe_set h) q
theorem ows_nil {vs : List Nat} : Ows gNil vs := fun x σ H Q Q' k ⟨e, q⟩ => ⟨e, k _ _ rfl q⟩
theorem ows_cons {g : TG} {u : TGs} {vs : List Nat} (hg : Ow g vs) (hu : Ows u vs) : Ows (gCons g u) vs := fun x σ H Q Q' k ⟨v, r, e, q⟩ =>
  ⟨v, r, e, hg v σ H _ _ (fun σ1 H1 e1 q1 => hu r σ1 H1 _ _ (fun σ2 H2 e2 q2 => k σ2 H2 (e2.trans e1) q2) q1) q⟩
theorem ow_tup {n : Nat} {u : TGs} {vs : List Nat} (hu : Ows u vs) : Ow (gTup K n u) vs := fun x σ H Q Q' k ⟨a, xs, e, h, hl, q⟩ => ⟨a, xs, e, h, hl, hu xs σ H _ _ k q⟩
theorem ow_of {g : TG} {vs : List Nat} (og : Ow g vs) (y : V) (σ : L2.St) (H : Hp) (Q0 : L2.St → Hp → Prop) (h : g y (wipe σ vs) H fun σ2 H2 => wipe σ2 vs = wipe σ vs → Q0 σ2 H2) : g y (wipe σ vs) H fun σ2 H2 => wipe σ2 vs = wipe σ vs ∧ Q0 σ2 H2 :=
  og y _ H _ _ (fun σ2 H2 e q => ⟨e.trans wipe_wipe, q (e.trans wipe_wipe)⟩) h
/-- [e for target in iter if test]: I by the turn, what is made so far, the other own cells -/
theorem we_comp {wi : TI} {g : TG} {tt : TT} {te : TE} {vs : List Nat} {P : Sk → Own → Prop} (og : Ow g vs) (I : Nat → List Sk → Own → Prop) (n : Nat) (Yd : Nat → PyData → Prop) (hw : IW K s wi Z O fun n' Y' O' => n' = n ∧ Y' = Yd ∧ I 0 [] O') (hn : n ≤ 50000)
    (hil : ∀ i acc O', I i acc O' → acc.length ≤ i)
    (hs : ∀ i d acc O' p, i < n → Yd i d → I i acc O' → GW K s g (.d d) (wipeZ Z vs) ((p, .lst acc) :: O') fun Z2 O2 => O2 = (p, .lst acc) :: O' ∧ WT K s tt Z2 O2 fun b O3 => if b = true then WE K s te Z2 O3 fun y O4 => ∃ O5, O4 = (p, .lst acc) :: O5 ∧ I (i + 1) (acc ++ [y]) O5 else ∃ O5, O3 = (p, .lst acc) :: O5 ∧ I (i + 1) acc O5)
    (hd : ∀ acc O' p, I n acc O' → P (.v (.ref p)) ((p, .lst acc) :: O')) : WE K s (tLc wi g tt te vs) Z O P := fun F x σ G H c Q q =>
  hw F x σ G H c _ fun J n' Y' O1 G1 H1 c1 e1 ⟨en, ey, h0⟩ hj => by
    subst en ey
    intro Dl hD
    have x1 := x.rebase c1
    have c1r := (c1.rebase c1 (Evl.Ex.refl _)).newOwn (cc := .lst []) (o := .lst []) hD ⟨[], rfl, True.intro⟩
    refine ⟨fun i m H2 => m = n' - i ∧ i ≤ n' ∧ ∃ acc O2 G2, Cfg K { F with G := G1 } s.box Z ((Dl, .lst acc) :: O2) σ G2 H2 ∧ I i acc O2, ⟨_, rfl, Nat.zero_le _, [], O1, G1, c1r, h0⟩, ?_⟩
    rintro i m H2 ⟨rfl, hi, acc, O2, G2, c2, inv⟩
    obtain ⟨j1, j2, j3⟩ := hj i G2 H2 c2.e0 c2.ex
    by_cases hlt : i < n'
    · refine .inr ⟨j1 hlt, fun H' => ∃ acc O2 G2, Cfg K { F with G := G1 } s.box Z ((Dl, .lst acc) :: O2) σ G2 H' ∧ I (i + 1) acc O2, fun H' p' => ⟨n' - (i + 1), by omega, rfl, hlt, p'⟩, fun y H3 hy => ?_⟩
      obtain ⟨d, hd', hcase⟩ := j3 y H3 hlt hy
      have main : ∀ (G3 : Hp), Cfg K { F with G := G1 } s.box Z ((Dl, .lst acc) :: O2) σ G3 H3 → Dp K G3 y d → g y (wipe σ vs) H3 fun σ2 H2 => wipe σ2 vs = wipe σ vs ∧ tt σ2 H2 fun b H3 =>
          if b = true then te σ2 H3 fun y H4 => ∃ acc, H4 Dl = some (.lst acc) ∧ acc.length < sizeLine ∧ (∃ acc2 O2 G2, Cfg K { F with G := G1 } s.box Z ((Dl, .lst acc2) :: O2) σ G2 (upd H4 Dl (.lst (acc ++ [y]))) ∧ I (i + 1) acc2 O2) else ∃ acc O2 G2, Cfg K { F with G := G1 } s.box Z ((Dl, .lst acc) :: O2) σ G2 H3 ∧ I (i + 1) acc O2 := fun G3 c3 hx => by
        refine ow_of og y σ H3 _ ?_
        refine hs i d acc O2 Dl hlt hd' inv _ x1 y (wipe σ vs) G3 H3 (wipe_cfg c3 vs) hx _ fun Z4 O4 σ4 G4 H4 c4 e34 ⟨eo, body⟩ hwp => ?_
        subst eo
        have back : ∀ {O5 : Own} {G5 H5 : Hp}, Cfg K { F with G := G1 } s.box Z4 O5 σ4 G5 H5 → Ex G3 G5 → Cfg K { F with G := G1 } s.box Z O5 σ G5 H5 := fun c5 e5 =>
          c5.slots c3.len fun j k hk => by
            obtain ⟨o, h1, h2⟩ := c3.sl j k hk
            exact ⟨o, h1, h2.mono e5⟩
        refine body _ x1 σ4 G4 H4 c4 _ fun b O5 G5 H5 c5 e5 pb => ?_
        cases b with
        | false =>
          rw [if_neg Bool.false_ne_true] at pb ⊢
          obtain ⟨O6, eo6, pb⟩ := pb
          subst eo6
          exact ⟨acc, O6, G5, back c5 (e34.trans e5), pb⟩
        | true =>
          rw [if_pos rfl] at pb ⊢
          refine pb _ x1 σ4 G5 H5 c5 _ fun y k O6 G6 H6 c6 e6 hy ⟨O7, eo7, pi⟩ => ?_
          subst eo7
          obtain ⟨_, _, _, _, o4, us, eu, o5⟩ := c6.own Dl _ (List.mem_cons_self ..)
          subst eu
          refine ⟨us, o4, Evl.sz_lt ?_, acc ++ [k], O7, G6, (back c6 ((e34.trans e5).trans e6)).setOwn (cd := .lst (acc ++ [k])) ⟨_, rfl, o5.app ⟨hy, True.intro⟩⟩, pi⟩
          have := hil i acc O2 inv
          rw [o5.len]
          omega
      rcases hcase with ⟨e3, hx⟩ | ⟨T, us, ex, hT, e3, ds, ed, hds⟩
      · subst e3
        exact main G2 c2 hx
      · subst e3 ex ed
        obtain ⟨c3, e4⟩ := c2.new (o := .tup us) hT
        exact main _ c3 (.tup (.inl (.inl upd_same)) (dpa_mono e4 ds us hds))
    · have e : i = n' := by omega
      subst e
      exact .inl ⟨j2 rfl, q _ _ _ _ _ (c2.unbase c1) (e1.trans c2.e0) skv (hd _ _ _ inv)⟩
/-- of data, by an invariant -/
theorem wl_comp {wi : TI} {g : TG} {tt : TT} {te : TE} {vs : List Nat} {PL : List PyData → Own → Prop} (og : Ow g vs) (I : Nat → List PyData → Own → Prop) (n : Nat) (Yd : Nat → PyData → Prop) (hw : IW K s wi Z O fun n' Y' O' => n' = n ∧ Y' = Yd ∧ I 0 [] O') (hn : n ≤ 50000)
    (hil : ∀ i acc O', I i acc O' → acc.length ≤ i)
    (hs : ∀ i d acc O' p, i < n → Yd i d → I i acc O' → GW K s g (.d d) (wipeZ Z vs) ((p, .lst (acc.map .d)) :: O') fun Z2 O2 => O2 = (p, .lst (acc.map .d)) :: O' ∧ WT K s tt Z2 O2 fun b O3 => if b = true then WE K s te Z2 O3 fun y O4 => ∃ w O5, y = .d w ∧ O4 = (p, .lst (acc.map .d)) :: O5 ∧ I (i + 1) (acc ++ [w]) O5 else ∃ O5, O3 = (p, .lst (acc.map .d)) :: O5 ∧ I (i + 1) acc O5)
    (hd : ∀ acc O', I n acc O' → PL acc O') : WL K s (tLc wi g tt te vs) Z O PL := by
  refine we_comp og (fun i ks O' => ∃ acc, ks = acc.map .d ∧ I i acc O') n Yd ?_ hn (fun i ks O' ⟨acc, e, h⟩ => by rw [e, List.length_map]; exact hil i acc O' h) ?_ (fun ks O' p ⟨acc, e, h⟩ => ⟨p, acc, O', rfl, by rw [e], hd acc O' h⟩)
  · intro F x σ G H c R r
    exact hw F x σ G H c R fun J n Yd O' G1 H1 c1 e1 ⟨e2, e3, h0⟩ hj => r J n Yd O' G1 H1 c1 e1 ⟨e2, e3, [], rfl, h0⟩ hj
  · rintro i d ks O' p hi hy ⟨acc, rfl, inv⟩
    intro F x v σ G H c hx Q q
    refine hs i d acc O' p hi hy inv F x v σ G H c hx Q fun Z' O2 σ' G' H' c' e' ⟨eo, body⟩ => q Z' O2 σ' G' H' c' e' ⟨eo, ?_⟩
    refine wt_imp body fun b O3 hb => ?_
    cases b with
    | true =>
      rw [if_pos rfl] at hb ⊢
      refine we_imp hb fun y O4 ⟨w, O5, ey, eo5, h⟩ => ⟨O5, eo5, acc ++ [w], by rw [ey, List.map_append]; rfl, h⟩
    | false =>
      rw [if_neg Bool.false_ne_true] at hb ⊢
      obtain ⟨O5, eo5, h⟩ := hb
      exact ⟨O5, eo5, acc, rfl, h⟩
/-- no test, the other own cells untouched, each element told -/
theorem wl_map {wi : TI} {g : TG} {te : TE} {vs : List Nat} {PL : List PyData → Own → Prop} (og : Ow g vs) (n : Nat) (Yd : Nat → PyData → Prop) (out : List PyData) (hw : IW K s wi Z O fun n' Y' O' => n' = n ∧ Y' = Yd ∧ O' = O) (hn : n ≤ 50000) (ho : out.length = n)
    (hs : ∀ i d y p acc, i < n → Yd i d → out[i]? = some y → GW K s g (.d d) (wipeZ Z vs) ((p, .lst acc) :: O) fun Z2 O2 => O2 = (p, .lst acc) :: O ∧ WE K s te Z2 O2 fun z O3 => z = .d y ∧ O3 = O2)
    (hd : PL out O) : WL K s (tLc wi g tYes te vs) Z O PL := by
  refine wl_comp og (fun i acc O' => acc = out.take i ∧ O' = O) n Yd ?_ hn (fun i acc O' ⟨e, _⟩ => by rw [e, List.length_take]; omega) ?_ (fun acc O' ⟨e, eo⟩ => ?_)
  · intro F x σ G H c R r
    exact hw F x σ G H c R fun J n Yd O' G1 H1 c1 e1 ⟨e2, e3, e4⟩ hj => r J n Yd O' G1 H1 c1 e1 ⟨e2, e3, rfl, e4⟩ hj
  · rintro i d acc O' p hi hy ⟨e, rfl⟩
    have hi2 : i < out.length := by omega
    have h1 : out[i]? = some out[i] := List.getElem?_eq_getElem hi2
    intro F x v σ G H c hx Q q
    refine hs i d _ p (acc.map .d) hi hy h1 F x v σ G H c hx Q fun Z' O2 σ' G' H' c' e' ⟨eo, h2⟩ => q Z' O2 σ' G' H' c' e' ⟨eo, ?_⟩
    refine wt_yes ?_
    rw [if_pos rfl]
    refine we_imp h2 fun z O3 ⟨hz, e3⟩ => ⟨out[i], O', hz, by rw [e3, eo], ?_, rfl⟩
    rw [e, List.take_succ, h1]
    rfl
  · have e2 : acc = out := by rw [e, ← ho, List.take_length]
    rw [e2, eo]
    exact hd
end
end SL

/-! SLd: what defs promise, calls, raising, catching. -/
namespace SL
open PySem PySem.Spec PyProof.Rows L2
open Evl (Ex)

/-! ### contracts -/
/-- what a call leaves: all but the box and the cells handed in stands -/
structure Ret (K : PySem.W.Frag) (b : Option Addr) (A : List Addr) (G H G' H' : Hp) (O' : Own) : Prop where
  eg : Ex G G'
  eh : Ex G' H'
  keep : ∀ a o, a ∉ A → b ≠ some a → H a = some o → H' a = some o
  there : ∀ a o, H a = some o → ∃ o', H' a = some o'
  still : ∀ a o, a ∉ A → b ≠ some a → H a = some o → G' a = G a
  box : BoxO K b G' H'
  own : ∀ p c, (p, c) ∈ O' → G' p = none ∧ b ≠ some p ∧ (p ∈ A ∨ H p = none) ∧ ∃ o, H' p = some o ∧ CellOk K G' c o
  nd : (O'.map (·.1)).Nodup
/-- from the box, the arguments' kinds, the cells handed in: what is wanted of the value, of what is raised -/
abbrev Ct := Option Addr → List Sk → Own → (Sk → Own → Prop) → (Value → Option Addr → Own → Prop) → Prop
def spC (K : PySem.W.Frag) (R : Ct) : Sp := fun vs H Q E => ∃ b G ks O, Ex G H ∧ SkAll K G vs ks ∧ BoxO K b G H ∧ (∀ p c, (p, c) ∈ O → G p = none ∧ b ≠ some p ∧ ∃ o, H p = some o ∧ CellOk K G c o) ∧ (O.map (·.1)).Nodup ∧
  R b ks O (fun k O' => ∀ v G' H', Ret K b (O.map (·.1)) G H G' H' O' → SkV K G' k v → Q v H') (fun cls d O' => ∀ G' H', Ret K b (O.map (·.1)) G H G' H' O' → E cls d H')
class MonoC (R : Ct) : Prop where
  mono : ∀ b ks O P P' X X', (∀ k O', P k O' → P' k O') → (∀ c d O', X c d O' → X' c d O') → R b ks O P X → R b ks O P' X'
/-- data alone: R by data, nothing handed in -/
def ctP (R : List PyData → (PyData → Prop) → Prop) : Ct := fun b ks O P _ => b = none ∧ O = [] ∧ ∃ ds, ks = ds.map .d ∧ R ds fun d => P (.d d) []
/-- .. that may raise an error without a field -/
def ctX (R : List PyData → (PyData → Prop) → (Value → Prop) → Prop) : Ct := fun b ks O P X => b = none ∧ O = [] ∧ ∃ ds, ks = ds.map .d ∧ R ds (fun d => P (.d d) []) fun c => X c none []
/-- .. behind the box -/
def ctB (R : List PyData → (PyData → Prop) → Prop) : Ct := fun b ks O P _ => O = [] ∧ ∃ bb ds, b = some bb ∧ ks = .v (.ref bb) :: ds.map .d ∧ R ds fun d => P (.d d) []
class MonoR (R : List PyData → (PyData → Prop) → Prop) : Prop where
  mono : ∀ ds P Q, (∀ d, P d → Q d) → R ds P → R ds Q
class MonoX (R : List PyData → (PyData → Prop) → (Value → Prop) → Prop) : Prop where
  mono : ∀ ds P Q X Y, (∀ d, P d → Q d) → (∀ c, X c → Y c) → R ds P X → R ds Q Y
instance {R : List PyData → (PyData → Prop) → Prop} [m : MonoR R] : MonoC (ctP R) := ⟨fun _ _ _ _ _ _ _ h _ ⟨e, eo, ds, ek, r⟩ => ⟨e, eo, ds, ek, m.mono _ _ _ (fun d => h (.d d) []) r⟩⟩
instance {R : List PyData → (PyData → Prop) → (Value → Prop) → Prop} [m : MonoX R] : MonoC (ctX R) := ⟨fun _ _ _ _ _ _ _ h g ⟨e, eo, ds, ek, r⟩ => ⟨e, eo, ds, ek, m.mono _ _ _ _ _ (fun d => h (.d d) []) (fun c => g c none []) r⟩⟩
instance {R : List PyData → (PyData → Prop) → Prop} [m : MonoR R] : MonoC (ctB R) := ⟨fun _ _ _ _ _ _ _ h _ ⟨eo, bb, ds, e, ek, r⟩ => ⟨eo, bb, ds, e, ek, m.mono _ _ _ (fun d => h (.d d) []) r⟩⟩

/-! ### the state behind a call -/
section
variable {K : PySem.W.Frag} {F : Fb} {b : Option Addr} {Z : List Sk} {Op Of : Own} {σ : L2.St} {G H G' H' : Hp} {O' : Own}
/-- the box was handed on -/
theorem Cfg.back (c : Cfg K F b Z (Op ++ Of) σ G H) (r : Ret K b (Op.map (·.1)) G H G' H' O') : Cfg K F b Z (O' ++ Of) σ G' H' := by
  have nd := c.nd
  rw [List.map_append, List.nodup_append] at nd
  have offA : ∀ p cc, (p, cc) ∈ Of → p ∉ Op.map (·.1) := fun p cc h z => nd.2.2 p z p (List.mem_map.mpr ⟨_, h, rfl⟩) rfl
  have ownA : ∀ p, p ∈ Op.map (·.1) → F.M p ∨ F.H p = none := fun p h => by
    obtain ⟨⟨q, cc⟩, hq, e⟩ := List.mem_map.mp h
    have e : q = p := e
    subst e
    exact (c.own q cc (List.mem_append_left _ hq)).2.2.1
  refine ⟨c.len, fun i k hk => ?_, r.eh, r.box, c.bxM, fun p cc hp => ?_, ?_, c.e0.trans r.eg, fun a o hm ha => ?_, fun a o ha => ?_, fun a o hm ha => ?_⟩
  · obtain ⟨o, h1, h2⟩ := c.sl i k hk
    exact ⟨o, h1, h2.mono r.eg⟩
  · rcases List.mem_append.mp hp with h | h
    · obtain ⟨o1, o2, o3, o4⟩ := r.own p cc h
      refine ⟨o1, o2, ?_, o4⟩
      rcases o3 with q | q
      · exact ownA p q
      · exact .inr (c.hnone q)
    · obtain ⟨o1, o2, o3, o, o4, o5⟩ := c.own p cc (List.mem_append_right _ h)
      have na := offA p cc h
      exact ⟨by rw [r.still p o na o2 o4]; exact o1, o2, o3, o, r.keep p o na o2 o4, o5.mono r.eg⟩
  · rw [List.map_append, List.nodup_append]
    refine ⟨r.nd, nd.2.1, fun p hp q hq e => ?_⟩
    subst e
    obtain ⟨⟨p1, c1⟩, m1, e1⟩ := List.mem_map.mp hp
    obtain ⟨⟨p2, c2⟩, m2, e2⟩ := List.mem_map.mp hq
    have e1 : p1 = p := e1
    have e2 : p2 = p := e2
    rw [e1] at m1
    rw [e2] at m2
    rcases (r.own p c1 m1).2.2.1 with z | z
    · exact offA p c2 m2 z
    · obtain ⟨_, _, _, o, o4, _⟩ := c.own p c2 (List.mem_append_right _ m2)
      rw [z] at o4
      cases o4
  · have h := c.h0 a o hm ha
    refine r.keep a o (fun z => ?_) (fun z => ?_) h
    · rcases ownA a z with q | q
      · exact hm q
      · rw [q] at ha
        cases ha
    · rcases c.bxM a z with q | q
      · exact hm q
      · rw [q] at ha
        cases ha
  · obtain ⟨o', h'⟩ := c.h1 a o ha
    exact r.there a o' h'
  · obtain ⟨o', h'⟩ := c.h1 a o ha
    rw [r.still a o' (fun z => ?_) (fun z => ?_) h']
    · exact c.g0 a o hm ha
    · rcases ownA a z with q | q
      · exact hm q
      · rw [q] at ha
        cases ha
    · rcases c.bxM a z with q | q
      · exact hm q
      · rw [q] at ha
        cases ha
/-- the box was not handed on -/
theorem Cfg.back0 (c : Cfg K F b Z (Op ++ Of) σ G H) (r : Ret K none (Op.map (·.1)) G H G' H' O') : Cfg K F b Z (O' ++ Of) σ G' H' := by
  have bx : ∀ bb, b = some bb → bb ∉ Op.map (·.1) := fun bb e z => by
    obtain ⟨⟨q, cc⟩, hq, e2⟩ := List.mem_map.mp z
    have e2 : q = bb := e2
    subst e2
    exact (c.own q cc (List.mem_append_left _ hq)).2.1 e
  refine c.back ⟨r.eg, r.eh, fun a o na _ h => r.keep a o na (fun z => by cases z) h, r.there, fun a o na _ h => r.still a o na (fun z => by cases z) h, fun bb e => ?_, fun p cc hp => ?_, r.nd⟩
  · obtain ⟨cc, ns, i, x, sd, b1, b2, b3, b4⟩ := c.box bb e
    exact ⟨cc, ns, i, x, sd, r.keep _ _ (bx bb e) (fun z => by cases z) b1, by rw [r.still _ _ (bx bb e) (fun z => by cases z) b1]; exact b2, Evl.ex_l r.eg b3, b4⟩
  · obtain ⟨o1, _, o3, o4⟩ := r.own p cc hp
    refine ⟨o1, fun z => ?_, o3, o4⟩
    rcases o3 with q | q
    · exact bx p z q
    · exact c.notBox q z
end

/-! ### calls -/
section
variable {K : PySem.W.Frag} {s : Sx} {Z : List Sk} {O : Own} {P : Sk → Own → Prop} {tr : TA} {R : Ct} {E : XK} {PD : List PyData → Own → Prop}
/-- with what may be raised -/
theorem we_callX [m : MonoC R] (hE : ∀ cls d σ H, s.E cls d σ H → E cls d H) (h : WA K s tr Z O fun ks O1 => ∃ Op Of, O1.Perm (Op ++ Of) ∧ (R none ks Op (fun k O' => P k (O' ++ Of)) (fun cls d O' => s.X cls d Z (O' ++ Of)) ∨ R s.box ks Op (fun k O' => P k (O' ++ Of)) (fun cls d O' => s.X cls d Z (O' ++ Of)))) :
    WE K s (tCall (spC K R) [] E tr) Z O P := fun F x σ G H c Q q =>
  h F x σ G H c _ fun vs ks O1 G1 H1 c1 e1 ha ⟨Op, Of, hp, hr⟩ => by
    show spC K R (vs ++ []) H1 Q E
    rw [List.append_nil]
    have c2 := c1.perm hp
    have nd := c2.nd
    rw [List.map_append, List.nodup_append] at nd
    rcases hr with hr | hr
    · refine ⟨none, G1, ks, Op, c2.ex, ha, fun bb z => (by cases z), fun p cc hm => ?_, nd.1, m.mono _ _ _ _ _ _ _ (fun k O' p v G' H' r hk => ?_) (fun cls d O' p G' H' r => ?_) hr⟩
      · obtain ⟨o1, o2, _, o4⟩ := c2.own p cc (List.mem_append_left _ hm)
        exact ⟨o1, fun z => (by cases z), o4⟩
      · exact q v k _ G' H' (c2.back0 r) (e1.trans r.eg) hk p
      · exact hE _ _ σ _ (x cls d Z _ σ G' H' (c2.back0 r) p)
    · refine ⟨s.box, G1, ks, Op, c2.ex, ha, c2.box, fun p cc hm => ?_, nd.1, m.mono _ _ _ _ _ _ _ (fun k O' p v G' H' r hk => ?_) (fun cls d O' p G' H' r => ?_) hr⟩
      · obtain ⟨o1, o2, _, o4⟩ := c2.own p cc (List.mem_append_left _ hm)
        exact ⟨o1, o2, o4⟩
      · exact q v k _ G' H' (c2.back r) (e1.trans r.eg) hk p
      · exact hE _ _ σ _ (x cls d Z _ σ G' H' (c2.back r) p)
/-- nothing is raised -/
theorem we_callN [m : MonoC R] (h : WA K s tr Z O fun ks O1 => ∃ Op Of, O1.Perm (Op ++ Of) ∧ (R none ks Op (fun k O' => P k (O' ++ Of)) (fun _ _ _ => False) ∨ R s.box ks Op (fun k O' => P k (O' ++ Of)) (fun _ _ _ => False))) :
    WE K s (tCall (spC K R) [] E tr) Z O P := fun F x σ G H c Q q =>
  h F x σ G H c _ fun vs ks O1 G1 H1 c1 e1 ha ⟨Op, Of, hp, hr⟩ => by
    show spC K R (vs ++ []) H1 Q E
    rw [List.append_nil]
    have c2 := c1.perm hp
    have nd := c2.nd
    rw [List.map_append, List.nodup_append] at nd
    rcases hr with hr | hr
    · refine ⟨none, G1, ks, Op, c2.ex, ha, fun bb z => (by cases z), fun p cc hm => ?_, nd.1, m.mono _ _ _ _ _ _ _ (fun k O' p v G' H' r hk => ?_) (fun cls d O' p => p.elim) hr⟩
      · obtain ⟨o1, o2, _, o4⟩ := c2.own p cc (List.mem_append_left _ hm)
        exact ⟨o1, fun z => (by cases z), o4⟩
      · exact q v k _ G' H' (c2.back0 r) (e1.trans r.eg) hk p
    · refine ⟨s.box, G1, ks, Op, c2.ex, ha, c2.box, fun p cc hm => ?_, nd.1, m.mono _ _ _ _ _ _ _ (fun k O' p v G' H' r hk => ?_) (fun cls d O' p => p.elim) hr⟩
      · obtain ⟨o1, o2, _, o4⟩ := c2.own p cc (List.mem_append_left _ hm)
        exact ⟨o1, o2, o4⟩
      · exact q v k _ G' H' (c2.back r) (e1.trans r.eg) hk p
theorem we_callP {R : List PyData → (PyData → Prop) → Prop} [m : MonoR R] (h : WD K s tr Z O fun ds O' => R ds fun d => P (.d d) O') : WE K s (tCall (spC K (ctP R)) [] E tr) Z O P :=
  we_callN (wa_imp h fun ks O1 ⟨ds, e, r⟩ => ⟨[], O1, .refl _, .inl ⟨rfl, rfl, ds, e, r⟩⟩)
theorem we_callXD {R : List PyData → (PyData → Prop) → (Value → Prop) → Prop} [m : MonoX R] (hE : ∀ cls d σ H, s.E cls d σ H → E cls d H) (h : WD K s tr Z O fun ds O' => R ds (fun d => P (.d d) O') fun c => s.X c none Z O') : WE K s (tCall (spC K (ctX R)) [] E tr) Z O P :=
  we_callX hE (wa_imp h fun ks O1 ⟨ds, e, r⟩ => ⟨[], O1, .refl _, .inl ⟨rfl, rfl, ds, e, r⟩⟩)
/-- the box first -/
theorem we_callB {R : List PyData → (PyData → Prop) → Prop} [m : MonoR R] {b : Addr} {i : Nat} (hs : s.box = some b) (hi : Z[i]? = some (.v (.ref b))) (h : WD K s tr Z O fun ds O' => R ds fun d => P (.d d) O') : WE K s (tCall (spC K (ctB R)) [] E (tCons (tVar i) tr)) Z O P :=
  we_callN (wa_cons (we_varV hi (wa_imp h fun ks O1 ⟨ds, e, r⟩ => ⟨[], O1, .refl _, .inr ⟨rfl, b, ds, hs, by rw [e], r⟩⟩)))
end

/-! ### defs -/
structure Def (P : Program) (w : World) (K : PySem.W.Frag) (mg : Str → Option Value) (base : Heap) (x : Str) (k : Nat) (ps : List Str) (sp : Sp) : Prop where
  ex : ∃ f fd, mg x = some (.ref f) ∧ PySem.W.keepIn K (.ref f) = true ∧ Binds K fd ps [] ∧ FnOk P w K mg base (L2.CX P w) k f fd ps sp
structure FunAt (K : PySem.W.Frag) (mg : Str → Option Value) (x : Str) (st : Stmt) (ps : List Str) : Prop where
  ex : ∃ f fd, Fun K x x st f fd ∧ mg x = some (.ref f) ∧ Binds K fd ps []
section
variable {X : Cx} {k j : Nat} {ps : List Str} {sp : Sp} {x : Str} {p pos : Pos} {e : Expr} {es : List Expr} {t : TA} {E : XK}
theorem pe_def (D : Def X.prog X.w X.K X.mg X.base x k ps sp) (hr : Room j X.A) (hk : k ≤ j) (hx : Passes (L2.CX X.prog X.w) X E) (hg : Gl X x) (ha : PA X (e :: es) t) (hdb : (x == ("__debug__" : Str)) = false := by decide)
    (he : starEach (e :: es) X.env = (false, eval e X.env) :: starEach es X.env := by rfl) (hpl : (backTo pos (starEach es X.env)).any (·.1) = false := by rfl) : PE X (.Call (.Name x p) (e :: es) [] pos) (tCall sp [] E t) := by
  obtain ⟨f, fd, h1, h2, h3, h4⟩ := D.ex
  exact pe_call h4 (hr.mono hk) hg h1 h2 h3 .nil hx ha hdb he hpl
/-- in a body: what is raised leaves the def -/
theorem passX {W : WX} (tk : Takes X W) (hW : ∀ cls d σ H, E cls d H → W cls d σ H) : Passes (L2.CX X.prog X.w) X E := fun pins σ H s e s' I h => passes_call tk hW pins σ H s e s' I h
end
section
variable {P : Program} {w : World} {K : PySem.W.Frag} {mg : Str → Option Value} {base : Heap} {x : Str} {st : Stmt} {N ps : List Str} {k : Nat} {R : Ct}
/-- the slots at the start -/
def Z0 (N : List Str) (ks : List Sk) : List Sk := ks ++ List.replicate (N.length - ks.length) .no
theorem sl_start {G : Hp} {N : List Str} {ks : List Sk} {vs : List V} (h : SkAll K G vs ks) : (L2.start N vs).length = (Z0 N ks).length ∧ ∀ (i : Nat) (k : Sk), (Z0 N ks)[i]? = some k → ∃ o, (L2.start N vs)[i]? = some o ∧ SkO K G k o := by
  have l := h.len
  refine ⟨by simp [L2.start, Z0, l], fun i k e => ?_⟩
  unfold Z0 at e
  unfold L2.start
  by_cases hi : i < ks.length
  · rw [List.getElem?_append_left hi] at e
    obtain ⟨v, h1, h2⟩ := SkAll.at h e
    exact ⟨some v, by rw [List.getElem?_append_left (by simp [l, hi]), List.getElem?_map, h1]; rfl, h2.toO⟩
  · rw [List.getElem?_append_right (by omega)] at e
    have e3 := List.mem_replicate.mp (List.mem_of_getElem? e)
    have e4 := (List.getElem?_eq_some_iff.mp e).1
    rw [List.length_replicate] at e4
    obtain ⟨_, e3⟩ := e3
    subst e3
    refine ⟨none, ?_, True.intro⟩
    rw [List.getElem?_append_right (by simp [l]; omega)]
    simp only [List.length_map, l]
    rw [List.getElem?_replicate, if_pos e4]
/-- THE RULE for a def: its body's term and what it comes to -/
theorem fn_C (Fn : FunAt K mg x st ps) (S : FnScope N ps (defScope st)) (hl : ∀ b ks O P X, R b ks O P X → ks.length = ps.length)
    (hb : ∀ (f : Addr) (cdv : Value) (A : Around) (outer : List Env) (s : Shared) (H : Hp) (E : XK), Room k (A.deeper (envOfC x (defScope st) s.heap.objs.size f cdv)) →
      ∃ t, PSs (cxOf (L2.CX P w) P w K mg base N x (defScope st) f cdv A outer s H E) (defBody st) t ∧
        ∀ b ks O Q X, R b ks O Q X → SW K ⟨b, fun cls d _ H => E cls d H, fun cls d _ O' => ∃ O2, O'.Perm O2 ∧ ∃ O3 O4, O2 = O3 ++ O4 ∧ X cls d O3⟩ t (Z0 N ks) O { nx := fun _ O' => ∃ O3 O4, O'.Perm (O3 ++ O4) ∧ Q (.d .none) O3, rt := fun v O' => ∃ O3 O4, O'.Perm (O3 ++ O4) ∧ Q v O3 }) :
    Def P w K mg base x (k + 1) ps (spC K R) := by
  obtain ⟨f, fd, hf, hm, hbd⟩ := Fn.ex
  refine ⟨f, fd, hm, hf.kp, hbd, hf.okX S (fun vs H Q E h => ?_) fun cdv A outer s H vs Q E hr h => ?_⟩
  · obtain ⟨b, G, ks, O, _, hk, _, _, _, hR⟩ := h
    rw [hk.len, hl _ _ _ _ _ hR]
  · obtain ⟨b, G, ks, O, e, hk, bx, ow, nd, hR⟩ := h
    obtain ⟨t, ht, sw⟩ := hb f cdv A outer s H E hr
    have fin : ∀ (G' H' : Hp) (O' O3 O4 : Own), Cfg K ⟨fun a => a ∈ O.map (·.1) ∨ b = some a, G, H⟩ b [] O' [] G' H' → O'.Perm (O3 ++ O4) → Ret K b (O.map (·.1)) G H G' H' O3 := fun G' H' O' O3 O4 c hp => by
      have c2 := c.perm hp
      have nd2 := c2.nd
      rw [List.map_append, List.nodup_append] at nd2
      refine ⟨c2.e0, c2.ex, fun a o na nb h => c2.h0 a o (fun z => ?_) h, c2.h1, fun a o na nb h => c2.g0 a o (fun z => ?_) h, c2.box, fun p cc hp => ?_, nd2.1⟩
      · rcases z with z | z
        · exact na z
        · exact nb z
      · rcases z with z | z
        · exact na z
        · exact nb z
      · obtain ⟨o1, o2, o3, o4⟩ := c2.own p cc (List.mem_append_left _ hp)
        refine ⟨o1, o2, ?_, o4⟩
        rcases o3 with (q | q) | q
        · exact .inl q
        · exact absurd q o2
        · exact .inr q
    refine ⟨t, ht, sw b ks O _ _ hR ⟨fun a => a ∈ O.map (·.1) ∨ b = some a, G, H⟩ ?_ _ G H _ ?_ ?_⟩
    · intro cls d Z O' σ G' H' c ⟨O2, hp, O3, O4, e2, hx⟩
      subst e2
      exact hx G' H' (fin G' H' O' O3 O4 c.forget hp)
    · obtain ⟨h1, h2⟩ := sl_start (N := N) hk
      exact ⟨h1, h2, e, bx, fun bb z => .inl (.inr z), fun p cc hp => ⟨(ow p cc hp).1, (ow p cc hp).2.1, .inl (.inl (List.mem_map.mpr ⟨_, hp, rfl⟩)), (ow p cc hp).2.2⟩, nd, Evl.Ex.refl _, fun a o _ h => h, fun a o h => ⟨o, h⟩, fun _ _ _ _ => rfl⟩
    · exact ⟨fun Z O' σ G' H' c ⟨O3, O4, hp, q⟩ => q .non G' H' (fin G' H' O' O3 O4 c.forget hp) (skd .non), fun v k O' G' H' c hv ⟨O3, O4, hp, q⟩ => q v G' H' (fin G' H' O' O3 O4 c hp) hv, fun _ _ _ _ _ _ z => z.elim, fun _ _ _ _ _ _ z => z.elim⟩
/-- the same of data -/
theorem fn_P {R : List PyData → (PyData → Prop) → Prop} (Fn : FunAt K mg x st ps) (S : FnScope N ps (defScope st)) (hl : ∀ ds Q, R ds Q → ds.length = ps.length)
    (hb : ∀ (f : Addr) (cdv : Value) (A : Around) (outer : List Env) (s : Shared) (H : Hp) (E : XK), Room k (A.deeper (envOfC x (defScope st) s.heap.objs.size f cdv)) →
      ∃ t, PSs (cxOf (L2.CX P w) P w K mg base N x (defScope st) f cdv A outer s H E) (defBody st) t ∧ ∀ s' ds Q, s'.box = none → R ds Q → SW K s' t (Z0 N (ds.map .d)) [] { nx := fun _ _ => Q .none, rt := fun k _ => ∃ d, k = .d d ∧ Q d }) :
    Def P w K mg base x (k + 1) ps (spC K (ctP R)) :=
  fn_C Fn S (fun b ks O P X ⟨_, _, ds, e, r⟩ => by rw [e, List.length_map]; exact hl _ _ r) fun f cdv A outer s H E hr => by
    obtain ⟨t, ht, sw⟩ := hb f cdv A outer s H E hr
    refine ⟨t, ht, fun b ks O Q X ⟨eb, eo, ds, ek, r⟩ => ?_⟩
    subst eb eo ek
    exact sw_imp (sw _ ds _ rfl r) (fun Z O h => ⟨[], O, .refl _, h⟩) (fun k O ⟨d, e, h⟩ => ⟨[], O, .refl _, by rw [e]; exact h⟩) (fun _ _ h => h) (fun _ _ h => h)
theorem fn_X {R : List PyData → (PyData → Prop) → (Value → Prop) → Prop} (Fn : FunAt K mg x st ps) (S : FnScope N ps (defScope st)) (hl : ∀ ds Q X, R ds Q X → ds.length = ps.length)
    (hb : ∀ (f : Addr) (cdv : Value) (A : Around) (outer : List Env) (s : Shared) (H : Hp) (E : XK), Room k (A.deeper (envOfC x (defScope st) s.heap.objs.size f cdv)) →
      ∃ t, PSs (cxOf (L2.CX P w) P w K mg base N x (defScope st) f cdv A outer s H E) (defBody st) t ∧ ∀ s' ds Q X, s'.box = none → (∀ cls d σ H, s'.E cls d σ H → E cls d H) → (∀ c Z O, X c → s'.X c none Z O) → R ds Q X → SW K s' t (Z0 N (ds.map .d)) [] { nx := fun _ _ => Q .none, rt := fun k _ => ∃ d, k = .d d ∧ Q d }) :
    Def P w K mg base x (k + 1) ps (spC K (ctX R)) :=
  fn_C Fn S (fun b ks O P X ⟨_, _, ds, e, r⟩ => by rw [e, List.length_map]; exact hl _ _ _ r) fun f cdv A outer s H E hr => by
    obtain ⟨t, ht, sw⟩ := hb f cdv A outer s H E hr
    refine ⟨t, ht, fun b ks O Q X ⟨eb, eo, ds, ek, r⟩ => ?_⟩
    subst eb eo ek
    refine sw_imp (sw _ ds _ (fun c => X c none []) rfl (fun _ _ _ _ h => h) (fun c Z O h => ⟨O, .refl _, [], O, rfl, h⟩) r) (fun Z O h => ⟨[], O, .refl _, h⟩) (fun k O ⟨d, e, h⟩ => ⟨[], O, .refl _, by rw [e]; exact h⟩) (fun _ _ h => h) (fun _ _ h => h)
/-- .. behind the box -/
theorem fn_B {R : List PyData → (PyData → Prop) → Prop} (Fn : FunAt K mg x st ps) (S : FnScope N ps (defScope st)) (hl : ∀ ds Q, R ds Q → ds.length + 1 = ps.length)
    (hb : ∀ (f : Addr) (cdv : Value) (A : Around) (outer : List Env) (s : Shared) (H : Hp) (E : XK), Room k (A.deeper (envOfC x (defScope st) s.heap.objs.size f cdv)) →
      ∃ t, PSs (cxOf (L2.CX P w) P w K mg base N x (defScope st) f cdv A outer s H E) (defBody st) t ∧ ∀ s' b ds Q, s'.box = some b → R ds Q → SW K s' t (Z0 N (.v (.ref b) :: ds.map .d)) [] { nx := fun _ _ => Q .none, rt := fun k _ => ∃ d, k = .d d ∧ Q d }) :
    Def P w K mg base x (k + 1) ps (spC K (ctB R)) :=
  fn_C Fn S (fun b ks O P X ⟨_, bb, ds, eb, e, r⟩ => by rw [e, List.length_cons, List.length_map]; exact hl _ _ r) fun f cdv A outer s H E hr => by
    obtain ⟨t, ht, sw⟩ := hb f cdv A outer s H E hr
    refine ⟨t, ht, fun b ks O Q X ⟨eo, bb, ds, eb, ek, r⟩ => ?_⟩
    subst eb eo ek
    exact sw_imp (sw _ bb ds _ rfl r) (fun Z O h => ⟨[], O, .refl _, h⟩) (fun k O ⟨d, e, h⟩ => ⟨[], O, .refl _, by rw [e]; exact h⟩) (fun _ _ h => h) (fun _ _ h => h)
theorem Def.mono {sp : Sp} {j : Nat} (d : Def P w K mg base x k ps sp) (h : k ≤ j) : Def P w K mg base x j ps sp := by
  obtain ⟨f, fd, h1, h2, h3, h4⟩ := d.ex
  exact ⟨f, fd, h1, h2, h3, h4.mono h⟩
end

/-! ### raising, catching -/
section
variable {K : PySem.W.Frag} {s : Sx} {Z : List Sk} {O : Own} {D : DE} {W Wout : WX}
theorem sw_raise {C : Addr} (hW : ∀ cls d σ H, s.E cls d σ H → W cls d σ H) (h : s.X (.ref C) none Z O) : SW K s (fun _ σ H => (fun (_ : L2.St) H (Q : XK) => Q (.ref C) none H) σ H fun cls d H' => W cls d σ H') Z O D := fun F x σ G H E c cv =>
  hW _ _ σ H (x (.ref C) none Z O σ G H c h)
/-- try: body, except c as n (slot i): suite -/
theorem sw_try_as {c : Value} {i : Nat} {ts : Addr → Value → Option Addr → TS} {tb : WX → TS} (X' : Value → Option Addr → List Sk → Own → Prop) (hW : ∀ cls d σ H, s.E cls d σ H → Wout cls d σ H)
    (hb : ∀ W', SW K ⟨s.box, W', X'⟩ (tb W') Z O D)
    (hx : ∀ cls d Z' O', X' cls d Z' O' → ∃ b, PySem.W.exmOne K cls c = some b ∧ (b = true → ∀ a, SW K s (ts a cls d) (Z'.set i (.v (.ref a))) O' { nx := fun Z2 O2 => D.nx (Z2.set i .no) O2, rt := D.rt, bk := fun Z2 O2 => D.bk (Z2.set i .no) O2, ct := fun Z2 O2 => D.ct (Z2.set i .no) O2 }) ∧ (b = false → s.X cls d Z' O')) :
    SW K s (fun D σ H => tb (wAs K c i ts Wout D) D σ H) Z O D := fun F x σ G H E cf cv => by
  refine hb (wAs K c i ts Wout E) F ?_ σ G H E cf ⟨cv.nx, cv.rt, cv.bk, cv.ct⟩
  intro cls d Z' O' σ' G' H' c' hX
  obtain ⟨b, e, h1, h2⟩ := hx cls d Z' O' hX
  refine ⟨b, e, fun hb a ha => ?_, fun hb => ?_⟩
  · refine h1 hb a F x _ G' H' _ (c'.set (k := .v (.ref a)) skv) ⟨fun Z2 O2 σ2 G2 H2 c2 n => cv.nx _ _ _ G2 H2 (c2.setO (k := .no) (o := none) True.intro) n, cv.rt, fun Z2 O2 σ2 G2 H2 c2 n => cv.bk _ _ _ G2 H2 (c2.setO (k := .no) (o := none) True.intro) n, fun Z2 O2 σ2 G2 H2 c2 n => cv.ct _ _ _ G2 H2 (c2.setO (k := .no) (o := none) True.intro) n⟩
  · exact hW _ _ _ _ (x cls d Z' O' σ' G' H' c' (h2 hb))
end
end SL

/-! SLm: between the two layers: a def that raises nothing may be told in either. -/
namespace SL
open PySem PySem.Spec PyProof.Rows L2
open Evl (Ex)
section
variable {P : Program} {w : World} {K : PySem.W.Frag} {mg : Str → Option Value} {base : Heap} {CX : CXT} {k : Nat} {f : Addr} {fd : FuncData} {ps : List Str} {sp : Sp} {x : Str} {R : List PyData → (PyData → Prop) → Prop}
theorem fnOk_up (F : FnOk P w K mg base CX0 k f fd ps sp) : FnOk P w K mg base CX k f fd ps sp :=
  ⟨F.len, fun A outer s H args us vs Q E hr he hb hv hs => codeAny_mono (F.run A outer s H args us vs Q E hr he hb hv hs) fun r s' h => by
    cases r with
    | error e => exact False.elim h
    | ok g => cases g <;> exact h⟩
theorem fnOk_down (F : FnOk P w K mg base (L2.CX P w) k f fd ps sp) (hE : ∀ vs H Q E, sp vs H Q E → sp vs H Q fun _ _ _ => False) : FnOk P w K mg base CX0 k f fd ps sp :=
  ⟨F.len, fun A outer s H args us vs Q E hr he hb hv hs => codeAny_mono (F.run A outer s H args us vs Q (fun _ _ _ => False) hr he hb hv (hE _ _ _ _ hs)) fun r s' h => by
    cases r with
    | error e =>
      obtain ⟨_, _, _, _, _, _, _, _, _, _, _, _, z⟩ := h
      exact z.elim
    | ok g => cases g <;> exact h⟩
theorem Def.up [m : DL.MonoR R] (d : DL.Def P w K mg base x k ps (DL.spP K R)) : Def P w K mg base x k ps (spC K (ctP R)) := by
  obtain ⟨f, fd, h1, h2, h3, h4⟩ := d.ex
  refine ⟨f, fd, h1, h2, h3, (fnOk_up h4).imp fun vs H Q E h => ?_⟩
  obtain ⟨b, G, ks, O, e, hk, _, _, _, eb, eo, ds, ek, hr⟩ := h
  subst eb eo ek
  refine ⟨G, ds, e, SkAll.undata hk, m.mono _ _ _ (fun d q v G' H' e1 e2 e3 e4 hd => q v G' H' ⟨e1, e2, fun a o _ _ h => e3 a o h, fun a o h => ⟨o, e3 a o h⟩, fun a o _ _ h => e4 a o h, fun b z => (by cases z), fun p c z => (by simp at z), List.nodup_nil⟩ (skd hd)) hr⟩
theorem Def.down [m : DL.MonoR R] (d : Def P w K mg base x k ps (spC K (ctP R))) : DL.Def P w K mg base x k ps (DL.spP K R) := by
  obtain ⟨f, fd, h1, h2, h3, h4⟩ := d.ex
  refine ⟨f, fd, h1, h2, h3, FnOk.imp (fnOk_down h4 fun vs H Q E h => ?_) fun vs H Q E h => ?_⟩
  · obtain ⟨b, G, ks, O, e, hk, bx, ow, nd, eb, eo, ds, ek, hr⟩ := h
    exact ⟨b, G, ks, O, e, hk, bx, ow, nd, eb, eo, ds, ek, hr⟩
  · obtain ⟨G, ds, e, hd, hr⟩ := h
    exact ⟨none, G, ds.map .d, [], e, SkAll.data hd, fun b z => (by cases z), fun p c z => (by simp at z), List.nodup_nil, rfl, rfl, ds, rfl, m.mono _ _ _ (fun d q v G' H' r hv => q v G' H' r.eg r.eh (fun a o h => r.keep a o (by simp) (by simp) h) (fun a o h => r.still a o (by simp) (by simp) h) hv) hr⟩
end
instance {R : List PyData → (PyData → Prop) → Prop} [m : DL.MonoR R] : MonoR R := ⟨m.mono⟩
/-! ### built-ins by data -/
def conv : Sk → DL.Sk
  | .no => .no
  | .d x => .d x
  | .v u => .v u
theorem argOk_of {K : PySem.W.Frag} {G : Hp} : ∀ {vs : List V} {ks : List Sk}, SkAll K G vs ks → DL.ArgOk K G vs (ks.map conv)
  | [], [], _ => True.intro
  | v :: vs, k :: ks, h => ⟨(match k, h.1 with
    | .no, _ => True.intro
    | .d x, q => ⟨v, rfl, q⟩
    | .v u, q => congrArg some q), argOk_of h.2⟩
  | [], _ :: _, h => h.elim
  | _ :: _, [], h => h.elim
section
variable {K : PySem.W.Frag} {s : Sx} {Z : List Sk} {O : Own} {P : Sk → Own → Prop} {tr : TA}
theorem we_ncall {r : List V → Hp → VK → Prop} (h : WA K s tr Z O fun ks O' => ∃ z, DL.NCall K r (ks.map conv) z ∧ P (.d z) O') : WE K s (tCB r tr) Z O P := fun F x σ G H c Q q =>
  h F x σ G H c _ fun vs ks G1' G1 H1 c1 e1 ha ⟨z, hn, p⟩ => hn vs G1 H1 _ c1.ex (argOk_of ha) fun u hu => q u (.d z) _ G1 H1 c1 e1 (skd hu) p
end
/-! ### a def of data in whose body something may be raised -/
section
variable {P : Program} {w : World} {K : PySem.W.Frag} {mg : Str → Option Value} {base : Heap} {x : Str} {st : Stmt} {N ps : List Str} {k : Nat}
theorem fn_PE {R : List PyData → (PyData → Prop) → Prop} (Fn : FunAt K mg x st ps) (S : FnScope N ps (defScope st)) (hl : ∀ ds Q, R ds Q → ds.length = ps.length)
    (hb : ∀ (f : Addr) (cdv : Value) (A : Around) (outer : List Env) (s : Shared) (H : Hp) (E : XK), Room k (A.deeper (envOfC x (defScope st) s.heap.objs.size f cdv)) →
      ∃ t, PSs (cxOf (L2.CX P w) P w K mg base N x (defScope st) f cdv A outer s H E) (defBody st) t ∧ ∀ s' ds Q, s'.box = none → (∀ cls d σ H, s'.E cls d σ H → E cls d H) → R ds Q → SW K s' t (Z0 N (ds.map .d)) [] { nx := fun _ _ => Q .none, rt := fun k _ => ∃ d, k = .d d ∧ Q d }) :
    Def P w K mg base x (k + 1) ps (spC K (ctP R)) :=
  fn_C Fn S (fun b ks O P X ⟨_, _, ds, e, r⟩ => by rw [e, List.length_map]; exact hl _ _ r) fun f cdv A outer s H E hr => by
    obtain ⟨t, ht, sw⟩ := hb f cdv A outer s H E hr
    refine ⟨t, ht, fun b ks O Q X ⟨eb, eo, ds, ek, r⟩ => ?_⟩
    subst eb eo ek
    exact sw_imp (sw _ ds _ rfl (fun _ _ _ _ h => h) r) (fun Z O h => ⟨[], O, .refl _, h⟩) (fun k O ⟨d, e, h⟩ => ⟨[], O, .refl _, by rw [e]; exact h⟩) (fun _ _ h => h) (fun _ _ h => h)
end
theorem pss_if {X : Cx} {sts : List Stmt} {t : TS} {c : Prop} [Decidable c] (h : c → PSs X sts t) : PSs X sts (if c then t else tNever) := by
  split
  · rename_i hc
    exact h hc
  · exact pss_never
theorem zc_of {cls : Value} {d : Option Addr} {C : Addr} {oe : Obj} (h : cls = .ref C ∧ d = none) (z : Zc cls d oe) : Zc (.ref C) none oe := by
  obtain ⟨rfl, rfl⟩ := h
  exact z
/-! ### a call within a try -/
theorem pass0X {X : Cx} : Passes (L2.CX X.prog X.w) X (fun _ _ _ => False) := fun _ _ _ _ _ _ _ h => by
  obtain ⟨_, _, _, _, _, _, _, _, _, _, _, _, z⟩ := h
  exact z.elim
section
variable {X : Cx} {k j : Nat} {ps : List Str} {sp : Sp} {x : Str} {p pos : Pos} {e : Expr} {es : List Expr} {t : TA} {E : L2.St → XK}
theorem pe_defS (D : Def X.prog X.w X.K X.mg X.base x k ps sp) (hr : Room j X.A) (hk : k ≤ j) (hx : ∀ σ, PassesAt (L2.CX X.prog X.w) X σ (E σ)) (hg : Gl X x) (ha : PA X (e :: es) t) (hdb : (x == ("__debug__" : Str)) = false := by decide)
    (he : starEach (e :: es) X.env = (false, eval e X.env) :: starEach es X.env := by rfl) (hpl : (backTo pos (starEach es X.env)).any (·.1) = false := by rfl) : PE X (.Call (.Name x p) (e :: es) [] pos) (tCallS sp E t) := by
  obtain ⟨f, fd, h1, h2, h3, h4⟩ := D.ex
  exact pe_callS h4 (hr.mono hk) hg h1 h2 h3 hx ha hdb he hpl
end
section
variable {K : PySem.W.Frag} {s : Sx} {Z : List Sk} {O : Own} {P : Sk → Own → Prop} {tr : TA} {R : Ct} {E : L2.St → XK}
theorem we_callS [m : MonoC R] (hE : ∀ cls d σ H, s.E cls d σ H → E σ cls d H) (h : WA K s tr Z O fun ks O1 => ∃ Op Of, O1.Perm (Op ++ Of) ∧ (R none ks Op (fun k O' => P k (O' ++ Of)) (fun cls d O' => s.X cls d Z (O' ++ Of)) ∨ R s.box ks Op (fun k O' => P k (O' ++ Of)) (fun cls d O' => s.X cls d Z (O' ++ Of)))) :
    WE K s (tCallS (spC K R) E tr) Z O P := fun F x σ G H c Q q => by
  have h2 := we_callX (E := E σ) (K := K) (s := s) (P := P) (R := R) (tr := tr) (Z := Z) (O := O)
  refine h F x σ G H c _ fun vs ks O1 G1 H1 c1 e1 ha ⟨Op, Of, hp, hr⟩ => ?_
  show spC K R vs H1 Q (E σ)
  have c2 := c1.perm hp
  have nd := c2.nd
  rw [List.map_append, List.nodup_append] at nd
  rcases hr with hr | hr
  · refine ⟨none, G1, ks, Op, c2.ex, ha, fun bb z => (by cases z), fun p cc hm => ?_, nd.1, m.mono _ _ _ _ _ _ _ (fun k O' p v G' H' r hk => ?_) (fun cls d O' p G' H' r => ?_) hr⟩
    · obtain ⟨o1, o2, _, o4⟩ := c2.own p cc (List.mem_append_left _ hm)
      exact ⟨o1, fun z => (by cases z), o4⟩
    · exact q v k _ G' H' (c2.back0 r) (e1.trans r.eg) hk p
    · exact hE _ _ σ _ (x cls d Z _ σ G' H' (c2.back0 r) p)
  · refine ⟨s.box, G1, ks, Op, c2.ex, ha, c2.box, fun p cc hm => ?_, nd.1, m.mono _ _ _ _ _ _ _ (fun k O' p v G' H' r hk => ?_) (fun cls d O' p G' H' r => ?_) hr⟩
    · obtain ⟨o1, o2, _, o4⟩ := c2.own p cc (List.mem_append_left _ hm)
      exact ⟨o1, o2, o4⟩
    · exact q v k _ G' H' (c2.back r) (e1.trans r.eg) hk p
    · exact hE _ _ σ _ (x cls d Z _ σ G' H' (c2.back r) p)
theorem we_callXS {R : List PyData → (PyData → Prop) → (Value → Prop) → Prop} [m : MonoX R] (hE : ∀ cls d σ H, s.E cls d σ H → E σ cls d H) (h : WD K s tr Z O fun ds O' => R ds (fun d => P (.d d) O') fun c => s.X c none Z O') : WE K s (tCallS (spC K (ctX R)) E tr) Z O P :=
  we_callS hE (wa_imp h fun ks O1 ⟨ds, e, r⟩ => ⟨[], O1, .refl _, .inl ⟨rfl, rfl, ds, e, r⟩⟩)
/-- isinstance(e, c) of a caught error -/
theorem we_isE {D a : Addr} (h : WA K s tr Z O fun ks O' => ∃ (c : V) (cv : Value) (b : Bool), ks = [.v (.ref a), .v c] ∧ (∀ u, RelV c u → u = cv) ∧ PySem.W.kitOne K (.ref D) cv = some b ∧ P (.d (.bool b)) O') : WE K s (tCB (rIsE K D a) tr) Z O P := fun F x σ G H c Q q =>
  h F x σ G H c _ fun vs ks O1 G1 H1 c1 e1 ha ⟨cc, cv, b, ek, hc, hk, p⟩ => by
    subst ek
    match vs, ha with
    | [v, w], ⟨hv, hw, _⟩ =>
      have hv : v = .ref a := hv
      have hw : w = cc := hw
      subst hv hw
      exact ⟨_, cv, b, rfl, hc, hk, q _ (.d (.bool b)) O1 G1 H1 c1 e1 (skd (Dp.bl b)) p⟩
end
/-! ### what isinstance asks of classes -/
theorem kit_refS {K : PySem.W.Frag} {C S : Addr} (hd : PySem.W.hasDictIn K S = true) (ht : PySem.W.typeIn K (.ref S) = some (.type "type")) (hs : PySem.W.subIn K (.ref C) (.ref S) = some true) : PySem.W.kitOne K (.ref C) (.ref S) = some true := by
  unfold PySem.W.kitOne
  split
  · rfl
  · obtain ⟨cd, hc, _⟩ := PySem.W.any_some hd
    show (if ((PySem.W.clsIn K S).isSome && PySem.W.typeIn K (.ref S) == some (.type "type")) = true then PySem.W.subIn K (.ref C) (.ref S) else none) = some true
    rw [if_pos (by rw [hc, ht] <;> rfl)]
    exact hs
theorem kit_tyS {K : PySem.W.Frag} {C : Addr} {T : String} (hT : PySem.W.kitMeta T = true) (hs : PySem.W.subIn K (.ref C) (.type T) = some true) : PySem.W.kitOne K (.ref C) (.type T) = some true := by
  unfold PySem.W.kitOne
  split
  · rfl
  · show (if PySem.W.kitMeta T = true then PySem.W.subIn K (.ref C) (.type T) else none) = some true
    rw [if_pos hT]
    exact hs
end SL


namespace My
open PySem PySem.Spec PyProof.Rows L2 DL
open Evl (Ex)
def top (i : Nat) : Stmt := PySem.Challenge.pw_slopeyard_k05_rows_kept_by_states.main.body.getD i (.Pass ⟨0, 0, 0, 0⟩)
abbrev s_over_one_den : Stmt := top 5
theorem sc_over_one_den : FnScope ["state", "den", "_", "part", "num"] ["state"] (defScope s_over_one_den) := ⟨rfl, rfl, rfl, by decide +kernel, rfl, by decide +kernel, by decide +kernel⟩
abbrev s_dot : Stmt := top 7
theorem sc_dot : FnScope ["one", "other", "left", "right"] ["one", "other"] (defScope s_dot) := ⟨rfl, rfl, rfl, by decide +kernel, rfl, by decide +kernel, by decide +kernel⟩
abbrev s_holds : Stmt := top 9
theorem sc_holds : FnScope ["row", "state", "weights", "bound", "nums", "den"] ["row", "state"] (defScope s_holds) := ⟨rfl, rfl, rfl, by decide +kernel, rfl, by decide +kernel, by decide +kernel⟩
abbrev s__law_box : Stmt := top 11
theorem sc__law_box : FnScope ["_law_script"] ["_law_script"] (defScope s__law_box) := ⟨rfl, rfl, rfl, by decide +kernel, rfl, by decide +kernel, by decide +kernel⟩
abbrev s__law_take : Stmt := top 12
theorem sc__law_take : FnScope ["_law_box_here", "_law_many", "_law_cell", "_law_seed", "_law_got"] ["_law_box_here", "_law_many"] (defScope s__law_take) := ⟨rfl, rfl, rfl, by decide +kernel, rfl, by decide +kernel, by decide +kernel⟩
abbrev s__law_near : Stmt := top 13
theorem sc__law_near : FnScope ["_law_box_here", "_law_far"] ["_law_box_here", "_law_far"] (defScope s__law_near) := ⟨rfl, rfl, rfl, by decide +kernel, rfl, by decide +kernel, by decide +kernel⟩
abbrev s__law_same : Stmt := top 14
theorem sc__law_same : FnScope ["_law_found", "_law_due", "_law_one", "_law_other"] ["_law_found", "_law_due"] (defScope s__law_same) := ⟨rfl, rfl, rfl, by decide +kernel, rfl, by decide +kernel, by decide +kernel⟩
abbrev s__law_common : Stmt := top 15
theorem sc__law_common : FnScope ["_law_one", "_law_other"] ["_law_one", "_law_other"] (defScope s__law_common) := ⟨rfl, rfl, rfl, by decide +kernel, rfl, by decide +kernel, by decide +kernel⟩
abbrev s__law_low : Stmt := top 16
theorem sc__law_low : FnScope ["_law_num", "_law_den", "_law_by"] ["_law_num", "_law_den"] (defScope s__law_low) := ⟨rfl, rfl, rfl, by decide +kernel, rfl, by decide +kernel, by decide +kernel⟩
abbrev s__law_sum : Stmt := top 17
theorem sc__law_sum : FnScope ["_law_one", "_law_other"] ["_law_one", "_law_other"] (defScope s__law_sum) := ⟨rfl, rfl, rfl, by decide +kernel, rfl, by decide +kernel, by decide +kernel⟩
abbrev s__law_part : Stmt := top 18
theorem sc__law_part : FnScope ["_law_box_here", "_law_far", "_law_num", "_law_den"] ["_law_box_here", "_law_far"] (defScope s__law_part) := ⟨rfl, rfl, rfl, by decide +kernel, rfl, by decide +kernel, by decide +kernel⟩
abbrev s__law_value : Stmt := top 19
theorem sc__law_value : FnScope ["_law_weights_here", "_law_state_here", "_law_found", "_law_weight", "_law_level"] ["_law_weights_here", "_law_state_here"] (defScope s__law_value) := ⟨rfl, rfl, rfl, by decide +kernel, rfl, by decide +kernel, by decide +kernel⟩
abbrev s__law_keeps : Stmt := top 20
theorem sc__law_keeps : FnScope ["_law_rows", "_law_state_here", "_law_weights_here", "_law_bound", "_law_found"] ["_law_rows", "_law_state_here"] (defScope s__law_keeps) := ⟨rfl, rfl, rfl, by decide +kernel, rfl, by decide +kernel, by decide +kernel⟩
abbrev s__law_weights : Stmt := top 21
theorem sc__law_weights : FnScope ["_law_box_here", "_law_count", "_law_far", "_law_way", "_law_at", "_law_sign", "_law_found", "_law_k"] ["_law_box_here", "_law_count", "_law_far"] (defScope s__law_weights) := ⟨rfl, rfl, rfl, by decide +kernel, rfl, by decide +kernel, by decide +kernel⟩
abbrev s__law_state : Stmt := top 22
theorem sc__law_state : FnScope ["_law_box_here", "_law_count", "_law_far", "_law_k"] ["_law_box_here", "_law_count", "_law_far"] (defScope s__law_state) := ⟨rfl, rfl, rfl, by decide +kernel, rfl, by decide +kernel, by decide +kernel⟩
abbrev s__law_row_at : Stmt := top 23
theorem sc__law_row_at : FnScope ["_law_box_here", "_law_state_here", "_law_far", "_law_weights_here", "_law_num", "_law_den"] ["_law_box_here", "_law_state_here", "_law_far"] (defScope s__law_row_at) := ⟨rfl, rfl, rfl, by decide +kernel, rfl, by decide +kernel, by decide +kernel⟩
abbrev s__law_held : Stmt := top 24
theorem sc__law_held : FnScope ["_law_row", "_law_state_here", "e"] ["_law_row", "_law_state_here"] (defScope s__law_held) := ⟨rfl, rfl, rfl, by decide +kernel, rfl, by decide +kernel, by decide +kernel⟩
abbrev s_law : Stmt := top 25
theorem sc_law : FnScope ["_law_script", "_law_box_here", "_law_k", "_law_count", "_law_state_here", "_law_row", "_law_by", "_law_handed", "_law_due", "_law_num", "_law_den"] ["_law_script"] (defScope s_law) := ⟨rfl, rfl, rfl, by decide +kernel, rfl, by decide +kernel, by decide +kernel⟩
structure Txt (mg : Str → Option Value) : Prop where
  ValueError : mg "ValueError" = none
  abs : mg "abs" = none
  all : mg "all" = none
  bool : mg "bool" = none
  gcd : mg "gcd" = some (.builtin "math.gcd")
  int : mg "int" = none
  isinstance : mg "isinstance" = none
  len : mg "len" = none
  list : mg "list" = none
  range : mg "range" = none
  str : mg "str" = none
  sum : mg "sum" = none
  tuple : mg "tuple" = none
  zip : mg "zip" = none
theorem ite_true_of {c : Bool} {A B : Prop} (hc : c = true) (h : A) : if c = true then A else B := by
  rw [if_pos hc]
  exact h
theorem ite_false_of {c : Bool} {A B : Prop} (hc : c = false) (h : B) : if c = true then A else B := by
  rw [hc, if_neg Bool.false_ne_true]
  exact h
theorem item_any {ds : List PyData} {r : Int} {P : PyData → Prop} (h0 : 0 ≤ r) (h1 : r < (ds.length : Int)) (h : ∀ d ∈ ds, P d) : ∃ i d, PyData.int r = .int i ∧ ItemAt (.list ds) i d ∧ P d := by
  have hl : r.toNat < ds.length := by omega
  refine ⟨r, ds[r.toNat], rfl, .lst ?_, h _ (List.getElem_mem hl)⟩
  unfold atI ixN
  rw [if_pos h0, if_pos h1]
  exact List.getElem?_eq_getElem hl

local macro_rules | `(tactic| walk_at "dn") => `(tactic| try dsimp only [cxOf, Cx.nox, Cx.wish])
local macro_rules | `(tactic| walk_at "dz") => `(tactic| try simp only [List.set_cons_succ, List.set_cons_zero])
local macro_rules | `(tactic| walk_at "dl") => `(tactic| first
  | with_reducible refine we_int ?_
  | with_reducible refine we_bl ?_
  | with_reducible refine we_non ?_
  | with_reducible refine we_str ?_
  | (with_reducible refine we_var (d := ?dd) ?hh ?_; (case hh => with_unfolding_all rfl))
  | with_reducible refine we_opI ?_
  | with_reducible refine we_opB ?_
  | with_reducible refine we_opC ?_
  | with_reducible refine we_ixV ?_
  | with_reducible refine we_ixI ?_
  | with_reducible refine we_ixC ?_
  | with_reducible refine we_eqD ?_
  | with_reducible refine we_neD ?_
  | with_reducible refine we_neg ?_
  | with_reducible refine we_tupD ?_
  | with_reducible refine we_lstD ?_
  | with_reducible refine wl_lstD ?_
  | with_reducible refine we_callP ?_
  | (with_reducible refine we_callX ?hh ?_; (case hh => with_unfolding_all rfl))
  | with_reducible refine wd_nil ?_
  | with_reducible refine wd_cons ?_
  | with_reducible refine ⟨(rfl : Nat.ble _ _ = true), ?_⟩
  | with_reducible refine we_if ?_
  | with_reducible refine we_andV ?_
  | with_reducible refine we_orV ?_
  | with_reducible refine we_notV ?_
  | with_reducible refine we_isN ?_
  | with_reducible refine we_notN ?_
  | with_reducible refine we_tuple ?_
  | with_reducible refine we_listB ?_
  | with_reducible refine we_ncall ?_
  | with_reducible refine wt_test ?_
  | with_reducible refine wt_B ?_
  | with_reducible refine wt_and ?_
  | with_reducible refine wt_or ?_
  | with_reducible refine wt_not ?_
  | with_reducible refine wa_nil ?_
  | with_reducible refine wa_ty ?_
  | (with_reducible refine wa_raw (w := ?ww) ?hh ?_; (case hh => with_unfolding_all rfl))
  | with_reducible refine wa_cons ?_
  | (with_reducible refine sw_seq ?_; (try dsimp only))
  | (with_reducible refine sw_ret ?_; (try dsimp only))
  | (with_reducible refine sw_retN ?_; (try dsimp only))
  | (with_reducible refine sw_next ?_; (try dsimp only))
  | with_reducible refine sw_if ?_
  | (with_reducible refine sw_asg ?_; (try dsimp only); (try simp only [List.set_cons_succ, List.set_cons_zero]))
  | (with_reducible refine sw_par3 ?_; (try dsimp only); (try simp only [List.set_cons_succ, List.set_cons_zero]))
  | (with_reducible refine sw_par ?_; (try dsimp only); (try simp only [List.set_cons_succ, List.set_cons_zero]))
  | with_reducible refine ⟨_, _, rfl, rfl, And.intro ?_ ?_⟩
  | with_reducible refine ⟨_, _, rfl, rfl, ?_⟩
  | with_reducible refine ⟨_, _, rfl, ItemAt.lst rfl, ?_⟩
  | with_reducible refine ⟨_, _, rfl, ItemAt.tup rfl, ?_⟩
  | with_reducible refine ⟨_, .inl rfl, ?_⟩
  | with_reducible refine ⟨_, .inr rfl, ?_⟩
  | with_reducible refine ⟨_, nc_gcd, ?_⟩
  | with_reducible refine ⟨_, nc_abs, ?_⟩
  | with_reducible refine ⟨_, nc_int, ?_⟩
  | with_reducible refine ⟨_, nc_intb, ?_⟩
  | with_reducible refine ⟨_, nc_isi (by simp), ?_⟩
  | (refine ⟨_, nc_len (by with_unfolding_all rfl), ?_⟩)
  | with_reducible refine ⟨_, rfl, ?_⟩
  | with_reducible refine ⟨rfl, rfl, ?_⟩
  | with_reducible refine iteT ?_
  | with_reducible refine iteF ?_)

local macro_rules | `(tactic| walk_at "dm") => `(tactic| ((fail_if_success (with_reducible refine sw_if ?_)); walk_at "dl"))

local macro_rules | `(tactic| walk_at "dl") => `(tactic| first
  | with_reducible refine wd_star ?_
  | with_reducible refine wl_slice ?_
  | with_reducible refine we_slTup ?_
  | with_reducible refine we_slStr ?_
  | with_reducible refine wo_no ?_
  | with_reducible refine wo_part ?_
  | with_reducible refine wl_cat ?_
  | with_reducible refine wl_rep ?_
  | with_reducible refine we_catT ?_
  | with_reducible refine we_chainI ?_
  | with_reducible refine we_of (te := tSl _ _ _ _) ?_
  | with_reducible refine we_of (te := tOp rCat _ _) ?_
  | with_reducible refine we_of (te := tOp rRep _ _) ?_)

/-- sizes -/
theorem sz_mul {a b : Nat} {i j : Int} (h1 : i.natAbs < 2 ^ a) (h2 : j.natAbs < 2 ^ b) : (i * j).natAbs < 2 ^ (a + b) := wide_lt h1 h2
theorem sz_add {a : Nat} {i j : Int} (h1 : i.natAbs < 2 ^ a) (h2 : j.natAbs < 2 ^ a) : (i + j).natAbs < 2 ^ (a + 1) := by
  have e : 2 ^ (a + 1) = 2 ^ a * 2 := Nat.pow_succ ..
  omega
theorem sz_sub {a : Nat} {i j : Int} (h1 : i.natAbs < 2 ^ a) (h2 : j.natAbs < 2 ^ a) : (i - j).natAbs < 2 ^ (a + 1) := by
  have e : 2 ^ (a + 1) = 2 ^ a * 2 := Nat.pow_succ ..
  omega
theorem sz_up {a b : Nat} {i : Int} (h1 : i.natAbs < 2 ^ a) (h : a ≤ b) : i.natAbs < 2 ^ b := Nat.lt_of_lt_of_le h1 (Nat.pow_le_pow_right (by decide) h)
theorem lt_of_sz {i : Int} {a : Nat} (h : i.natAbs < 2 ^ a) : i < 2 ^ a := by
  have : ((2 ^ a : Nat) : Int) = 2 ^ a := by simp
  omega
theorem mulZ {i j : Int} {a b : Nat} (h1 : i.natAbs < 2 ^ a) (h2 : j.natAbs < 2 ^ b) (ha : a ≤ 250) (hb : b ≤ 250) : CMulW i j := mulS (sz_up h1 ha) (sz_up h2 hb)

theorem ok__law_take {P : Program} {w : World} {K : PySem.W.Frag} {mg : Str → Option Value} {base : Heap} (Fn : FunAt K mg "_law_take" s__law_take ["_law_box_here", "_law_many"]) (T : Txt mg) : Def P w K mg base "_law_take" 1 ["_law_box_here", "_law_many"] (spB K R_take) := by
  refine fn_B Fn sc__law_take (fun ds Q ⟨m, e, _⟩ => by rw [e]; rfl) fun f cdv A outer s H E hr => ⟨_, (pss_cons (ps_if (PW.pt (pw_and (pt_cmpR (op_eqDK (K := K) rfl hr.units) (pe_ix (ix_seqK (K := K) rfl) (pv 0) pe_int (fun _ _ => rfl)) pe_int (nomark _)) (pw_and1 (pt_cmpR op_lt (pe_ix (ix_seqK (K := K) rfl) (pv 0) pe_int (fun _ _ => rfl)) (pe_callB (call_lenK (K := K) rfl) (by rfl) T.len (by decide +kernel) (pa_cons (pe_ix (ix_seqK (K := K) rfl) (pv 0) pe_int (fun _ _ => rfl)) pa_nil)) (nomark _))))) (pss_cons (ps_asg (pe_ix (ix_seqK (K := K) rfl) (pe_ix (ix_seqK (K := K) rfl) (pv 0) pe_int (fun _ _ => rfl)) (pe_ix (ix_seqK (K := K) rfl) (pv 0) pe_int (fun _ _ => rfl)) (fun _ _ => rfl)) (pg_name (i := 2) sc__law_take.nd rfl (Or.inl rfl)))
      (pss_cons (ps_asg (pe_op op_add (pe_ix (ix_seqK (K := K) rfl) (pv 0) pe_int (fun _ _ => rfl)) pe_int) (pg_sub (pv 0) pe_int set_list))
      (pss_one (ps_if (pt_cmpR op_ge (pv 2) (pe_op op_pow pe_int pe_int) (nomark _)) (pss_one (ps_asg (pv 2) (pg_sub (pv 0) pe_int set_list))) (pss_cons (ps_asg (pe_op op_add (pe_op op_mulW (pe_ix (ix_seqK (K := K) rfl) (pv 0) pe_int (fun _ _ => rfl)) pe_int) (pe_op op_mod (pv 2) pe_int)) (pg_name (i := 3) sc__law_take.nd rfl (Or.inl rfl)))
      (pss_one (ps_asg (pe_op op_mod (pe_op op_add (pv 3) (pe_op op_mulW (pe_ix (ix_seqK (K := K) rfl) (pv 0) pe_int (fun _ _ => rfl)) pe_int)) pe_int) (pg_sub (pv 0) pe_int set_list)))))))) pss_nil)
      (pss_cons (ps_if (pt_cmpR op_gt (pe_ix (ix_seqK (K := K) rfl) (pv 0) pe_int (fun _ _ => rfl)) pe_int (nomark _)) (pss_cons (ps_asg (pe_op op_mod (pe_ix (ix_seqK (K := K) rfl) (pv 0) pe_int (fun _ _ => rfl)) (pv 1)) (pg_name (i := 4) sc__law_take.nd rfl (Or.inl rfl)))
      (pss_cons (ps_asg (pe_op op_fdivW (pe_ix (ix_seqK (K := K) rfl) (pv 0) pe_int (fun _ _ => rfl)) (pv 1)) (pg_sub (pv 0) pe_int set_list))
      (pss_one (ps_ret (pv 4))))) pss_nil)
      (pss_cons (ps_asg (pe_op op_add (pe_op op_mulW (pe_ix (ix_seqK (K := K) rfl) (pv 0) pe_int (fun _ _ => rfl)) (pe_ix (ix_seqK (K := K) rfl) (pv 0) pe_int (fun _ _ => rfl))) (pe_op op_mulW (pe_ix (ix_seqK (K := K) rfl) (pv 0) pe_int (fun _ _ => rfl)) pe_int)) (pg_name (i := 3) sc__law_take.nd rfl (Or.inl rfl)))
      (pss_cons (ps_asg (pe_op op_mod (pe_op op_add (pe_op op_add (pv 3) pe_int) (pe_ix (ix_seqK (K := K) rfl) (pv 0) pe_int (fun _ _ => rfl))) pe_int) (pg_sub (pv 0) pe_int set_list))
      (pss_one (ps_ret (pe_op op_mod (pe_op op_add (pe_op op_fdivW (pe_ix (ix_seqK (K := K) rfl) (pv 0) pe_int (fun _ _ => rfl)) pe_int) (pe_op op_mulW (pe_op op_mod (pe_ix (ix_seqK (K := K) rfl) (pv 0) pe_int (fun _ _ => rfl)) pe_int) pe_int)) (pv 1)))))))), fun b ds Q hR => ?_⟩
  obtain ⟨m, rfl, hm0, hm1, k⟩ := hR
  intro F σ G H E c cv
  have hz : ∃ a2 a3 a4, σ = [some (.ref b), some (.int m), a2, a3, a4] := by
    have l5 : σ.length = 5 := c.len
    match σ, l5, c with
    | [x0, x1, x2, x3, x4], _, c =>
      obtain ⟨o, h1, h2⟩ := c.sl 0 _ rfl
      obtain ⟨o', h3, v, h4, h5⟩ := c.sl 1 _ rfl
      cases h1
      cases h3
      cases h4
      cases h5
      have h2 : x0 = some (.ref b) := h2
      subst h2
      exact ⟨_, _, _, rfl⟩
  obtain ⟨a2, a3, a4, rfl⟩ := hz
  obtain ⟨cc, ns, i, x, sd, b1, b2, b3, b4, i0, i1, x0, s0, s1⟩ := c.box b rfl
  have fin : ∀ (H' : Hp) (i x sd : Int) (r : Int), H' b = some (.lst [.ref cc, .int i, .int x, .int sd]) → (∀ a o, a ≠ b → H a = some o → H' a = some o) → 0 ≤ i → i ≤ 63 → 0 ≤ x → 0 ≤ sd → sd < 2147483399 → 0 ≤ r → r < m → E.rt (.int r) H' := by
    intro H' i x sd r hb off h1 h2 h3 h4 h5 h6 h7
    refine cv.rt (.int r) (.int r) G H' (c.growB (Evl.Ex.refl _) (fun a o h => ?_) off (fun _ _ _ => rfl) ⟨cc, ns, i, x, sd, hb, b2, b3, b4, h1, h2, h3, h4, h5⟩).forget (.int r) (k r h6 h7)
    exact off a o (fun z => by rw [z, b2] at h; cases h) (c.ex a o h)
  have sqc : ∀ (H' : Hp), (∀ a o, a ≠ b → H a = some o → H' a = some o) → SqL K H' cc (ns.map V.int) := fun H' off => Evl.ex_l (H := G) (fun a o h => off a o (fun z => by rw [z, b2] at h; cases h) (c.ex a o h)) b3
  have ix : ∀ (H' : Hp) (σ' : L2.St) (v : V) (xs : List V) (j : Int), σ'[0]? = some (some (.ref b)) → H' b = some (.lst xs) → atI xs j = some v → RE (tIx K j) σ' H' v := fun H' σ' v xs j h1 h2 h3 => re_ix (re_var h1) (Evl.sq_of h2) re_c h3
  -- the first if
  refine seq_tail (fun σ' H' => ∃ a2 a3 a4 i x sd, σ' = [some (.ref b), some (.int m), a2, a3, a4] ∧ H' b = some (.lst [.ref cc, .int i, .int x, .int sd]) ∧ (∀ a o, a ≠ b → H a = some o → H' a = some o) ∧ 0 ≤ i ∧ i ≤ 63 ∧ 0 ≤ x ∧ 0 ≤ sd ∧ sd < 2147483399) ?tail (fun N hN => ?main)
  case main =>
    refine rs_if (rt_and (rt_test (re_eq (ix H _ _ _ 2 rfl b1 atI4.2.2.1) re_c)) (rt_test (re_B (ix H _ _ _ 1 rfl b1 atI4.2.1) (re_len (ix H _ _ _ 0 rfl b1 atI4.1) (sqc H (fun _ _ _ h => h)))))) (fun hc => ?_) (fun _ => hN _ _ ⟨a2, a3, a4, i, x, sd, rfl, b1, fun _ _ _ h => h, i0, i1, x0, s0, s1⟩)
    have hc2 : i < (ns.length : Int) := by
      have := (Bool.and_eq_true _ _ ▸ hc).2
      simpa using this
    have hat : ∃ z : Int, atI (ns.map V.int) i = some (.int z) := by
      have hl : i.toNat < ns.length := by omega
      refine ⟨ns[i.toNat], ?_⟩
      unfold atI ixN
      rw [if_pos i0, if_pos (by rw [List.length_map]; exact hc2)]
      show (ns.map V.int)[i.toNat]? = _
      rw [List.getElem?_map, List.getElem?_eq_getElem hl]
      rfl
    obtain ⟨z, hz⟩ := hat
    refine rs_seq (rs_asg (re_ix (ix H _ _ _ 0 rfl b1 atI4.1) (sqc H (fun _ _ _ h => h)) (ix H _ _ _ 1 rfl b1 atI4.2.1) hz) ?_)
    refine rs_seq (rs_set (re_I (ix H _ _ _ 1 rfl b1 atI4.2.1) re_c) (re_var rfl) re_c b1 rfl ?_)
    have off1 : ∀ (o1 : HO) a o, a ≠ b → H a = some o → (upd H b o1) a = some o := fun o1 a o ha h => by
      rw [upd_ne ha]
      exact h
    refine rs_if (rt_test (re_B (re_var rfl) (re_C re_c re_c ⟨by decide, by decide, by decide⟩))) (fun hge => ?_) (fun _ => ?_)
    · refine rs_set (re_var rfl) (re_var rfl) re_c upd_same rfl ?_
      have hz18 : (10 : Int) ^ (Int.toNat 18) ≤ z := by simpa using hge
      have hz0 : 0 ≤ z := Int.le_trans (by decide) hz18
      refine hN _ _ ⟨_, a3, a4, i + 1, z, sd, rfl, upd_same, fun a o ha h => ?_, by omega, by omega, hz0, s0, s1⟩
      rw [upd_ne ha]
      exact off1 _ a o ha h
    · have hmod : 0 ≤ z % 2147483563 ∧ z % 2147483563 < 2147483563 := ⟨Int.emod_nonneg _ (by decide), Int.emod_lt_of_pos _ (by decide)⟩
      refine rs_seq (rs_asg (re_I (re_C (ix _ _ _ _ 3 rfl upd_same atI4.2.2.2) re_c (mulS (by omega) (by decide))) (re_C (re_var rfl) re_c (by show (0 : Int) < 2147483563; decide))) ?_)
      refine rs_set (re_C (re_I (re_var rfl) (re_C (ix _ _ _ _ 1 rfl upd_same atI4.2.1) re_c (mulS (by omega) (by decide)))) re_c (by show (0 : Int) < 2147483399; decide)) (re_var rfl) re_c upd_same rfl ?_
      refine hN _ _ ⟨_, _, a4, i + 1, x, _, rfl, upd_same, fun a o ha h => ?_, by omega, by omega, x0, Int.emod_nonneg _ (by decide), Int.emod_lt_of_pos _ (by decide)⟩
      rw [upd_ne ha]
      exact off1 _ a o ha h
  rintro σ' H' ⟨a2, a3, a4, i, x, sd, rfl, hb, off, i0, i1, x0, s0, s1⟩
  -- the second if
  refine seq_tail (fun σ' H'' => σ' = [some (.ref b), some (.int m), a2, a3, a4] ∧ H'' = H') ?tail2 (fun N hN => ?main2)
  case main2 =>
    refine rs_if (rt_test (re_B (ix H' _ _ _ 2 rfl hb atI4.2.2.1) re_c)) (fun hx => ?_) (fun _ => hN _ _ ⟨rfl, rfl⟩)
    refine rs_seq (rs_asg (re_C (ix H' _ _ _ 2 rfl hb atI4.2.2.1) (re_var rfl) hm0) ?_)
    refine rs_seq (rs_set (re_C (ix H' _ _ _ 2 rfl hb atI4.2.2.1) (re_var rfl) (divS hm0 (by omega))) (re_var rfl) re_c hb rfl ?_)
    refine rs_ret (re_var rfl) ?_
    refine fin _ i (x / m) sd _ upd_same (fun a o ha h => ?_) i0 i1 (Int.ediv_nonneg x0 (by omega)) s0 s1 (Int.emod_nonneg _ (by omega)) (Int.emod_lt_of_pos _ hm0)
    rw [upd_ne ha]
    exact off a o ha h
  rintro _ _ ⟨rfl, rfl⟩
  refine rs_seq (rs_asg (re_I (re_C (ix _ _ _ _ 3 rfl hb atI4.2.2.2) (ix _ _ _ _ 3 rfl hb atI4.2.2.2) (mulS (by omega) (by omega))) (re_C (ix _ _ _ _ 3 rfl hb atI4.2.2.2) re_c (mulS (by omega) (by decide)))) ?_)
  have sq0 : 0 ≤ sd * sd := Int.mul_nonneg s0 s0
  refine rs_seq (rs_set (re_C (re_I (re_I (re_var rfl) re_c) (ix _ _ _ _ 1 rfl hb atI4.2.1)) re_c (by show (0 : Int) < 2147483399; decide)) (re_var rfl) re_c hb rfl ?_)
  generalize hsd : (sd * sd + sd * 40692 + 1234577 + i) % 2147483399 = sd'
  have t0 : 0 ≤ sd' := by
    rw [← hsd]
    exact Int.emod_nonneg _ (by decide)
  have t1 : sd' < 2147483399 := by
    rw [← hsd]
    exact Int.emod_lt_of_pos _ (by decide)
  refine rs_ret (re_C (re_I (re_C (ix _ _ _ _ 3 rfl upd_same atI4.2.2.2) re_c (divS (by decide) (by decide))) (re_C (re_C (ix _ _ _ _ 3 rfl upd_same atI4.2.2.2) re_c (by show (0 : Int) < 10007; decide)) re_c (mulS (by omega) (by decide)))) (re_var rfl) hm0) ?_
  refine fin _ i x sd' _ (by rw [upd_same]) (fun a o ha h => ?_) i0 i1 x0 t0 t1 (Int.emod_nonneg _ (by omega)) (Int.emod_lt_of_pos _ hm0)
  rw [upd_ne ha]
  exact off a o ha h

/-- the box is made -/
def spBox (K : PySem.W.Frag) : Sp := fun vs H Q _ => ∃ (a : Addr) (ns : List Int), vs = [.ref a] ∧ SqL K H a (ns.map V.int) ∧ ∀ p c H', H p = none → H c = none → c ≠ p → Ex H H' → (∃ i : Int, H' p = some (.lst [.ref c, .int 0, .int 0, .int i]) ∧ 0 ≤ i ∧ i < 2147483399) → H' c = some (.lst ((ns.take 63).map V.int)) → Q (.ref p) H'
theorem cut_int (ns : List Int) : cutV (ns.map V.int) none (some 63) = (ns.take 63).map V.int := by
  unfold cutV
  have h : HT.sIx (ns.map V.int).length 0 none = 0 := rfl
  rw [h, List.drop_zero, List.map_take]
  have h2 : HT.sIx (ns.map V.int).length (ns.map V.int).length (some 63) = min 63 (ns.map V.int).length := HT.sIx_nat _ _ 63
  rw [h2, Nat.sub_zero, ← List.take_take, List.take_length]
theorem ok__law_box {P : Program} {w : World} {K : PySem.W.Frag} {mg : Str → Option Value} {base : Heap} (Fn : FunAt K mg "_law_box" s__law_box ["_law_script"]) (T : Txt mg) : Def P w K mg base "_law_box" 1 ["_law_script"] (spBox K) := by
  obtain ⟨f, fd, hf, hm, hbd⟩ := Fn.ex
  refine ⟨f, fd, hm, hf.kp, hbd, hf.ok sc__law_box (fun vs H Q E h => ?_) fun cdv A outer s H vs Q E hr h => ?_⟩
  · obtain ⟨a, ns, e, _⟩ := h
    rw [e]
    rfl
  obtain ⟨a, ns, rfl, hs, k⟩ := h
  refine ⟨_, (pss_one (ps_ret (pe_lst (pa_cons (pe_callTy (call_list_ofK (K := K) rfl) (by rfl) T.list (by decide +kernel) (pa_cons (pe_slice (sl_listK (K := K) rfl) (pv 0) po_none (po_some pe_int)) pa_nil)) (pa_cons pe_int (pa_cons pe_int (pa_cons (pe_op op_add pe_int (pe_op op_mulW pe_int (pe_callB (call_lenK (K := K) rfl) (by rfl) T.len (by decide +kernel) (pa_cons (pe_slice (sl_listK (K := K) rfl) (pv 0) po_none (po_some pe_int)) pa_nil)))) pa_nil))))))), ?_⟩
  refine ⟨.ref a, rfl, 63, rfl, a, _, rfl, hs, fun p1 n1 => ?_⟩
  refine ⟨p1, _, rfl, .inl (Evl.sq_of upd_same), fun p2 n2 => ?_⟩
  refine ⟨.ref a, rfl, 63, rfl, a, ns.map V.int, rfl, Evl.ex_l ((Evl.Ex.new n1).trans (Evl.Ex.new n2)) hs, fun p3 n3 => ?_⟩
  have hlen : (cutV (ns.map V.int) none (some 63)).length ≤ 63 := by
    rw [cut_int, List.length_map, List.length_take]
    omega
  refine ⟨.ref p3, _, rfl, .inl ⟨_, Evl.sq_of upd_same, rfl⟩, ⟨31, _, rfl, rfl, mulS (by decide) (by omega), ⟨1009, _, rfl, rfl, (by decide : (4 : Nat) ≤ sizeLine), fun p4 n4 => ?_⟩⟩⟩
  have n23 : p2 ≠ p3 := fun z => by
    rw [← z, upd_same] at n3
    cases n3
  have n24 : p2 ≠ p4 := fun z => by
    rw [upd_ne (by rw [← z]; exact n23), ← z, upd_same] at n4
    cases n4
  refine k p4 p2 _ ?_ ?_ n24 (((Evl.Ex.new n1).trans (Evl.Ex.new n2)).trans ((Evl.Ex.new n3).trans (Evl.Ex.new n4))) ⟨_, upd_same, by omega, by omega⟩ ?_
  · exact Evl.fresh_back (((Evl.Ex.new n1).trans (Evl.Ex.new n2)).trans (Evl.Ex.new n3)) n4
  · exact Evl.fresh_back (Evl.Ex.new n1) n2
  · rw [upd_ne n24, upd_ne n23, upd_same, cut_int]
/-- box = _law_box(script): the state's box from here on -/
theorem sw_box {K : PySem.W.Frag} {Z : List Sk} {O : Own} {D : DE} {u : TS} {i : Nat} {ns : List Int} {E : XK} (h0 : Z[0]? = some (.d (.list (ns.map .int)))) (h : ∀ b, SW K (some b) u (Z.set i (.v (.ref b))) O D) :
    SW K none (tSeq (tAsg (tCall (spBox K) [] E (tCons (tVar 0) tNil)) (gName i)) u) Z O D := fun F σ G H En c cv => by
  obtain ⟨o, h1, v, h2, h3⟩ := c.sl 0 _ h0
  subst h2
  cases h3 with
  | @lst a vs _ hs ha =>
    have ev := dpa_ints_inv ha
    subst ev
    refine ⟨.ref a, h1, a, ns, rfl, Evl.ex_l c.ex hs, fun p cc H' n1 n2 hne e ⟨i0, hp, i1, i2⟩ hc => ?_⟩
    have g1 : G cc = none := c.gnone n2
    have c1 := c.grow (G' := upd G cc (.lst ((ns.take 63).map V.int))) (H' := H') (Evl.Ex.new g1) (fun a u hu => by
      by_cases z : a = cc
      · subst z
        rw [upd_same] at hu
        cases hu
        exact hc
      · rw [upd_ne z] at hu
        exact e a u (c.ex a u hu)) e (fun a o ha => upd_ne (ne_of_none ha n2))
    have bx : BoxOk K p (upd G cc (.lst ((ns.take 63).map V.int))) H' := ⟨cc, ns.take 63, 0, 0, i0, hp, by rw [upd_ne (fun z => hne z.symm)]; exact c.gnone n1, Evl.sq_of upd_same, by rw [List.length_take]; omega, by decide, by decide, by decide, i1, i2⟩
    have c2 : Cfg K F (some p) Z O σ (upd G cc (.lst ((ns.take 63).map V.int))) H' := ⟨c1.len, c1.sl, c1.ex, fun b hb => (by cases hb; exact bx), fun b hb => (by cases hb; exact .inr (c.hnone n1)), fun q ds hq => (by
      obtain ⟨o1, o2, o3, vs, o4, o5⟩ := c1.own q ds hq
      refine ⟨o1, fun z => ?_, o3, vs, o4, o5⟩
      obtain ⟨_, _, _, us, o4', _⟩ := c.own q ds hq
      rw [← Option.some.inj z, n1] at o4'
      cases o4'), c1.nd, c1.e0, c1.h0, c1.h1, c1.g0⟩
    refine h p F _ _ H' En (c2.set (k := .v (.ref p)) rfl) ?_
    have down : ∀ {Z O σ G H}, Cfg K F (some p) Z O σ G H → Cfg K F none Z O σ G H := fun c => ⟨c.len, c.sl, c.ex, fun b hb => (by cases hb), fun b hb => (by cases hb), fun q ds hq => (by
      obtain ⟨o1, o2, o3, o4⟩ := c.own q ds hq
      exact ⟨o1, fun z => (by cases z), o3, o4⟩), c.nd, c.e0, c.h0, c.h1, c.g0⟩
    exact ⟨fun Z O σ G H c q => cv.nx Z O σ G H (down c) q, fun v d G H c hd q => cv.rt v d G H (down c) hd q, fun Z O σ G H c q => cv.bk Z O σ G H (down c) q, fun Z O σ G H c q => cv.ct Z O σ G H (down c) q⟩
/-- what the law promises -/
def spLaw (K : PySem.W.Frag) : Sp := fun vs H Q _ => ∃ (a : Addr) (ns : List Int), vs = [.ref a] ∧ SqL K H a (ns.map V.int) ∧ ns.length ≤ 63 ∧ ∀ H', Q (.bl true) H'
/-- the law by its body -/
theorem fn_L {P : Program} {w : World} {K : PySem.W.Frag} {mg : Str → Option Value} {base : Heap} {st : Stmt} {N : List Str} {k : Nat} {f : Addr} {fd : FuncData} (F : Fun K "law" "law" st f fd) (S : FnScope N ["_law_script"] (defScope st))
    (hb : ∀ (f : Addr) (cdv : Value) (A : Around) (outer : List Env) (s : Shared) (H : Hp) (E : XK), Room k (A.deeper (envOfC "law" (defScope st) s.heap.objs.size f cdv)) →
      ∃ t, PSs (cxOf CX0 P w K mg base N "law" (defScope st) f cdv A outer s H E).nox (defBody st) t ∧ ∀ ns : List Int, SW K none t (Z0 N [.d (.list (ns.map .int))]) [] { nx := fun _ _ => False, rt := fun d => d = .bool true }) :
    FnOk P w K mg base CX0 (k + 1) f fd ["_law_script"] (spLaw K) := by
  refine F.ok S (fun vs H Q E h => ?_) fun cdv A outer s H vs Q E hr h => ?_
  · obtain ⟨a, ns, e, _⟩ := h
    rw [e]
    rfl
  obtain ⟨a, ns, rfl, hs, hl, k⟩ := h
  obtain ⟨t, ht, sw⟩ := hb f cdv A outer s H E hr
  refine ⟨t, ht, sw ns ⟨fun _ => False, H, H⟩ _ H H _ ?_ ?_⟩
  · obtain ⟨h1, h2⟩ := sl_start (K := K) (G := H) (N := N) (ks := [.d (.list (ns.map .int))]) (vs := [.ref a]) ⟨⟨_, rfl, .lst hs dpa_ints⟩, True.intro⟩
    exact ⟨h1, h2, Evl.Ex.refl _, fun b z => (by cases z), fun b z => (by cases z), fun p ds z => (by simp at z), List.nodup_nil, Evl.Ex.refl _, fun a o _ h => h, fun a o h => ⟨o, h⟩, fun _ _ _ => rfl⟩
  · exact ⟨fun Z O σ G' H' c q => q.elim, fun v d G' H' c hv q => (by
      subst q
      cases hv
      exact k H'), fun _ _ _ _ _ _ z => z.elim, fun _ _ _ _ _ _ z => z.elim⟩

def R_near (ds : List PyData) (P : PyData → Prop) : Prop := ∃ m : Int, ds = [.int m] ∧ 0 ≤ m ∧ m < 2 ^ 200 ∧ ∀ r : Int, -m ≤ r → r ≤ m → P (.int r)
instance : MonoR R_near := ⟨fun _ _ _ h ⟨m, e, h1, h2, k⟩ => ⟨m, e, h1, h2, fun r a b => h _ (k r a b)⟩⟩
theorem ok__law_near {P : Program} {w : World} {K : PySem.W.Frag} {mg : Str → Option Value} {base : Heap} (Fn : FunAt K mg "_law_near" s__law_near ["_law_box_here", "_law_far"]) (T : Txt mg) (d__law_take : Def P w K mg base "_law_take" 1 ["_law_box_here", "_law_many"] (spB K R_take)) : Def P w K mg base "_law_near" 2 ["_law_box_here", "_law_far"] (spB K R_near) := by
  refine fn_B Fn sc__law_near (fun ds Q ⟨m, e, _⟩ => by rw [e]; rfl) fun f cdv A outer s H E hr => ⟨_, (pss_one (ps_ret (pe_op op_sub (pe_def d__law_take hr (by first | decide | omega) (by rfl) (pa_cons (pv 0) (pa_cons (pe_op op_add (pe_op op_mulW pe_int (pv 1)) pe_int) pa_nil))) (pv 1)))), fun b ds Q hR => ?_⟩
  obtain ⟨m, rfl, hm0, hm1, k⟩ := hR
  show SW _ _ _ [.v (.ref b), .d (.int m)] _ _
  walk_at "dn"
  repeat' walk_at "dl"
  · exact mulS (by decide) (by omega)
  · refine ⟨_, rfl, by omega, by omega, fun r h1 h2 => ?_⟩
    repeat' walk_at "dl"
    exact k _ (by omega) (by omega)

def R_common (ds : List PyData) (P : PyData → Prop) : Prop := ∃ a b : Int, ds = [.int a, .int b] ∧ P (.int (Nat.gcd a.natAbs b.natAbs : Nat))
instance : MonoR R_common := ⟨fun _ _ _ h ⟨a, b, e, k⟩ => ⟨a, b, e, h _ k⟩⟩
theorem abs_nat (i : Int) : (if i < 0 then -i else i) = (i.natAbs : Int) := by split <;> omega
theorem emod_nat (x y : Nat) : ((x : Int) % (y : Int)) = ((x % y : Nat) : Int) := by omega
theorem ok__law_common {P : Program} {w : World} {K : PySem.W.Frag} {mg : Str → Option Value} {base : Heap} (Fn : FunAt K mg "_law_common" s__law_common ["_law_one", "_law_other"]) (T : Txt mg) : Def P w K mg base "_law_common" 1 ["_law_one", "_law_other"] (spP K R_common) := by
  refine fn_P Fn sc__law_common (fun ds Q ⟨a, b, e, _⟩ => by rw [e]; rfl) fun f cdv A outer s H E hr => ⟨_, (pss_cons (ps_par (i := 0) (j := 1) (by rfl) sc__law_common.nd rfl rfl (by decide) rfl rfl (pa_cons (pe_callB call_abs (by rfl) T.abs (by decide +kernel) (pa_cons (pv 0) pa_nil)) (pa_cons (pe_callB call_abs (by rfl) T.abs (by decide +kernel) (pa_cons (pv 1) pa_nil)) pa_nil)) (by rfl))
      (pss_cons (ps_while PassesOwn.never (pt_cmpR op_gt (pv 1) pe_int (nomark _))
      (pss_one (ps_par (i := 0) (j := 1) (by rfl) sc__law_common.nd rfl rfl (by decide) rfl rfl (pa_cons (pv 1) (pa_cons (pe_op op_mod (pv 0) (pv 1)) pa_nil)) (by rfl))))
      (pss_one (ps_ret (pv 0))))), fun ds Q hR => ?_⟩
  obtain ⟨a, b, rfl, k⟩ := hR
  show SW _ _ _ [.d (.int a), .d (.int b)] _ _
  walk_at "dn"
  repeat' walk_at "dl"
  rw [abs_nat, abs_nat]
  generalize a.natAbs = x at *
  generalize b.natAbs = y at *
  refine sw_while (fun m Z O => ∃ x' y' : Nat, Z = [.d (.int (x' : Int)), .d (.int (y' : Int))] ∧ O = [] ∧ m = y' ∧ Nat.gcd x' y' = Nat.gcd x y) y ⟨x, y, rfl, rfl, rfl, rfl⟩ ?_
  rintro y' _ _ ⟨x', _, rfl, rfl, rfl, hg⟩
  repeat' walk_at "dl"
  refine ite2 (fun hc => ?_) (fun hc => ?_)
  · have hy : 0 < y' := by
      have := of_decide_eq_true hc
      omega
    repeat' walk_at "dl"
    · show (0 : Int) < (y' : Int)
      omega
    · refine ⟨x' % y', Nat.mod_lt _ hy, y', x' % y', by rw [emod_nat], by trivial, rfl, ?_⟩
      rw [← hg, Nat.gcd_comm x' y', Nat.gcd_rec y' x', Nat.gcd_comm]
  · have hy : y' = 0 := by
      have : ¬ (0 : Int) < (y' : Int) := fun z => hc (decide_eq_true z)
      omega
    repeat' walk_at "dl"
    subst hy
    rw [Nat.gcd_zero_right] at hg
    rw [hg]
    exact k

/-- a fraction in lowest terms, by the greatest number that divides both -/
def lowN (n d : Int) : Int := n / ((Nat.gcd n.natAbs d.natAbs : Nat) : Int)
def lowM (n d : Int) : Int := d / ((Nat.gcd n.natAbs d.natAbs : Nat) : Int)
def lowD (n d : Int) : PyData := .tuple [.int (lowN n d), .int (lowM n d)]
theorem low_facts {n m : Int} (hm : 0 < m) : 0 < lowM n m ∧ Nat.gcd (lowN n m).natAbs (lowM n m).natAbs = 1 ∧ lowN n m * m = n * lowM n m ∧ (lowN n m).natAbs ≤ n.natAbs ∧ (lowM n m).natAbs ≤ m.natAbs := by
  unfold lowN lowM
  have hg : 0 < Nat.gcd n.natAbs m.natAbs := Nat.gcd_pos_of_pos_right _ (by omega)
  have d1 : ((Nat.gcd n.natAbs m.natAbs : Nat) : Int) ∣ n := Int.ofNat_dvd_left.mpr (Nat.gcd_dvd_left _ _)
  have d2 : ((Nat.gcd n.natAbs m.natAbs : Nat) : Int) ∣ m := Int.ofNat_dvd_left.mpr (Nat.gcd_dvd_right _ _)
  generalize hgg : Nat.gcd n.natAbs m.natAbs = g at *
  obtain ⟨a, ea⟩ := d1
  obtain ⟨c, ec⟩ := d2
  have hgi : (0 : Int) < (g : Int) := by omega
  have qa : n / (g : Int) = a := by rw [ea, Int.mul_ediv_cancel_left _ (by omega)]
  have qc : m / (g : Int) = c := by rw [ec, Int.mul_ediv_cancel_left _ (by omega)]
  rw [qa, qc]
  have hc : 0 < c := by
    rcases Int.lt_or_le 0 c with h | h
    · exact h
    · have := Int.mul_nonpos_of_nonneg_of_nonpos (Int.le_of_lt hgi) h
      omega
  refine ⟨hc, ?_, by rw [ea, ec, Int.mul_comm (g : Int) a, Int.mul_assoc], ?_, ?_⟩
  · have h1 : n.natAbs = g * a.natAbs := by rw [ea, Int.natAbs_mul, Int.natAbs_natCast]
    have h2 : m.natAbs = g * c.natAbs := by rw [ec, Int.natAbs_mul, Int.natAbs_natCast]
    rw [h1, h2, Nat.gcd_mul_left] at hgg
    exact Nat.eq_of_mul_eq_mul_left hg (by rw [hgg, Nat.mul_one])
  · rw [ea, Int.natAbs_mul, Int.natAbs_natCast]
    exact Nat.le_mul_of_pos_left _ hg
  · rw [ec, Int.natAbs_mul, Int.natAbs_natCast]
    exact Nat.le_mul_of_pos_left _ hg
theorem low_scale {k n d : Int} (hk : 0 < k) (hd : 0 < d) : lowN (k * n) (k * d) = lowN n d ∧ lowM (k * n) (k * d) = lowM n d := by
  unfold lowN lowM
  have hg : Nat.gcd (k * n).natAbs (k * d).natAbs = k.natAbs * Nat.gcd n.natAbs d.natAbs := by rw [Int.natAbs_mul, Int.natAbs_mul, Nat.gcd_mul_left]
  rw [hg]
  have e : ((k.natAbs * Nat.gcd n.natAbs d.natAbs : Nat) : Int) = k * ((Nat.gcd n.natAbs d.natAbs : Nat) : Int) := by
    rw [Int.natCast_mul]
    congr 1
    omega
  rw [e]
  exact ⟨Int.mul_ediv_mul_of_pos _ _ hk, Int.mul_ediv_mul_of_pos _ _ hk⟩
theorem lowD_scale {k n d n' d' : Int} (hk : 0 < k) (hd : 0 < d) (e1 : n' = k * n) (e2 : d' = k * d) : lowD n' d' = lowD n d := by
  subst e1 e2
  unfold lowD
  rw [(low_scale (n := n) hk hd).1, (low_scale (n := n) hk hd).2]
/-- two fractions handed to a def: their numbers below 2 ^ 100 -/
def R_low (ds : List PyData) (P : PyData → Prop) : Prop := ∃ n d : Int, ds = [.int n, .int d] ∧ 0 < d ∧ d < 2 ^ 250 ∧ P (lowD n d)
instance : MonoR R_low := ⟨fun _ _ _ h ⟨n, d, e, h1, h2, k⟩ => ⟨n, d, e, h1, h2, h _ k⟩⟩
theorem gcd_pos {n d : Int} (h : 0 < d) : (0 : Int) < (Nat.gcd n.natAbs d.natAbs : Nat) := by
  have : 0 < Nat.gcd n.natAbs d.natAbs := Nat.gcd_pos_of_pos_right _ (by omega)
  omega
theorem gcd_le {n d : Int} (h : 0 < d) : ((Nat.gcd n.natAbs d.natAbs : Nat) : Int) ≤ d := by
  have : Nat.gcd n.natAbs d.natAbs ≤ d.natAbs := Nat.gcd_le_right _ (by omega)
  omega

/-- two fractions, numbers below 2 ^ 110 -/
def R_two (f : Int → Int → Int → Int → PyData) (ds : List PyData) (P : PyData → Prop) : Prop := ∃ a b c d : Int, ds = [.tuple [.int a, .int b], .tuple [.int c, .int d]] ∧ a.natAbs < 2 ^ 110 ∧ b.natAbs < 2 ^ 110 ∧ c.natAbs < 2 ^ 110 ∧ d.natAbs < 2 ^ 110 ∧ 0 < b ∧ 0 < d ∧ P (f a b c d)
instance {f : Int → Int → Int → Int → PyData} : MonoR (R_two f) := ⟨fun _ _ _ h ⟨a, b, c, d, e, h1, h2, h3, h4, h5, h6, k⟩ => ⟨a, b, c, d, e, h1, h2, h3, h4, h5, h6, h _ k⟩⟩
def plusD (a b c d : Int) : PyData := lowD (a * d + c * b) (b * d)
def minusD (a b c d : Int) : PyData := lowD (a * d - c * b) (b * d)
def timesD (a b c d : Int) : PyData := lowD (a * c) (b * d)
theorem sz_one : (1 : Int).natAbs < 2 ^ 1 := by decide

theorem ok__law_low {P : Program} {w : World} {K : PySem.W.Frag} {mg : Str → Option Value} {base : Heap} (Fn : FunAt K mg "_law_low" s__law_low ["_law_num", "_law_den"]) (T : Txt mg) (d__law_common : Def P w K mg base "_law_common" 1 ["_law_one", "_law_other"] (spP K R_common)) : Def P w K mg base "_law_low" 2 ["_law_num", "_law_den"] (spP K R_low) := by
  refine fn_P Fn sc__law_low (fun ds Q ⟨n, d, e, _⟩ => by rw [e]; rfl) fun f cdv A outer s H E hr => ⟨_, (pss_cons (ps_asg (pe_def d__law_common hr (by first | decide | omega) (by rfl) (pa_cons (pv 0) (pa_cons (pv 1) pa_nil))) (pg_name (i := 2) sc__law_low.nd rfl (Or.inl rfl)))
      (pss_one (ps_ret (pe_tup (pa_cons (pe_op op_fdivW (pv 0) (pv 2)) (pa_cons (pe_op op_fdivW (pv 1) (pv 2)) pa_nil)))))), fun ds Q hR => ?_⟩
  obtain ⟨n, d, rfl, h0, h1, k⟩ := hR
  show SW _ _ _ [.d (.int n), .d (.int d), .no] _ _
  walk_at "dn"
  repeat' walk_at "dl"
  refine ⟨n, d, rfl, ?_⟩
  repeat' walk_at "dl"
  · exact divS (gcd_pos h0) (by have := gcd_le (n := n) h0; have := gcd_pos (n := n) h0; omega)
  · exact divS (gcd_pos h0) (by have := gcd_le (n := n) h0; have := gcd_pos (n := n) h0; omega)
  · exact k

theorem ok__law_sum {P : Program} {w : World} {K : PySem.W.Frag} {mg : Str → Option Value} {base : Heap} (Fn : FunAt K mg "_law_sum" s__law_sum ["_law_one", "_law_other"]) (T : Txt mg) (d__law_low : Def P w K mg base "_law_low" 2 ["_law_num", "_law_den"] (spP K R_low)) : Def P w K mg base "_law_sum" 3 ["_law_one", "_law_other"] (spP K (R_two plusD)) := by
  refine fn_P Fn sc__law_sum (fun ds Q ⟨a, b, c, d, e, _⟩ => by rw [e]; rfl) fun f cdv A outer s H E hr => ⟨_, (pss_one (ps_ret (pe_def d__law_low hr (by first | decide | omega) (by rfl) (pa_cons (pe_op op_add (pe_op op_mulW (pe_ix (ix_seqK (K := K) rfl) (pv 0) pe_int (fun _ _ => rfl)) (pe_ix (ix_seqK (K := K) rfl) (pv 1) pe_int (fun _ _ => rfl))) (pe_op op_mulW (pe_ix (ix_seqK (K := K) rfl) (pv 1) pe_int (fun _ _ => rfl)) (pe_ix (ix_seqK (K := K) rfl) (pv 0) pe_int (fun _ _ => rfl)))) (pa_cons (pe_op op_mulW (pe_ix (ix_seqK (K := K) rfl) (pv 0) pe_int (fun _ _ => rfl)) (pe_ix (ix_seqK (K := K) rfl) (pv 1) pe_int (fun _ _ => rfl))) pa_nil))))), fun ds Q hR => ?_⟩
  obtain ⟨a, b, c, d, rfl, ha, hb, hc, hd, hb0, hd0, k⟩ := hR
  show SW _ _ _ [.d (.tuple [.int a, .int b]), .d (.tuple [.int c, .int d])] _ _
  walk_at "dn"
  repeat' walk_at "dl"
  · exact mulZ ha hd (by decide) (by decide)
  · exact mulZ hc hb (by decide) (by decide)
  · exact mulZ hb hd (by decide) (by decide)
  · exact ⟨_, _, rfl, Int.mul_pos hb0 hd0, lt_of_sz (sz_up (sz_mul hb hd) (by decide)), k⟩

/-- a drawn fraction in lowest terms -/
def R_part (ds : List PyData) (P : PyData → Prop) : Prop := ∃ m : Int, ds = [.int m] ∧ 0 ≤ m ∧ m < 2 ^ 90 ∧ ∀ n d : Int, n.natAbs < 2 ^ 90 → 0 < d → d < 8 → n.natAbs ≤ m.natAbs → Nat.gcd n.natAbs d.natAbs = 1 → P (.tuple [.int n, .int d])
instance : MonoR R_part := ⟨fun _ _ _ h ⟨m, e, h1, h2, k⟩ => ⟨m, e, h1, h2, fun n d a b c g i => h _ (k n d a b c g i)⟩⟩
theorem ok__law_part {P : Program} {w : World} {K : PySem.W.Frag} {mg : Str → Option Value} {base : Heap} (Fn : FunAt K mg "_law_part" s__law_part ["_law_box_here", "_law_far"]) (T : Txt mg) (d__law_take : Def P w K mg base "_law_take" 1 ["_law_box_here", "_law_many"] (spB K R_take)) (d__law_near : Def P w K mg base "_law_near" 2 ["_law_box_here", "_law_far"] (spB K R_near)) (d__law_low : Def P w K mg base "_law_low" 2 ["_law_num", "_law_den"] (spP K R_low)) :
    Def P w K mg base "_law_part" 3 ["_law_box_here", "_law_far"] (spB K R_part) := by
  refine fn_B Fn sc__law_part (fun ds Q ⟨m, e, _⟩ => by rw [e]; rfl) fun f cdv A outer s H E hr => ⟨_, (pss_cons (ps_asg (pe_def d__law_near hr (by first | decide | omega) (by rfl) (pa_cons (pv 0) (pa_cons (pv 1) pa_nil))) (pg_name (i := 2) sc__law_part.nd rfl (Or.inl rfl)))
      (pss_cons (ps_asg (pe_ix (ix_seqK (K := K) rfl) (pe_lst (pa_cons pe_int (pa_cons pe_int (pa_cons pe_int (pa_cons (pe_op op_add pe_int (pe_def d__law_take hr (by first | decide | omega) (by rfl) (pa_cons (pv 0) (pa_cons pe_int pa_nil)))) pa_nil))))) (pe_def d__law_take hr (by first | decide | omega) (by rfl) (pa_cons (pv 0) (pa_cons pe_int pa_nil))) (fun _ _ => rfl)) (pg_name (i := 3) sc__law_part.nd rfl (Or.inl rfl)))
      (pss_one (ps_ret (pe_def d__law_low hr (by first | decide | omega) (by rfl) (pa_cons (pv 2) (pa_cons (pv 3) pa_nil))))))), fun b ds Q hR => ?_⟩
  obtain ⟨m, rfl, hm0, hm1, k⟩ := hR
  show SW _ _ _ [.v (.ref b), .d (.int m), .no, .no] _ _
  walk_at "dn"
  repeat' walk_at "dl"
  refine ⟨m, rfl, hm0, by omega, fun r h1 h2 => ?_⟩
  repeat' walk_at "dl"
  refine we_pick (fun x => ∃ n : Int, x = .int n ∧ 0 < n ∧ n < 8) ?_ ?_
  · repeat' walk_at "dl"
    refine ⟨_, rfl, by decide, by decide, fun r2 h3 h4 => ?_⟩
    repeat' walk_at "dl"
    refine ⟨_, rfl, by decide, by decide, fun r4 h7 h8 => ?_⟩
    refine item_any h7 h8 fun x hx => ?_
    simp only [List.mem_cons, List.mem_nil_iff, or_false] at hx
    rcases hx with rfl | rfl | rfl | rfl
    · exact ⟨_, rfl, by omega, by omega⟩
    · exact ⟨_, rfl, by omega, by omega⟩
    · exact ⟨_, rfl, by omega, by omega⟩
    · exact ⟨_, rfl, by omega, by omega⟩
  rintro _ ⟨d, rfl, hd0, hd1⟩
  repeat' walk_at "dl"
  obtain ⟨f1, f2, f3, f4, f5⟩ := low_facts (n := r) hd0
  exact ⟨r, d, rfl, hd0, by omega, k _ _ (by omega) f1 (by omega) (by omega) f2⟩

/-- a fraction's two numbers below 2 ^ k, the den above nought -/
def Fq (k : Nat) (a b : Int) : Prop := a.natAbs < 2 ^ k ∧ b.natAbs < 2 ^ k ∧ 0 < b
theorem low_fq {k : Nat} {a b : Int} (h : Fq k a b) : Fq k (lowN a b) (lowM a b) := by
  obtain ⟨h1, h2, h3⟩ := h
  obtain ⟨f1, f2, f3, f4, f5⟩ := low_facts (n := a) h3
  exact ⟨by omega, by omega, f1⟩
theorem plus_fq {j k : Nat} {a b c d : Int} (h : Fq j a b) (g : Fq k c d) : Fq (j + k + 1) (a * d + c * b) (b * d) := by
  refine ⟨sz_add (sz_mul h.1 g.2.1) (by rw [Nat.add_comm]; exact sz_mul g.1 h.2.1), sz_up (sz_mul h.2.1 g.2.1) (by omega), Int.mul_pos h.2.2 g.2.2⟩
theorem minus_fq {j k : Nat} {a b c d : Int} (h : Fq j a b) (g : Fq k c d) : Fq (j + k + 1) (a * d - c * b) (b * d) := by
  refine ⟨sz_sub (sz_mul h.1 g.2.1) (by rw [Nat.add_comm]; exact sz_mul g.1 h.2.1), sz_up (sz_mul h.2.1 g.2.1) (by omega), Int.mul_pos h.2.2 g.2.2⟩
theorem times_fq {j k : Nat} {a b c d : Int} (h : Fq j a b) (g : Fq k c d) : Fq (j + k) (a * c) (b * d) :=
  ⟨sz_mul h.1 g.1, sz_mul h.2.1 g.2.1, Int.mul_pos h.2.2 g.2.2⟩
theorem two_call {f : Int → Int → Int → Int → PyData} {j k : Nat} {a b c d : Int} {P : PyData → Prop} (h : Fq j a b) (g : Fq k c d) (hj : j ≤ 110) (hk : k ≤ 110) (p : P (f a b c d)) : R_two f [.tuple [.int a, .int b], .tuple [.int c, .int d]] P :=
  ⟨a, b, c, d, rfl, sz_up h.1 hj, sz_up h.2.1 hj, sz_up g.1 hk, sz_up g.2.1 hk, h.2.2, g.2.2, p⟩
/-- equal fractions have one lowest form -/
theorem low_eq {n d n' d' : Int} (hd : 0 < d) (hd' : 0 < d') (h : n * d' = n' * d) : lowD n d = lowD n' d' := by
  have h1 : lowD (d' * n) (d' * d) = lowD n d := lowD_scale (k := d') hd' hd rfl rfl
  have h2 : lowD (d * n') (d * d') = lowD n' d' := lowD_scale (k := d) hd hd' rfl rfl
  rw [← h1, ← h2, Int.mul_comm d' n, h, Int.mul_comm n' d, Int.mul_comm d' d]
theorem low_id {n d : Int} (h : Nat.gcd n.natAbs d.natAbs = 1) : lowD n d = .tuple [.int n, .int d] := by
  unfold lowD lowN lowM
  rw [h]
  show PyData.tuple [.int (n / 1), .int (d / 1)] = _
  rw [Int.ediv_one, Int.ediv_one]
theorem low_rel {n d : Int} (h : 0 < d) : lowN n d * d = n * lowM n d ∧ 0 < lowM n d := ⟨(low_facts h).2.2.1, (low_facts (n := n) h).1⟩
theorem eqv_pair {a b : Int} : PyData.eqv (.tuple [.int a, .int b]) (.tuple [.int a, .int b]) = true := by simp [PyData.eqv, PyData.eqvAll]
theorem eqv_pair_of {a b : Int} {x y : PyData} (h1 : x = .tuple [.int a, .int b]) (h2 : y = .tuple [.int a, .int b]) : PyData.eqv x y = true := by
  rw [h1, h2]
  exact eqv_pair
theorem eqv_low {a b : Int} {x : PyData} (h1 : x = lowD a b) : PyData.eqv x (lowD a b) = true := by
  rw [h1]
  exact eqv_pair

/-- data that _law_same goes through: no dict, so deep at most, so long at most -/
def fit : Nat → PyData → Bool
  | _, .none | _, .bool _ | _, .int _ => true
  | _, .str x => PyData.canLay0 (.str x)
  | n + 1, .list ds => Nat.ble ds.length 50000 && ds.all (fit n)
  | n + 1, .tuple ds => Nat.ble ds.length 50000 && ds.all (fit n)
  | 0, .list _ => false
  | 0, .tuple _ => false
  | _, .dict _ => false
def R_same (n : Nat) (ds : List PyData) (P : PyData → Prop) : Prop := ∃ d, ds = [d, d] ∧ fit n d = true ∧ P (.bool true)
instance {n : Nat} : MonoR (R_same n) := ⟨fun ds P Q h ⟨d, e, f, k⟩ => ⟨d, e, f, h _ k⟩⟩
def R_prev : Nat → List PyData → (PyData → Prop) → Prop
  | 0 => fun _ _ => False
  | n + 1 => R_same n
instance {n : Nat} : MonoR (R_prev n) := ⟨fun ds P Q h k => match n, k with
  | 0, k => k.elim
  | n + 1, k => MonoR.mono (R := R_same n) ds P Q h k⟩
theorem eqv_bb {a : Bool} : PyData.eqv (.bool a) (.bool a) = true := by simp [PyData.eqv]
def scalD : PyData → Bool
  | .none | .bool _ | .int _ | .str _ => true
  | _ => false
theorem scal_ok {n : Nat} {d : PyData} (h : scalD d = true) (f : fit n d = true) : PyData.eqv d d = true ∧ SeqAt.shaped d = true := by
  cases d with
  | none => exact ⟨rfl, rfl⟩
  | bool b => exact ⟨by simp [PyData.eqv], rfl⟩
  | int b => exact ⟨by simp [PyData.eqv], rfl⟩
  | str b =>
    have f : PyData.canLay0 (.str b) = true := by cases n <;> exact f
    refine ⟨by simp [PyData.eqv], ?_⟩
    unfold SeqAt.shaped
    rw [f]
    rfl
  | list _ => cases h
  | tuple _ => cases h
  | dict _ => cases h
theorem ty_ll {ds : List PyData} : isD (.list ds) "list" = true := (show isTy "list" "list" = true by decide +kernel)
theorem ty_tl {ds : List PyData} : isD (.tuple ds) "list" = false := (show isTy "tuple" "list" = false by decide +kernel)
theorem ty_tt {ds : List PyData} : isD (.tuple ds) "tuple" = true := (show isTy "tuple" "tuple" = true by decide +kernel)
theorem ty_n1 : isD .none "list" = false := (show isTy "NoneType" "list" = false by decide +kernel)
theorem ty_n2 {b : Bool} : isD (.bool b) "list" = false := (show isTy "bool" "list" = false by decide +kernel)
theorem ty_n3 {b : Int} : isD (.int b) "list" = false := (show isTy "int" "list" = false by decide +kernel)
theorem ty_n4 {b : Str} : isD (.str b) "list" = false := (show isTy "str" "list" = false by decide +kernel)
theorem ty_m1 : isD .none "tuple" = false := (show isTy "NoneType" "tuple" = false by decide +kernel)
theorem ty_m2 {b : Bool} : isD (.bool b) "tuple" = false := (show isTy "bool" "tuple" = false by decide +kernel)
theorem ty_m3 {b : Int} : isD (.int b) "tuple" = false := (show isTy "int" "tuple" = false by decide +kernel)
theorem ty_m4 {b : Str} : isD (.str b) "tuple" = false := (show isTy "str" "tuple" = false by decide +kernel)
theorem ok__law_same_step {P : Program} {w : World} {K : PySem.W.Frag} {mg : Str → Option Value} {base : Heap} {n : Nat} (Fn : FunAt K mg "_law_same" s__law_same ["_law_found", "_law_due"]) (T : Txt mg) (d__law_same : Def P w K mg base "_law_same" n ["_law_found", "_law_due"] (spP K (R_prev n))) :
    Def P w K mg base "_law_same" (n + 1) ["_law_found", "_law_due"] (spP K (R_same n)) := by
  refine fn_P Fn sc__law_same (fun ds Q ⟨d, e, _⟩ => by rw [e]; rfl) fun f cdv A outer s H E hr => ⟨_, (pss_cons (ps_if (pt_cmp (pc_isN (pv 1)) rfl) (pss_one (ps_ret (pe_cmp (pc_isN (pv 0)) rfl))) pss_nil)
      (pss_cons (ps_if (PW.pt (pw_or (pt_val (pe_callB (call_isiKK (K := K) rfl) (by rfl) T.isinstance (by decide +kernel) (pa_cons (pv 1) (pa_cons (pe_bltn (v := .ty "list") (by rfl) T.list (by decide +kernel) rfl) pa_nil)))) (pw_or1 (pt_val (pe_callB (call_isiKK (K := K) rfl) (by rfl) T.isinstance (by decide +kernel) (pa_cons (pv 1) (pa_cons (pe_bltn (v := .ty "tuple") (by rfl) T.tuple (by decide +kernel) rfl) pa_nil))))))) (pss_cons (ps_if (PW.pt (pw_or (pt_cmpR (op_neDK (K := K) rfl hr.units) (pe_callB (call_isiKK (K := K) rfl) (by rfl) T.isinstance (by decide +kernel) (pa_cons (pv 0) (pa_cons (pe_bltn (v := .ty "list") (by rfl) T.list (by decide +kernel) rfl) pa_nil))) (pe_callB (call_isiKK (K := K) rfl) (by rfl) T.isinstance (by decide +kernel) (pa_cons (pv 1) (pa_cons (pe_bltn (v := .ty "list") (by rfl) T.list (by decide +kernel) rfl) pa_nil))) (nomark _)) (pw_or1 (pt_cmpR (op_neDK (K := K) rfl hr.units) (pe_callB (call_isiKK (K := K) rfl) (by rfl) T.isinstance (by decide +kernel) (pa_cons (pv 0) (pa_cons (pe_bltn (v := .ty "tuple") (by rfl) T.tuple (by decide +kernel) rfl) pa_nil))) (pe_callB (call_isiKK (K := K) rfl) (by rfl) T.isinstance (by decide +kernel) (pa_cons (pv 1) (pa_cons (pe_bltn (v := .ty "tuple") (by rfl) T.tuple (by decide +kernel) rfl) pa_nil))) (nomark _))))) (pss_one (ps_ret pe_bl)) pss_nil)
      (pss_one (ps_ret (pe_and (pe_cmpR (op_eqDK (K := K) rfl hr.units) (pe_callB (call_lenK (K := K) rfl) (by rfl) T.len (by decide +kernel) (pa_cons (pv 0) pa_nil)) (pe_callB (call_lenK (K := K) rfl) (by rfl) T.len (by decide +kernel) (pa_cons (pv 1) pa_nil)) (nomark _)) (pe_one (pe_callB (cr_allK (K := K) rfl rfl) (by rfl) T.all (by decide +kernel) (pa_cons (pe_lc (own := [("_law_one", 2), ("_law_other", 3)]) (g := (gTup K 2 (gCons (gName 2) (gCons (gName 3) gNil)))) rfl sc__law_same.nd (RZ.pi_zipA (by rfl) T.zip (pa_cons (pv 0) (pa_cons (pv 1) pa_nil))) (blkOk_by (own := [("_law_one", 2), ("_law_other", 3)]) (N := ["_law_found", "_law_due", "_law_one", "_law_other"]) (sc := defScope s__law_same) (by decide +kernel)) (fun _ _ _ _ _ => (pg_tup (n := 2) rfl (pgs_cons (pg_name (i := 2) sc__law_same.nd rfl (Or.inl rfl) (hf := Or.inr rfl)) (pgs_cons (pg_name (i := 3) sc__law_same.nd rfl (Or.inl rfl) (hf := Or.inr rfl)) pgs_nil)))) (fun _ _ _ _ _ => pts_nil) (fun _ _ _ _ _ => (pe_def d__law_same hr (by first | decide | omega) (by rfl) (pa_cons (pv 2) (pa_cons (pv 3) pa_nil))))) pa_nil))))))) pss_nil)
      (pss_cons (ps_if (PW.pt (pw_or (pt_cmpR (op_neDK (K := K) rfl hr.units) (pe_callB (call_isiKK (K := K) rfl) (by rfl) T.isinstance (by decide +kernel) (pa_cons (pv 1) (pa_cons (pe_bltn (v := .ty "bool") (by rfl) T.bool (by decide +kernel) rfl) pa_nil))) (pe_callB (call_isiKK (K := K) rfl) (by rfl) T.isinstance (by decide +kernel) (pa_cons (pv 0) (pa_cons (pe_bltn (v := .ty "bool") (by rfl) T.bool (by decide +kernel) rfl) pa_nil))) (nomark _)) (pw_or1 (pt_cmpR (op_neDK (K := K) rfl hr.units) (pe_callB (call_isiKK (K := K) rfl) (by rfl) T.isinstance (by decide +kernel) (pa_cons (pv 1) (pa_cons (pe_bltn (v := .ty "int") (by rfl) T.int (by decide +kernel) rfl) pa_nil))) (pe_callB (call_isiKK (K := K) rfl) (by rfl) T.isinstance (by decide +kernel) (pa_cons (pv 0) (pa_cons (pe_bltn (v := .ty "int") (by rfl) T.int (by decide +kernel) rfl) pa_nil))) (nomark _))))) (pss_one (ps_ret pe_bl)) pss_nil)
      (pss_one (ps_ret (pe_and (pe_cmpR (op_eqDK (K := K) rfl hr.units) (pe_callB (call_isiKK (K := K) rfl) (by rfl) T.isinstance (by decide +kernel) (pa_cons (pv 0) (pa_cons (pe_bltn (v := .ty "str") (by rfl) T.str (by decide +kernel) rfl) pa_nil))) (pe_callB (call_isiKK (K := K) rfl) (by rfl) T.isinstance (by decide +kernel) (pa_cons (pv 1) (pa_cons (pe_bltn (v := .ty "str") (by rfl) T.str (by decide +kernel) rfl) pa_nil))) (nomark _)) (pe_one (pe_cmpR (op_eqDK (K := K) rfl hr.units) (pv 0) (pv 1) (nomark _))))))))), fun ds Q hR => ?_⟩
  obtain ⟨d, rfl, hf, k⟩ := hR
  show SW _ _ _ [.d d, .d d, .no, .no] _ _
  walk_at "dn"
  -- a list or a tuple: each with itself
  have many : ∀ (ds : List PyData), (d = .list ds ∨ d = .tuple ds) → ds.length ≤ 50000 → (∀ x ∈ ds, R_prev n [x, x] fun y => y = .bool true) →
      WL K none (tLc (RZ.iZipA K (tCons (tVar 0) (tCons (tVar 1) tNil))) (gTup K 2 (gCons (gName 2) (gCons (gName 3) gNil))) tYes (tCall (spP K (R_prev n)) [] E0 (tCons (tVar 2) (tCons (tVar 3) tNil))) [2, 3]) [.d d, .d d, .no, .no] [] fun out => out = (List.replicate ds.length true).map .bool := by
    intro ds hd hl hall
    refine wl_map (ow_tup (ows_cons (ow_name (by decide)) (ows_cons (ow_name (by decide)) ows_nil))) (min ds.length ds.length) (fun i d => ∃ x y, ds[i]? = some x ∧ ds[i]? = some y ∧ d = .tuple [x, y]) ((List.replicate ds.length true).map .bool) ?_ (by omega) (by simp) ?_ rfl
    · refine iw_zipA ?_
      repeat' walk_at "dl"
      refine ⟨ds, ds, ?_, rfl, rfl⟩
      rcases hd with e | e <;> subst e
      · exact .inl rfl
      · exact .inr rfl
    · intro i dd y p acc hi ⟨x, x', hx, hx', ed⟩ ho
      rw [hx] at hx'
      cases hx'
      subst ed
      refine gw_tup rfl (gws_name (gws_name (gws_nil ⟨rfl, ?_⟩)))
      have hy : y = .bool true := by
        simp only [List.map_replicate] at ho
        exact (List.mem_replicate.mp (List.mem_of_getElem? ho)).2
      show WE K none _ [.d d, .d d, .d x, .d x] _ _
      repeat' walk_at "dl"
      rw [hy]
      exact hall x (List.mem_of_getElem? hx)
  have split : (∃ ds, (d = .list ds ∨ d = .tuple ds) ∧ ds.length ≤ 50000 ∧ ∀ x ∈ ds, R_prev n [x, x] fun y => y = .bool true) ∨ scalD d = true := by
    have go : ∀ ds : List PyData, (d = .list ds ∨ d = .tuple ds) → ds.length ≤ 50000 ∧ ∀ x ∈ ds, R_prev n [x, x] fun y => y = .bool true := by
      intro ds hd
      cases n with
      | zero => rcases hd with e | e <;> subst e <;> cases hf
      | succ m =>
        have h2 : (Nat.ble ds.length 50000 && ds.all (fit m)) = true := by rcases hd with e | e <;> subst e <;> exact hf
        have h3 := (Bool.and_eq_true _ _).mp h2
        exact ⟨Nat.le_of_ble_eq_true h3.1, fun x hx => ⟨x, rfl, List.all_eq_true.mp h3.2 x hx, rfl⟩⟩
    cases d with
    | list ds => exact .inl ⟨ds, .inl rfl, go ds (.inl rfl)⟩
    | tuple ds => exact .inl ⟨ds, .inr rfl, go ds (.inr rfl)⟩
    | dict _ => cases n <;> cases hf
    | none => exact .inr rfl
    | bool _ => exact .inr rfl
    | int _ => exact .inr rfl
    | str _ => exact .inr rfl
  have i0 : ∀ a : Bool, PyData.eqv (.bool a) (.bool a) = true := fun a => eqv_bb
  rcases split with ⟨ds, hd, hl, hall⟩ | hs
  · have ml := many ds hd hl hall
    have i1 : isNone d = false := by rcases hd with e | e <;> subst e <;> rfl
    have i2 : isD d "list" = true ∨ (isD d "list" = false ∧ isD d "tuple" = true) := by
      rcases hd with e | e <;> subst e
      · exact .inl ty_ll
      · exact .inr ⟨ty_tl, ty_tt⟩
    have i3 : lenD d = some ds.length := by rcases hd with e | e <;> subst e <;> rfl
    walk_at "dl"
    walk_at "dl"
    refine wt_false (by
      repeat' walk_at "dl"
      exact i1) (iteF ?_)
    walk_at "dl"
    walk_at "dl"
    walk_at "dl"
    refine wt_true (by
      repeat' walk_at "dl"
      rcases i2 with i2 | ⟨i2, i3⟩
      · exact ite_true_of i2 rfl
      · refine ite_false_of i2 ?_
        repeat' walk_at "dl"
        exact i3) (iteT ?_)
    walk_at "dl"
    walk_at "dl"
    refine wt_false (by
      repeat' walk_at "dl"
      refine ite_false_of (by rw [i0]; rfl) ?_
      repeat' walk_at "dl"
      rw [i0]
      rfl) (iteF ?_)
    repeat' walk_at "dl"
    refine ⟨_, nc_len i3, ?_⟩
    repeat' walk_at "dl"
    refine ⟨_, nc_len i3, ?_⟩
    refine ⟨rfl, rfl, _, rfl, ite_true_of (by simp [PyData.eqv]) ?_⟩
    repeat' walk_at "dl"
    refine we_of (wl_imp ml fun out e => ?_)
    subst e
    repeat' walk_at "dl"
    refine ⟨_, nc_all, ?_⟩
    have e2 : (List.replicate ds.length true).all id = true := by simp
    rw [e2]
    exact k
  · cases hn : isNone d with
    | true =>
      walk_at "dl"
      walk_at "dl"
      refine wt_true (by
        repeat' walk_at "dl"
        exact hn) (iteT ?_)
      repeat' walk_at "dl"
      rw [hn]
      exact k
    | false =>
      have n1 : isD d "list" = false := by cases d <;> first | (cases hs; done) | exact ty_n1 | exact ty_n2 | exact ty_n3 | exact ty_n4
      have n2 : isD d "tuple" = false := by cases d <;> first | (cases hs; done) | exact ty_m1 | exact ty_m2 | exact ty_m3 | exact ty_m4
      obtain ⟨q1, q2⟩ := scal_ok hs hf
      walk_at "dl"
      walk_at "dl"
      refine wt_false (by
        repeat' walk_at "dl"
        exact hn) (iteF ?_)
      walk_at "dl"
      walk_at "dl"
      walk_at "dl"
      refine wt_false (by
        repeat' walk_at "dl"
        refine ite_false_of n1 ?_
        repeat' walk_at "dl"
        exact n2) (iteF ?_)
      walk_at "dl"
      walk_at "dl"
      walk_at "dl"
      refine wt_false (by
        repeat' walk_at "dl"
        refine ite_false_of (by rw [i0]; rfl) ?_
        repeat' walk_at "dl"
        rw [i0]
        rfl) (iteF ?_)
      repeat' walk_at "dl"
      refine ite_true_of (i0 _) ?_
      repeat' walk_at "dl"
      refine ⟨q2, q2, ?_⟩
      rw [q1]
      exact k
theorem ok__law_same {P : Program} {w : World} {K : PySem.W.Frag} {mg : Str → Option Value} {base : Heap} (Fn : FunAt K mg "_law_same" s__law_same ["_law_found", "_law_due"]) (T : Txt mg) : ∀ n, Def P w K mg base "_law_same" (n + 1) ["_law_found", "_law_due"] (spP K (R_same n))
  | 0 => ok__law_same_step Fn T (by
    obtain ⟨f, fd, hf, hm, hb⟩ := Fn.ex
    exact ⟨f, fd, hm, hf.kp, hb, ⟨fun vs H Q E h => (by obtain ⟨_, _, _, _, h⟩ := h; exact h.elim), fun A outer s H args us vs Q E _ _ _ _ h => (by obtain ⟨_, _, _, _, h⟩ := h; exact h.elim)⟩⟩)
  | n + 1 => ok__law_same_step (n := n + 1) Fn T (ok__law_same Fn T n)

/-- states: pairs of whole numbers -/
abbrev frD (q : Int × Int) : PyData := .tuple [.int q.1, .int q.2]
def stD (qs : List (Int × Int)) : PyData := .tuple (qs.map frD)
def wsD (ws : List Int) : PyData := .tuple (ws.map .int)
def Sta (qs : List (Int × Int)) : Prop := qs.length ≤ 9 ∧ ∀ q ∈ qs, q.1.natAbs < 2 ^ 40 ∧ 0 < q.2 ∧ q.2.natAbs < 2 ^ 5
def Wts (ws : List Int) : Prop := ws.length ≤ 9 ∧ ∀ w ∈ ws, w.natAbs < 2 ^ 8
def numsL (qs : List (Int × Int)) (L : Int) : List Int := qs.map fun q => q.1 * (L / q.2)
def dotL (ws ns : List Int) : Int := (List.zipWith (· * ·) ws ns).sum
/-- a number that each den divides -/
def Dens (qs : List (Int × Int)) (L : Int) : Prop := 0 < L ∧ ∀ q ∈ qs, q.2 ∣ L
/-- a pair is what the weights make of the state -/
def Val (ws : List Int) (qs : List (Int × Int)) (n d : Int) : Prop := 0 < d ∧ ∀ L, Dens qs L → n * L = d * dotL ws (numsL qs L)
theorem ediv_sz {a b : Int} {k : Nat} (h : a.natAbs < 2 ^ k) (hb : 0 < b) : (a / b).natAbs < 2 ^ k := by
  have := Int.natAbs_ediv_le_natAbs a b
  omega
def R_dot (ds : List PyData) (P : PyData → Prop) : Prop := ∃ ws ns : List Int, ds = [wsD ws, .list (ns.map .int)] ∧ Wts ws ∧ ns.length ≤ 9 ∧ (∀ n ∈ ns, n.natAbs < 2 ^ 100) ∧ P (.int (dotL ws ns))
instance : MonoR R_dot := ⟨fun _ _ _ h ⟨n, m, e, a, b, c, k⟩ => ⟨n, m, e, a, b, c, h _ k⟩⟩
theorem ok_dot {P : Program} {w : World} {K : PySem.W.Frag} {mg : Str → Option Value} {base : Heap} (Fn : FunAt K mg "dot" s_dot ["one", "other"]) (T : Txt mg) : Def P w K mg base "dot" 1 ["one", "other"] (spP K R_dot) := by
  refine fn_P Fn sc_dot (fun ds Q ⟨m, n, e, _⟩ => by rw [e]; rfl) fun f cdv A outer s H E hr => ⟨_, (pss_one (ps_ret (pe_callB (cr_sumK (K := K) rfl rfl) (by rfl) T.sum (by decide +kernel) (pa_cons (pe_lc (own := [("left", 2), ("right", 3)]) (g := (gTup K 2 (gCons (gName 2) (gCons (gName 3) gNil)))) rfl sc_dot.nd (pi_zipK (K := K) rfl (by rfl) T.zip (pa_cons (pv 0) (pa_cons (pv 1) pa_nil))) (blkOk_by (own := [("left", 2), ("right", 3)]) (N := ["one", "other", "left", "right"]) (sc := defScope s_dot) (by decide +kernel)) (fun _ _ _ _ _ => (pg_tup (n := 2) rfl (pgs_cons (pg_name (i := 2) sc_dot.nd rfl (Or.inl rfl) (hf := Or.inr rfl)) (pgs_cons (pg_name (i := 3) sc_dot.nd rfl (Or.inl rfl) (hf := Or.inr rfl)) pgs_nil)))) (fun _ _ _ _ _ => pts_nil) (fun _ _ _ _ _ => (pe_op op_mulW (pv 2) (pv 3)))) pa_nil)))), fun ds Q hR => ?_⟩
  obtain ⟨ws, ns, rfl, hw, hl, hn, k⟩ := hR
  show SW _ _ _ [.d (wsD ws), .d (.list (ns.map .int)), .no, .no] _ _
  walk_at "dn"
  repeat' walk_at "dl"
  refine we_of (wl_map (ow_tup (ows_cons (ow_name (by decide)) (ows_cons (ow_name (by decide)) ows_nil))) (min ws.length ns.length) (fun i d => ∃ x y, (ws.map PyData.int)[i]? = some x ∧ (ns.map PyData.int)[i]? = some y ∧ d = .tuple [x, y]) ((List.zipWith (· * ·) ws ns).map .int) ?_ (by have := hw.1; omega) (by simp) ?_ ?_)
  · refine iw_zip ?_
    repeat' walk_at "dl"
    exact ⟨_, _, _, _, rfl, rfl, rfl, by simp, rfl⟩
  · intro i d z p acc hi ⟨x, y, hx, hy, ed⟩ hz
    subst ed
    have w1 : ws[i]? = some ws[i] := List.getElem?_eq_getElem (by omega)
    have n1 : ns[i]? = some ns[i] := List.getElem?_eq_getElem (by omega)
    rw [List.getElem?_map, w1] at hx
    rw [List.getElem?_map, n1] at hy
    cases hx
    cases hy
    rw [List.getElem?_map, List.getElem?_zipWith, w1, n1] at hz
    cases hz
    refine gw_tup rfl (gws_name (gws_name (gws_nil ⟨rfl, ?_⟩)))
    show WE _ _ _ [.d (wsD ws), .d (.list (ns.map .int)), .d (.int ws[i]), .d (.int ns[i])] _ _
    repeat' walk_at "dl"
    · exact mulZ (hw.2 _ (List.getElem_mem _)) (hn _ (List.getElem_mem _)) (by decide) (by decide)
    · rfl
  · repeat' walk_at "dl"
    exact ⟨_, nc_sum, k⟩
/-- a state's numbers over one den -/
def R_over (ds : List PyData) (P : PyData → Prop) : Prop := ∃ qs : List (Int × Int), ds = [stD qs] ∧ Sta qs ∧ ∀ L, Dens qs L → L.natAbs < 2 ^ 50 → P (.tuple [.list ((numsL qs L).map .int), .int L])
instance : MonoR R_over := ⟨fun _ _ _ h ⟨n, e, a, k⟩ => ⟨n, e, a, fun L b c => h _ (k L b c)⟩⟩
theorem lcm_facts {a b : Int} (ha : 0 < a) (hb : 0 < b) : 0 < a * b / ((Nat.gcd a.natAbs b.natAbs : Nat) : Int) ∧ a ∣ a * b / ((Nat.gcd a.natAbs b.natAbs : Nat) : Int) ∧ b ∣ a * b / ((Nat.gcd a.natAbs b.natAbs : Nat) : Int) ∧ (0 : Int) < ((Nat.gcd a.natAbs b.natAbs : Nat) : Int) ∧ (a * b / ((Nat.gcd a.natAbs b.natAbs : Nat) : Int)).natAbs ≤ (a * b).natAbs := by
  have hg : 0 < Nat.gcd a.natAbs b.natAbs := Nat.gcd_pos_of_pos_right _ (by omega)
  have d1 : ((Nat.gcd a.natAbs b.natAbs : Nat) : Int) ∣ a := Int.ofNat_dvd_left.mpr (Nat.gcd_dvd_left _ _)
  have d2 : ((Nat.gcd a.natAbs b.natAbs : Nat) : Int) ∣ b := Int.ofNat_dvd_left.mpr (Nat.gcd_dvd_right _ _)
  generalize Nat.gcd a.natAbs b.natAbs = g at *
  have hgi : (0 : Int) < (g : Int) := by omega
  have e1 : a * b / (g : Int) = a * (b / (g : Int)) := Int.mul_ediv_assoc a d2
  have e2 : a * b / (g : Int) = (a / (g : Int)) * b := by
    rw [Int.mul_comm a b, Int.mul_ediv_assoc b d1, Int.mul_comm]
  refine ⟨?_, ⟨_, e1⟩, ⟨a / (g : Int), by rw [e2, Int.mul_comm]⟩, hgi, Int.natAbs_ediv_le_natAbs _ _⟩
  obtain ⟨c, ec⟩ := d2
  have hc : 0 < c := by
    rcases Int.lt_or_le 0 c with h | h
    · exact h
    · have := Int.mul_nonpos_of_nonneg_of_nonpos (Int.le_of_lt hgi) h
      omega
  rw [e1, ec, Int.mul_ediv_cancel_left _ (by omega)]
  exact Int.mul_pos ha hc
theorem ok_over_one_den {P : Program} {w : World} {K : PySem.W.Frag} {mg : Str → Option Value} {base : Heap} (Fn : FunAt K mg "over_one_den" s_over_one_den ["state"]) (T : Txt mg) : Def P w K mg base "over_one_den" 1 ["state"] (spP K R_over) := by
  refine fn_P Fn sc_over_one_den (fun ds Q ⟨m, e, _⟩ => by rw [e]; rfl) fun f cdv A outer s H E hr => ⟨_, (pss_cons (ps_asg pe_int (pg_name (i := 1) sc_over_one_den.nd rfl (Or.inr rfl)))
      (pss_cons (ps_for PassesOwn.never rfl (pi_tupK (K := K) rfl (pv 0)) (pg_tup (n := 2) rfl (pgs_cons (pg_name (i := 2) sc_over_one_den.nd rfl (Or.inl rfl)) (pgs_cons (pg_name (i := 3) sc_over_one_den.nd rfl (Or.inl rfl)) pgs_nil)))
      (pss_one (ps_asg (pe_op op_fdivW (pe_op op_mulW (pv 1) (pv 3)) (pe_callBfun cr_gcd (by rfl) T.gcd (pa_cons (pv 1) (pa_cons (pv 3) pa_nil)))) (pg_name (i := 1) sc_over_one_den.nd rfl (Or.inr rfl)))))
      (pss_one (ps_ret (pe_tup (pa_cons (pe_lc (own := [("num", 4), ("part", 3)]) (g := (gTup K 2 (gCons (gName 4) (gCons (gName 3) gNil)))) rfl sc_over_one_den.nd (pi_tupK (K := K) rfl (pv 0)) (blkOk_by (own := [("num", 4), ("part", 3)]) (N := ["state", "den", "_", "part", "num"]) (sc := defScope s_over_one_den) (by decide +kernel)) (fun _ _ _ _ _ => (pg_tup (n := 2) rfl (pgs_cons (pg_name (i := 4) sc_over_one_den.nd rfl (Or.inl rfl) (hf := Or.inr rfl)) (pgs_cons (pg_name (i := 3) sc_over_one_den.nd rfl (Or.inl rfl) (hf := Or.inr rfl)) pgs_nil)))) (fun _ _ _ _ _ => pts_nil) (fun _ _ _ _ _ => (pe_op op_mulW (pv 4) (pe_op op_fdivW (pv 1) (pv 3))))) (pa_cons (pv 1) pa_nil))))))), fun ds Q hR => ?_⟩
  obtain ⟨qs, rfl, hq, k⟩ := hR
  show SW _ _ _ [.d (stD qs), .no, .no, .no, .no] _ _
  walk_at "dn"
  walk_at "dl"
  walk_at "dl"
  walk_at "dl"
  refine sw_seq (sw_for (fun i Z O => ∃ L z2 z3, Z = [.d (stD qs), .d (.int L), z2, z3, .no] ∧ O = [] ∧ Dens (qs.take i) L ∧ L.natAbs < 2 ^ (1 + 5 * i)) qs.length (fun i d => (qs.map frD)[i]? = some d) ?_ ⟨1, _, _, rfl, rfl, ⟨by decide, by simp⟩, by decide⟩ ?_ ?_)
  · refine iw_tup ?_
    repeat' walk_at "dl"
    exact ⟨by simp, rfl⟩
  · rintro i d _ _ hi hd ⟨L, z2, z3, rfl, rfl, ⟨hL0, hLd⟩, hLs⟩
    have hn : qs[i]? = some qs[i] := List.getElem?_eq_getElem hi
    rw [List.getElem?_map, hn] at hd
    cases hd
    obtain ⟨b1, b2, b3⟩ := hq.2 _ (List.getElem_mem hi)
    have hi9 : i < 9 := by have := hq.1; omega
    obtain ⟨f1, f2, f3, f4, f5⟩ := lcm_facts hL0 b2
    refine gw_tup rfl (gws_name (gws_name (gws_nil ?_)))
    walk_at "dz"
    repeat' walk_at "dl"
    · exact mulZ hLs b3 (by omega) (by decide)
    · exact divS f4 (by
        have := Nat.gcd_le_left (qs[i]).2.natAbs (show 0 < L.natAbs by omega)
        have h2 : L.natAbs < 2 ^ 250 := sz_up hLs (by omega)
        omega)
    · refine ⟨_, _, _, rfl, by trivial, ⟨f1, fun q hq' => ?_⟩, ?_⟩
      · rw [List.take_succ, hn] at hq'
        rcases List.mem_append.mp hq' with h | h
        · exact Int.dvd_trans (hLd q h) f2
        · simp at h
          rw [h]
          exact f3
      · have := sz_mul hLs b3
        have e : 1 + 5 * (i + 1) = 1 + 5 * i + 5 := by omega
        rw [e]
        omega
  · rintro _ _ ⟨L, z2, z3, rfl, rfl, hD, hLs⟩
    rw [List.take_length] at hD
    have hL5 : L.natAbs < 2 ^ 50 := sz_up hLs (by have := hq.1; omega)
    repeat' walk_at "dl"
    refine we_of (wl_map (ow_tup (ows_cons (ow_name (by decide)) (ows_cons (ow_name (by decide)) ows_nil))) qs.length (fun i d => (qs.map frD)[i]? = some d) ((numsL qs L).map .int) ?_ (by have := hq.1; omega) (by simp [numsL]) ?_ ?_)
    · refine iw_tup ?_
      repeat' walk_at "dl"
      exact ⟨by simp, rfl⟩
    · intro i d z p acc hi hd hz
      have hn : qs[i]? = some qs[i] := List.getElem?_eq_getElem hi
      rw [List.getElem?_map, hn] at hd
      cases hd
      unfold numsL at hz
      rw [List.getElem?_map, List.getElem?_map, hn] at hz
      cases hz
      obtain ⟨b1, b2, b3⟩ := hq.2 _ (List.getElem_mem hi)
      refine gw_tup rfl (gws_name (gws_name (gws_nil ⟨rfl, ?_⟩)))
      show WE _ _ _ [.d (stD qs), .d (.int L), z2, .d (.int (qs[i]).2), .d (.int (qs[i]).1)] _ _
      repeat' walk_at "dl"
      · exact divS b2 (sz_up b3 (by decide))
      · exact mulZ b1 (ediv_sz hL5 b2) (by decide) (by decide)
      · rfl
    · repeat' walk_at "dl"
      exact k L hD hL5

theorem zip_at {ws : List Int} {qs : List (Int × Int)} {L : Int} {i : Nat} {w : Int} {q : Int × Int} (h1 : ws[i]? = some w) (h2 : qs[i]? = some q) : dotL (ws.take (i + 1)) (numsL (qs.take (i + 1)) L) = dotL (ws.take i) (numsL (qs.take i) L) + w * (q.1 * (L / q.2)) := by
  have e1 : ws.take (i + 1) = ws.take i ++ [w] := by rw [List.take_succ, h1]; rfl
  have e2 : qs.take (i + 1) = qs.take i ++ [q] := by rw [List.take_succ, h2]; rfl
  have l1 := (List.getElem?_eq_some_iff.mp h1).1
  have l2 := (List.getElem?_eq_some_iff.mp h2).1
  unfold dotL numsL
  rw [e1, e2, List.map_append, List.zipWith_append (by simp; omega), List.sum_append]
  simp
theorem val_step {ws : List Int} {qs : List (Int × Int)} {n d w : Int} {q : Int × Int} {i : Nat} (h : Val (ws.take i) (qs.take i) n d) (h1 : ws[i]? = some w) (h2 : qs[i]? = some q) (hq : 0 < q.2) :
    Val (ws.take (i + 1)) (qs.take (i + 1)) (lowN (n * q.2 + w * q.1 * d) (d * q.2)) (lowM (n * q.2 + w * q.1 * d) (d * q.2)) := by
  obtain ⟨hd, hv⟩ := h
  have hdq : 0 < d * q.2 := Int.mul_pos hd hq
  obtain ⟨r1, r2⟩ := low_rel (n := n * q.2 + w * q.1 * d) hdq
  generalize lowN (n * q.2 + w * q.1 * d) (d * q.2) = n' at *
  generalize lowM (n * q.2 + w * q.1 * d) (d * q.2) = d' at *
  refine ⟨r2, fun L ⟨hL0, hL⟩ => ?_⟩
  have e2 : qs.take (i + 1) = qs.take i ++ [q] := by rw [List.take_succ, h2]; rfl
  have hv' := hv L ⟨hL0, fun x hx => hL x (by rw [e2]; exact List.mem_append_left _ hx)⟩
  obtain ⟨c, hc⟩ := hL q (by rw [e2]; exact List.mem_append_right _ (List.mem_singleton.mpr rfl))
  rw [zip_at h1 h2]
  have hLq : L / q.2 = c := by rw [hc, Int.mul_ediv_cancel_left _ (by omega)]
  rw [hLq]
  generalize dotL (ws.take i) (numsL (qs.take i) L) = T at *
  refine Int.eq_of_mul_eq_mul_left (show d * q.2 ≠ 0 by omega) ?_
  have a1 : d * q.2 * (n' * L) = (n' * (d * q.2)) * L := by grind
  rw [a1, r1]
  have a2 : (n * q.2 + w * q.1 * d) * d' * L = d' * ((n * L) * q.2 + w * q.1 * d * L) := by grind
  rw [a2, hv']
  generalize q.2 = q2 at *
  generalize q.1 = q1 at *
  subst hc
  grind
/-- n / d, of a state -/
def R_val (ds : List PyData) (P : PyData → Prop) : Prop := ∃ (ws : List Int) (qs : List (Int × Int)), ds = [wsD ws, stD qs] ∧ Wts ws ∧ Sta qs ∧ ws.length = qs.length ∧ ∀ n d, n.natAbs < 2 ^ 108 → d.natAbs < 2 ^ 50 → Val ws qs n d → P (.tuple [.int n, .int d])
instance : MonoR R_val := ⟨fun _ _ _ h ⟨n, m, e, a, b, c, k⟩ => ⟨n, m, e, a, b, c, fun x y p q r => h _ (k x y p q r)⟩⟩
theorem low_sz {n d : Int} {a b : Nat} (hd : 0 < d) (h1 : n.natAbs < 2 ^ a) (h2 : d.natAbs < 2 ^ b) : (lowN n d).natAbs < 2 ^ a ∧ (lowM n d).natAbs < 2 ^ b := by
  obtain ⟨_, _, _, h4, h5⟩ := low_facts (n := n) hd
  omega
theorem ok__law_value {P : Program} {w : World} {K : PySem.W.Frag} {mg : Str → Option Value} {base : Heap} (Fn : FunAt K mg "_law_value" s__law_value ["_law_weights_here", "_law_state_here"]) (T : Txt mg) (d__law_sum : Def P w K mg base "_law_sum" 3 ["_law_one", "_law_other"] (spP K (R_two plusD))) : Def P w K mg base "_law_value" 4 ["_law_weights_here", "_law_state_here"] (spP K R_val) := by
  refine fn_P Fn sc__law_value (fun ds Q ⟨m, n, e, _⟩ => by rw [e]; rfl) fun f cdv A outer s H E hr => ⟨_, (pss_cons (ps_asg (pe_tup (pa_cons pe_int (pa_cons pe_int pa_nil))) (pg_name (i := 2) sc__law_value.nd rfl (Or.inl rfl)))
      (pss_cons (ps_for PassesOwn.never rfl (pi_zipK (K := K) rfl (by rfl) T.zip (pa_cons (pv 0) (pa_cons (pv 1) pa_nil))) (pg_tup (n := 2) rfl (pgs_cons (pg_name (i := 3) sc__law_value.nd rfl (Or.inl rfl)) (pgs_cons (pg_name (i := 4) sc__law_value.nd rfl (Or.inl rfl)) pgs_nil)))
      (pss_one (ps_asg (pe_def d__law_sum hr (by first | decide | omega) (by rfl) (pa_cons (pv 2) (pa_cons (pe_tup (pa_cons (pe_op op_mulW (pv 3) (pe_ix (ix_seqK (K := K) rfl) (pv 4) pe_int (fun _ _ => rfl))) (pa_cons (pe_ix (ix_seqK (K := K) rfl) (pv 4) pe_int (fun _ _ => rfl)) pa_nil))) pa_nil))) (pg_name (i := 2) sc__law_value.nd rfl (Or.inl rfl)))))
      (pss_one (ps_ret (pv 2))))), fun ds Q hR => ?_⟩
  obtain ⟨ws, qs, rfl, hw, hq, hl, k⟩ := hR
  show SW _ _ _ [.d (wsD ws), .d (stD qs), .no, .no, .no] _ _
  walk_at "dn"
  repeat' walk_at "dl"
  refine (sw_for (fun i Z O => ∃ n d z3 z4, Z = [.d (wsD ws), .d (stD qs), .d (.tuple [.int n, .int d]), z3, z4] ∧ O = [] ∧ n.natAbs < 2 ^ (50 + 6 * i) ∧ d.natAbs < 2 ^ (1 + 5 * i) ∧ Val (ws.take i) (qs.take i) n d) (min ws.length qs.length) (fun i d => ∃ x y, (ws.map PyData.int)[i]? = some x ∧ (qs.map frD)[i]? = some y ∧ d = .tuple [x, y]) ?_ ⟨0, 1, _, _, rfl, rfl, by decide, by decide, by decide, fun L _ => by simp [dotL]⟩ ?_ ?_)
  · refine iw_zip ?_
    repeat' walk_at "dl"
    exact ⟨_, _, _, _, rfl, rfl, rfl, by simp, rfl⟩
  · rintro i d _ _ hi ⟨x, y, hx, hy, rfl⟩ ⟨n, d, z3, z4, rfl, rfl, hn, hd, hv⟩
    have w1 : ws[i]? = some ws[i] := List.getElem?_eq_getElem (by omega)
    have n1 : qs[i]? = some qs[i] := List.getElem?_eq_getElem (by omega)
    rw [List.getElem?_map, w1] at hx
    rw [List.getElem?_map, n1] at hy
    cases hx
    cases hy
    have bw := hw.2 _ (List.getElem_mem (show i < ws.length by omega))
    obtain ⟨b1, b2, b3⟩ := hq.2 _ (List.getElem_mem (show i < qs.length by omega))
    have hi9 : i < 9 := by have := hq.1; omega
    have s1 := sz_mul bw b1
    refine gw_tup rfl (gws_name (gws_name (gws_nil ?_)))
    walk_at "dz"
    repeat' walk_at "dl"
    · exact mulZ bw b1 (by decide) (by decide)
    refine ⟨_, _, _, _, rfl, sz_up hn (by omega), sz_up hd (by omega), sz_up s1 (by decide), sz_up b3 (by decide), hv.1, b2, ?_⟩
    repeat' walk_at "dl"
    have t1 : (n * (qs[i]).2 + ws[i] * (qs[i]).1 * d).natAbs < 2 ^ (50 + 6 * (i + 1)) := by
      have u1 := sz_mul hn b3
      have u2 := sz_mul s1 hd
      have e1 : 50 + 6 * (i + 1) = 50 + 6 * i + 5 + 1 := by omega
      rw [e1]
      exact sz_add u1 (sz_up u2 (by omega))
    have t2 : (d * (qs[i]).2).natAbs < 2 ^ (1 + 5 * (i + 1)) := by
      have e1 : 1 + 5 * (i + 1) = 1 + 5 * i + 5 := by omega
      rw [e1]
      exact sz_mul hd b3
    obtain ⟨t3, t4⟩ := low_sz (Int.mul_pos hv.1 b2) t1 t2
    exact ⟨_, _, _, _, rfl, by trivial, t3, t4, val_step hv w1 n1 b2⟩
  · rintro _ _ ⟨n, d, z3, z4, rfl, rfl, hn, hd, hv⟩
    have hi9 := hq.1
    have em : min ws.length qs.length = ws.length := by omega
    rw [em, List.take_length, hl, List.take_length] at hv
    repeat' walk_at "dl"
    exact k n d (sz_up hn (by omega)) (sz_up hd (by omega)) hv
/-- one row, kept by a state of its count -/
def R_keeps (ds : List PyData) (P : PyData → Prop) : Prop := ∃ (ws : List Int) (b : Int) (qs : List (Int × Int)), ds = [.list [.tuple [wsD ws, .int b]], stD qs] ∧ Wts ws ∧ Sta qs ∧ ws.length = qs.length ∧ b.natAbs < 2 ^ 140 ∧ ∀ n d, Val ws qs n d → P (.bool (decide (n ≤ b * d)))
instance : MonoR R_keeps := ⟨fun _ _ _ h ⟨n, b, m, e, a, b', c, l, k⟩ => ⟨n, b, m, e, a, b', c, l, fun x y r => h _ (k x y r)⟩⟩
theorem ok__law_keeps {P : Program} {w : World} {K : PySem.W.Frag} {mg : Str → Option Value} {base : Heap} (Fn : FunAt K mg "_law_keeps" s__law_keeps ["_law_rows", "_law_state_here"]) (T : Txt mg) (d__law_value : Def P w K mg base "_law_value" 4 ["_law_weights_here", "_law_state_here"] (spP K R_val)) : Def P w K mg base "_law_keeps" 5 ["_law_rows", "_law_state_here"] (spP K R_keeps) := by
  refine fn_P Fn sc__law_keeps (fun ds Q ⟨m, n, _, e, _⟩ => by rw [e]; rfl) fun f cdv A outer s H E hr => ⟨_, (pss_cons (ps_for PassesOwn.never rfl (pi_listK (K := K) rfl (pv 0)) (pg_tup (n := 2) rfl (pgs_cons (pg_name (i := 2) sc__law_keeps.nd rfl (Or.inl rfl)) (pgs_cons (pg_name (i := 3) sc__law_keeps.nd rfl (Or.inl rfl)) pgs_nil)))
      (pss_cons (ps_asg (pe_def d__law_value hr (by first | decide | omega) (by rfl) (pa_cons (pv 2) (pa_cons (pv 1) pa_nil))) (pg_name (i := 4) sc__law_keeps.nd rfl (Or.inl rfl)))
      (pss_one (ps_if (pt_cmpR op_gt (pe_ix (ix_seqK (K := K) rfl) (pv 4) pe_int (fun _ _ => rfl)) (pe_op op_mulW (pv 3) (pe_ix (ix_seqK (K := K) rfl) (pv 4) pe_int (fun _ _ => rfl))) (nomark _)) (pss_one (ps_ret pe_bl)) pss_nil))))
      (pss_one (ps_ret pe_bl))), fun ds Q hR => ?_⟩
  obtain ⟨ws, b, qs, rfl, hw, hq, hl, hb, k⟩ := hR
  show SW _ _ _ [.d (.list [.tuple [wsD ws, .int b]]), .d (stD qs), .no, .no, .no] _ _
  walk_at "dn"
  refine sw_seq (sw_for (fun i Z O => ∃ z2 z3 z4, Z = [.d (.list [.tuple [wsD ws, .int b]]), .d (stD qs), z2, z3, z4] ∧ O = [] ∧ (i = 0 ∨ Q (.bool true))) 1 (fun i d => [PyData.tuple [wsD ws, .int b]][i]? = some d) ?_ ⟨_, _, _, rfl, rfl, .inl rfl⟩ ?_ ?_)
  · refine iw_list ?_
    repeat' walk_at "dl"
    exact ⟨by simp, rfl⟩
  · rintro i d _ _ hi hd ⟨z2, z3, z4, rfl, rfl, _⟩
    have e : i = 0 := by omega
    subst e
    cases hd
    refine gw_tup rfl (gws_name (gws_name (gws_nil ?_)))
    walk_at "dz"
    repeat' walk_at "dm"
    refine ⟨ws, qs, rfl, hw, hq, hl, fun n d hn hd hv => ?_⟩
    repeat' walk_at "dl"
    · exact mulZ hb hd (by decide) (by decide)
    have kk := k n d hv
    refine ite2 (fun hc => ?_) (fun hc => ?_)
    · have h1 := of_decide_eq_true hc
      rw [decide_eq_false (by omega)] at kk
      repeat' walk_at "dl"
      exact kk
    · have h1 : ¬ (b * d < n) := fun z => hc (decide_eq_true z)
      rw [decide_eq_true (by omega)] at kk
      repeat' walk_at "dl"
      exact ⟨_, _, _, rfl, by trivial, .inr kk⟩
  · rintro _ _ ⟨z2, z3, z4, rfl, rfl, h⟩
    rcases h with h | h
    · omega
    repeat' walk_at "dl"
    exact h

/-- drawn weights -/
def R_weights (ds : List PyData) (P : PyData → Prop) : Prop := ∃ c m : Int, ds = [.int c, .int m] ∧ 0 < c ∧ c ≤ 8 ∧ 0 ≤ m ∧ m < 100 ∧ ∀ ws, Wts ws → (ws.length : Int) = c → P (wsD ws)
instance : MonoR R_weights := ⟨fun _ _ _ h ⟨n, m, e, a, b, c, d, k⟩ => ⟨n, m, e, a, b, c, d, fun x p q => h _ (k x p q)⟩⟩
theorem wts_of {ds : List PyData} {n : Nat} (hl : ds.length = n) (hn : n ≤ 9) (h : ∀ d ∈ ds, ∃ n : Int, d = .int n ∧ n.natAbs < 2 ^ 8) : ∃ ws : List Int, ds = ws.map .int ∧ Wts ws ∧ ws.length = n := by
  have go : ∀ ds : List PyData, (∀ d ∈ ds, ∃ n : Int, d = .int n ∧ n.natAbs < 2 ^ 8) → ∃ ns : List Int, ds = ns.map .int ∧ (∀ n ∈ ns, n.natAbs < 2 ^ 8) ∧ ns.length = ds.length := by
    intro ds
    induction ds with
    | nil => intro _; exact ⟨[], rfl, fun n h => (by cases h), rfl⟩
    | cons d ds ih =>
      intro h
      obtain ⟨n, rfl, hn⟩ := h d (List.mem_cons_self ..)
      obtain ⟨ns, e, h2, h3⟩ := ih fun d hd => h d (List.mem_cons_of_mem _ hd)
      refine ⟨n :: ns, by rw [e]; rfl, fun m hm => ?_, by simp [h3]⟩
      rcases List.mem_cons.mp hm with e | hm
      · rw [e]; exact hn
      · exact h2 m hm
  obtain ⟨ns, e, h1, h2⟩ := go ds h
  exact ⟨ns, e, ⟨by omega, h1⟩, by omega⟩
theorem set_ok {acc : List PyData} {j : Nat} {n : Nat} {d : PyData} (h : acc.length = n ∧ ∀ x ∈ acc, ∃ n : Int, x = .int n ∧ n.natAbs < 2 ^ 8) (hd : ∃ n : Int, d = .int n ∧ n.natAbs < 2 ^ 8) : (acc.set j d).length = n ∧ ∀ x ∈ acc.set j d, ∃ n : Int, x = .int n ∧ n.natAbs < 2 ^ 8 := by
  refine ⟨by rw [List.length_set]; exact h.1, fun x hx => ?_⟩
  rcases List.mem_or_eq_of_mem_set hx with hx | hx
  · exact h.2 x hx
  · rw [hx]; exact hd
theorem snoc_ok {acc : List PyData} {n : Nat} {d : PyData} (h : acc.length = n ∧ ∀ x ∈ acc, ∃ n : Int, x = .int n ∧ n.natAbs < 2 ^ 8) (hd : ∃ n : Int, d = .int n ∧ n.natAbs < 2 ^ 8) : (acc ++ [d]).length = n + 1 ∧ ∀ x ∈ acc ++ [d], ∃ n : Int, x = .int n ∧ n.natAbs < 2 ^ 8 := by
  refine ⟨by simp [h.1], fun x hx => ?_⟩
  rcases List.mem_append.mp hx with hx | hx
  · exact h.2 x hx
  · simp only [List.mem_singleton] at hx
    rw [hx]; exact hd
theorem ok__law_weights {P : Program} {w : World} {K : PySem.W.Frag} {mg : Str → Option Value} {base : Heap} (Fn : FunAt K mg "_law_weights" s__law_weights ["_law_box_here", "_law_count", "_law_far"]) (T : Txt mg) (d__law_take : Def P w K mg base "_law_take" 1 ["_law_box_here", "_law_many"] (spB K R_take)) (d__law_near : Def P w K mg base "_law_near" 2 ["_law_box_here", "_law_far"] (spB K R_near)) :
    Def P w K mg base "_law_weights" 3 ["_law_box_here", "_law_count", "_law_far"] (spB K R_weights) := by
  refine fn_B Fn sc__law_weights (fun ds Q ⟨m, n, e, _⟩ => by rw [e]; rfl) fun f cdv A outer s H E hr => ⟨_, (pss_cons (ps_asg (pe_def d__law_take hr (by first | decide | omega) (by rfl) (pa_cons (pv 0) (pa_cons pe_int pa_nil))) (pg_name (i := 3) sc__law_weights.nd rfl (Or.inl rfl)))
      (pss_cons (ps_if (pt_cmpR (op_eqDK (K := K) rfl hr.units) (pv 3) pe_int (nomark _)) (pss_cons (ps_asg (pe_def d__law_take hr (by first | decide | omega) (by rfl) (pa_cons (pv 0) (pa_cons (pv 1) pa_nil))) (pg_name (i := 4) sc__law_weights.nd rfl (Or.inr rfl)))
      (pss_cons (ps_asg (pe_ix (ix_seqK (K := K) rfl) (pe_lst (pa_cons pe_int (pa_cons (pe_un un_neg pe_int) pa_nil))) (pe_def d__law_take hr (by first | decide | omega) (by rfl) (pa_cons (pv 0) (pa_cons pe_int pa_nil))) (fun _ _ => rfl)) (pg_name (i := 5) sc__law_weights.nd rfl (Or.inr rfl)))
      (pss_one (ps_ret (pe_callTy (call_tuple_ofK (K := K) rfl) (by rfl) T.tuple (by decide +kernel) (pa_cons (pe_lc (own := [("_law_k", 7)]) (g := (gName 7)) rfl sc__law_weights.nd (pi_range1 rfl T.range (pa_cons (pv 1) pa_nil)) (blkOk_by (own := [("_law_k", 7)]) (N := ["_law_box_here", "_law_count", "_law_far", "_law_way", "_law_at", "_law_sign", "_law_found", "_law_k"]) (sc := defScope s__law_weights) (by decide +kernel)) (fun _ _ _ _ _ => (pg_name (i := 7) sc__law_weights.nd rfl (Or.inl rfl) (hf := Or.inr rfl))) (fun _ _ _ _ _ => pts_nil) (fun _ _ _ _ _ => (pe_op op_mulW (pv 5) (pe_callTy call_int1 (by rfl) T.int (by decide +kernel) (pa_cons (pe_cmpR (op_eqDK (K := K) rfl hr.units) (pv 7) (pv 4) (nomark _)) pa_nil))))) pa_nil)))))) pss_nil)
      (pss_cons (ps_setLc (i := 6) (own := [("_law_k", 7)]) (g := (gName 7)) rfl sc__law_weights.nd rfl rfl (sw_true rfl rfl rfl (by decide +kernel)) (pi_range1 rfl T.range (pa_cons (pv 1) pa_nil)) (blkOk_by (own := [("_law_k", 7)]) (N := ["_law_box_here", "_law_count", "_law_far", "_law_way", "_law_at", "_law_sign", "_law_found", "_law_k"]) (sc := defScope s__law_weights) (by decide +kernel)) (fun _ _ _ _ _ => (pg_name (i := 7) sc__law_weights.nd rfl (Or.inl rfl) (hf := Or.inr rfl))) (fun _ _ _ _ _ => pts_nil) (fun _ _ _ _ _ => (pe_def d__law_near hr (by first | decide | omega) (by rfl) (pa_cons (pv 0) (pa_cons (pv 2) pa_nil)))))
      (pss_cons (ps_if (PW.pt (pw_and (pt_cmpR (op_eqDK (K := K) rfl hr.units) (pv 3) pe_int (nomark _)) (pw_and1 (pt_cmpR op_gt (pv 1) pe_int (nomark _))))) (pss_one (ps_asg pe_int (pg_sub (pv 6) (pe_def d__law_take hr (by first | decide | omega) (by rfl) (pa_cons (pv 0) (pa_cons (pv 1) pa_nil))) set_list))) pss_nil)
      (pss_one (ps_ret (pe_callTy (call_tuple_ofK (K := K) rfl) (by rfl) T.tuple (by decide +kernel) (pa_cons (pv 6) pa_nil)))))))), fun b ds Q hR => ?_⟩
  obtain ⟨c, m, rfl, hc0, hc8, hm0, hm1, k⟩ := hR
  show SW _ _ _ [.v (.ref b), .d (.int c), .d (.int m), .no, .no, .no, .no, .no] _ _
  walk_at "dn"
  repeat' walk_at "dl"
  refine ⟨_, rfl, by decide, by decide, fun way h1 h2 => ?_⟩
  repeat' walk_at "dl"
  refine ite2 (fun hw => ?_) (fun hw => ?_)
  · repeat' walk_at "dl"
    refine ⟨_, rfl, hc0, by omega, fun at' h3 h4 => ?_⟩
    repeat' walk_at "dl"
    refine we_pick (fun x => ∃ n : Int, x = .int n ∧ n.natAbs < 2) ?_ ?_
    · repeat' walk_at "dl"
      refine ⟨_, rfl, by decide, by decide, fun r4 h7 h8 => ?_⟩
      refine item_any h7 h8 fun x hx => ?_
      simp only [List.mem_cons, List.mem_nil_iff, or_false] at hx
      rcases hx with rfl | rfl
      · exact ⟨_, rfl, by decide⟩
      · exact ⟨_, rfl, by decide⟩
    rintro _ ⟨sg, rfl, hsg⟩
    repeat' walk_at "dl"
    refine we_of (wl_comp (ow_name (by decide)) (fun i acc => acc.length = i ∧ ∀ x ∈ acc, ∃ n : Int, x = .int n ∧ n.natAbs < 2 ^ 8) c.toNat (fun i d => d = .int (i : Nat)) ?_ ⟨rfl, fun x hx => by cases hx⟩ (by omega) (fun i acc h => Nat.le_of_eq h.1) ?_ ?_)
    · refine iw_rng1 ?_
      repeat' walk_at "dl"
      exact ⟨⟨by omega, by omega⟩, rfl, rfl⟩
    · rintro j _ acc p hj rfl hacc
      refine gw_name ⟨rfl, wt_yes (iteT ?_)⟩
      show WE _ _ _ [.v (.ref b), .d (.int c), .d (.int m), .d (.int way), .d (.int at'), .d (.int sg), .no, .d (.int (j : Nat))] _ _
      repeat' walk_at "dl"
      · exact mulS (by omega) (by split <;> decide)
      refine snoc_ok hacc ⟨_, rfl, ?_⟩
      split <;> simp <;> omega
    · intro acc hacc
      obtain ⟨ws, e, g1, g2⟩ := wts_of hacc.1 (by omega) hacc.2
      subst e
      repeat' walk_at "dl"
      exact k ws g1 (by omega)
  · walk_at "dl"
    refine sw_seq (sw_asgL (wl_comp (ow_name (by decide)) (fun i acc => acc.length = i ∧ ∀ x ∈ acc, ∃ n : Int, x = .int n ∧ n.natAbs < 2 ^ 8) c.toNat (fun i d => d = .int (i : Nat)) ?_ ⟨rfl, fun x hx => by cases hx⟩ (by omega) (fun i acc h => Nat.le_of_eq h.1) ?_ ?_))
    · refine iw_rng1 ?_
      repeat' walk_at "dl"
      exact ⟨⟨by omega, by omega⟩, rfl, rfl⟩
    · rintro j _ acc p hj rfl hacc
      refine gw_name ⟨rfl, wt_yes (iteT ?_)⟩
      show WE _ _ _ [.v (.ref b), .d (.int c), .d (.int m), .d (.int way), .no, .no, .no, .d (.int (j : Nat))] _ _
      repeat' walk_at "dl"
      refine ⟨m, rfl, hm0, by omega, fun n h3 h4 => ?_⟩
      exact snoc_ok hacc ⟨_, rfl, by omega⟩
    · intro acc hacc p
      walk_at "dz"
      refine sw_cut (fun Z O => ∃ acc, (acc.length = c.toNat ∧ ∀ x ∈ acc, ∃ n : Int, x = .int n ∧ n.natAbs < 2 ^ 8) ∧ Z = [.v (.ref b), .d (.int c), .d (.int m), .d (.int way), .no, .no, .v (.ref p), .no] ∧ O = [(p, acc)]) (sw_if ?_) ?_
      · have both : ∀ b' : Bool, if b' = true then SW K (some b) (tAsg (tC (.int 0)) (gSub (tVar 6) (tCall (spB K R_take) [] E0 (tCons (tVar 0) (tCons (tVar 1) tNil))) rSetL)) [.v (.ref b), .d (.int c), .d (.int m), .d (.int way), .no, .no, .v (.ref p), .no] [(p, acc)] { nx := fun Z O => ∃ acc, (acc.length = c.toNat ∧ ∀ x ∈ acc, ∃ n : Int, x = .int n ∧ n.natAbs < 2 ^ 8) ∧ Z = [.v (.ref b), .d (.int c), .d (.int m), .d (.int way), .no, .no, .v (.ref p), .no] ∧ O = [(p, acc)], rt := Q } else SW K (some b) tNext [.v (.ref b), .d (.int c), .d (.int m), .d (.int way), .no, .no, .v (.ref p), .no] [(p, acc)] { nx := fun Z O => ∃ acc, (acc.length = c.toNat ∧ ∀ x ∈ acc, ∃ n : Int, x = .int n ∧ n.natAbs < 2 ^ 8) ∧ Z = [.v (.ref b), .d (.int c), .d (.int m), .d (.int way), .no, .no, .v (.ref p), .no] ∧ O = [(p, acc)], rt := Q } := by
          intro b'
          refine ite2 (fun _ => ?_) (fun _ => ?_)
          · refine sw_setL rfl ?_
            repeat' walk_at "dl"
            refine ⟨_, rfl, hc0, by omega, fun r h3 h4 => ?_⟩
            refine ⟨r, r.toNat, rfl, ?_, _, set_ok hacc ⟨0, rfl, by decide⟩, rfl, rfl⟩
            unfold ixN
            rw [if_pos h3, if_pos (by rw [hacc.1]; omega)]
          · exact sw_next ⟨acc, hacc, rfl, rfl⟩
        repeat' walk_at "dl"
        refine ite2 (fun _ => ?_) (fun _ => ?_)
        · repeat' walk_at "dl"
          exact both _
        · exact both _
      · rintro _ _ ⟨acc, hacc, rfl, rfl⟩
        obtain ⟨ws, e, g1, g2⟩ := wts_of hacc.1 (by omega) hacc.2
        subst e
        refine sw_freeze (i := 6) rfl ?_
        walk_at "dz"
        repeat' walk_at "dl"
        exact k ws g1 (by omega)
/-- drawn states -/
def R_state (ds : List PyData) (P : PyData → Prop) : Prop := ∃ c m : Int, ds = [.int c, .int m] ∧ 0 < c ∧ c ≤ 8 ∧ 0 ≤ m ∧ m < 2 ^ 35 ∧ ∀ qs : List (Int × Int), (qs.length : Int) = c → (∀ q ∈ qs, q.1.natAbs < 2 ^ 35 ∧ 0 < q.2 ∧ q.2 < 8) → P (stD qs)
instance : MonoR R_state := ⟨fun _ _ _ h ⟨n, m, e, a, b, c, d, k⟩ => ⟨n, m, e, a, b, c, d, fun x p q => h _ (k x p q)⟩⟩
theorem ok__law_state {P : Program} {w : World} {K : PySem.W.Frag} {mg : Str → Option Value} {base : Heap} (Fn : FunAt K mg "_law_state" s__law_state ["_law_box_here", "_law_count", "_law_far"]) (T : Txt mg) (d__law_part : Def P w K mg base "_law_part" 3 ["_law_box_here", "_law_far"] (spB K R_part)) : Def P w K mg base "_law_state" 4 ["_law_box_here", "_law_count", "_law_far"] (spB K R_state) := by
  refine fn_B Fn sc__law_state (fun ds Q ⟨m, n, e, _⟩ => by rw [e]; rfl) fun f cdv A outer s H E hr => ⟨_, (pss_one (ps_ret (pe_callTy (call_tuple_ofK (K := K) rfl) (by rfl) T.tuple (by decide +kernel) (pa_cons (pe_lc (own := [("_law_k", 3)]) (g := (gName 3)) rfl sc__law_state.nd (pi_range1 rfl T.range (pa_cons (pv 1) pa_nil)) (blkOk_by (own := [("_law_k", 3)]) (N := ["_law_box_here", "_law_count", "_law_far", "_law_k"]) (sc := defScope s__law_state) (by decide +kernel)) (fun _ _ _ _ _ => (pg_name (i := 3) sc__law_state.nd rfl (Or.inl rfl) (hf := Or.inr rfl))) (fun _ _ _ _ _ => pts_nil) (fun _ _ _ _ _ => (pe_def d__law_part hr (by first | decide | omega) (by rfl) (pa_cons (pv 0) (pa_cons (pv 2) pa_nil))))) pa_nil)))), fun b ds Q hR => ?_⟩
  obtain ⟨c, m, rfl, hc0, hc8, hm0, hm1, k⟩ := hR
  show SW _ _ _ [.v (.ref b), .d (.int c), .d (.int m), .no] _ _
  walk_at "dn"
  repeat' walk_at "dl"
  refine we_of (wl_comp (ow_name (by decide)) (fun i acc => ∃ qs : List (Int × Int), acc = qs.map frD ∧ qs.length = i ∧ ∀ q ∈ qs, q.1.natAbs < 2 ^ 35 ∧ 0 < q.2 ∧ q.2 < 8) c.toNat (fun i d => d = .int (i : Nat)) ?_ ⟨[], rfl, rfl, fun x hx => by cases hx⟩ (by omega) (fun i acc ⟨qs, e, h, _⟩ => by rw [e, List.length_map]; omega) ?_ ?_)
  · refine iw_rng1 ?_
    repeat' walk_at "dl"
    exact ⟨⟨by omega, by omega⟩, rfl, rfl⟩
  · rintro j _ _ p hj rfl ⟨qs, rfl, hl, hq⟩
    refine gw_name ⟨rfl, wt_yes (iteT ?_)⟩
    show WE _ _ _ [.v (.ref b), .d (.int c), .d (.int m), .d (.int (j : Nat))] _ _
    repeat' walk_at "dl"
    refine ⟨m, rfl, hm0, by omega, fun n d h1 h2 h3 h4 h5 => ⟨qs ++ [(n, d)], by simp, by simp [hl], fun q hq' => ?_⟩⟩
    rcases List.mem_append.mp hq' with h | h
    · exact hq q h
    · simp at h
      subst h
      exact ⟨by show n.natAbs < 2 ^ 35; omega, h2, h3⟩
  · rintro _ ⟨qs, rfl, hl, hq⟩
    repeat' walk_at "dl"
    exact k qs (by omega) hq
/-- a drawn row, for a state -/
def R_row (ds : List PyData) (P : PyData → Prop) : Prop := ∃ (qs : List (Int × Int)) (m : Int), ds = [stD qs, .int m] ∧ Sta qs ∧ 0 < qs.length ∧ qs.length ≤ 8 ∧ 0 ≤ m ∧ m < 100 ∧ ∀ ws b, Wts ws → ws.length = qs.length → b.natAbs < 2 ^ 110 → P (.tuple [wsD ws, .int b])
instance : MonoR R_row := ⟨fun _ _ _ h ⟨n, m, e, a, b, b', c, d, k⟩ => ⟨n, m, e, a, b, b', c, d, fun x y p q r => h _ (k x y p q r)⟩⟩
theorem ok__law_row_at {P : Program} {w : World} {K : PySem.W.Frag} {mg : Str → Option Value} {base : Heap} (Fn : FunAt K mg "_law_row_at" s__law_row_at ["_law_box_here", "_law_state_here", "_law_far"]) (T : Txt mg) (d__law_take : Def P w K mg base "_law_take" 1 ["_law_box_here", "_law_many"] (spB K R_take)) (d__law_weights : Def P w K mg base "_law_weights" 3 ["_law_box_here", "_law_count", "_law_far"] (spB K R_weights)) (d__law_value : Def P w K mg base "_law_value" 4 ["_law_weights_here", "_law_state_here"] (spP K R_val)) :
    Def P w K mg base "_law_row_at" 5 ["_law_box_here", "_law_state_here", "_law_far"] (spB K R_row) := by
  refine fn_B Fn sc__law_row_at (fun ds Q ⟨m, n, e, _⟩ => by rw [e]; rfl) fun f cdv A outer s H E hr => ⟨_, (pss_cons (ps_asg (pe_def d__law_weights hr (by first | decide | omega) (by rfl) (pa_cons (pv 0) (pa_cons (pe_callB (call_lenK (K := K) rfl) (by rfl) T.len (by decide +kernel) (pa_cons (pv 1) pa_nil)) (pa_cons (pv 2) pa_nil)))) (pg_name (i := 3) sc__law_row_at.nd rfl (Or.inl rfl)))
      (pss_cons (ps_asg (pe_def d__law_value hr (by first | decide | omega) (by rfl) (pa_cons (pv 3) (pa_cons (pv 1) pa_nil))) (pg_tup (n := 2) rfl (pgs_cons (pg_name (i := 4) sc__law_row_at.nd rfl (Or.inl rfl)) (pgs_cons (pg_name (i := 5) sc__law_row_at.nd rfl (Or.inl rfl)) pgs_nil))))
      (pss_one (ps_ret (pe_tup (pa_cons (pv 3) (pa_cons (pe_op op_add (pe_op op_sub pe_int (pe_op op_fdivW (pe_op op_sub pe_int (pv 4)) (pv 5))) (pe_ix (ix_seqK (K := K) rfl) (pe_lst (pa_cons pe_int (pa_cons pe_int (pa_cons pe_int (pa_cons (pe_def d__law_take hr (by first | decide | omega) (by rfl) (pa_cons (pv 0) (pa_cons pe_int pa_nil))) pa_nil))))) (pe_def d__law_take hr (by first | decide | omega) (by rfl) (pa_cons (pv 0) (pa_cons pe_int pa_nil))) (fun _ _ => rfl))) pa_nil))))))), fun b ds Q hR => ?_⟩
  obtain ⟨qs, m, rfl, hq, hl0, hl8, hm0, hm1, k⟩ := hR
  show SW _ _ _ [.v (.ref b), .d (stD qs), .d (.int m), .no, .no, .no] _ _
  walk_at "dn"
  repeat' walk_at "dl"
  refine ⟨_, m, rfl, by simp; omega, by simp; omega, hm0, hm1, fun ws h1 h2 => ?_⟩
  have h3 : ws.length = qs.length := by simp at h2; omega
  walk_at "dz"
  walk_at "dl"
  refine sw_asgG ?_
  repeat' walk_at "dl"
  refine ⟨ws, qs, rfl, h1, hq, h3, fun n d hn hd hv => ?_⟩
  refine gw_tup rfl (gws_name (gws_name (gws_nil ?_)))
  walk_at "dz"
  repeat' walk_at "dl"
  · exact divS hv.1 (sz_up hd (by decide))
  refine we_pick (fun x => ∃ n : Int, x = .int n ∧ n.natAbs < 2 ^ 100) ?_ ?_
  · repeat' walk_at "dl"
    refine ⟨_, rfl, by decide, by decide, fun r2 h4 h5 => ?_⟩
    repeat' walk_at "dl"
    refine ⟨_, rfl, by decide, by decide, fun r4 h7 h8 => ?_⟩
    refine item_any h7 h8 fun x hx => ?_
    simp only [List.mem_cons, List.mem_nil_iff, or_false] at hx
    rcases hx with rfl | rfl | rfl | rfl
    · exact ⟨_, rfl, by decide⟩
    · exact ⟨_, rfl, by decide⟩
    · exact ⟨_, rfl, by decide⟩
    · exact ⟨_, rfl, by omega⟩
  rintro _ ⟨t, rfl, ht⟩
  repeat' walk_at "dl"
  refine k ws _ h1 h3 ?_
  have e1 : ((0 - n) / d).natAbs < 2 ^ 108 := ediv_sz (by omega) hv.1
  have e2 : (0 - (0 - n) / d).natAbs < 2 ^ 108 := by omega
  exact sz_up (sz_add e2 (sz_up ht (by decide))) (by decide)

end My
namespace My
open PySem PySem.Spec PyProof.Rows L2
open Evl (Ex)
/-- what the top has written of the classes -/
structure Xt (K : PySem.W.Frag) (mg : Str → Option Value) (C S : Addr) : Prop where
  g_BadState : mg "BadState" = some (.ref C)
  g_SlopeError : mg "SlopeError" = some (.ref S)
  x_BadState : PySem.W.excIn K C [.type "ValueError", .type "Exception", .type "BaseException", .type "object"] "ValueError.__new__" = true
  k_BadState : PySem.W.keepIn K (.ref C) = true
  b_BadState : PySem.W.subIn K (.ref C) (.type "BaseException") = some true
  t_BadState : PySem.W.typeIn K (.ref C) = some (.type "type")
  e_BadState : PySem.W.exmOne K (.ref C) (.ref C) = some true
  ec : ExcC K C
  k1 : PySem.W.kitOne K (.ref C) (.ref S) = some true
  k2 : PySem.W.kitOne K (.ref C) (.type "ValueError") = some true
open DL (op_neDK call_lenK)
def R_holds (C : Addr) (ds : List PyData) (P : PyData → Prop) (X : Value → Prop) : Prop := ∃ (ws : List Int) (b : Int) (qs : List (Int × Int)), ds = [.tuple [wsD ws, .int b], stD qs] ∧ Wts ws ∧ Sta qs ∧ b.natAbs < 2 ^ 140 ∧
  (ws.length ≠ qs.length → X (.ref C)) ∧ (ws.length = qs.length → ∀ L, Dens qs L → P (.bool (decide (dotL ws (numsL qs L) ≤ b * L))))
instance {C : Addr} : SL.MonoX (R_holds C) := ⟨fun _ _ _ _ _ h g ⟨ws, b, qs, e, a1, a2, a3, k1, k2⟩ => ⟨ws, b, qs, e, a1, a2, a3, fun z => g _ (k1 z), fun z L d => h _ (k2 z L d)⟩⟩
theorem nums_sz {qs : List (Int × Int)} {L : Int} (hq : Sta qs) (hL : L.natAbs < 2 ^ 50) : ∀ n ∈ numsL qs L, n.natAbs < 2 ^ 100 := fun n hn => by
  unfold numsL at hn
  obtain ⟨q, h1, h2⟩ := List.mem_map.mp hn
  subst h2
  obtain ⟨b1, b2, b3⟩ := hq.2 q h1
  exact sz_up (sz_mul b1 (ediv_sz hL b2)) (by decide)
theorem dot_sz : ∀ (ws ns : List Int), (∀ w ∈ ws, w.natAbs < 2 ^ 8) → (∀ n ∈ ns, n.natAbs < 2 ^ 100) → (dotL ws ns).natAbs ≤ ws.length * 2 ^ 108
  | [], _, _, _ => by simp [dotL]
  | _ :: _, [], _, _ => by simp [dotL]
  | w :: ws, n :: ns, h1, h2 => by
    have ih := dot_sz ws ns (fun w h => h1 w (List.mem_cons_of_mem _ h)) (fun n h => h2 n (List.mem_cons_of_mem _ h))
    have hm := sz_mul (h1 w (List.mem_cons_self ..)) (h2 n (List.mem_cons_self ..))
    have e : dotL (w :: ws) (n :: ns) = w * n + dotL ws ns := by simp [dotL]
    rw [e, List.length_cons]
    have h3 : (w * n + dotL ws ns).natAbs ≤ (w * n).natAbs + (dotL ws ns).natAbs := Int.natAbs_add_le _ _
    have e2 : (2 : Nat) ^ (8 + 100) = 2 ^ 108 := by decide
    omega
section
open SL
theorem ok_holds {P : Program} {w : World} {K : PySem.W.Frag} {mg : Str → Option Value} {base : Heap} {C_BadState C_SlopeError : Addr} (Fn : DL.FunAt K mg "holds" s_holds ["row", "state"]) (T : Txt mg) (XT : Xt K mg C_BadState C_SlopeError)
    (d_over_one_den : DL.Def P w K mg base "over_one_den" 1 ["state"] (DL.spP K R_over)) (d_dot : DL.Def P w K mg base "dot" 1 ["one", "other"] (DL.spP K R_dot)) :
    SL.Def P w K mg base "holds" 2 ["row", "state"] (SL.spC K (SL.ctX (R_holds C_BadState))) := by
  refine fn_X ⟨Fn.ex⟩ sc_holds (fun ds Q X ⟨m, n, _, e, _⟩ => by rw [e]; rfl) fun f cdv A outer s H E hr => ⟨_, (pss_cons (ps_asg (pv 0) (pg_tup (n := 2) rfl (pgs_cons (pg_name (i := 2) sc_holds.nd rfl (Or.inl rfl)) (pgs_cons (pg_name (i := 3) sc_holds.nd rfl (Or.inl rfl)) pgs_nil))))
      (pss_cons (ps_if (pt_cmpR (op_neDK (K := K) rfl hr.units) (pe_callB (call_lenK (K := K) rfl) (by rfl) T.len (by decide +kernel) (pa_cons (pv 2) pa_nil)) (pe_callB (call_lenK (K := K) rfl) (by rfl) T.len (by decide +kernel) (pa_cons (pv 1) pa_nil)) (nomark _)) (pss_one (ps_raise rfl (takes_of rfl rfl rfl rfl) (pmk_own PySem.F.excBase_ValueError XT.x_BadState XT.g_BadState XT.k_BadState (raises_own XT.b_BadState XT.t_BadState) rfl))) pss_nil)
      (pss_cons (ps_asg (SL.pe_def (SL.Def.up d_over_one_den) hr (by first | decide | omega) SL.pass0X (by rfl) (pa_cons (pv 1) pa_nil)) (pg_tup (n := 2) rfl (pgs_cons (pg_name (i := 4) sc_holds.nd rfl (Or.inl rfl)) (pgs_cons (pg_name (i := 5) sc_holds.nd rfl (Or.inl rfl)) pgs_nil))))
      (pss_one (ps_ret (pe_cmpR op_le (SL.pe_def (SL.Def.up d_dot) hr (by first | decide | omega) SL.pass0X (by rfl) (pa_cons (pv 2) (pa_cons (pv 4) pa_nil))) (pe_op op_mulW (pv 3) (pv 5)) (nomark _))))))), fun s' ds Q X hs hE hX hR => ?_⟩
  obtain ⟨ws, b, qs, rfl, hw, hq, hb, k1, k2⟩ := hR
  show SW _ _ _ [.d (.tuple [wsD ws, .int b]), .d (stD qs), .no, .no, .no, .no] _ _
  try dsimp only [cxOf]
  refine sw_seq (sw_asgG (we_varD rfl (gw_tup rfl (gws_name (gws_name (gws_nil ?_))))))
  try simp only [List.set_cons_succ, List.set_cons_zero]
  refine sw_seq (sw_if (wt_test (we_neD (we_ncall (wa_cons (we_varD rfl (wa_nil ⟨_, DL.nc_len (by with_unfolding_all rfl), we_ncall (wa_cons (we_varD rfl (wa_nil ⟨_, DL.nc_len (by with_unfolding_all rfl), ?_⟩)))⟩)))))))
  refine ⟨_, _, rfl, rfl, rfl, rfl, _, rfl, ?_⟩
  refine ite2 (fun hc => ?_) (fun hc => ?_)
  · refine sw_raise hE (hX _ _ _ (k1 fun z => ?_))
    simp [PyData.eqv, z] at hc
  have he : ws.length = qs.length := by
    simp [PyData.eqv] at hc
    omega
  refine sw_next ?_
  refine sw_seq (sw_asgG (we_callP (wd_cons (we_varD rfl ⟨_, rfl, wd_nil ⟨qs, rfl, hq, fun L hD hL => ?_⟩⟩))))
  refine gw_tup rfl (gws_name (gws_name (gws_nil ?_)))
  try simp only [List.set_cons_succ, List.set_cons_zero]
  have hns := nums_sz hq hL
  refine sw_ret (we_opB (we_callP (wd_cons (we_varD rfl ⟨_, rfl, wd_cons (we_varD rfl ⟨_, rfl, wd_nil ⟨ws, numsL qs L, rfl, hw, by simp [numsL]; exact hq.1, hns, we_opC (we_varD rfl (we_varD rfl ⟨_, _, rfl, rfl, mulZ hb hL (by decide) (by decide), ⟨_, _, rfl, rfl, _, rfl, k2 he L hD⟩⟩))⟩⟩)⟩))))
def R_held (ds : List PyData) (P : PyData → Prop) : Prop := ∃ (ws : List Int) (b : Int) (qs : List (Int × Int)), ds = [.tuple [wsD ws, .int b], stD qs] ∧ Wts ws ∧ Sta qs ∧ b.natAbs < 2 ^ 140 ∧
  (ws.length ≠ qs.length → P (.str "bad")) ∧ (ws.length = qs.length → ∀ L, Dens qs L → P (.bool (decide (dotL ws (numsL qs L) ≤ b * L))))
instance : DL.MonoR R_held := ⟨fun _ _ _ h ⟨ws, b, qs, e, a1, a2, a3, k1, k2⟩ => ⟨ws, b, qs, e, a1, a2, a3, fun z => h _ (k1 z), fun z L d => h _ (k2 z L d)⟩⟩
theorem ok__law_held {P : Program} {w : World} {K : PySem.W.Frag} {mg : Str → Option Value} {base : Heap} {C_BadState C_SlopeError : Addr} (Fn : DL.FunAt K mg "_law_held" s__law_held ["_law_row", "_law_state_here"]) (T : Txt mg) (XT : Xt K mg C_BadState C_SlopeError)
    (d_holds : SL.Def P w K mg base "holds" 2 ["row", "state"] (SL.spC K (SL.ctX (R_holds C_BadState)))) : DL.Def P w K mg base "_law_held" 3 ["_law_row", "_law_state_here"] (DL.spP K R_held) := by
  refine Def.down (fn_PE ⟨Fn.ex⟩ sc__law_held (fun ds Q ⟨m, n, _, e, _⟩ => by rw [e]; rfl) fun f cdv A outer s H E hr => ⟨_, (pss_one (ps_try_as (i := 2) rfl rfl sc__law_held.nd rfl rfl ⟨rfl, by decide, .inl XT.g_BadState⟩ (takes_of rfl rfl rfl rfl) (fun W pn xe tk _ => (pss_one (ps_ret (SL.pe_defS d_holds hr (by first | decide | omega) (fun σ => passAt tk σ) (by rfl) (pa_cons (pv 0) (pa_cons (pv 1) pa_nil)))))) (fun a oe cls d pn hz hf => SL.pss_if (c := cls = .ref C_BadState ∧ d = none) fun hc => (pss_one (ps_ret (pe_ifExp (PW.pt (pw_and (pt_val (pe_callB (call_isE XT.ec (SL.zc_of hc hz) hf) (by rfl) T.isinstance (by decide +kernel) (pa_cons (pv 2) (pa_cons (pe_glob (v := .ref C_SlopeError) (by rfl) XT.g_SlopeError rfl) pa_nil)))) (pw_and1 (pt_val (pe_callB (call_isE XT.ec (SL.zc_of hc hz) hf) (by rfl) T.isinstance (by decide +kernel) (pa_cons (pv 2) (pa_cons (pe_bltn (v := .ty "ValueError") (by rfl) T.ValueError (by decide +kernel) rfl) pa_nil))))))) pe_str pe_str)))))), fun s' ds Q hs hE hR => ?_⟩)
  obtain ⟨ws, b, qs, rfl, hw, hq, hb, k1, k2⟩ := hR
  show SW _ _ _ [.d (.tuple [wsD ws, .int b]), .d (stD qs), .no] _ _
  try dsimp only [cxOf]
  refine sw_try_as (tb := fun W => tRet (tCallS (SL.spC K (SL.ctX (R_holds C_BadState))) (L2.WE W) (tCons (tVar 0) (tCons (tVar 1) tNil)))) (fun cls d Z O => cls = .ref C_BadState ∧ d = none ∧ Z = [.d (.tuple [wsD ws, .int b]), .d (stD qs), .no] ∧ O = [] ∧ ws.length ≠ qs.length) hE (fun W' => ?_) ?_
  · exact sw_ret (we_callXS (fun _ _ _ _ h => h) (wd_cons (we_varD rfl ⟨_, rfl, wd_cons (we_varD rfl ⟨_, rfl, wd_nil ⟨ws, b, qs, rfl, hw, hq, hb, fun hne => ⟨rfl, rfl, rfl, rfl, hne⟩, fun he L hL => ⟨_, rfl, k2 he L hL⟩⟩⟩)⟩)))
  · rintro cls d Z' O' ⟨rfl, rfl, rfl, rfl, hne⟩
    refine ⟨true, XT.e_BadState, fun _ a => ?_, fun z => nomatch z⟩
    rw [if_pos ⟨rfl, rfl⟩]
    try simp only [List.set_cons_succ, List.set_cons_zero]
    refine sw_ret (we_if (wt_and (wt_B (we_isE (wa_cons (we_varV rfl (wa_cons (we_refc (wa_nil ⟨_, .ref C_SlopeError, true, rfl, fun u h => h, XT.k1, _, rfl, ?_⟩)))))))))
    rw [if_pos rfl]
    refine wt_B (we_isE (wa_cons (we_varV rfl (wa_cons (we_ty (wa_nil ⟨_, .type "ValueError", true, rfl, fun u h => h, XT.k2, _, rfl, ?_⟩))))))
    rw [if_pos rfl]
    exact we_str ⟨_, rfl, k1 hne⟩
end

end My
namespace My
open PySem PySem.Spec PyProof.Rows L2 DL
open Evl (Ex)
local macro_rules | `(tactic| walk_at "dn") => `(tactic| try dsimp only [cxOf, Cx.nox, Cx.wish])
local macro_rules | `(tactic| walk_at "dz") => `(tactic| try simp only [List.set_cons_succ, List.set_cons_zero])
local macro_rules | `(tactic| walk_at "dl") => `(tactic| first
  | with_reducible refine we_int ?_
  | with_reducible refine we_bl ?_
  | with_reducible refine we_non ?_
  | with_reducible refine we_str ?_
  | (with_reducible refine we_var (d := ?dd) ?hh ?_; (case hh => with_unfolding_all rfl))
  | with_reducible refine we_opI ?_
  | with_reducible refine we_opB ?_
  | with_reducible refine we_opC ?_
  | with_reducible refine we_ixV ?_
  | with_reducible refine we_ixI ?_
  | with_reducible refine we_ixC ?_
  | with_reducible refine we_eqD ?_
  | with_reducible refine we_neD ?_
  | with_reducible refine we_neg ?_
  | with_reducible refine we_tupD ?_
  | with_reducible refine we_lstD ?_
  | with_reducible refine wl_lstD ?_
  | with_reducible refine we_callP ?_
  | (with_reducible refine we_callX ?hh ?_; (case hh => with_unfolding_all rfl))
  | with_reducible refine wd_nil ?_
  | with_reducible refine wd_cons ?_
  | with_reducible refine ⟨(rfl : Nat.ble _ _ = true), ?_⟩
  | with_reducible refine we_if ?_
  | with_reducible refine we_andV ?_
  | with_reducible refine we_orV ?_
  | with_reducible refine we_notV ?_
  | with_reducible refine we_isN ?_
  | with_reducible refine we_notN ?_
  | with_reducible refine we_tuple ?_
  | with_reducible refine we_listB ?_
  | with_reducible refine we_ncall ?_
  | with_reducible refine wt_test ?_
  | with_reducible refine wt_B ?_
  | with_reducible refine wt_and ?_
  | with_reducible refine wt_or ?_
  | with_reducible refine wt_not ?_
  | with_reducible refine wa_nil ?_
  | with_reducible refine wa_ty ?_
  | (with_reducible refine wa_raw (w := ?ww) ?hh ?_; (case hh => with_unfolding_all rfl))
  | with_reducible refine wa_cons ?_
  | (with_reducible refine sw_seq ?_; (try dsimp only))
  | (with_reducible refine sw_ret ?_; (try dsimp only))
  | (with_reducible refine sw_retN ?_; (try dsimp only))
  | (with_reducible refine sw_next ?_; (try dsimp only))
  | with_reducible refine sw_if ?_
  | (with_reducible refine sw_asg ?_; (try dsimp only); (try simp only [List.set_cons_succ, List.set_cons_zero]))
  | (with_reducible refine sw_par3 ?_; (try dsimp only); (try simp only [List.set_cons_succ, List.set_cons_zero]))
  | (with_reducible refine sw_par ?_; (try dsimp only); (try simp only [List.set_cons_succ, List.set_cons_zero]))
  | with_reducible refine ⟨_, _, rfl, rfl, And.intro ?_ ?_⟩
  | with_reducible refine ⟨_, _, rfl, rfl, ?_⟩
  | with_reducible refine ⟨_, _, rfl, ItemAt.lst rfl, ?_⟩
  | with_reducible refine ⟨_, _, rfl, ItemAt.tup rfl, ?_⟩
  | with_reducible refine ⟨_, .inl rfl, ?_⟩
  | with_reducible refine ⟨_, .inr rfl, ?_⟩
  | with_reducible refine ⟨_, nc_gcd, ?_⟩
  | with_reducible refine ⟨_, nc_abs, ?_⟩
  | with_reducible refine ⟨_, nc_int, ?_⟩
  | with_reducible refine ⟨_, nc_intb, ?_⟩
  | with_reducible refine ⟨_, nc_isi (by simp), ?_⟩
  | (refine ⟨_, nc_len (by with_unfolding_all rfl), ?_⟩)
  | with_reducible refine ⟨_, rfl, ?_⟩
  | with_reducible refine ⟨rfl, rfl, ?_⟩
  | with_reducible refine iteT ?_
  | with_reducible refine iteF ?_)

local macro_rules | `(tactic| walk_at "dm") => `(tactic| ((fail_if_success (with_reducible refine sw_if ?_)); walk_at "dl"))

local macro_rules | `(tactic| walk_at "dl") => `(tactic| first
  | with_reducible refine wd_star ?_
  | with_reducible refine wl_slice ?_
  | with_reducible refine we_slTup ?_
  | with_reducible refine we_slStr ?_
  | with_reducible refine wo_no ?_
  | with_reducible refine wo_part ?_
  | with_reducible refine wl_cat ?_
  | with_reducible refine wl_rep ?_
  | with_reducible refine we_catT ?_
  | with_reducible refine we_chainI ?_
  | with_reducible refine we_of (te := tSl _ _ _ _) ?_
  | with_reducible refine we_of (te := tOp rCat _ _) ?_
  | with_reducible refine we_of (te := tOp rRep _ _) ?_)

theorem sta_of {qs : List (Int × Int)} (hl : qs.length ≤ 8) (h : ∀ q ∈ qs, q.1.natAbs < 2 ^ 35 ∧ 0 < q.2 ∧ q.2 < 8) : Sta qs :=
  ⟨by omega, fun q hq => by
    obtain ⟨h1, h2, h3⟩ := h q hq
    exact ⟨sz_up h1 (by decide), h2, by omega⟩⟩
theorem sta_by {qs : List (Int × Int)} {k : Int} (hl : qs.length ≤ 8) (h : ∀ q ∈ qs, q.1.natAbs < 2 ^ 35 ∧ 0 < q.2 ∧ q.2 < 8) (h0 : 0 < k) (h1 : k ≤ 3) : Sta (qs.map fun q => (k * q.1, k * q.2)) :=
  ⟨by simp; omega, fun q hq => by
    obtain ⟨p, hp, e⟩ := List.mem_map.mp hq
    subst e
    obtain ⟨g1, g2, g3⟩ := h p hp
    have e1 : (k * p.1).natAbs < 2 ^ (2 + 35) := sz_mul (by omega) g1
    have e2 : (k * p.2).natAbs < 2 ^ (2 + 3) := sz_mul (by omega) (by omega)
    exact ⟨sz_up e1 (by decide), Int.mul_pos h0 g2, sz_up e2 (by decide)⟩⟩
theorem slice_one (ds : List PyData) : sliceD ds (some 1) none = ds.drop 1 := by
  unfold sliceD
  have e1 : HT.sIx ds.length 0 (some 1) = min 1 ds.length := HT.sIx_nat _ _ 1
  have e2 : HT.sIx ds.length ds.length none = ds.length := rfl
  rw [e1, e2]
  cases ds with
  | nil => rfl
  | cons d ds =>
    have : min 1 (d :: ds).length = 1 := by simp
    rw [this]
    simp
theorem same_test {ws : List Int} {qs : List (Int × Int)} {n d b L : Int} (hv : Val ws qs n d) (hL : Dens qs L) : decide (dotL ws (numsL qs L) ≤ b * L) = decide (n ≤ b * d) := by
  obtain ⟨hd, h⟩ := hv
  have e := h L hL
  have hL0 := hL.1
  generalize dotL ws (numsL qs L) = T at *
  refine decide_eq_decide.mpr ⟨fun g => ?_, fun g => ?_⟩
  · have h1 : d * T ≤ d * (b * L) := Int.mul_le_mul_of_nonneg_left g (Int.le_of_lt hd)
    rw [← e] at h1
    have h2 : n * L ≤ (b * d) * L := by
      have e3 : d * (b * L) = (b * d) * L := by grind
      omega
    exact Int.le_of_mul_le_mul_right h2 hL0
  · have h1 : n * L ≤ (b * d) * L := Int.mul_le_mul_of_nonneg_right g (Int.le_of_lt hL0)
    rw [e] at h1
    have h2 : d * T ≤ d * (b * L) := by
      have e3 : d * (b * L) = (b * d) * L := by grind
      omega
    exact Int.le_of_mul_le_mul_left h2 hd
theorem sw_mid {K : PySem.W.Frag} {s : Option Addr} {Z : List Sk} {O : Own} {D : DE} {t : TS} (M : List Sk → Own → Prop) (h : SW K s t Z O { D with nx := M }) (k : ∀ Z' O', M Z' O' → D.nx Z' O') : SW K s t Z O D :=
  sw_imp h k (fun _ h => h) (fun _ _ h => h) (fun _ _ h => h)
theorem ok_law {P : Program} {w : World} {K : PySem.W.Frag} {mg : Str → Option Value} {base : Heap} {f : Addr} {fd : FuncData} (F : Fun K "law" "law" s_law f fd) (T : Txt mg)
    (d__law_box : Def P w K mg base "_law_box" 1 ["_law_script"] (spBox K)) (d__law_take : Def P w K mg base "_law_take" 1 ["_law_box_here", "_law_many"] (spB K R_take)) (d__law_near : Def P w K mg base "_law_near" 2 ["_law_box_here", "_law_far"] (spB K R_near)) (d__law_state : Def P w K mg base "_law_state" 4 ["_law_box_here", "_law_count", "_law_far"] (spB K R_state))
    (d__law_row_at : Def P w K mg base "_law_row_at" 5 ["_law_box_here", "_law_state_here", "_law_far"] (spB K R_row)) (d__law_keeps : Def P w K mg base "_law_keeps" 5 ["_law_rows", "_law_state_here"] (spP K R_keeps)) (d__law_held : Def P w K mg base "_law_held" 3 ["_law_row", "_law_state_here"] (spP K R_held)) (d__law_same : Def P w K mg base "_law_same" 1 ["_law_found", "_law_due"] (spP K (R_same 0))) :
    FnOk P w K mg base CX0 6 f fd ["_law_script"] (spLaw K) := by
  refine fn_L F sc_law fun f cdv A outer s H E hr => ⟨_, (pss_cons (ps_asg (pe_def d__law_box hr (by first | decide | omega) (by rfl) (pa_cons (pv 0) pa_nil)) (pg_name (i := 1) sc_law.nd rfl (Or.inl rfl)))
      (pss_cons (ps_for PassesOwn.never rfl (pi_range1 rfl T.range (pa_cons pe_int pa_nil)) (pg_name (i := 2) sc_law.nd rfl (Or.inl rfl))
      (pss_cons (ps_asg (pe_op op_add pe_int (pe_def d__law_take hr (by first | decide | omega) (by rfl) (pa_cons (pv 1) (pa_cons pe_int pa_nil)))) (pg_name (i := 3) sc_law.nd rfl (Or.inl rfl)))
      (pss_cons (ps_asg (pe_def d__law_state hr (by first | decide | omega) (by rfl) (pa_cons (pv 1) (pa_cons (pv 3) (pa_cons (pe_ix (ix_seqK (K := K) rfl) (pe_lst (pa_cons pe_int (pa_cons (pe_op op_pow pe_int pe_int) pa_nil))) (pe_def d__law_take hr (by first | decide | omega) (by rfl) (pa_cons (pv 1) (pa_cons pe_int pa_nil))) (fun _ _ => rfl)) pa_nil)))) (pg_name (i := 4) sc_law.nd rfl (Or.inl rfl)))
      (pss_cons (ps_asg (pe_def d__law_row_at hr (by first | decide | omega) (by rfl) (pa_cons (pv 1) (pa_cons (pv 4) (pa_cons (pe_ix (ix_seqK (K := K) rfl) (pe_lst (pa_cons pe_int (pa_cons pe_int pa_nil))) (pe_def d__law_take hr (by first | decide | omega) (by rfl) (pa_cons (pv 1) (pa_cons pe_int pa_nil))) (fun _ _ => rfl)) pa_nil)))) (pg_name (i := 5) sc_law.nd rfl (Or.inl rfl)))
      (pss_cons (ps_asg (pe_tup (pa_cons (pe_ix (ix_seqK (K := K) rfl) (pv 5) pe_int (fun _ _ => rfl)) (pa_cons (pe_op op_add (pe_ix (ix_seqK (K := K) rfl) (pv 5) pe_int (fun _ _ => rfl)) (pe_ix (ix_seqK (K := K) rfl) (pe_lst (pa_cons pe_int (pa_cons (pe_un un_neg pe_int) (pa_cons pe_int (pa_cons (pe_def d__law_near hr (by first | decide | omega) (by rfl) (pa_cons (pv 1) (pa_cons pe_int pa_nil))) pa_nil))))) (pe_def d__law_take hr (by first | decide | omega) (by rfl) (pa_cons (pv 1) (pa_cons pe_int pa_nil))) (fun _ _ => rfl))) pa_nil))) (pg_name (i := 5) sc_law.nd rfl (Or.inl rfl)))
      (pss_cons (ps_asg (pe_op op_add pe_int (pe_def d__law_take hr (by first | decide | omega) (by rfl) (pa_cons (pv 1) (pa_cons pe_int pa_nil)))) (pg_name (i := 6) sc_law.nd rfl (Or.inr rfl)))
      (pss_cons (ps_asg (pe_callTy (call_tuple_ofK (K := K) rfl) (by rfl) T.tuple (by decide +kernel) (pa_cons (pe_lc (own := [("_law_num", 9), ("_law_den", 10)]) (g := (gTup K 2 (gCons (gName 9) (gCons (gName 10) gNil)))) rfl sc_law.nd (pi_tupK (K := K) rfl (pv 4)) (blkOk_by (own := [("_law_num", 9), ("_law_den", 10)]) (N := ["_law_script", "_law_box_here", "_law_k", "_law_count", "_law_state_here", "_law_row", "_law_by", "_law_handed", "_law_due", "_law_num", "_law_den"]) (sc := defScope s_law) (by decide +kernel)) (fun _ _ _ _ _ => (pg_tup (n := 2) rfl (pgs_cons (pg_name (i := 9) sc_law.nd rfl (Or.inl rfl) (hf := Or.inr rfl)) (pgs_cons (pg_name (i := 10) sc_law.nd rfl (Or.inl rfl) (hf := Or.inr rfl)) pgs_nil)))) (fun _ _ _ _ _ => pts_nil) (fun _ _ _ _ _ => (pe_tup (pa_cons (pe_op op_mulW (pv 6) (pv 9)) (pa_cons (pe_op op_mulW (pv 6) (pv 10)) pa_nil))))) pa_nil)) (pg_name (i := 7) sc_law.nd rfl (Or.inl rfl)))
      (pss_cons (ps_if (pt_cmpR (op_eqDK (K := K) rfl hr.units) (pe_def d__law_take hr (by first | decide | omega) (by rfl) (pa_cons (pv 1) (pa_cons pe_int pa_nil))) pe_int (nomark _)) (pss_one (ps_asg (pe_ix (ix_seqK (K := K) rfl) (pe_lst (pa_cons (pe_slice (sl_tupK (K := K) rfl) (pv 7) (po_some pe_int) po_none) (pa_cons (pe_op (op_catAK (K := K) rfl) (pv 7) (pe_tup (pa_cons (pe_tup (pa_cons pe_int (pa_cons pe_int pa_nil))) pa_nil))) pa_nil))) (pe_def d__law_take hr (by first | decide | omega) (by rfl) (pa_cons (pv 1) (pa_cons pe_int pa_nil))) (fun _ _ => rfl)) (pg_name (i := 7) sc_law.nd rfl (Or.inl rfl)))) pss_nil)
      (pss_cons (ps_asg (pe_ifExp (pt_cmpR (op_neDK (K := K) rfl hr.units) (pe_callB (call_lenK (K := K) rfl) (by rfl) T.len (by decide +kernel) (pa_cons (pv 7) pa_nil)) (pv 3) (nomark _)) pe_str (pe_def d__law_keeps hr (by first | decide | omega) (by rfl) (pa_cons (pe_lst (pa_cons (pv 5) pa_nil)) (pa_cons (pv 7) pa_nil)))) (pg_name (i := 8) sc_law.nd rfl (Or.inl rfl)))
      (pss_one (ps_if (pt_not (pt_val (pe_def d__law_same hr (by first | decide | omega) (by rfl) (pa_cons (pe_def d__law_held hr (by first | decide | omega) (by rfl) (pa_cons (pv 5) (pa_cons (pv 7) pa_nil))) (pa_cons (pv 8) pa_nil))))) (pss_one (ps_ret pe_bl)) pss_nil)))))))))))
      (pss_one (ps_ret pe_bl)))), fun ns => ?_⟩
  show SW _ _ _ (.d (.list (ns.map .int)) :: List.replicate 10 .no) _ _
  walk_at "dn"
  refine sw_box rfl fun b => ?_
  refine sw_seq (sw_for (fun i Z O => ∃ z2 z3 z4 z5 z6 z7 z8, Z = [.d (.list (ns.map .int)), .v (.ref b), z2, z3, z4, z5, z6, z7, z8, .no, .no] ∧ O = []) 6 (fun i d => d = .int (i : Nat)) ?_ ⟨_, _, _, _, _, _, _, rfl, rfl⟩ ?_ ?_)
  · refine iw_rng1 ?_
    repeat' walk_at "dl"
    exact ⟨⟨by decide, by decide⟩, rfl, rfl⟩
  · rintro i _ _ _ hi rfl ⟨z2, z3, z4, z5, z6, z7, z8, rfl, rfl⟩
    refine gw_name ?_
    walk_at "dz"
    repeat' walk_at "dl"
    refine ⟨_, rfl, by decide, by decide, fun r hr0 hr1 => ?_⟩
    refine ⟨_, _, rfl, rfl, ?_⟩
    try dsimp only
    walk_at "dz"
    obtain ⟨c, hc, hc0, hc1⟩ : ∃ c : Int, 1 + r = c ∧ 0 < c ∧ c ≤ 8 := ⟨_, rfl, by omega, by omega⟩
    rw [hc]
    repeat' walk_at "dl"
    refine we_pick (fun x => ∃ n : Int, x = .int n ∧ 0 ≤ n ∧ n < 2 ^ 35) ?_ ?_
    · repeat' walk_at "dl"
      · exact ⟨by decide, by decide, by decide⟩
      refine ⟨_, rfl, by decide, by decide, fun r4 h7 h8 => ?_⟩
      refine item_any h7 h8 fun x hx => ?_
      simp only [List.mem_cons, List.mem_nil_iff, or_false] at hx
      rcases hx with rfl | rfl
      · exact ⟨_, rfl, by decide, by decide⟩
      · exact ⟨_, rfl, by decide, by decide⟩
    rintro _ ⟨far, rfl, hf0, hf1⟩
    repeat' walk_at "dl"
    refine ⟨c, far, rfl, hc0, hc1, hf0, hf1, fun qs hql hq => ?_⟩
    walk_at "dz"
    have hq8 : qs.length ≤ 8 := by omega
    repeat' walk_at "dl"
    refine we_pick (fun x => ∃ n : Int, x = .int n ∧ 0 ≤ n ∧ n < 100) ?_ ?_
    · repeat' walk_at "dl"
      refine ⟨_, rfl, by decide, by decide, fun r4 h7 h8 => ?_⟩
      refine item_any h7 h8 fun x hx => ?_
      simp only [List.mem_cons, List.mem_nil_iff, or_false] at hx
      rcases hx with rfl | rfl
      · exact ⟨_, rfl, by decide, by decide⟩
      · exact ⟨_, rfl, by decide, by decide⟩
    rintro _ ⟨far2, rfl, hg0, hg1⟩
    repeat' walk_at "dl"
    refine ⟨qs, far2, rfl, sta_of hq8 hq, by omega, hq8, hg0, hg1, fun ws b0 hw hwl hb0 => ?_⟩
    walk_at "dz"
    repeat' walk_at "dl"
    refine we_pick (fun x => ∃ n : Int, x = .int n ∧ n.natAbs < 2 ^ 100) ?_ ?_
    · repeat' walk_at "dl"
      refine ⟨5, rfl, by decide, by decide, fun r2 h4 h5 => ?_⟩
      repeat' walk_at "dl"
      refine ⟨_, rfl, by decide, by decide, fun r4 h7 h8 => ?_⟩
      refine item_any h7 h8 fun x hx => ?_
      simp only [List.mem_cons, List.mem_nil_iff, or_false] at hx
      rcases hx with rfl | rfl | rfl | rfl
      · exact ⟨_, rfl, by decide⟩
      · exact ⟨_, rfl, by decide⟩
      · exact ⟨_, rfl, by decide⟩
      · exact ⟨_, rfl, by omega⟩
    rintro _ ⟨t, rfl, ht⟩
    have hbt : (b0 + t).natAbs < 2 ^ 140 := sz_up (sz_add hb0 (sz_up ht (by decide))) (by decide)
    repeat' walk_at "dl"
    generalize b0 + t = bt at *
    refine ⟨_, rfl, by decide, by decide, fun r5 h9 h10 => ?_⟩
    refine ⟨_, _, rfl, rfl, ?_⟩
    try dsimp only
    walk_at "dz"
    obtain ⟨k, hk, hk0, hk1⟩ : ∃ k : Int, 1 + r5 = k ∧ 0 < k ∧ k ≤ 3 := ⟨_, rfl, by omega, by omega⟩
    rw [hk]
    have hhs := sta_by hq8 hq hk0 hk1
    have hhl : (qs.map fun q => (k * q.1, k * q.2)).length ≤ 8 := by simpa using hq8
    repeat' walk_at "dl"
    refine we_of (wl_map (ow_tup (ows_cons (ow_name (by decide)) (ows_cons (ow_name (by decide)) ows_nil))) qs.length (fun i d => (qs.map frD)[i]? = some d) ((qs.map fun q => (k * q.1, k * q.2)).map frD) ?_ (by omega) (by simp) ?_ ?_)
    · refine iw_tup ?_
      repeat' walk_at "dl"
      exact ⟨by simp, rfl⟩
    · intro j d z p acc hj hd hz
      have hn : qs[j]? = some qs[j] := List.getElem?_eq_getElem hj
      rw [List.getElem?_map, hn] at hd
      cases hd
      rw [List.getElem?_map, List.getElem?_map, hn] at hz
      cases hz
      obtain ⟨g1, g2, g3⟩ := hq _ (List.getElem_mem hj)
      refine gw_tup rfl (gws_name (gws_name (gws_nil ⟨rfl, ?_⟩)))
      show WE _ _ _ [.d (.list (ns.map .int)), .v (.ref b), .d (.int (i : Nat)), .d (.int c), .d (stD qs), .d (.tuple [wsD ws, .int bt]), .d (.int k), z7, z8, .d (.int (qs[j]).1), .d (.int (qs[j]).2)] _ _
      repeat' walk_at "dl"
      · exact mulS (by omega) (sz_up g1 (by decide))
      · exact mulS (by omega) (by omega)
      · rfl
    generalize (qs.map fun q => (k * q.1, k * q.2)) = hs at *
    repeat' walk_at "dm"
    refine sw_mid (fun Z O => ∃ hs, Sta hs ∧ Z = [.d (.list (ns.map .int)), .v (.ref b), .d (.int (i : Nat)), .d (.int c), .d (stD qs), .d (.tuple [wsD ws, .int bt]), .d (.int k), .d (.tuple (hs.map frD)), z8, .no, .no] ∧ O = []) (sw_if ?_) ?_
    · repeat' walk_at "dl"
      refine ⟨_, rfl, by decide, by decide, fun r6 h11 h12 => ?_⟩
      repeat' walk_at "dl"
      refine ite2 (fun _ => ?_) (fun _ => ?_)
      · repeat' walk_at "dl"
        refine we_pick (fun x => ∃ hs, x = .tuple (hs.map frD) ∧ Sta hs) ?_ ?_
        · repeat' walk_at "dl"
          · simp
            omega
          refine ⟨_, rfl, by decide, by decide, fun r7 h13 h14 => ?_⟩
          refine item_any h13 h14 fun x hx => ?_
          simp only [List.mem_cons, List.mem_nil_iff, or_false] at hx
          rcases hx with rfl | rfl
          · refine ⟨hs.drop 1, by rw [slice_one, List.map_drop], by simp; omega, fun q hq' => hhs.2 q (List.mem_of_mem_drop hq')⟩
          · refine ⟨hs ++ [(0, 1)], by simp, by simp; omega, fun q hq' => ?_⟩
            rcases List.mem_append.mp hq' with h | h
            · exact hhs.2 q h
            · simp at h
              subst h
              exact ⟨by decide, by decide, by decide⟩
        · rintro _ ⟨hs2, rfl, h13⟩
          repeat' walk_at "dl"
          exact ⟨hs2, h13, rfl, by trivial⟩
      · repeat' walk_at "dl"
        exact ⟨hs, hhs, rfl, by trivial⟩
    rintro _ _ ⟨hs2, hst, rfl, rfl⟩
    try dsimp only
    repeat' walk_at "dl"
    refine ite2 (fun hc2 => ?_) (fun hc2 => ?_)
    · have hne : ws.length ≠ hs2.length := fun z => by
        simp [PyData.eqv] at hc2
        omega
      repeat' walk_at "dl"
      refine ⟨ws, bt, hs2, rfl, hw, hst, hbt, fun _ => ?_, fun z => absurd z hne⟩
      repeat' walk_at "dl"
      refine ⟨_, rfl, by decide +kernel, _, rfl, ite_false_of rfl ?_⟩
      repeat' walk_at "dl"
      exact ⟨_, _, _, _, _, _, _, rfl, by trivial⟩
    · have he : ws.length = hs2.length := by
        simp [PyData.eqv] at hc2
        omega
      repeat' walk_at "dl"
      refine ⟨ws, bt, hs2, rfl, hw, hst, he, hbt, fun n d hv => ?_⟩
      repeat' walk_at "dl"
      refine ⟨ws, bt, hs2, rfl, hw, hst, hbt, fun z => absurd he z, fun _ L hL => ?_⟩
      rw [same_test hv hL]
      repeat' walk_at "dl"
      refine ⟨_, rfl, rfl, _, rfl, ite_false_of rfl ?_⟩
      repeat' walk_at "dl"
      exact ⟨_, _, _, _, _, _, _, rfl, by trivial⟩
  · rintro _ _ ⟨z2, z3, z4, z5, z6, z7, z8, rfl, rfl⟩
    repeat' walk_at "dl"
    rfl

theorem all_mk {l : PySem.W.OpenLaw} {w : World} {K : PySem.W.Frag} {h : Heap} {mg : Str → Option Value} {fa : Addr} (X : K.In h) (G : h.Ns mainGlobals mg) (hfa : mg "law" = some (.ref fa))
    {f__law_box f__law_take f__law_near f__law_common f__law_low f__law_sum f__law_part f__law_value f__law_keeps f__law_weights f__law_state f__law_row_at f_over_one_den f_dot f_holds f__law_held f__law_same f_law : Addr}
    {oc__law_box kV__law_box dc__law_box pm__law_box cd__law_box ct__law_box : Value} {od__law_box an__law_box : Option Addr} {sl__law_box : Array (Option Value)}
    (a__law_box : PySem.W.nsIn K mainGlobals "_law_box" = some (some (.ref f__law_box))) (l__law_box : K.lookup f__law_box = some ⟨oc__law_box, od__law_box, .func (PySem.W.fnOf "_law_box" "_law_box" (defArgs s__law_box) (defBody s__law_box) (defScope s__law_box) .none kV__law_box dc__law_box pm__law_box an__law_box cd__law_box ct__law_box), sl__law_box⟩) (c__law_box : PySem.W.codeIn K cd__law_box "_law_box" = true) (k__law_box : PySem.W.keepIn K (.ref f__law_box) = true)
    {oc__law_take kV__law_take dc__law_take pm__law_take cd__law_take ct__law_take : Value} {od__law_take an__law_take : Option Addr} {sl__law_take : Array (Option Value)}
    (a__law_take : PySem.W.nsIn K mainGlobals "_law_take" = some (some (.ref f__law_take))) (l__law_take : K.lookup f__law_take = some ⟨oc__law_take, od__law_take, .func (PySem.W.fnOf "_law_take" "_law_take" (defArgs s__law_take) (defBody s__law_take) (defScope s__law_take) .none kV__law_take dc__law_take pm__law_take an__law_take cd__law_take ct__law_take), sl__law_take⟩) (c__law_take : PySem.W.codeIn K cd__law_take "_law_take" = true) (k__law_take : PySem.W.keepIn K (.ref f__law_take) = true)
    {oc__law_near kV__law_near dc__law_near pm__law_near cd__law_near ct__law_near : Value} {od__law_near an__law_near : Option Addr} {sl__law_near : Array (Option Value)}
    (a__law_near : PySem.W.nsIn K mainGlobals "_law_near" = some (some (.ref f__law_near))) (l__law_near : K.lookup f__law_near = some ⟨oc__law_near, od__law_near, .func (PySem.W.fnOf "_law_near" "_law_near" (defArgs s__law_near) (defBody s__law_near) (defScope s__law_near) .none kV__law_near dc__law_near pm__law_near an__law_near cd__law_near ct__law_near), sl__law_near⟩) (c__law_near : PySem.W.codeIn K cd__law_near "_law_near" = true) (k__law_near : PySem.W.keepIn K (.ref f__law_near) = true)
    {oc__law_common kV__law_common dc__law_common pm__law_common cd__law_common ct__law_common : Value} {od__law_common an__law_common : Option Addr} {sl__law_common : Array (Option Value)}
    (a__law_common : PySem.W.nsIn K mainGlobals "_law_common" = some (some (.ref f__law_common))) (l__law_common : K.lookup f__law_common = some ⟨oc__law_common, od__law_common, .func (PySem.W.fnOf "_law_common" "_law_common" (defArgs s__law_common) (defBody s__law_common) (defScope s__law_common) .none kV__law_common dc__law_common pm__law_common an__law_common cd__law_common ct__law_common), sl__law_common⟩) (c__law_common : PySem.W.codeIn K cd__law_common "_law_common" = true) (k__law_common : PySem.W.keepIn K (.ref f__law_common) = true)
    {oc__law_low kV__law_low dc__law_low pm__law_low cd__law_low ct__law_low : Value} {od__law_low an__law_low : Option Addr} {sl__law_low : Array (Option Value)}
    (a__law_low : PySem.W.nsIn K mainGlobals "_law_low" = some (some (.ref f__law_low))) (l__law_low : K.lookup f__law_low = some ⟨oc__law_low, od__law_low, .func (PySem.W.fnOf "_law_low" "_law_low" (defArgs s__law_low) (defBody s__law_low) (defScope s__law_low) .none kV__law_low dc__law_low pm__law_low an__law_low cd__law_low ct__law_low), sl__law_low⟩) (c__law_low : PySem.W.codeIn K cd__law_low "_law_low" = true) (k__law_low : PySem.W.keepIn K (.ref f__law_low) = true)
    {oc__law_sum kV__law_sum dc__law_sum pm__law_sum cd__law_sum ct__law_sum : Value} {od__law_sum an__law_sum : Option Addr} {sl__law_sum : Array (Option Value)}
    (a__law_sum : PySem.W.nsIn K mainGlobals "_law_sum" = some (some (.ref f__law_sum))) (l__law_sum : K.lookup f__law_sum = some ⟨oc__law_sum, od__law_sum, .func (PySem.W.fnOf "_law_sum" "_law_sum" (defArgs s__law_sum) (defBody s__law_sum) (defScope s__law_sum) .none kV__law_sum dc__law_sum pm__law_sum an__law_sum cd__law_sum ct__law_sum), sl__law_sum⟩) (c__law_sum : PySem.W.codeIn K cd__law_sum "_law_sum" = true) (k__law_sum : PySem.W.keepIn K (.ref f__law_sum) = true)
    {oc__law_part kV__law_part dc__law_part pm__law_part cd__law_part ct__law_part : Value} {od__law_part an__law_part : Option Addr} {sl__law_part : Array (Option Value)}
    (a__law_part : PySem.W.nsIn K mainGlobals "_law_part" = some (some (.ref f__law_part))) (l__law_part : K.lookup f__law_part = some ⟨oc__law_part, od__law_part, .func (PySem.W.fnOf "_law_part" "_law_part" (defArgs s__law_part) (defBody s__law_part) (defScope s__law_part) .none kV__law_part dc__law_part pm__law_part an__law_part cd__law_part ct__law_part), sl__law_part⟩) (c__law_part : PySem.W.codeIn K cd__law_part "_law_part" = true) (k__law_part : PySem.W.keepIn K (.ref f__law_part) = true)
    {oc__law_value kV__law_value dc__law_value pm__law_value cd__law_value ct__law_value : Value} {od__law_value an__law_value : Option Addr} {sl__law_value : Array (Option Value)}
    (a__law_value : PySem.W.nsIn K mainGlobals "_law_value" = some (some (.ref f__law_value))) (l__law_value : K.lookup f__law_value = some ⟨oc__law_value, od__law_value, .func (PySem.W.fnOf "_law_value" "_law_value" (defArgs s__law_value) (defBody s__law_value) (defScope s__law_value) .none kV__law_value dc__law_value pm__law_value an__law_value cd__law_value ct__law_value), sl__law_value⟩) (c__law_value : PySem.W.codeIn K cd__law_value "_law_value" = true) (k__law_value : PySem.W.keepIn K (.ref f__law_value) = true)
    {oc__law_keeps kV__law_keeps dc__law_keeps pm__law_keeps cd__law_keeps ct__law_keeps : Value} {od__law_keeps an__law_keeps : Option Addr} {sl__law_keeps : Array (Option Value)}
    (a__law_keeps : PySem.W.nsIn K mainGlobals "_law_keeps" = some (some (.ref f__law_keeps))) (l__law_keeps : K.lookup f__law_keeps = some ⟨oc__law_keeps, od__law_keeps, .func (PySem.W.fnOf "_law_keeps" "_law_keeps" (defArgs s__law_keeps) (defBody s__law_keeps) (defScope s__law_keeps) .none kV__law_keeps dc__law_keeps pm__law_keeps an__law_keeps cd__law_keeps ct__law_keeps), sl__law_keeps⟩) (c__law_keeps : PySem.W.codeIn K cd__law_keeps "_law_keeps" = true) (k__law_keeps : PySem.W.keepIn K (.ref f__law_keeps) = true)
    {oc__law_weights kV__law_weights dc__law_weights pm__law_weights cd__law_weights ct__law_weights : Value} {od__law_weights an__law_weights : Option Addr} {sl__law_weights : Array (Option Value)}
    (a__law_weights : PySem.W.nsIn K mainGlobals "_law_weights" = some (some (.ref f__law_weights))) (l__law_weights : K.lookup f__law_weights = some ⟨oc__law_weights, od__law_weights, .func (PySem.W.fnOf "_law_weights" "_law_weights" (defArgs s__law_weights) (defBody s__law_weights) (defScope s__law_weights) .none kV__law_weights dc__law_weights pm__law_weights an__law_weights cd__law_weights ct__law_weights), sl__law_weights⟩) (c__law_weights : PySem.W.codeIn K cd__law_weights "_law_weights" = true) (k__law_weights : PySem.W.keepIn K (.ref f__law_weights) = true)
    {oc__law_state kV__law_state dc__law_state pm__law_state cd__law_state ct__law_state : Value} {od__law_state an__law_state : Option Addr} {sl__law_state : Array (Option Value)}
    (a__law_state : PySem.W.nsIn K mainGlobals "_law_state" = some (some (.ref f__law_state))) (l__law_state : K.lookup f__law_state = some ⟨oc__law_state, od__law_state, .func (PySem.W.fnOf "_law_state" "_law_state" (defArgs s__law_state) (defBody s__law_state) (defScope s__law_state) .none kV__law_state dc__law_state pm__law_state an__law_state cd__law_state ct__law_state), sl__law_state⟩) (c__law_state : PySem.W.codeIn K cd__law_state "_law_state" = true) (k__law_state : PySem.W.keepIn K (.ref f__law_state) = true)
    {oc__law_row_at kV__law_row_at dc__law_row_at pm__law_row_at cd__law_row_at ct__law_row_at : Value} {od__law_row_at an__law_row_at : Option Addr} {sl__law_row_at : Array (Option Value)}
    (a__law_row_at : PySem.W.nsIn K mainGlobals "_law_row_at" = some (some (.ref f__law_row_at))) (l__law_row_at : K.lookup f__law_row_at = some ⟨oc__law_row_at, od__law_row_at, .func (PySem.W.fnOf "_law_row_at" "_law_row_at" (defArgs s__law_row_at) (defBody s__law_row_at) (defScope s__law_row_at) .none kV__law_row_at dc__law_row_at pm__law_row_at an__law_row_at cd__law_row_at ct__law_row_at), sl__law_row_at⟩) (c__law_row_at : PySem.W.codeIn K cd__law_row_at "_law_row_at" = true) (k__law_row_at : PySem.W.keepIn K (.ref f__law_row_at) = true)
    {oc_over_one_den kV_over_one_den dc_over_one_den pm_over_one_den cd_over_one_den ct_over_one_den : Value} {od_over_one_den an_over_one_den : Option Addr} {sl_over_one_den : Array (Option Value)}
    (a_over_one_den : PySem.W.nsIn K mainGlobals "over_one_den" = some (some (.ref f_over_one_den))) (l_over_one_den : K.lookup f_over_one_den = some ⟨oc_over_one_den, od_over_one_den, .func (PySem.W.fnOf "over_one_den" "over_one_den" (defArgs s_over_one_den) (defBody s_over_one_den) (defScope s_over_one_den) .none kV_over_one_den dc_over_one_den pm_over_one_den an_over_one_den cd_over_one_den ct_over_one_den), sl_over_one_den⟩) (c_over_one_den : PySem.W.codeIn K cd_over_one_den "over_one_den" = true) (k_over_one_den : PySem.W.keepIn K (.ref f_over_one_den) = true)
    {oc_dot kV_dot dc_dot pm_dot cd_dot ct_dot : Value} {od_dot an_dot : Option Addr} {sl_dot : Array (Option Value)}
    (a_dot : PySem.W.nsIn K mainGlobals "dot" = some (some (.ref f_dot))) (l_dot : K.lookup f_dot = some ⟨oc_dot, od_dot, .func (PySem.W.fnOf "dot" "dot" (defArgs s_dot) (defBody s_dot) (defScope s_dot) .none kV_dot dc_dot pm_dot an_dot cd_dot ct_dot), sl_dot⟩) (c_dot : PySem.W.codeIn K cd_dot "dot" = true) (k_dot : PySem.W.keepIn K (.ref f_dot) = true)
    {oc_holds kV_holds dc_holds pm_holds cd_holds ct_holds : Value} {od_holds an_holds : Option Addr} {sl_holds : Array (Option Value)}
    (a_holds : PySem.W.nsIn K mainGlobals "holds" = some (some (.ref f_holds))) (l_holds : K.lookup f_holds = some ⟨oc_holds, od_holds, .func (PySem.W.fnOf "holds" "holds" (defArgs s_holds) (defBody s_holds) (defScope s_holds) .none kV_holds dc_holds pm_holds an_holds cd_holds ct_holds), sl_holds⟩) (c_holds : PySem.W.codeIn K cd_holds "holds" = true) (k_holds : PySem.W.keepIn K (.ref f_holds) = true)
    {oc__law_held kV__law_held dc__law_held pm__law_held cd__law_held ct__law_held : Value} {od__law_held an__law_held : Option Addr} {sl__law_held : Array (Option Value)}
    (a__law_held : PySem.W.nsIn K mainGlobals "_law_held" = some (some (.ref f__law_held))) (l__law_held : K.lookup f__law_held = some ⟨oc__law_held, od__law_held, .func (PySem.W.fnOf "_law_held" "_law_held" (defArgs s__law_held) (defBody s__law_held) (defScope s__law_held) .none kV__law_held dc__law_held pm__law_held an__law_held cd__law_held ct__law_held), sl__law_held⟩) (c__law_held : PySem.W.codeIn K cd__law_held "_law_held" = true) (k__law_held : PySem.W.keepIn K (.ref f__law_held) = true)
    {oc__law_same kV__law_same dc__law_same pm__law_same cd__law_same ct__law_same : Value} {od__law_same an__law_same : Option Addr} {sl__law_same : Array (Option Value)}
    (a__law_same : PySem.W.nsIn K mainGlobals "_law_same" = some (some (.ref f__law_same))) (l__law_same : K.lookup f__law_same = some ⟨oc__law_same, od__law_same, .func (PySem.W.fnOf "_law_same" "_law_same" (defArgs s__law_same) (defBody s__law_same) (defScope s__law_same) .none kV__law_same dc__law_same pm__law_same an__law_same cd__law_same ct__law_same), sl__law_same⟩) (c__law_same : PySem.W.codeIn K cd__law_same "_law_same" = true) (k__law_same : PySem.W.keepIn K (.ref f__law_same) = true)
    {oc_law kV_law dc_law pm_law cd_law ct_law : Value} {od_law an_law : Option Addr} {sl_law : Array (Option Value)}
    (a_law : PySem.W.nsIn K mainGlobals "law" = some (some (.ref f_law))) (l_law : K.lookup f_law = some ⟨oc_law, od_law, .func (PySem.W.fnOf "law" "law" (defArgs s_law) (defBody s_law) (defScope s_law) .none kV_law dc_law pm_law an_law cd_law ct_law), sl_law⟩) (c_law : PySem.W.codeIn K cd_law "law" = true) (k_law : PySem.W.keepIn K (.ref f_law) = true)
    (z_ValueError : PySem.W.nsIn K mainGlobals "ValueError" = some none)
    (z_abs : PySem.W.nsIn K mainGlobals "abs" = some none)
    (z_all : PySem.W.nsIn K mainGlobals "all" = some none)
    (z_bool : PySem.W.nsIn K mainGlobals "bool" = some none)
    (z_gcd : PySem.W.nsIn K mainGlobals "gcd" = some (some (.builtin "math.gcd")))
    (z_int : PySem.W.nsIn K mainGlobals "int" = some none)
    (z_isinstance : PySem.W.nsIn K mainGlobals "isinstance" = some none)
    (z_len : PySem.W.nsIn K mainGlobals "len" = some none)
    (z_list : PySem.W.nsIn K mainGlobals "list" = some none)
    (z_range : PySem.W.nsIn K mainGlobals "range" = some none)
    (z_str : PySem.W.nsIn K mainGlobals "str" = some none)
    (z_sum : PySem.W.nsIn K mainGlobals "sum" = some none)
    (z_tuple : PySem.W.nsIn K mainGlobals "tuple" = some none)
    (z_zip : PySem.W.nsIn K mainGlobals "zip" = some none)
    {C_BadState C_SlopeError : Addr}
    (ga_BadState : PySem.W.nsIn K mainGlobals "BadState" = some (some (.ref C_BadState)))
    (ga_SlopeError : PySem.W.nsIn K mainGlobals "SlopeError" = some (some (.ref C_SlopeError)))
    (x_BadState : PySem.W.excIn K C_BadState [.type "ValueError", .type "Exception", .type "BaseException", .type "object"] "ValueError.__new__" = true)
    (kk_BadState : PySem.W.keepIn K (.ref C_BadState) = true)
    (b_BadState : PySem.W.subIn K (.ref C_BadState) (.type "BaseException") = some true)
    (t_BadState : PySem.W.typeIn K (.ref C_BadState) = some (.type "type"))
    (dd_BadState : PySem.W.hasDictIn K C_BadState = true)
    (ss_BadState : PySem.W.subIn K (.ref C_BadState) (.ref C_BadState) = some true)
    (e1_BadState : PySem.W.findIn K (.ref C_BadState) "__getattribute__" = some (some (.builtin "BaseException.__getattribute__")))
    (e2_BadState : PySem.W.findIn K (.ref C_BadState) "__getattr__" = some none)
    (e5_BadState : PySem.W.findIn K (.ref C_BadState) "__class__" = some (some (.builtin "object.__class__")))
    (e6_BadState : PySem.W.specialIn K (.builtin "object.__class__") "__get__" = some (some (.builtin "getset_descriptor.__get__")))
    (e7_BadState : PySem.W.takesIn K (.builtin "object.__class__") = some true)
    (e8_BadState : PySem.W.mroIn K C_BadState (.type "object") = some true)
    (dd_SlopeError : PySem.W.hasDictIn K C_SlopeError = true)
    (t_SlopeError : PySem.W.typeIn K (.ref C_SlopeError) = some (.type "type"))
    (s1_BadState : PySem.W.subIn K (.ref C_BadState) (.ref C_SlopeError) = some true)
    (s2_BadState : PySem.W.subIn K (.ref C_BadState) (.type "ValueError") = some true)
    : ∃ fd : FuncData, (∀ (s : Shared) (v : Value), BindsTo s fd ⟨[v], []⟩ [("_law_script", v)]) ∧ ∀ base : Heap, K.In base → base.Ns mainGlobals mg → FnOk l.prog w K mg base CX0 6 fa fd ["_law_script"] (spLaw K) := by
  have e := hfa.symm.trans (PySem.W.mg_of X G a_law)
  cases e
  have T : Txt mg := ⟨PySem.W.mg_none_of X G z_ValueError, PySem.W.mg_none_of X G z_abs, PySem.W.mg_none_of X G z_all, PySem.W.mg_none_of X G z_bool, PySem.W.mg_of X G z_gcd, PySem.W.mg_none_of X G z_int, PySem.W.mg_none_of X G z_isinstance, PySem.W.mg_none_of X G z_len, PySem.W.mg_none_of X G z_list, PySem.W.mg_none_of X G z_range, PySem.W.mg_none_of X G z_str, PySem.W.mg_none_of X G z_sum, PySem.W.mg_none_of X G z_tuple, PySem.W.mg_none_of X G z_zip⟩
  have XT : Xt K mg C_BadState C_SlopeError := ⟨PySem.W.mg_of X G ga_BadState, PySem.W.mg_of X G ga_SlopeError, x_BadState, kk_BadState, b_BadState, t_BadState, PySem.W.exm_ref b_BadState dd_BadState t_BadState ss_BadState, ⟨e1_BadState, e2_BadState, b_BadState, dd_BadState, e5_BadState, e6_BadState, e7_BadState, e8_BadState⟩, SL.kit_refS dd_SlopeError t_SlopeError s1_BadState, SL.kit_tyS (by decide +kernel) s2_BadState⟩
  have F__law_box := fun_mk (st := s__law_box) l__law_box c__law_box k__law_box
  have b__law_box := F__law_box.binds (ps := ["_law_script"]) fun _ _ _ _ _ _ us hl => match us, hl with | [_], _ => rfl
  have A__law_box : FunAt K mg "_law_box" s__law_box ["_law_script"] := ⟨_, _, F__law_box, PySem.W.mg_of X G a__law_box, b__law_box⟩
  have F__law_take := fun_mk (st := s__law_take) l__law_take c__law_take k__law_take
  have b__law_take := F__law_take.binds (ps := ["_law_box_here", "_law_many"]) fun _ _ _ _ _ _ us hl => match us, hl with | [_, _], _ => rfl
  have A__law_take : FunAt K mg "_law_take" s__law_take ["_law_box_here", "_law_many"] := ⟨_, _, F__law_take, PySem.W.mg_of X G a__law_take, b__law_take⟩
  have F__law_near := fun_mk (st := s__law_near) l__law_near c__law_near k__law_near
  have b__law_near := F__law_near.binds (ps := ["_law_box_here", "_law_far"]) fun _ _ _ _ _ _ us hl => match us, hl with | [_, _], _ => rfl
  have A__law_near : FunAt K mg "_law_near" s__law_near ["_law_box_here", "_law_far"] := ⟨_, _, F__law_near, PySem.W.mg_of X G a__law_near, b__law_near⟩
  have F__law_common := fun_mk (st := s__law_common) l__law_common c__law_common k__law_common
  have b__law_common := F__law_common.binds (ps := ["_law_one", "_law_other"]) fun _ _ _ _ _ _ us hl => match us, hl with | [_, _], _ => rfl
  have A__law_common : FunAt K mg "_law_common" s__law_common ["_law_one", "_law_other"] := ⟨_, _, F__law_common, PySem.W.mg_of X G a__law_common, b__law_common⟩
  have F__law_low := fun_mk (st := s__law_low) l__law_low c__law_low k__law_low
  have b__law_low := F__law_low.binds (ps := ["_law_num", "_law_den"]) fun _ _ _ _ _ _ us hl => match us, hl with | [_, _], _ => rfl
  have A__law_low : FunAt K mg "_law_low" s__law_low ["_law_num", "_law_den"] := ⟨_, _, F__law_low, PySem.W.mg_of X G a__law_low, b__law_low⟩
  have F__law_sum := fun_mk (st := s__law_sum) l__law_sum c__law_sum k__law_sum
  have b__law_sum := F__law_sum.binds (ps := ["_law_one", "_law_other"]) fun _ _ _ _ _ _ us hl => match us, hl with | [_, _], _ => rfl
  have A__law_sum : FunAt K mg "_law_sum" s__law_sum ["_law_one", "_law_other"] := ⟨_, _, F__law_sum, PySem.W.mg_of X G a__law_sum, b__law_sum⟩
  have F__law_part := fun_mk (st := s__law_part) l__law_part c__law_part k__law_part
  have b__law_part := F__law_part.binds (ps := ["_law_box_here", "_law_far"]) fun _ _ _ _ _ _ us hl => match us, hl with | [_, _], _ => rfl
  have A__law_part : FunAt K mg "_law_part" s__law_part ["_law_box_here", "_law_far"] := ⟨_, _, F__law_part, PySem.W.mg_of X G a__law_part, b__law_part⟩
  have F__law_value := fun_mk (st := s__law_value) l__law_value c__law_value k__law_value
  have b__law_value := F__law_value.binds (ps := ["_law_weights_here", "_law_state_here"]) fun _ _ _ _ _ _ us hl => match us, hl with | [_, _], _ => rfl
  have A__law_value : FunAt K mg "_law_value" s__law_value ["_law_weights_here", "_law_state_here"] := ⟨_, _, F__law_value, PySem.W.mg_of X G a__law_value, b__law_value⟩
  have F__law_keeps := fun_mk (st := s__law_keeps) l__law_keeps c__law_keeps k__law_keeps
  have b__law_keeps := F__law_keeps.binds (ps := ["_law_rows", "_law_state_here"]) fun _ _ _ _ _ _ us hl => match us, hl with | [_, _], _ => rfl
  have A__law_keeps : FunAt K mg "_law_keeps" s__law_keeps ["_law_rows", "_law_state_here"] := ⟨_, _, F__law_keeps, PySem.W.mg_of X G a__law_keeps, b__law_keeps⟩
  have F__law_weights := fun_mk (st := s__law_weights) l__law_weights c__law_weights k__law_weights
  have b__law_weights := F__law_weights.binds (ps := ["_law_box_here", "_law_count", "_law_far"]) fun _ _ _ _ _ _ us hl => match us, hl with | [_, _, _], _ => rfl
  have A__law_weights : FunAt K mg "_law_weights" s__law_weights ["_law_box_here", "_law_count", "_law_far"] := ⟨_, _, F__law_weights, PySem.W.mg_of X G a__law_weights, b__law_weights⟩
  have F__law_state := fun_mk (st := s__law_state) l__law_state c__law_state k__law_state
  have b__law_state := F__law_state.binds (ps := ["_law_box_here", "_law_count", "_law_far"]) fun _ _ _ _ _ _ us hl => match us, hl with | [_, _, _], _ => rfl
  have A__law_state : FunAt K mg "_law_state" s__law_state ["_law_box_here", "_law_count", "_law_far"] := ⟨_, _, F__law_state, PySem.W.mg_of X G a__law_state, b__law_state⟩
  have F__law_row_at := fun_mk (st := s__law_row_at) l__law_row_at c__law_row_at k__law_row_at
  have b__law_row_at := F__law_row_at.binds (ps := ["_law_box_here", "_law_state_here", "_law_far"]) fun _ _ _ _ _ _ us hl => match us, hl with | [_, _, _], _ => rfl
  have A__law_row_at : FunAt K mg "_law_row_at" s__law_row_at ["_law_box_here", "_law_state_here", "_law_far"] := ⟨_, _, F__law_row_at, PySem.W.mg_of X G a__law_row_at, b__law_row_at⟩
  have F_over_one_den := fun_mk (st := s_over_one_den) l_over_one_den c_over_one_den k_over_one_den
  have b_over_one_den := F_over_one_den.binds (ps := ["state"]) fun _ _ _ _ _ _ us hl => match us, hl with | [_], _ => rfl
  have A_over_one_den : FunAt K mg "over_one_den" s_over_one_den ["state"] := ⟨_, _, F_over_one_den, PySem.W.mg_of X G a_over_one_den, b_over_one_den⟩
  have F_dot := fun_mk (st := s_dot) l_dot c_dot k_dot
  have b_dot := F_dot.binds (ps := ["one", "other"]) fun _ _ _ _ _ _ us hl => match us, hl with | [_, _], _ => rfl
  have A_dot : FunAt K mg "dot" s_dot ["one", "other"] := ⟨_, _, F_dot, PySem.W.mg_of X G a_dot, b_dot⟩
  have F_holds := fun_mk (st := s_holds) l_holds c_holds k_holds
  have b_holds := F_holds.binds (ps := ["row", "state"]) fun _ _ _ _ _ _ us hl => match us, hl with | [_, _], _ => rfl
  have A_holds : FunAt K mg "holds" s_holds ["row", "state"] := ⟨_, _, F_holds, PySem.W.mg_of X G a_holds, b_holds⟩
  have F__law_held := fun_mk (st := s__law_held) l__law_held c__law_held k__law_held
  have b__law_held := F__law_held.binds (ps := ["_law_row", "_law_state_here"]) fun _ _ _ _ _ _ us hl => match us, hl with | [_, _], _ => rfl
  have A__law_held : FunAt K mg "_law_held" s__law_held ["_law_row", "_law_state_here"] := ⟨_, _, F__law_held, PySem.W.mg_of X G a__law_held, b__law_held⟩
  have F__law_same := fun_mk (st := s__law_same) l__law_same c__law_same k__law_same
  have b__law_same := F__law_same.binds (ps := ["_law_found", "_law_due"]) fun _ _ _ _ _ _ us hl => match us, hl with | [_, _], _ => rfl
  have A__law_same : FunAt K mg "_law_same" s__law_same ["_law_found", "_law_due"] := ⟨_, _, F__law_same, PySem.W.mg_of X G a__law_same, b__law_same⟩
  have F_law := fun_mk (st := s_law) l_law c_law k_law
  have b_law := F_law.binds (ps := ["_law_script"]) fun _ _ _ _ _ _ us hl => match us, hl with | [_], _ => rfl
  have A_law : FunAt K mg "law" s_law ["_law_script"] := ⟨_, _, F_law, PySem.W.mg_of X G a_law, b_law⟩
  refine ⟨PySem.W.fnOf "law" "law" (defArgs s_law) (defBody s_law) (defScope s_law) .none kV_law dc_law pm_law an_law cd_law ct_law, fun s v => .of_eq rfl, fun base _ _ => ?_⟩
  have d__law_box := ok__law_box (P := l.prog) (w := w) (base := base) A__law_box T 
  have d__law_take := ok__law_take (P := l.prog) (w := w) (base := base) A__law_take T 
  have d__law_near := ok__law_near (P := l.prog) (w := w) (base := base) A__law_near T d__law_take
  have d__law_common := ok__law_common (P := l.prog) (w := w) (base := base) A__law_common T 
  have d__law_low := ok__law_low (P := l.prog) (w := w) (base := base) A__law_low T d__law_common
  have d__law_sum := ok__law_sum (P := l.prog) (w := w) (base := base) A__law_sum T d__law_low
  have d__law_part := ok__law_part (P := l.prog) (w := w) (base := base) A__law_part T d__law_take d__law_near d__law_low
  have d__law_value := ok__law_value (P := l.prog) (w := w) (base := base) A__law_value T d__law_sum
  have d__law_keeps := ok__law_keeps (P := l.prog) (w := w) (base := base) A__law_keeps T d__law_value
  have d__law_weights := ok__law_weights (P := l.prog) (w := w) (base := base) A__law_weights T d__law_take d__law_near
  have d__law_state := ok__law_state (P := l.prog) (w := w) (base := base) A__law_state T d__law_part
  have d__law_row_at := ok__law_row_at (P := l.prog) (w := w) (base := base) A__law_row_at T d__law_take d__law_weights d__law_value
  have d_over_one_den := ok_over_one_den (P := l.prog) (w := w) (base := base) A_over_one_den T 
  have d_dot := ok_dot (P := l.prog) (w := w) (base := base) A_dot T 
  have d_holds := ok_holds (P := l.prog) (w := w) (base := base) A_holds T XT d_over_one_den d_dot
  have d__law_held := ok__law_held (P := l.prog) (w := w) (base := base) A__law_held T XT d_holds
  have d__law_same := ok__law_same (P := l.prog) (w := w) (base := base) A__law_same T 0
  exact ok_law F_law T d__law_box d__law_take d__law_near d__law_state d__law_row_at d__law_keeps d__law_held d__law_same
theorem walk {l : PySem.W.OpenLaw} {q : Program} {loose : List Str} {XP : (Str → Option Value) → Heap → Prop} {YP : World → Heap → Prop} {d : DefRec} {K : Params → PySem.W.Frag} (hn : l.most = some 63) (hdf : d.params.defaults = [])
    (hY : ∀ (w : World) (h : Heap), YP w h → (K w.params).In h)
    (F : ∀ (w : World) (mg : Str → Option Value) (fa : Addr) (h : Heap), (K w.params).In h → h.Ns mainGlobals mg → mg d.name = some (.ref fa) →
      ∃ fd : FuncData, (∀ (s : Shared) (u : Value), BindsTo s fd ⟨[u], []⟩ [("_law_script", u)]) ∧ ∀ base : Heap, (K w.params).In base → base.Ns mainGlobals mg → FnOk l.prog w (K w.params) mg base CX0 6 fa fd ["_law_script"] (spLaw (K w.params))) :
    PySem.W.WalkO q loose XP YP l.row.toRowW d [] (fun f vs => PySem.call f vs) :=
  L2.walk_of (n := 63) (k := 6) (x := "_law_script") (CX := fun _ => CX0) (sp := fun w => spLaw (K w.params)) hn (by decide) hdf ⟨rfl, by decide, by decide⟩ hY F (fun _ _ a ns hl _ hS => ⟨a, ns, rfl, hS, hl, fun _ => rfl⟩) fun _ _ _ _ _ z => z
end My
open PySem PySem.W PyProof.Rows
set_option maxRecDepth 100000 in
set_option maxHeartbeats 0 in
theorem PySem.Challenge.cw_slopeyard_k05_rows_kept_by_states_holds : PySem.Challenge.rw_slopeyard_k05_rows_kept_by_states.Holds := by
  w_on; o_law; k_head; (case hw => w_witness2)
  k_fill
  refine My.walk (l := PySem.Challenge.rw_slopeyard_k05_rows_kept_by_states) rfl rfl (fun w h Y => PySem.W.kIn_of Y) ?F
  case F =>
    intro w mg fa h KX G hmg
    refine' My.all_mk KX G hmg ?a__law_box ?l__law_box ?c__law_box ?k__law_box ?a__law_take ?l__law_take ?c__law_take ?k__law_take ?a__law_near ?l__law_near ?c__law_near ?k__law_near ?a__law_common ?l__law_common ?c__law_common ?k__law_common ?a__law_low ?l__law_low ?c__law_low ?k__law_low ?a__law_sum ?l__law_sum ?c__law_sum ?k__law_sum ?a__law_part ?l__law_part ?c__law_part ?k__law_part ?a__law_value ?l__law_value ?c__law_value ?k__law_value ?a__law_keeps ?l__law_keeps ?c__law_keeps ?k__law_keeps ?a__law_weights ?l__law_weights ?c__law_weights ?k__law_weights ?a__law_state ?l__law_state ?c__law_state ?k__law_state ?a__law_row_at ?l__law_row_at ?c__law_row_at ?k__law_row_at ?a_over_one_den ?l_over_one_den ?c_over_one_den ?k_over_one_den ?a_dot ?l_dot ?c_dot ?k_dot ?a_holds ?l_holds ?c_holds ?k_holds ?a__law_held ?l__law_held ?c__law_held ?k__law_held ?a__law_same ?l__law_same ?c__law_same ?k__law_same ?a_law ?l_law ?c_law ?k_law ?z_ValueError ?z_abs ?z_all ?z_bool ?z_gcd ?z_int ?z_isinstance ?z_len ?z_list ?z_range ?z_str ?z_sum ?z_tuple ?z_zip ?ga_BadState ?ga_SlopeError ?x_BadState ?kk_BadState ?b_BadState ?t_BadState ?dd_BadState ?ss_BadState ?e1_BadState ?e2_BadState ?e5_BadState ?e6_BadState ?e7_BadState ?e8_BadState ?dd_SlopeError ?t_SlopeError ?s1_BadState ?s2_BadState
    (case a__law_box => k_is)
    (case l__law_box => k_is)
    (case c__law_box => k_is)
    (case k__law_box => k_is)
    (case a__law_take => k_is)
    (case l__law_take => k_is)
    (case c__law_take => k_is)
    (case k__law_take => k_is)
    (case a__law_near => k_is)
    (case l__law_near => k_is)
    (case c__law_near => k_is)
    (case k__law_near => k_is)
    (case a__law_common => k_is)
    (case l__law_common => k_is)
    (case c__law_common => k_is)
    (case k__law_common => k_is)
    (case a__law_low => k_is)
    (case l__law_low => k_is)
    (case c__law_low => k_is)
    (case k__law_low => k_is)
    (case a__law_sum => k_is)
    (case l__law_sum => k_is)
    (case c__law_sum => k_is)
    (case k__law_sum => k_is)
    (case a__law_part => k_is)
    (case l__law_part => k_is)
    (case c__law_part => k_is)
    (case k__law_part => k_is)
    (case a__law_value => k_is)
    (case l__law_value => k_is)
    (case c__law_value => k_is)
    (case k__law_value => k_is)
    (case a__law_keeps => k_is)
    (case l__law_keeps => k_is)
    (case c__law_keeps => k_is)
    (case k__law_keeps => k_is)
    (case a__law_weights => k_is)
    (case l__law_weights => k_is)
    (case c__law_weights => k_is)
    (case k__law_weights => k_is)
    (case a__law_state => k_is)
    (case l__law_state => k_is)
    (case c__law_state => k_is)
    (case k__law_state => k_is)
    (case a__law_row_at => k_is)
    (case l__law_row_at => k_is)
    (case c__law_row_at => k_is)
    (case k__law_row_at => k_is)
    (case a_over_one_den => k_is)
    (case l_over_one_den => k_is)
    (case c_over_one_den => k_is)
    (case k_over_one_den => k_is)
    (case a_dot => k_is)
    (case l_dot => k_is)
    (case c_dot => k_is)
    (case k_dot => k_is)
    (case a_holds => k_is)
    (case l_holds => k_is)
    (case c_holds => k_is)
    (case k_holds => k_is)
    (case a__law_held => k_is)
    (case l__law_held => k_is)
    (case c__law_held => k_is)
    (case k__law_held => k_is)
    (case a__law_same => k_is)
    (case l__law_same => k_is)
    (case c__law_same => k_is)
    (case k__law_same => k_is)
    (case a_law => k_is)
    (case l_law => k_is)
    (case c_law => k_is)
    (case k_law => k_is)
    (case z_ValueError => k_is)
    (case z_abs => k_is)
    (case z_all => k_is)
    (case z_bool => k_is)
    (case z_gcd => k_is)
    (case z_int => k_is)
    (case z_isinstance => k_is)
    (case z_len => k_is)
    (case z_list => k_is)
    (case z_range => k_is)
    (case z_str => k_is)
    (case z_sum => k_is)
    (case z_tuple => k_is)
    (case z_zip => k_is)
    (case ga_BadState => k_is)
    (case ga_SlopeError => k_is)
    (case x_BadState => k_exc)
    (case kk_BadState => k_is)
    (case b_BadState => k_is)
    (case t_BadState => k_is)
    (case dd_BadState => k_is)
    (case ss_BadState => first | rfl | k_is)
    (case e1_BadState => k_is)
    (case e2_BadState => k_is)
    (case e5_BadState => k_is)
    (case e6_BadState => k_is)
    (case e7_BadState => k_is)
    (case e8_BadState => k_is)
    (case dd_SlopeError => k_is)
    (case t_SlopeError => k_is)
    (case s1_BadState => k_is)
    (case s2_BadState => k_is)

