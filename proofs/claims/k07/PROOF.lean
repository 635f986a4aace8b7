import PyProof.Rows.All
import Wide.All
import OpenK.AllK
import Wide.FinOn
import HandS.ForMost
import HandS.Gcd
import HandS.Wide
import HandS.IsInst
import HandS.Walk
import HandS.Evl
import HandS.Zip
import HandS.Style
import HandS.Star
import HandS.TupAny
import HandS.TupMul
import HandS.Text
import KE.GoesNew
import KE.GoesMore
import HandS.Codes
import HandS.StrMore
import HandS.WideBits
import HandS.Deep
import KE.IntTextLaws
import HandS.Iter
import PyProof.WalksMore
import HandS.ForExc
import HandS.ExcIs
import HandS.ExcOwn
import HandS.ForDict
import HandS.More
import HandS.TryMany
import KE.KExcSuper
import HandS.ExcInit
import HandS.ExcField
import KE.GoesRaise
import PySem.Challenge.RW_slopeyard_k07_lists_of_rows_written_and
set_option Elab.async false
set_option linter.all false
set_option maxRecDepth 100000
set_option maxHeartbeats 4000000
/-! DL: the readings of the hand layer told by data: G is the part of the heap that stands still (all data are told by it),
the box (the law's own drawing list) and lists that a def makes and grows stand outside of it. -/
namespace DL
open PySem PySem.Spec PyProof.Rows L2
open Evl (Ex)

/-! ### data stay told where the heap grows -/
theorem rd_mono {H H' : Hp} {a : Addr} {u : HO} (e : Ex H H') (h : Rd H a u) : Rd H' a u := Evl.ex_rd e h
mutual
theorem dp_mono {K : PySem.W.Frag} {H H' : Hp} (e : Ex H H') : ∀ (d : PyData) (v : V), Dp K H v d → Dp K H' v d
  | .none, _, h => by cases h; exact .non
  | .bool b, _, h => by cases h; exact .bl b
  | .int i, _, h => by cases h; exact .int i
  | .str x, _, h => by cases h; exact .str x
  | .list ds, _, h => by
    cases h with
    | lst hs ha => exact .lst (Evl.ex_l e hs) (dpa_mono e ds _ ha)
  | .tuple ds, _, h => by
    cases h with
    | tup hs ha => exact .tup (Evl.ex_t e hs) (dpa_mono e ds _ ha)
  | .dict _, _, h => by cases h
theorem dpa_mono {K : PySem.W.Frag} {H H' : Hp} (e : Ex H H') : ∀ (ds : List PyData) (vs : List V), DpAll K H vs ds → DpAll K H' vs ds
  | [], _, h => by cases h; exact .nil
  | d :: ds, _, h => by
    cases h with
    | cons h1 h2 => exact .cons (dp_mono e d _ h1) (dpa_mono e ds _ h2)
end
theorem dpa_len {K : PySem.W.Frag} {G : Hp} : ∀ {vs : List V} {ds : List PyData}, DpAll K G vs ds → vs.length = ds.length
  | _, _, .nil => rfl
  | _, _, .cons _ t => congrArg (· + 1) (dpa_len t)
theorem dpa_app {K : PySem.W.Frag} {G : Hp} : ∀ {vs ws : List V} {ds es : List PyData}, DpAll K G vs ds → DpAll K G ws es → DpAll K G (vs ++ ws) (ds ++ es)
  | _, _, _, _, .nil, h => h
  | _, _, _, _, .cons a t, h => .cons a (dpa_app t h)
theorem dpa_at {K : PySem.W.Frag} {G : Hp} : ∀ {vs : List V} {ds : List PyData} {i : Nat} {v : V}, DpAll K G vs ds → vs[i]? = some v → ∃ d, ds[i]? = some d ∧ Dp K G v d
  | _, _, i, _, .nil, e => by simp at e
  | _, _, 0, _, .cons a _, e => by
    simp at e
    subst e
    exact ⟨_, rfl, a⟩
  | _, _, i + 1, _, .cons _ t, e => by
    obtain ⟨d, h1, h2⟩ := dpa_at (i := i) t (by simpa using e)
    exact ⟨d, by simpa using h1, h2⟩
theorem dpa_atd {K : PySem.W.Frag} {G : Hp} {vs : List V} {ds : List PyData} {i : Nat} {d : PyData} (h : DpAll K G vs ds) (e : ds[i]? = some d) : ∃ v, vs[i]? = some v ∧ Dp K G v d := by
  have hl := dpa_len h
  have hi : i < ds.length := (List.getElem?_eq_some_iff.mp e).1
  have hv : vs[i]? = some vs[i] := List.getElem?_eq_getElem (by omega)
  obtain ⟨d', h1, h2⟩ := dpa_at h hv
  rw [e] at h1
  cases h1
  exact ⟨_, hv, h2⟩
theorem dpa_set {K : PySem.W.Frag} {G : Hp} {v : V} {d : PyData} (hd : Dp K G v d) : ∀ {vs : List V} {ds : List PyData} (i : Nat), DpAll K G vs ds → DpAll K G (vs.set i v) (ds.set i d)
  | _, _, _, .nil => .nil
  | _, _, 0, .cons _ t => .cons hd t
  | _, _, i + 1, .cons a t => .cons a (dpa_set hd i t)
theorem dpa_drop {K : PySem.W.Frag} {G : Hp} : ∀ {vs : List V} {ds : List PyData} (n : Nat), DpAll K G vs ds → DpAll K G (vs.drop n) (ds.drop n)
  | _, _, 0, h => h
  | _, _, _ + 1, .nil => .nil
  | _, _, n + 1, .cons _ t => dpa_drop n t
theorem dpa_take {K : PySem.W.Frag} {G : Hp} : ∀ {vs : List V} {ds : List PyData} (n : Nat), DpAll K G vs ds → DpAll K G (vs.take n) (ds.take n)
  | _, _, 0, _ => .nil
  | _, _, _ + 1, .nil => .nil
  | _, _, n + 1, .cons a t => .cons a (dpa_take n t)
theorem dpa_ints {K : PySem.W.Frag} {G : Hp} : ∀ {ns : List Int}, DpAll K G (ns.map V.int) (ns.map PyData.int)
  | [] => .nil
  | n :: _ => .cons (.int n) dpa_ints
theorem dpa_ints_inv {K : PySem.W.Frag} {G : Hp} : ∀ {ns : List Int} {vs : List V}, DpAll K G vs (ns.map PyData.int) → vs = ns.map V.int
  | [], _, .nil => rfl
  | n :: ns, _, .cons a t => by
    cases a
    rw [dpa_ints_inv t]
    rfl

/-! ### the box -/
def BoxOk (K : PySem.W.Frag) (b : Addr) (G H : Hp) : Prop := ∃ (c : Addr) (ns : List Int) (i x sd : Int), H b = some (.lst [.ref c, .int i, .int x, .int sd]) ∧ G b = none ∧ SqL K G c (ns.map V.int) ∧ ns.length ≤ 63 ∧
  0 ≤ i ∧ i ≤ 63 ∧ 0 ≤ x ∧ 0 ≤ sd ∧ sd < 2147483399
def BoxO (K : PySem.W.Frag) (s : Option Addr) (G H : Hp) : Prop := ∀ b, s = some b → BoxOk K b G H

/-! ### slots, lists that are one's own, the state -/
inductive Sk where
  | no | d (x : PyData) | v (u : V)
def SkOk (K : PySem.W.Frag) (G : Hp) : Sk → Option V → Prop
  | .no, _ => True
  | .d x, o => ∃ v, o = some v ∧ Dp K G v x
  | .v u, o => o = some u
theorem SkOk.mono {K : PySem.W.Frag} {G G' : Hp} (e : Ex G G') : ∀ {k : Sk} {o : Option V}, SkOk K G k o → SkOk K G' k o
  | .no, _, _ => True.intro
  | .d x, _, ⟨v, h, q⟩ => ⟨v, h, dp_mono e x v q⟩
  | .v _, _, h => h
abbrev Own := List (Addr × List PyData)
structure Fb where
  M : Addr → Prop
  G : Hp
  H : Hp
structure Cfg (K : PySem.W.Frag) (F : Fb) (s : Option Addr) (Z : List Sk) (O : Own) (σ : L2.St) (G H : Hp) : Prop where
  len : σ.length = Z.length
  sl : ∀ (i : Nat) (k : Sk), Z[i]? = some k → ∃ o, σ[i]? = some o ∧ SkOk K G k o
  ex : Ex G H
  box : BoxO K s G H
  bxM : ∀ b, s = some b → F.M b ∨ F.H b = none
  own : ∀ p ds, (p, ds) ∈ O → G p = none ∧ s ≠ some p ∧ (F.H p = none) ∧ ∃ vs, H p = some (.lst vs) ∧ DpAll K G vs ds
  nd : (O.map (·.1)).Nodup
  e0 : Ex F.G G
  h0 : ∀ a o, ¬ F.M a → F.H a = some o → H a = some o
  h1 : ∀ a o, F.H a = some o → ∃ o', H a = some o'
  g0 : ∀ a o, F.H a = some o → G a = F.G a

section
variable {K : PySem.W.Frag} {F : Fb} {s : Option Addr} {Z : List Sk} {O : Own} {σ : L2.St} {G H : Hp}
/-- the heap grows, the still part grows, what stood stands -/
theorem Cfg.grow (c : Cfg K F s Z O σ G H) {G' H' : Hp} (e : Ex G G') (e' : Ex G' H') (h : Ex H H') (k : ∀ a o, H a = some o → G' a = G a) : Cfg K F s Z O σ G' H' := by
  refine ⟨c.len, fun i k' hk => ?_, e', fun b hb => ?_, c.bxM, fun p ds hp => ?_, c.nd, c.e0.trans e, fun a o hm ha => h a o (c.h0 a o hm ha), fun a o ha => ?_, fun a o ha => ?_⟩
  · obtain ⟨o, h1, h2⟩ := c.sl i k' hk
    exact ⟨o, h1, h2.mono e⟩
  · obtain ⟨cc, ns, i, x, sd, b1, b2, b3, b4⟩ := c.box b hb
    exact ⟨cc, ns, i, x, sd, h _ _ b1, by rw [k _ _ b1]; exact b2, Evl.ex_l e b3, b4⟩
  · obtain ⟨o1, o2, o3, vs, o4, o5⟩ := c.own p ds hp
    exact ⟨by rw [k _ _ o4]; exact o1, o2, o3, vs, h _ _ o4, dpa_mono e ds vs o5⟩
  · obtain ⟨o', h'⟩ := c.h1 a o ha
    exact ⟨o', h _ _ h'⟩
  · obtain ⟨o', h'⟩ := c.h1 a o ha
    rw [k a o' h']
    exact c.g0 a o ha
/-- the same where the box has turned -/
theorem Cfg.growB {b : Addr} (c : Cfg K F (some b) Z O σ G H) {G' H' : Hp} (e : Ex G G') (e' : Ex G' H') (h : ∀ a o, a ≠ b → H a = some o → H' a = some o) (k : ∀ a o, H a = some o → G' a = G a) (hb : BoxOk K b G' H') : Cfg K F (some b) Z O σ G' H' := by
  refine ⟨c.len, fun i k' hk => ?_, e', fun b' hb' => ?_, c.bxM, fun p ds hp => ?_, c.nd, c.e0.trans e, fun a o hm ha => ?_, fun a o ha => ?_, fun a o ha => ?_⟩
  · obtain ⟨o, h1, h2⟩ := c.sl i k' hk
    exact ⟨o, h1, h2.mono e⟩
  · cases hb'
    exact hb
  · obtain ⟨o1, o2, o3, vs, o4, o5⟩ := c.own p ds hp
    exact ⟨by rw [k _ _ o4]; exact o1, o2, o3, vs, h _ _ (fun z => o2 (by rw [z])) o4, dpa_mono e ds vs o5⟩
  · refine h a o (fun z => ?_) (c.h0 a o hm ha)
    rcases c.bxM b rfl with q | q
    · exact hm (by rw [z]; exact q)
    · rw [z, q] at ha
      cases ha
  · obtain ⟨o', h'⟩ := c.h1 a o ha
    by_cases z : a = b
    · obtain ⟨_, _, _, _, _, b1, _⟩ := hb
      exact ⟨_, by rw [z]; exact b1⟩
    · exact ⟨o', h _ _ z h'⟩
  · obtain ⟨o', h'⟩ := c.h1 a o ha
    rw [k a o' h']
    exact c.g0 a o ha
/-- a new thing that stands still -/
theorem Cfg.new (c : Cfg K F s Z O σ G H) {p : Addr} {o : HO} (hp : H p = none) : Cfg K F s Z O σ (upd G p o) (upd H p o) ∧ Ex G (upd G p o) := by
  have hg : G p = none := by
    cases q : G p with
    | none => rfl
    | some u =>
      rw [c.ex p u q] at hp
      cases hp
  refine ⟨c.grow (Evl.Ex.new hg) (fun a u hu => ?_) (Evl.Ex.new hp) (fun a u hu => ?_), Evl.Ex.new hg⟩
  · by_cases z : a = p
    · subst z
      rw [upd_same] at hu ⊢
      exact hu
    · rw [upd_ne z] at hu ⊢
      exact c.ex a u hu
  · rw [upd_ne (ne_of_none hu hp)]
theorem Cfg.gnone (c : Cfg K F s Z O σ G H) {p : Addr} (hp : H p = none) : G p = none := by
  cases q : G p with
  | none => rfl
  | some u =>
    rw [c.ex p u q] at hp
    cases hp
theorem Cfg.hnone (c : Cfg K F s Z O σ G H) {p : Addr} (hp : H p = none) : F.H p = none := by
  cases q : F.H p with
  | none => rfl
  | some u =>
    obtain ⟨o', h'⟩ := c.h1 p u q
    rw [h'] at hp
    cases hp
/-- a new list of one's own -/
theorem Cfg.newOwn (c : Cfg K F s Z O σ G H) {p : Addr} {vs : List V} {ds : List PyData} (hp : H p = none) (hd : DpAll K G vs ds) : Cfg K F s Z ((p, ds) :: O) σ G (upd H p (.lst vs)) := by
  have hg : G p = none := c.gnone hp
  have c' := c.grow (G' := G) (H' := upd H p (.lst vs)) (Evl.Ex.refl _) (c.ex.trans (Evl.Ex.new hp)) (Evl.Ex.new hp) (fun _ _ _ => rfl)
  refine ⟨c'.len, c'.sl, c'.ex, c'.box, c'.bxM, fun q es hq => ?_, ?_, c'.e0, c'.h0, c'.h1, c'.g0⟩
  · rcases List.mem_cons.mp hq with z | z
    · cases z
      refine ⟨hg, fun z => ?_, c.hnone hp, vs, upd_same, hd⟩
      obtain ⟨_, _, _, _, _, b1, _⟩ := c.box p z
      rw [hp] at b1
      cases b1
    · exact c'.own q es z
  · rw [List.map_cons, List.nodup_cons]
    refine ⟨fun z => ?_, c.nd⟩
    obtain ⟨⟨q, es⟩, hq, e⟩ := List.mem_map.mp z
    obtain ⟨_, _, _, ws, o4, _⟩ := c.own q es hq
    have e : q = p := e
    rw [e, hp] at o4
    cases o4
/-- the own list at the head changes -/
theorem Cfg.setOwn {p : Addr} {ds es : List PyData} {ws : List V} (c : Cfg K F s Z ((p, ds) :: O) σ G H) (hd : DpAll K G ws es) : Cfg K F s Z ((p, es) :: O) σ G (upd H p (.lst ws)) := by
  obtain ⟨o1, o2, o3, vs, o4, o5⟩ := c.own p ds (List.mem_cons_self ..)
  have nd := c.nd
  rw [List.map_cons, List.nodup_cons] at nd
  have keep : ∀ a o, a ≠ p → H a = some o → (upd H p (.lst ws)) a = some o := fun a o ha h => by
    rw [upd_ne ha]
    exact h
  refine ⟨c.len, c.sl, fun a u hu => keep a u (fun z => by rw [z, o1] at hu; cases hu) (c.ex a u hu), fun b hb => ?_, c.bxM, fun q fs hq => ?_, ?_, c.e0, fun a o hm ha => keep a o (fun z => by rw [z, o3] at ha; cases ha) (c.h0 a o hm ha), fun a o ha => ?_, c.g0⟩
  · obtain ⟨cc, ns, i, x, sd, b1, b2, b3, b4⟩ := c.box b hb
    exact ⟨cc, ns, i, x, sd, keep _ _ (fun z => o2 (by rw [← z]; exact hb)) b1, b2, b3, b4⟩
  · rcases List.mem_cons.mp hq with z | z
    · cases z
      exact ⟨o1, o2, o3, ws, upd_same, hd⟩
    · obtain ⟨p1, p2, p3, us, p4, p5⟩ := c.own q fs (List.mem_cons_of_mem _ z)
      refine ⟨p1, p2, p3, us, keep _ _ (fun e => nd.1 ?_) p4, p5⟩
      exact List.mem_map.mpr ⟨(q, fs), z, e⟩
  · rw [List.map_cons, List.nodup_cons]
    exact nd
  · obtain ⟨o', h'⟩ := c.h1 a o ha
    exact ⟨o', keep _ _ (fun z => by rw [z, o3] at ha; cases ha) h'⟩
/-- an own list at the head comes to stand still -/
theorem Cfg.freeze {p : Addr} {ds : List PyData} (c : Cfg K F s Z ((p, ds) :: O) σ G H) : ∃ G', Cfg K F s Z O σ G' H ∧ Ex G G' ∧ Dp K G' (.ref p) (.list ds) := by
  obtain ⟨o1, o2, o3, vs, o4, o5⟩ := c.own p ds (List.mem_cons_self ..)
  have nd := c.nd
  rw [List.map_cons, List.nodup_cons] at nd
  have e : Ex G (upd G p (.lst vs)) := Evl.Ex.new o1
  refine ⟨upd G p (.lst vs), ⟨c.len, fun i k hk => ?_, fun a u hu => ?_, fun b hb => ?_, c.bxM, fun q fs hq => ?_, nd.2, c.e0.trans e, c.h0, c.h1, fun a o ha => ?_⟩, e, .lst (.inl (.inl upd_same)) (dpa_mono e ds vs o5)⟩
  · obtain ⟨o, h1, h2⟩ := c.sl i k hk
    exact ⟨o, h1, h2.mono e⟩
  · by_cases z : a = p
    · subst z
      rw [upd_same] at hu
      cases hu
      exact o4
    · rw [upd_ne z] at hu
      exact c.ex a u hu
  · obtain ⟨cc, ns, i, x, sd, b1, b2, b3, b4⟩ := c.box b hb
    exact ⟨cc, ns, i, x, sd, b1, by rw [upd_ne (fun z => o2 (by rw [← z]; exact hb))]; exact b2, Evl.ex_l e b3, b4⟩
  · obtain ⟨p1, p2, p3, us, p4, p5⟩ := c.own q fs (List.mem_cons_of_mem _ hq)
    refine ⟨?_, p2, p3, us, p4, dpa_mono e fs us p5⟩
    rw [upd_ne (fun z => nd.1 (List.mem_map.mpr ⟨(q, fs), hq, z⟩))]
    exact p1
  · rw [upd_ne (fun z => by rw [z, o3] at ha; cases ha)]
    exact c.g0 a o ha
theorem Cfg.set (c : Cfg K F s Z O σ G H) {i : Nat} {k : Sk} {v : V} (h : SkOk K G k (some v)) : Cfg K F s (Z.set i k) O (σ.set i (some v)) G H := by
  refine ⟨by rw [List.length_set, List.length_set]; exact c.len, fun j k' hj => ?_, c.ex, c.box, c.bxM, c.own, c.nd, c.e0, c.h0, c.h1, c.g0⟩
  by_cases z : i = j
  · subst z
    have hi : i < Z.length := by
      have := (List.getElem?_eq_some_iff.mp hj).1
      rwa [List.length_set] at this
    rw [List.getElem?_set_self hi] at hj
    cases hj
    exact ⟨_, List.getElem?_set_self (by rw [c.len]; exact hi), h⟩
  · rw [List.getElem?_set_ne z] at hj ⊢
    exact c.sl j k' hj
theorem Cfg.forget (c : Cfg K F s Z O σ G H) : Cfg K F s [] [] [] G H :=
  ⟨rfl, fun i k h => by simp at h, c.ex, c.box, c.bxM, fun p ds h => by simp at h, List.nodup_nil, c.e0, c.h0, c.h1, c.g0⟩
/-- slots told again, of another list of places -/
theorem Cfg.slots (c : Cfg K F s Z O σ G H) {Z' : List Sk} {σ' : L2.St} (hl : σ'.length = Z'.length) (h : ∀ (i : Nat) (k : Sk), Z'[i]? = some k → ∃ o, σ'[i]? = some o ∧ SkOk K G k o) : Cfg K F s Z' O σ' G H :=
  ⟨hl, h, c.ex, c.box, c.bxM, c.own, c.nd, c.e0, c.h0, c.h1, c.g0⟩
end

/-! ### what an expression comes to, by data -/
section
variable (K : PySem.W.Frag) (s : Option Addr)
def WE (te : TE) (Z : List Sk) (O : Own) (P : PyData → Prop) : Prop :=
  ∀ (F : Fb) σ G H, Cfg K F s Z O σ G H → ∀ Q : VK, (∀ v d G' H', Cfg K F s Z O σ G' H' → Ex G G' → Dp K G' v d → P d → Q v H') → te σ H Q
def WT (tt : TT) (Z : List Sk) (O : Own) (P : Bool → Prop) : Prop :=
  ∀ (F : Fb) σ G H, Cfg K F s Z O σ G H → ∀ Q : Bool → Hp → Prop, (∀ b G' H', Cfg K F s Z O σ G' H' → Ex G G' → P b → Q b H') → tt σ H Q
/-- a new list that is nobody's yet -/
def WL (te : TE) (Z : List Sk) (O : Own) (P : List PyData → Prop) : Prop :=
  ∀ (F : Fb) σ G H, Cfg K F s Z O σ G H → ∀ Q : VK, (∀ p ds G' H', Cfg K F s Z ((p, ds) :: O) σ G' H' → Ex G G' → P ds → Q (.ref p) H') → te σ H Q
def ArgOk (G : Hp) : List V → List Sk → Prop
  | [], [] => True
  | v :: vs, k :: ks => SkOk K G k (some v) ∧ ArgOk G vs ks
  | _, _ => False
def WA (ta : TA) (Z : List Sk) (O : Own) (P : List Sk → Prop) : Prop :=
  ∀ (F : Fb) σ G H, Cfg K F s Z O σ G H → ∀ Q : List V → Hp → Prop, (∀ vs ks G' H', Cfg K F s Z O σ G' H' → Ex G G' → ArgOk K G' vs ks → P ks → Q vs H') → ta σ H Q
end
theorem argOk_mono {K : PySem.W.Frag} {G G' : Hp} (e : Ex G G') : ∀ {vs : List V} {ks : List Sk}, ArgOk K G vs ks → ArgOk K G' vs ks
  | [], [], _ => True.intro
  | _ :: _, _ :: _, h => ⟨h.1.mono e, argOk_mono e h.2⟩
  | [], _ :: _, h => h.elim
  | _ :: _, [], h => h.elim

section
variable {K : PySem.W.Frag} {F : Fb} {s : Option Addr} {Z : List Sk} {O : Own} {P : PyData → Prop} {PB : Bool → Prop} {ta tb te : TE} {t u : TT}
theorem we_imp {P' : PyData → Prop} (h : WE K s te Z O P') (k : ∀ d, P' d → P d) : WE K s te Z O P := fun F σ G H c Q q => h F σ G H c Q fun v d G' H' c' e hd hp => q v d G' H' c' e hd (k d hp)
theorem wt_imp {P' : Bool → Prop} (h : WT K s t Z O P') (k : ∀ d, P' d → PB d) : WT K s t Z O PB := fun F σ G H c Q q => h F σ G H c Q fun b G' H' c' e hp => q b G' H' c' e (k b hp)
theorem we_var {i : Nat} {d : PyData} (h : Z[i]? = some (.d d)) (p : P d) : WE K s (tVar i) Z O P := fun F σ G H c Q q => by
  obtain ⟨o, h1, v, h2, h3⟩ := c.sl i _ h
  subst h2
  exact ⟨v, h1, q v d G H c (Evl.Ex.refl _) h3 p⟩
theorem we_int {i : Int} (p : P (.int i)) : WE K s (tC (.int i)) Z O P := fun F σ G H c Q q => q _ _ G H c (Evl.Ex.refl _) (.int i) p
theorem we_bl {b : Bool} (p : P (.bool b)) : WE K s (tC (.bl b)) Z O P := fun F σ G H c Q q => q _ _ G H c (Evl.Ex.refl _) (.bl b) p
theorem we_non (p : P .none) : WE K s (tC .non) Z O P := fun F σ G H c Q q => q _ _ G H c (Evl.Ex.refl _) .non p
theorem we_str {x : Str} (p : P (.str x)) : WE K s (tC (.str x)) Z O P := fun F σ G H c Q q => q _ _ G H c (Evl.Ex.refl _) (.str x) p
/-- a new list that comes to stand still at once -/
theorem we_of {P : PyData → Prop} (h : WL K s te Z O fun ds => P (.list ds)) : WE K s te Z O P := fun F σ G H c Q q => h F σ G H c Q fun p ds G' H' c' e hp => by
  obtain ⟨G2, c2, e2, hd⟩ := c'.freeze
  exact q (.ref p) _ G2 H' c2 (e.trans e2) hd hp

/-- an operation of two values that leaves the heap -/
def NOp (K : PySem.W.Frag) (r : R2) (x y z : PyData) : Prop := ∀ v w G H (Q : VK), Ex G H → Dp K G v x → Dp K G w y → (∀ u, Dp K G u z → Q u H) → r v w H Q
theorem we_nop {r : R2} (h : WE K s ta Z O fun x => WE K s tb Z O fun y => ∃ z, NOp K r x y z ∧ P z) : WE K s (tOp r ta tb) Z O P := fun F σ G H c Q q =>
  h F σ G H c _ fun v x G1 H1 c1 e1 hx hp => hp F σ G1 H1 c1 _ fun w y G2 H2 c2 e2 hy ⟨z, hz, p⟩ =>
    hz v w G2 H2 Q c2.ex (dp_mono e2 _ _ hx) hy fun u hu => q u z G2 H2 c2 (e1.trans e2) hu p
theorem nop_I0 {g : Int → Int → V} {i j : Int} {z : PyData} (hz : ∀ G, Dp K G (g i j) z) : NOp K (rI0 g) (.int i) (.int j) z := fun v w G H Q _ hv hw q => by
  cases hv
  cases hw
  exact ⟨i, j, rfl, rfl, q _ (hz G)⟩
theorem nop_I {C : Int → Int → Prop} {g : Int → Int → V} {i j : Int} {z : PyData} (hc : C i j) (hz : ∀ G, Dp K G (g i j) z) : NOp K (rI C g) (.int i) (.int j) z := fun v w G H Q _ hv hw q => by
  cases hv
  cases hw
  exact ⟨i, j, rfl, rfl, hc, q _ (hz G)⟩
theorem we_opI {f : Int → Int → Int} (h : WE K s ta Z O fun x => WE K s tb Z O fun y => ∃ i j, x = .int i ∧ y = .int j ∧ P (.int (f i j))) : WE K s (tOp (rI0 fun i j => .int (f i j)) ta tb) Z O P :=
  we_nop (we_imp h fun x hx => we_imp hx fun y ⟨i, j, e1, e2, p⟩ => ⟨_, by subst e1; subst e2; exact nop_I0 fun G => .int _, p⟩)
theorem we_opB {f : Int → Int → Bool} (h : WE K s ta Z O fun x => WE K s tb Z O fun y => ∃ i j, x = .int i ∧ y = .int j ∧ P (.bool (f i j))) : WE K s (tOp (rI0 fun i j => .bl (f i j)) ta tb) Z O P :=
  we_nop (we_imp h fun x hx => we_imp hx fun y ⟨i, j, e1, e2, p⟩ => ⟨_, by subst e1; subst e2; exact nop_I0 fun G => .bl _, p⟩)
theorem we_opC {C : Int → Int → Prop} {f : Int → Int → Int} (h : WE K s ta Z O fun x => WE K s tb Z O fun y => ∃ i j, x = .int i ∧ y = .int j ∧ C i j ∧ P (.int (f i j))) : WE K s (tOp (rI C fun i j => .int (f i j)) ta tb) Z O P :=
  we_nop (we_imp h fun x hx => we_imp hx fun y ⟨i, j, e1, e2, hc, p⟩ => ⟨_, by subst e1; subst e2; exact nop_I hc fun G => .int _, p⟩)
theorem we_neg (h : WE K s ta Z O fun x => ∃ i, x = .int i ∧ P (.int (-i))) : WE K s (tUn (rU fun i => .int (-i)) ta) Z O P := fun F σ G H c Q q =>
  h F σ G H c _ fun v x G1 H1 c1 e1 hx ⟨i, ex, p⟩ => by
    subst ex
    cases hx
    exact ⟨i, rfl, q _ _ G1 H1 c1 e1 (.int _) p⟩
/-- == of data -/
theorem we_eqD (h : WE K s ta Z O fun x => WE K s tb Z O fun y => SeqAt.shaped x = true ∧ SeqAt.shaped y = true ∧ P (.bool (PyData.eqv x y))) : WE K s (tOp (rEqD K) ta tb) Z O P :=
  we_nop (we_imp h fun x hx => we_imp hx fun y ⟨s1, s2, p⟩ => ⟨_, fun v w G H Q e hv hw q => ⟨x, y, dp_mono e _ _ hv, dp_mono e _ _ hw, s1, s2, q _ (.bl _)⟩, p⟩)
theorem we_neD (h : WE K s ta Z O fun x => WE K s tb Z O fun y => SeqAt.shaped x = true ∧ SeqAt.shaped y = true ∧ P (.bool (!PyData.eqv x y))) : WE K s (tOp (rNeD K) ta tb) Z O P :=
  we_nop (we_imp h fun x hx => we_imp hx fun y ⟨s1, s2, p⟩ => ⟨_, fun v w G H Q e hv hw q => ⟨x, y, dp_mono e _ _ hv, dp_mono e _ _ hw, s1, s2, q _ (.bl _)⟩, p⟩)
/-- an item, by what the thing is -/
inductive ItemAt : PyData → Int → PyData → Prop where
  | lst {ds : List PyData} {i : Int} {d : PyData} : atI ds i = some d → ItemAt (.list ds) i d
  | tup {ds : List PyData} {i : Int} {d : PyData} : atI ds i = some d → ItemAt (.tuple ds) i d
  | str {z : Str} {i : Int} {c : Nat} : z.length ≤ sizeLine → atI z.cps.toList i = some c → ItemAt (.str z) i (.str ⟨#[c]⟩)
theorem dpa_atI {G : Hp} {vs : List V} {ds : List PyData} {i : Int} {d : PyData} (h : DpAll K G vs ds) (e : atI ds i = some d) : ∃ v, atI vs i = some v ∧ Dp K G v d := by
  unfold atI at e ⊢
  rw [dpa_len h]
  cases q : ixN ds.length i with
  | none => rw [q] at e; cases e
  | some j =>
    rw [q] at e
    obtain ⟨v, h1, h2⟩ := dpa_atd h e
    exact ⟨v, h1, h2⟩
theorem we_ix (h : WE K s ta Z O fun x => WE K s tb Z O fun y => ∃ i d, y = .int i ∧ ItemAt x i d ∧ P d) : WE K s (tOp (rIx K) ta tb) Z O P :=
  we_nop (we_imp h fun x hx => we_imp hx fun y ⟨i, d, e1, hi, p⟩ => ⟨d, fun v w G H Q e hv hw q => by
    subst e1
    cases hw
    cases hi with
    | lst hi =>
      cases hv with
      | lst hs ha =>
        obtain ⟨u, h1, h2⟩ := dpa_atI ha hi
        exact .inl ⟨_, _, i, u, rfl, rfl, Evl.ex_l e hs, h1, q u h2⟩
    | tup hi =>
      cases hv with
      | tup hs ha =>
        obtain ⟨u, h1, h2⟩ := dpa_atI ha hi
        exact .inr (.inl ⟨_, _, i, u, rfl, rfl, Evl.ex_t e hs, h1, q u h2⟩)
    | str hz hi =>
      cases hv
      exact .inr (.inr ⟨_, i, _, rfl, rfl, hz, hi, q _ (.str _)⟩), p⟩)

/-! ### tests -/
theorem wt_test (h : WE K s te Z O fun x => ∃ b, x = .bool b ∧ PB b) : WT K s (tTest te) Z O PB := fun F σ G H c Q q => h F σ G H c _ fun v x G1 H1 c1 e1 hx ⟨b, ex, p⟩ => by
  subst ex
  cases hx
  exact ⟨b, rfl, q b G1 H1 c1 e1 p⟩
theorem wt_B (h : WE K s te Z O fun x => ∃ b, x = .bool b ∧ PB b) : WT K s (tB te) Z O PB := fun F σ G H c Q q => h F σ G H c _ fun v x G1 H1 c1 e1 hx ⟨b, ex, p⟩ => by
  subst ex
  cases hx
  exact ⟨b, rfl, q b G1 H1 c1 e1 p⟩
theorem wt_and (h : WT K s t Z O fun b => if b = true then WT K s u Z O PB else PB false) : WT K s (tAnd t u) Z O PB := fun F σ G H c Q q => h F σ G H c _ fun b G1 H1 c1 e1 p => by
  cases b with
  | true =>
    rw [if_pos rfl] at p ⊢
    exact p F σ G1 H1 c1 Q fun b2 G2 H2 c2 e2 p2 => q b2 G2 H2 c2 (e1.trans e2) p2
  | false =>
    rw [if_neg Bool.false_ne_true] at p ⊢
    exact q false G1 H1 c1 e1 p
theorem wt_or (h : WT K s t Z O fun b => if b = true then PB true else WT K s u Z O PB) : WT K s (tOr t u) Z O PB := fun F σ G H c Q q => h F σ G H c _ fun b G1 H1 c1 e1 p => by
  cases b with
  | true =>
    rw [if_pos rfl] at p ⊢
    exact q true G1 H1 c1 e1 p
  | false =>
    rw [if_neg Bool.false_ne_true] at p ⊢
    exact p F σ G1 H1 c1 Q fun b2 G2 H2 c2 e2 p2 => q b2 G2 H2 c2 (e1.trans e2) p2
theorem wt_not (h : WT K s t Z O fun b => PB (!b)) : WT K s (tNot t) Z O PB := fun F σ G H c Q q => h F σ G H c _ fun b G1 H1 c1 e1 p => q (!b) G1 H1 c1 e1 p
theorem we_andV (h : WE K s ta Z O fun x => ∃ b, x = .bool b ∧ if b = true then WE K s tb Z O P else P (.bool false)) : WE K s (tAndV ta tb) Z O P := fun F σ G H c Q q => h F σ G H c _ fun v x G1 H1 c1 e1 hx ⟨b, ex, p⟩ => by
  subst ex
  cases hx
  refine ⟨b, rfl, ?_⟩
  cases b with
  | true =>
    rw [if_pos rfl] at p ⊢
    exact p F σ G1 H1 c1 Q fun w d G2 H2 c2 e2 hd p2 => q w d G2 H2 c2 (e1.trans e2) hd p2
  | false =>
    rw [if_neg Bool.false_ne_true] at p ⊢
    exact q _ _ G1 H1 c1 e1 (.bl false) p
theorem we_orV (h : WE K s ta Z O fun x => ∃ b, x = .bool b ∧ if b = true then P (.bool true) else WE K s tb Z O P) : WE K s (tOrV ta tb) Z O P := fun F σ G H c Q q => h F σ G H c _ fun v x G1 H1 c1 e1 hx ⟨b, ex, p⟩ => by
  subst ex
  cases hx
  refine ⟨b, rfl, ?_⟩
  cases b with
  | true =>
    rw [if_pos rfl] at p ⊢
    exact q _ _ G1 H1 c1 e1 (.bl true) p
  | false =>
    rw [if_neg Bool.false_ne_true] at p ⊢
    exact p F σ G1 H1 c1 Q fun w d G2 H2 c2 e2 hd p2 => q w d G2 H2 c2 (e1.trans e2) hd p2
theorem we_notV (h : WE K s ta Z O fun x => ∃ b, x = .bool b ∧ P (.bool (!b))) : WE K s (tNotV ta) Z O P := fun F σ G H c Q q => h F σ G H c _ fun v x G1 H1 c1 e1 hx ⟨b, ex, p⟩ => by
  subst ex
  cases hx
  exact ⟨b, rfl, q _ _ G1 H1 c1 e1 (.bl _) p⟩
theorem we_if (h : WT K s t Z O fun b => if b = true then WE K s ta Z O P else WE K s tb Z O P) : WE K s (tIf t ta tb) Z O P := fun F σ G H c Q q => h F σ G H c _ fun b G1 H1 c1 e1 p => by
  cases b with
  | true =>
    rw [if_pos rfl] at p ⊢
    exact p F σ G1 H1 c1 Q fun w d G2 H2 c2 e2 hd p2 => q w d G2 H2 c2 (e1.trans e2) hd p2
  | false =>
    rw [if_neg Bool.false_ne_true] at p ⊢
    exact p F σ G1 H1 c1 Q fun w d G2 H2 c2 e2 hd p2 => q w d G2 H2 c2 (e1.trans e2) hd p2
theorem dp_none_iff {G : Hp} {v : V} {x : PyData} (h : Dp K G v x) : (v = .non) ↔ x = .none := by
  cases h <;> simp
def isNone : PyData → Bool
  | .none => true
  | _ => false
theorem dp_isNone {G : Hp} {v : V} {x : PyData} (h : Dp K G v x) : decide (v = .non) = isNone x := by
  cases h <;> rfl
theorem we_isN (h : WE K s ta Z O fun x => P (.bool (isNone x))) : WE K s (tIsN ta) Z O P := fun F σ G H c Q q => h F σ G H c _ fun v x G1 H1 c1 e1 hx p => by
  show Q (.bl (decide (v = .non))) H1
  rw [dp_isNone hx]
  exact q _ _ G1 H1 c1 e1 (.bl _) p
theorem we_notN (h : WE K s ta Z O fun x => P (.bool (!isNone x))) : WE K s (tNotN ta) Z O P := fun F σ G H c Q q => h F σ G H c _ fun v x G1 H1 c1 e1 hx p => by
  show Q (.bl (!decide (v = .non))) H1
  rw [dp_isNone hx]
  exact q _ _ G1 H1 c1 e1 (.bl _) p

/-! ### arguments, displays -/
variable {PA : List Sk → Prop} {tr : TA}
theorem wa_nil (p : PA []) : WA K s tNil Z O PA := fun F σ G H c Q q => q [] [] G H c (Evl.Ex.refl _) True.intro p
theorem wa_cons (h : WE K s ta Z O fun x => WA K s tr Z O fun ks => PA (.d x :: ks)) : WA K s (tCons ta tr) Z O PA := fun F σ G H c Q q =>
  h F σ G H c _ fun v x G1 H1 c1 e1 hx hp => hp F σ G1 H1 c1 _ fun vs ks G2 H2 c2 e2 hk p => q (v :: vs) (.d x :: ks) G2 H2 c2 (e1.trans e2) ⟨⟨v, rfl, dp_mono e2 _ _ hx⟩, hk⟩ p
/-- an argument that is no data: the box -/
theorem wa_raw {i : Nat} {w : V} (hi : Z[i]? = some (.v w)) (h : WA K s tr Z O fun ks => PA (.v w :: ks)) : WA K s (tCons (tVar i) tr) Z O PA := fun F σ G H c Q q => by
  obtain ⟨o, h1, h2⟩ := c.sl i _ hi
  have h2 : o = some w := h2
  subst h2
  exact ⟨w, h1, h F σ G H c _ fun vs ks G2 H2 c2 e2 hk p => q (w :: vs) (.v w :: ks) G2 H2 c2 e2 ⟨rfl, hk⟩ p⟩
/-- a built-in class as an argument -/
theorem wa_ty {n : String} (h : WA K s tr Z O fun ks => PA (.v (.ty n) :: ks)) : WA K s (tCons (tC (.ty n)) tr) Z O PA := fun F σ G H c Q q =>
  h F σ G H c _ fun vs ks G2 H2 c2 e2 hk p => q (.ty n :: vs) (.v (.ty n) :: ks) G2 H2 c2 e2 ⟨rfl, hk⟩ p
/-- kinds that are all data -/
def datas : List Sk → Option (List PyData)
  | [] => some []
  | .d x :: r => (datas r).map (x :: ·)
  | _ :: _ => none
theorem datas_ok {G : Hp} : ∀ {ks : List Sk} {vs : List V} {ds : List PyData}, datas ks = some ds → ArgOk K G vs ks → DpAll K G vs ds
  | [], [], _, h, _ => by
    cases h
    exact .nil
  | [], _ :: _, _, _, z => z.elim
  | .d x :: r, [], _, _, z => z.elim
  | .d x :: r, v :: vs, ds, h, z => by
    unfold datas at h
    cases q : datas r with
    | none => rw [q] at h; cases h
    | some es =>
      rw [q] at h
      cases h
      obtain ⟨⟨w, e, hd⟩, z2⟩ := z
      cases e
      exact .cons hd (datas_ok q z2)
  | .no :: r, _, _, h, _ => by cases h
  | .v _ :: r, _, _, h, _ => by cases h
theorem wl_lst (h : WA K s tr Z O fun ks => ∃ ds, datas ks = some ds ∧ ds.length ≤ 100000 ∧ PL ds) : WL K s (tLst tr) Z O PL := fun F σ G H c Q q =>
  h F σ G H c _ fun vs ks G1 H1 c1 e1 ha ⟨ds, hd, hl, p⟩ => by
    have da := datas_ok hd ha
    refine ⟨Evl.sz_of (by rw [dpa_len da]; exact hl), fun pp hp => q pp ds G1 _ (c1.newOwn hp da) e1 p⟩
theorem we_tup (h : WA K s tr Z O fun ks => ∃ ds, datas ks = some ds ∧ ds.length ≤ 100000 ∧ P (.tuple ds)) : WE K s (tTup tr) Z O P := fun F σ G H c Q q =>
  h F σ G H c _ fun vs ks G1 H1 c1 e1 ha ⟨ds, hd, hl, p⟩ => by
    have da := datas_ok hd ha
    refine ⟨Evl.sz_of (by rw [dpa_len da]; exact hl), fun pp hp => ?_⟩
    obtain ⟨c2, e2⟩ := c1.new (o := .tup vs) hp
    exact q (.ref pp) (.tuple ds) _ _ c2 (e1.trans e2) (.tup (.inl (.inl upd_same)) (dpa_mono e2 ds vs da)) p
end

/-! ### what a def promises, by data -/
/-- a def of data alone -/
def spP (K : PySem.W.Frag) (R : List PyData → (PyData → Prop) → Prop) : Sp := fun vs H Q _ => ∃ G ds, Ex G H ∧ DpAll K G vs ds ∧
  R ds fun d => ∀ v G' H', Ex G G' → Ex G' H' → Ex H H' → (∀ a o, H a = some o → G' a = G a) → Dp K G' v d → Q v H'
/-- a def whose first argument is the box -/
def spB (K : PySem.W.Frag) (R : List PyData → (PyData → Prop) → Prop) : Sp := fun vs H Q _ => ∃ b us G ds, vs = .ref b :: us ∧ Ex G H ∧ BoxOk K b G H ∧ DpAll K G us ds ∧
  R ds fun d => ∀ v G' H', Ex G G' → Ex G' H' → (∀ a o, a ≠ b → H a = some o → H' a = some o) → (∀ a o, H a = some o → G' a = G a) → BoxOk K b G' H' → Dp K G' v d → Q v H'
section
variable {K : PySem.W.Frag} {F : Fb} {s : Option Addr} {Z : List Sk} {O : Own} {P : PyData → Prop} {tr : TA} {R : List PyData → (PyData → Prop) → Prop} {E : XK}
theorem we_call (h : WA K s tr Z O fun ks => ∃ ds, datas ks = some ds ∧ R ds P) (mono : ∀ ds P Q, (∀ d, P d → Q d) → R ds P → R ds Q) : WE K s (tCall (spP K R) [] E tr) Z O P := fun F σ G H c Q q =>
  h F σ G H c _ fun vs ks G1 H1 c1 e1 ha ⟨ds, hd, hr⟩ => by
    show spP K R (vs ++ []) H1 Q E
    rw [List.append_nil]
    exact ⟨G1, ds, c1.ex, datas_ok hd ha, mono ds _ _ (fun d p v G' H' e e' hh k hv => q v d G' H' (c1.grow e e' hh k) (e1.trans e) hv p) hr⟩
theorem we_callB {b : Addr} (h : WA K (some b) tr Z O fun ks => ∃ ks' ds, ks = .v (.ref b) :: ks' ∧ datas ks' = some ds ∧ R ds P) (mono : ∀ ds P Q, (∀ d, P d → Q d) → R ds P → R ds Q) : WE K (some b) (tCall (spB K R) [] E tr) Z O P := fun F σ G H c Q q =>
  h F σ G H c _ fun vs ks G1 H1 c1 e1 ha ⟨ks', ds, ek, hd, hr⟩ => by
    show spB K R (vs ++ []) H1 Q E
    rw [List.append_nil]
    subst ek
    match vs, ha with
    | v :: us, ha =>
      obtain ⟨ev, ha⟩ := ha
      have ev : some v = some (.ref b) := ev
      cases ev
      exact ⟨b, us, G1, ds, rfl, c1.ex, c1.box b rfl, datas_ok hd ha, mono ds _ _ (fun d p v G' H' e e' hh k hb hv => q v d G' H' (c1.growB e e' hh k hb) (e1.trans e) hv p) hr⟩
/-- a built-in by what it does to data, the heap left -/
def NCall (K : PySem.W.Frag) (r : List V → Hp → VK → Prop) (ks : List Sk) (z : PyData) : Prop := ∀ vs G H (Q : VK), Ex G H → ArgOk K G vs ks → (∀ u, Dp K G u z → Q u H) → r vs H Q
theorem we_ncall {r : List V → Hp → VK → Prop} (h : WA K s tr Z O fun ks => ∃ z, NCall K r ks z ∧ P z) : WE K s (tCB r tr) Z O P := fun F σ G H c Q q =>
  h F σ G H c _ fun vs ks G1 H1 c1 e1 ha ⟨z, hz, p⟩ => hz vs G1 H1 Q c1.ex ha fun u hu => q u z G1 H1 c1 e1 hu p
theorem nc_gcd {i j : Int} : NCall K rGcd [.d (.int i), .d (.int j)] (.int ((Nat.gcd i.natAbs j.natAbs : Nat) : Int)) := fun vs G H Q _ ha q => by
  match vs, ha with
  | [v, w], ⟨⟨_, e1, h1⟩, ⟨_, e2, h2⟩, _⟩ =>
    cases e1
    cases e2
    cases h1
    cases h2
    exact ⟨i, j, rfl, q _ (.int _)⟩
end
end DL

/-! DLs: statements by data. -/
namespace DL
open PySem PySem.Spec PyProof.Rows L2
open Evl (Ex)

structure DE where
  nx : List Sk → Own → Prop
  rt : PyData → Prop
  bk : List Sk → Own → Prop := fun _ _ => False
  ct : List Sk → Own → Prop := fun _ _ => False
structure Conv (K : PySem.W.Frag) (F : Fb) (s : Option Addr) (D : DE) (E : Ends) : Prop where
  nx : ∀ Z O σ G H, Cfg K F s Z O σ G H → D.nx Z O → E.nx σ H
  rt : ∀ v d G H, Cfg K F s [] [] [] G H → Dp K G v d → D.rt d → E.rt v H
  bk : ∀ Z O σ G H, Cfg K F s Z O σ G H → D.bk Z O → E.bk σ H
  ct : ∀ Z O σ G H, Cfg K F s Z O σ G H → D.ct Z O → E.ct σ H
def SW (K : PySem.W.Frag) (s : Option Addr) (t : TS) (Z : List Sk) (O : Own) (D : DE) : Prop := ∀ (F : Fb) σ G H E, Cfg K F s Z O σ G H → Conv K F s D E → t E σ H

section
variable {K : PySem.W.Frag} {F : Fb} {s : Option Addr} {Z : List Sk} {O : Own} {D : DE} {t u : TS} {te ta tb : TE} {tt : TT}
theorem Conv.seq {E : Ends} (c : Conv K F s D E) : Conv K F s { D with nx := fun Z O => SW K s u Z O D } { E with nx := u E } :=
  ⟨fun Z O σ G H cf h => h F σ G H E cf c, c.rt, c.bk, c.ct⟩
theorem sw_seq (h : SW K s t Z O { D with nx := fun Z O => SW K s u Z O D }) : SW K s (tSeq t u) Z O D := fun F σ G H E c cv => h F σ G H _ c cv.seq
theorem sw_next (h : D.nx Z O) : SW K s tNext Z O D := fun F σ G H E c cv => cv.nx Z O σ G H c h
theorem sw_break (h : D.bk Z O) : SW K s tBreak Z O D := fun F σ G H E c cv => cv.bk Z O σ G H c h
theorem sw_cont (h : D.ct Z O) : SW K s tCont Z O D := fun F σ G H E c cv => cv.ct Z O σ G H c h
theorem sw_ret (h : WE K s te Z O D.rt) : SW K s (tRet te) Z O D := fun F σ G H E c cv => h F σ G H c _ fun v d G' H' c' e hd p => cv.rt v d G' H' c'.forget hd p
theorem sw_retN (h : D.rt .none) : SW K s tRetN Z O D := fun F σ G H E c cv => cv.rt .non .none G H c.forget .non h
theorem sw_drop (h : WE K s te Z O fun _ => D.nx Z O) : SW K s (tDrop te) Z O D := fun F σ G H E c cv => h F σ G H c _ fun v d G' H' c' e hd p => cv.nx Z O σ G' H' c' p
theorem sw_asg {i : Nat} (h : WE K s te Z O fun d => D.nx (Z.set i (.d d)) O) : SW K s (tAsg te (gName i)) Z O D := fun F σ G H E c cv =>
  h F σ G H c _ fun v d G' H' c' e hd p => cv.nx _ _ _ G' H' (c'.set (k := .d d) ⟨v, rfl, hd⟩) p
/-- a new list, kept as one's own -/
theorem sw_asgL {i : Nat} (h : WL K s te Z O fun ds => ∀ p, D.nx (Z.set i (.v (.ref p))) ((p, ds) :: O)) : SW K s (tAsg te (gName i)) Z O D := fun F σ G H E c cv =>
  h F σ G H c _ fun p ds G' H' c' e q => cv.nx _ _ _ G' H' (c'.set (k := .v (.ref p)) rfl) (q p)
theorem sw_if (h : WT K s tt Z O fun b => if b = true then SW K s t Z O D else SW K s u Z O D) : SW K s (tIfS tt t u) Z O D := fun F σ G H E c cv =>
  h F σ G H c _ fun b G1 H1 c1 e1 p => by
    cases b with
    | true =>
      rw [if_pos rfl] at p ⊢
      exact p F σ G1 H1 E c1 cv
    | false =>
      rw [if_neg Bool.false_ne_true] at p ⊢
      exact p F σ G1 H1 E c1 cv
/-- the own list at the head stands still from here on -/
theorem sw_freeze {p : Addr} {ds : List PyData} {i : Nat} (hi : Z[i]? = some (.v (.ref p))) (h : SW K s t (Z.set i (.d (.list ds))) O D) : SW K s t Z ((p, ds) :: O) D := fun F σ G H E c cv => by
  obtain ⟨G', c', e, hd⟩ := c.freeze
  obtain ⟨o, h1, h2⟩ := c'.sl i _ hi
  have h2 : o = some (.ref p) := h2
  subst h2
  have c2 := c'.set (i := i) (k := .d (.list ds)) (v := .ref p) ⟨.ref p, rfl, hd⟩
  have e2 : σ.set i (some (.ref p)) = σ := by
    apply List.ext_getElem?
    intro j
    by_cases z : i = j
    · subst z
      have hl := (List.getElem?_eq_some_iff.mp h1).1
      rw [List.getElem?_set_self hl, h1]
    · rw [List.getElem?_set_ne z]
  rw [e2] at c2
  exact h F σ G' H E c2 cv
/-- xs.append(e) on the own list at the head -/
theorem sw_app {p : Addr} {ds : List PyData} {i : Nat} (hi : Z[i]? = some (.v (.ref p))) (hl : ds.length < 100000) (h : WE K s te Z ((p, ds) :: O) fun d => D.nx Z ((p, ds ++ [d]) :: O)) :
    SW K s (tDrop (tBM K "list" rAppend (tVar i) (tCons te tNil))) Z ((p, ds) :: O) D := fun F σ G H E c cv => by
  obtain ⟨o, h1, h2⟩ := c.sl i _ hi
  have h2 : o = some (.ref p) := h2
  subst h2
  obtain ⟨_, _, _, vs0, b4, _⟩ := c.own p ds (List.mem_cons_self ..)
  refine ⟨.ref p, h1, .inl ⟨rfl, vs0, Evl.sq_of b4⟩, ?_⟩
  refine h F σ G H c _ fun v d G' H' c' e hd p' => ?_
  obtain ⟨_, _, _, vs, o4, o5⟩ := c'.own p ds (List.mem_cons_self ..)
  refine ⟨p, vs, v, rfl, rfl, o4, Evl.sz_lt (by rw [dpa_len o5]; exact hl), ?_⟩
  exact cv.nx _ _ _ _ _ (c'.setOwn (dpa_app o5 (.cons hd .nil))) p'
/-- xs[i] = e on the own list at the head -/
theorem sw_setL {p : Addr} {ds : List PyData} {i : Nat} (hi : Z[i]? = some (.v (.ref p)))
    (h : WE K s te Z ((p, ds) :: O) fun d => WE K s tb Z ((p, ds) :: O) fun y => ∃ k j, y = .int k ∧ ixN ds.length k = some j ∧ D.nx Z ((p, ds.set j d) :: O)) :
    SW K s (tAsg te (gSub (tVar i) tb rSetL)) Z ((p, ds) :: O) D := fun F σ G H E c cv => by
  obtain ⟨o, h1, h2⟩ := c.sl i _ hi
  have h2 : o = some (.ref p) := h2
  subst h2
  refine h F σ G H c _ fun v d G' H' c' e hd p' => ?_
  refine ⟨.ref p, h1, ?_⟩
  refine p' F σ G' H' c' _ fun w y G2 H2 c2 e2 hy ⟨k, j, ey, hj, q⟩ => ?_
  subst ey
  cases hy
  obtain ⟨_, _, _, vs, o4, o5⟩ := c2.own p ds (List.mem_cons_self ..)
  refine ⟨p, vs, k, j, rfl, rfl, o4, by rw [dpa_len o5]; exact hj, ?_⟩
  exact cv.nx _ _ _ _ _ (c2.setOwn (dpa_set (dp_mono e2 _ _ hd) j o5)) q
/-- the same of the next own list but one -/
theorem Cfg.swap {p q : Addr × List PyData} {σ : L2.St} {G H : Hp} (c : Cfg K F s Z (p :: q :: O) σ G H) : Cfg K F s Z (q :: p :: O) σ G H := by
  refine ⟨c.len, c.sl, c.ex, c.box, c.bxM, fun a ds h => c.own a ds ?_, ?_, c.e0, c.h0, c.h1, c.g0⟩
  · simp only [List.mem_cons] at h ⊢
    rcases h with h | h | h
    · exact .inr (.inl h)
    · exact .inl h
    · exact .inr (.inr h)
  · have nd := c.nd
    simp only [List.map_cons, List.nodup_cons, List.mem_cons, not_or] at nd ⊢
    exact ⟨⟨fun z => nd.1.1 z.symm, nd.2.1⟩, nd.1.2, nd.2.2⟩
theorem sw_swap {p q : Addr × List PyData} (h : SW K s t Z (q :: p :: O) D) : SW K s t Z (p :: q :: O) D := fun F σ G H E c cv => h F σ G H E c.swap cv
/-- a slot's word let go of, or told otherwise -/
theorem sw_imp {D' : DE} (h : SW K s t Z O D') (hn : ∀ Z O, D'.nx Z O → D.nx Z O) (hr : ∀ d, D'.rt d → D.rt d) (hb : ∀ Z O, D'.bk Z O → D.bk Z O) (hc : ∀ Z O, D'.ct Z O → D.ct Z O) : SW K s t Z O D := fun F σ G H E c cv =>
  h F σ G H E c ⟨fun Z O σ G H c h => cv.nx Z O σ G H c (hn Z O h), fun v d G H c hd h => cv.rt v d G H c hd (hr d h), fun Z O σ G H c h => cv.bk Z O σ G H c (hb Z O h), fun Z O σ G H c h => cv.ct Z O σ G H c (hc Z O h)⟩

/-- a statement, then the rest, by a word between them -/
theorem sw_cut (M : List Sk → Own → Prop) (h : SW K s t Z O { D with nx := M }) (k : ∀ Z' O', M Z' O' → SW K s u Z' O' D) : SW K s (tSeq t u) Z O D :=
  sw_seq (sw_imp h k (fun _ h => h) (fun _ _ h => h) (fun _ _ h => h))
/-! ### targets -/
/-- what a target does with a datum -/
def GW (K : PySem.W.Frag) (s : Option Addr) (g : TG) (d : PyData) (Z : List Sk) (O : Own) (N : List Sk → Own → Prop) : Prop :=
  ∀ (F : Fb) v σ G H, Cfg K F s Z O σ G H → Dp K G v d → ∀ Q : L2.St → Hp → Prop, (∀ Z' O' σ' G' H', Cfg K F s Z' O' σ' G' H' → Ex G G' → N Z' O' → Q σ' H') → g v σ H Q
theorem gw_name {i : Nat} {d : PyData} {N : List Sk → Own → Prop} (h : N (Z.set i (.d d)) O) : GW K s (gName i) d Z O N := fun F v σ G H c hd Q q => q _ _ _ G H (c.set (k := .d d) ⟨v, rfl, hd⟩) (Evl.Ex.refl _) h
def GWs (K : PySem.W.Frag) (s : Option Addr) (g : TGs) (ds : List PyData) (Z : List Sk) (O : Own) (N : List Sk → Own → Prop) : Prop :=
  ∀ (F : Fb) vs σ G H, Cfg K F s Z O σ G H → DpAll K G vs ds → ∀ Q : L2.St → Hp → Prop, (∀ Z' O' σ' G' H', Cfg K F s Z' O' σ' G' H' → Ex G G' → N Z' O' → Q σ' H') → g vs σ H Q
theorem gws_nil {N : List Sk → Own → Prop} (h : N Z O) : GWs K s gNil [] Z O N := fun F vs σ G H c hd Q q => by
  cases hd
  exact ⟨rfl, q _ _ _ G H c (Evl.Ex.refl _) h⟩
theorem gws_name {i : Nat} {g : TGs} {d : PyData} {ds : List PyData} {N : List Sk → Own → Prop} (h : GWs K s g ds (Z.set i (.d d)) O N) : GWs K s (gCons (gName i) g) (d :: ds) Z O N := fun F vs σ G H c hd Q q => by
  cases hd with
  | cons h1 h2 => exact ⟨_, _, rfl, h F _ _ G H (c.set (k := .d d) ⟨_, rfl, h1⟩) h2 Q q⟩
theorem gw_tup {n : Nat} {g : TGs} {ds : List PyData} {N : List Sk → Own → Prop} (hn : ds.length = n) (h : GWs K s g ds Z O N) : GW K s (gTup K n g) (.tuple ds) Z O N := fun F v σ G H c hd Q q => by
  cases hd with
  | tup hs ha => exact ⟨_, _, rfl, Evl.ex_t c.ex hs, by rw [dpa_len ha]; exact hn, h F _ σ G H c ha Q q⟩
theorem sw_asgG {g : TG} (h : WE K s te Z O fun d => GW K s g d Z O D.nx) : SW K s (tAsg te g) Z O D := fun F σ G H E c cv =>
  h F σ G H c _ fun v d G' H' c' e hd p => p F v σ G' H' c' hd _ fun Z' O' σ' G2 H2 c2 _ n => cv.nx _ _ _ _ _ c2 n
/-- a, b = e1, e2 -/
theorem sw_par {i j : Nat} (h : WE K s ta Z O fun x => WE K s tb Z O fun y => D.nx ((Z.set i (.d x)).set j (.d y)) O) : SW K s (tPar i j (tCons ta (tCons tb tNil))) Z O D := fun F σ G H E c cv =>
  h F σ G H c _ fun v x G1 H1 c1 e1 hx p => p F σ G1 H1 c1 _ fun w y G2 H2 c2 e2 hy q =>
    ⟨v, w, rfl, cv.nx _ _ _ G2 H2 ((c2.set (k := .d x) ⟨v, rfl, dp_mono e2 _ _ hx⟩).set (k := .d y) ⟨w, rfl, hy⟩) q⟩
theorem sw_par3 {i j l : Nat} {tc : TE} (h : WE K s ta Z O fun x => WE K s tb Z O fun y => WE K s tc Z O fun z => D.nx (((Z.set i (.d x)).set j (.d y)).set l (.d z)) O) : SW K s (tPar3 i j l (tCons ta (tCons tb (tCons tc tNil)))) Z O D := fun F σ G H E c cv =>
  h F σ G H c _ fun v x G1 H1 c1 e1 hx p => p F σ G1 H1 c1 _ fun w y G2 H2 c2 e2 hy q => q F σ G2 H2 c2 _ fun u z G3 H3 c3 e3 hz r =>
    ⟨v, w, u, rfl, cv.nx _ _ _ G3 H3 (((c3.set (k := .d x) ⟨v, rfl, dp_mono (e2.trans e3) _ _ hx⟩).set (k := .d y) ⟨w, rfl, dp_mono e3 _ _ hy⟩).set (k := .d z) ⟨u, rfl, hz⟩) r⟩
theorem sw_aug {i : Nat} {f : Int → Int → Int} {a : Int} (hi : Z[i]? = some (.d (.int a))) (h : WE K s te Z O fun y => ∃ b, y = .int b ∧ D.nx (Z.set i (.d (.int (f a b)))) O) : SW K s (tAug i te (ipI f)) Z O D := fun F σ G H E c cv => by
  obtain ⟨o, h1, v, h2, h3⟩ := c.sl i _ hi
  subst h2
  cases h3
  exact ⟨.int a, h1, h F σ G H c _ fun w y G1 H1 c1 e1 hy ⟨b, ey, p⟩ => by
    subst ey
    cases hy
    exact ⟨a, b, rfl, rfl, cv.nx _ _ _ G1 H1 (c1.set (k := .d (.int (f a b))) ⟨_, rfl, .int _⟩) p⟩⟩

/-! ### loops -/
/-- what is walked, by data: n turns, the i-th datum -/
def IW (K : PySem.W.Frag) (s : Option Addr) (wi : TI) (Z : List Sk) (O : Own) (P : Nat → (Nat → PyData → Prop) → Prop) : Prop :=
  ∀ (F : Fb) σ G H, Cfg K F s Z O σ G H → ∀ R : It → Hp → Prop, (∀ (J : It) (n : Nat) (Yd : Nat → PyData → Prop) (G1 H1 : Hp), Cfg K F s Z O σ G1 H1 → Ex G G1 → P n Yd →
    (∀ i G2 H2, Ex G1 G2 → Ex G2 H2 → (i < n → J.go i H2) ∧ (i = n → J.stop i H2) ∧ ∀ x H3, i < n → J.yld i H2 x H3 →
      ∃ d, Yd i d ∧ ((H3 = H2 ∧ Dp K G2 x d) ∨ ∃ T vs, x = .ref T ∧ H2 T = none ∧ H3 = upd H2 T (.tup vs) ∧ ∃ ds, d = .tuple ds ∧ DpAll K G2 vs ds)) → R J H1) → wi σ H R
theorem Cfg.rebase {Z' : List Sk} {O' : Own} {σ σ' : L2.St} {G1 H1 G2 H2 : Hp} (c : Cfg K F s Z O σ G2 H2) (c1 : Cfg K F s Z' O' σ' G1 H1) (e : Ex G1 G2) : Cfg K { F with G := G1 } s Z O σ G2 H2 :=
  ⟨c.len, c.sl, c.ex, c.box, c.bxM, c.own, c.nd, e, c.h0, c.h1, fun a o h => (c.g0 a o h).trans (c1.g0 a o h).symm⟩
theorem Cfg.unbase {Z' : List Sk} {O' : Own} {σ σ' : L2.St} {G1 H1 G2 H2 : Hp} (c : Cfg K { F with G := G1 } s Z O σ G2 H2) (c1 : Cfg K F s Z' O' σ' G1 H1) : Cfg K F s Z O σ G2 H2 :=
  ⟨c.len, c.sl, c.ex, c.box, c.bxM, c.own, c.nd, c1.e0.trans c.e0, c.h0, c.h1, fun a o h => (c.g0 a o h).trans (c1.g0 a o h)⟩
/-- for: an invariant over the turn, the slots' words and the own lists -/
theorem sw_for {wi : TI} {g : TG} {tb : TS} (I : Nat → List Sk → Own → Prop) (n : Nat) (Yd : Nat → PyData → Prop) (hw : IW K s wi Z O fun n' Y' => n' = n ∧ Y' = Yd) (h0 : I 0 Z O)
    (hs : ∀ i d Z' O', i < n → Yd i d → I i Z' O' → GW K s g d Z' O' fun Z2 O2 => SW K s tb Z2 O2 { D with nx := I (i + 1), ct := I (i + 1), bk := D.nx }) (hd : ∀ Z' O', I n Z' O' → D.nx Z' O') : SW K s (tFor wi g tb) Z O D := fun F σ G H E c cv =>
  hw F σ G H c _ fun J n' Y' G1 H1 c1 e1 ⟨en, ey⟩ hj => by
    subst en ey
    refine ⟨fun i m σ2 H2 => m = n' - i ∧ i ≤ n' ∧ ∃ Z2 O2 G2, Cfg K { F with G := G1 } s Z2 O2 σ2 G2 H2 ∧ I i Z2 O2, ⟨_, rfl, Nat.zero_le _, Z, O, G1, c1.rebase c1 (Evl.Ex.refl _), h0⟩, ?_⟩
    rintro i m σ2 H2 ⟨rfl, hi, Z2, O2, G2, c2, inv⟩
    obtain ⟨j1, j2, j3⟩ := hj i G2 H2 c2.e0 c2.ex
    by_cases hlt : i < n'
    · refine .inr ⟨j1 hlt, fun σ' H' => ∃ Z2 O2 G2, Cfg K { F with G := G1 } s Z2 O2 σ' G2 H' ∧ I (i + 1) Z2 O2, fun σ' H' p' => ⟨n' - (i + 1), by omega, rfl, hlt, p'⟩, fun x H3 hy => ?_⟩
      obtain ⟨d, hd', hcase⟩ := j3 x H3 hlt hy
      have main : ∀ (G3 : Hp), Cfg K { F with G := G1 } s Z2 O2 σ2 G3 H3 → Dp K G3 x d → g x σ2 H3 fun σ4 H4 => tb { E with nx := fun σ' H' => ∃ Z2 O2 G2, Cfg K { F with G := G1 } s Z2 O2 σ' G2 H' ∧ I (i + 1) Z2 O2, ct := fun σ' H' => ∃ Z2 O2 G2, Cfg K { F with G := G1 } s Z2 O2 σ' G2 H' ∧ I (i + 1) Z2 O2, bk := E.nx } σ4 H4 := fun G3 c3 hx =>
        hs i d Z2 O2 hlt hd' inv _ x σ2 G3 H3 c3 hx _ fun Z4 O4 σ4 G4 H4 c4 _ body => body _ σ4 G4 H4 _ c4
          ⟨fun Z O σ G H c h => ⟨Z, O, G, c, h⟩, fun v d G H c hd h => cv.rt v d G H (c.unbase c1) hd h, fun Z O σ G H c h => cv.nx Z O σ G H (c.unbase c1) h, fun Z O σ G H c h => ⟨Z, O, G, c, h⟩⟩
      rcases hcase with ⟨e3, hx⟩ | ⟨T, vs, ex, hT, e3, ds, ed, hds⟩
      · subst e3
        exact main G2 c2 hx
      · subst e3 ex ed
        obtain ⟨c3, e4⟩ := c2.new (o := .tup vs) hT
        exact main _ c3 (.tup (.inl (.inl upd_same)) (dpa_mono e4 ds vs hds))
    · have e : i = n' := by omega
      subst e
      exact .inl ⟨j2 rfl, cv.nx _ _ _ _ _ (c2.unbase c1) (hd _ _ inv)⟩
/-- the same by data and slots: W, a word over the turn and the slots -/
theorem iw_list {tl : TE} {P : Nat → (Nat → PyData → Prop) → Prop} (h : WE K s tl Z O fun x => ∃ ds, x = .list ds ∧ P ds.length fun i d => ds[i]? = some d) : IW K s (iList K tl) Z O P := fun F σ G H c R r =>
  h F σ G H c _ fun v x G1 H1 c1 e1 hx ⟨ds, ex, p⟩ => by
    subst ex
    cases hx with
    | @lst a vs _ hs ha =>
      refine ⟨a, rfl, ⟨vs, Evl.ex_l c1.ex hs⟩, r _ _ _ G1 H1 c1 e1 p fun i G2 H2 e2 e3 => ⟨fun hi => ?_, fun hi => ?_, fun x H3 hi hy => ?_⟩⟩
      · exact ⟨vs, vs[i]'(by rw [dpa_len ha]; exact hi), Evl.ex_l (e2.trans e3) hs, List.getElem?_eq_getElem _⟩
      · exact ⟨vs, Evl.ex_l (e2.trans e3) hs, by rw [dpa_len ha, hi]; exact Nat.le_refl _⟩
      · obtain ⟨h1, h2⟩ := hy
        obtain ⟨d, q1, q2⟩ := dpa_at ha (h2 vs (Evl.ex_l (e2.trans e3) hs))
        exact ⟨d, q1, .inl ⟨h1, dp_mono e2 _ _ q2⟩⟩
theorem iw_tup {tl : TE} {P : Nat → (Nat → PyData → Prop) → Prop} (h : WE K s tl Z O fun x => ∃ ds, x = .tuple ds ∧ P ds.length fun i d => ds[i]? = some d) : IW K s (iTup K tl) Z O P := fun F σ G H c R r =>
  h F σ G H c _ fun v x G1 H1 c1 e1 hx ⟨ds, ex, p⟩ => by
    subst ex
    cases hx with
    | @tup a vs _ hs ha =>
      refine ⟨a, rfl, ⟨vs, Evl.ex_t c1.ex hs⟩, r _ _ _ G1 H1 c1 e1 p fun i G2 H2 e2 e3 => ⟨fun hi => ?_, fun hi => ?_, fun x H3 hi hy => ?_⟩⟩
      · exact ⟨vs, vs[i]'(by rw [dpa_len ha]; exact hi), Evl.ex_t (e2.trans e3) hs, List.getElem?_eq_getElem _⟩
      · exact ⟨vs, Evl.ex_t (e2.trans e3) hs, by rw [dpa_len ha, hi]; exact Nat.le_refl _⟩
      · obtain ⟨h1, h2⟩ := hy
        obtain ⟨d, q1, q2⟩ := dpa_at ha (h2 vs (Evl.ex_t (e2.trans e3) hs))
        exact ⟨d, q1, .inl ⟨h1, dp_mono e2 _ _ q2⟩⟩
theorem iw_rng1 {ta : TA} {P : Nat → (Nat → PyData → Prop) → Prop} (h : WA K s ta Z O fun ks => ∃ j : Int, ks = [.d (.int j)] ∧ (-(2 ^ 62) ≤ j ∧ j < 2 ^ 62) ∧ P j.toNat fun i d => d = .int (i : Nat)) : IW K s (iRng1 ta) Z O P := fun F σ G H c R r =>
  h F σ G H c _ fun vs ks G1 H1 c1 e1 ha ⟨j, ek, ⟨hj1, hj2⟩, p⟩ => by
    subst ek
    match vs, ha with
    | [v], ⟨⟨_, ev, hv⟩, _⟩ =>
      cases ev
      cases hv
      refine ⟨j, rfl, hj1, hj2, r _ _ _ G1 H1 c1 e1 p fun i G2 H2 e2 e3 => ⟨fun hi => hi, fun hi => Nat.le_of_eq hi.symm, fun x H3 hi hy => ?_⟩⟩
      obtain ⟨h1, h2⟩ := hy
      subst h2
      exact ⟨_, rfl, .inl ⟨h1, by rw [Int.zero_add]; exact .int _⟩⟩
theorem iw_rng2 {ta : TA} {P : Nat → (Nat → PyData → Prop) → Prop} (h : WA K s ta Z O fun ks => ∃ l j : Int, ks = [.d (.int l), .d (.int j)] ∧ (-(2 ^ 62) ≤ l ∧ l < 2 ^ 62 ∧ -(2 ^ 62) ≤ j ∧ j < 2 ^ 62) ∧ P (j - l).toNat fun i d => d = .int (l + (i : Nat))) : IW K s (iRng2 ta) Z O P := fun F σ G H c R r =>
  h F σ G H c _ fun vs ks G1 H1 c1 e1 ha ⟨l, j, ek, hb, p⟩ => by
    subst ek
    match vs, ha with
    | [v, w], ⟨⟨_, ev, hv⟩, ⟨_, ew, hw⟩, _⟩ =>
      cases ev
      cases ew
      cases hv
      cases hw
      refine ⟨l, j, rfl, hb, r _ _ _ G1 H1 c1 e1 p fun i G2 H2 e2 e3 => ⟨fun hi => hi, fun hi => Nat.le_of_eq hi.symm, fun x H3 hi hy => ?_⟩⟩
      obtain ⟨h1, h2⟩ := hy
      subst h2
      exact ⟨_, rfl, .inl ⟨h1, .int _⟩⟩
/-- zip of two lists or of two tuples -/
theorem iw_zipA {ta : TA} {P : Nat → (Nat → PyData → Prop) → Prop} (h : WA K s ta Z O fun ks => ∃ ds es, (ks = [.d (.list ds), .d (.list es)] ∨ ks = [.d (.tuple ds), .d (.tuple es)]) ∧
    P (min ds.length es.length) fun i d => ∃ x y, ds[i]? = some x ∧ es[i]? = some y ∧ d = .tuple [x, y]) : IW K s (RZ.iZipA K ta) Z O P := fun F σ G H c R r =>
  h F σ G H c _ fun vs ks G1 H1 c1 e1 ha ⟨ds, es, ek, p⟩ => by
    rcases ek with ek | ek
    · subst ek
      match vs, ha with
      | [v, w], ⟨⟨_, ev, hv⟩, ⟨_, ew, hw⟩, _⟩ =>
        cases ev
        cases ew
        cases hv with
        | @lst a xs _ hs ha =>
          cases hw with
          | @lst b ys _ ht hb =>
            refine ⟨a, b, xs, ys, rfl, .inl ⟨Evl.ex_l c1.ex hs, Evl.ex_l c1.ex ht, r _ _ _ G1 H1 c1 e1 p fun i G2 H2 e2 e3 => ?_⟩⟩
            have W := walk_zip (K := K) (a := a) (b := b) (xs := xs) (ys := ys) (n := min ds.length es.length) (by rw [dpa_len ha, dpa_len hb])
            have GG : SqL K H2 a xs ∧ SqL K H2 b ys := ⟨Evl.ex_l (e2.trans e3) hs, Evl.ex_l (e2.trans e3) ht⟩
            refine ⟨fun hi => W.goes i H2 hi GG, fun hi => by rw [hi]; exact W.stops H2 GG, fun x H3 hi hy => ?_⟩
            obtain ⟨T, x1, y1, q1, q2, q3, q4, q5⟩ := W.yields i H2 x H3 hi GG hy
            obtain ⟨dx, r1, r2⟩ := dpa_at ha q4
            obtain ⟨dy, s1, s2⟩ := dpa_at hb q5
            exact ⟨_, ⟨dx, dy, r1, s1, rfl⟩, .inr ⟨T, [x1, y1], q1, q2, q3, _, rfl, .cons (dp_mono e2 _ _ r2) (.cons (dp_mono e2 _ _ s2) .nil)⟩⟩
    · subst ek
      match vs, ha with
      | [v, w], ⟨⟨_, ev, hv⟩, ⟨_, ew, hw⟩, _⟩ =>
        cases ev
        cases ew
        cases hv with
        | @tup a xs _ hs ha =>
          cases hw with
          | @tup b ys _ ht hb =>
            refine ⟨a, b, xs, ys, rfl, .inr ⟨Evl.ex_t c1.ex hs, Evl.ex_t c1.ex ht, r _ _ _ G1 H1 c1 e1 p fun i G2 H2 e2 e3 => ?_⟩⟩
            have qa := Evl.ex_t (e2.trans e3) hs
            have qb := Evl.ex_t (e2.trans e3) ht
            have la := dpa_len ha
            have lb := dpa_len hb
            refine ⟨fun hi => ?_, fun hi => ?_, fun x H3 hi hy => ?_⟩
            · exact ⟨xs, ys, xs[i]'(by omega), ys[i]'(by omega), qa, qb, List.getElem?_eq_getElem _, List.getElem?_eq_getElem _⟩
            · exact ⟨xs, ys, qa, qb, by omega⟩
            · obtain ⟨T, x1, y1, q1, q2, q3, q4, q5⟩ := hy
              obtain ⟨dx, r1, r2⟩ := dpa_at ha (q4 xs qa)
              obtain ⟨dy, s1, s2⟩ := dpa_at hb (q5 ys qb)
              exact ⟨_, ⟨dx, dy, r1, s1, rfl⟩, .inr ⟨T, [x1, y1], q1, q2, q3, _, rfl, .cons (dp_mono e2 _ _ r2) (.cons (dp_mono e2 _ _ s2) .nil)⟩⟩
/-- while: an invariant and a measure over the slots' words -/
theorem sw_while {tb : TS} (I : Nat → List Sk → Own → Prop) (m0 : Nat) (h0 : I m0 Z O)
    (hs : ∀ m Z' O', I m Z' O' → WT K s tt Z' O' fun b => if b = true then SW K s tb Z' O' { D with nx := fun Z2 O2 => ∃ m', m' < m ∧ I m' Z2 O2, ct := fun Z2 O2 => ∃ m', m' < m ∧ I m' Z2 O2, bk := D.nx } else D.nx Z' O') : SW K s (tWhile tt tb) Z O D := fun F σ G H E c cv => by
  refine ⟨fun m σ2 H2 => ∃ Z2 O2 G2, Cfg K F s Z2 O2 σ2 G2 H2 ∧ I m Z2 O2, ⟨m0, Z, O, G, c, h0⟩, ?_⟩
  rintro m σ2 H2 ⟨Z2, O2, G2, c2, inv⟩
  refine hs m Z2 O2 inv F σ2 G2 H2 c2 _ fun b G3 H3 c3 e3 p => ?_
  cases b with
  | true =>
    rw [if_pos rfl] at p ⊢
    refine ⟨fun σ' H' => ∃ m', m' < m ∧ ∃ Z2 O2 G2, Cfg K F s Z2 O2 σ' G2 H' ∧ I m' Z2 O2, fun σ' H' ⟨m', hm, q⟩ => ⟨m', hm, q⟩, ?_⟩
    exact p F σ2 G3 H3 _ c3 ⟨fun Z O σ G H c ⟨m', hm, h⟩ => ⟨m', hm, Z, O, G, c, h⟩, cv.rt, fun Z O σ G H c h => cv.nx Z O σ G H c h, fun Z O σ G H c ⟨m', hm, h⟩ => ⟨m', hm, Z, O, G, c, h⟩⟩
  | false =>
    rw [if_neg Bool.false_ne_true] at p ⊢
    exact cv.nx _ _ _ _ _ c3 p

/-! ### comprehensions -/
/-- the slots' words with the block's own forgotten -/
def wipeZ (Z : List Sk) : List Nat → List Sk
  | [] => Z
  | v :: vs => (wipeZ Z vs).set v .no
theorem wipe_cfg {σ : L2.St} {G H : Hp} (c : Cfg K F s Z O σ G H) : ∀ vs, Cfg K F s (wipeZ Z vs) O (wipe σ vs) G H
  | [] => c
  | v :: vs => by
    have c2 := wipe_cfg c vs
    refine c2.slots ?_ fun i k hk => ?_
    · show ((wipe σ vs).set v none).length = ((wipeZ Z vs).set v .no).length
      rw [List.length_set, List.length_set]
      exact c2.len
    · show ∃ o, ((wipe σ vs).set v none)[i]? = some o ∧ SkOk K G k o
      have hk : ((wipeZ Z vs).set v .no)[i]? = some k := hk
      by_cases z : v = i
      · subst z
        have hi : v < (wipeZ Z vs).length := by
          have := (List.getElem?_eq_some_iff.mp hk).1
          rwa [List.length_set] at this
        rw [List.getElem?_set_self hi] at hk
        cases hk
        exact ⟨none, List.getElem?_set_self (by rw [c2.len]; exact hi), True.intro⟩
      · rw [List.getElem?_set_ne z] at hk ⊢
        exact c2.sl i k hk
/-- [e for target in iter if test]: I by the turn and what is made so far; ow: the target's stores touch the block's own names alone -/
theorem wl_lc {wi : TI} {g : TG} {tt : TT} {te : TE} {vs : List Nat} {PL : List PyData → Prop} (I : Nat → List PyData → Prop) (n : Nat) (Yd : Nat → PyData → Prop) (hw : IW K s wi Z O fun n' Y' => n' = n ∧ Y' = Yd) (h0 : I 0 []) (hn : n ≤ 50000)
    (hil : ∀ i acc, I i acc → acc.length ≤ i)
    (ow : ∀ x σ H (Q : L2.St → Hp → Prop), g x (wipe σ vs) H (fun σ2 H2 => wipe σ2 vs = wipe σ vs → Q σ2 H2) → g x (wipe σ vs) H fun σ2 H2 => wipe σ2 vs = wipe σ vs ∧ Q σ2 H2)
    (hs : ∀ i d acc p, i < n → Yd i d → I i acc → GW K s g d (wipeZ Z vs) ((p, acc) :: O) fun Z2 O2 => O2 = (p, acc) :: O ∧ WT K s tt Z2 O2 fun b => if b = true then WE K s te Z2 O2 fun y => I (i + 1) (acc ++ [y]) else I (i + 1) acc)
    (hd : ∀ acc, I n acc → PL acc) : WL K s (tLc wi g tt te vs) Z O PL := fun F σ G H c Q q =>
  hw F σ G H c _ fun J n' Y' G1 H1 c1 e1 ⟨en, ey⟩ hj => by
    subst en ey
    intro Dl hD
    have c1r := (c1.rebase c1 (Evl.Ex.refl _)).newOwn (vs := []) hD .nil
    refine ⟨fun i m H2 => m = n' - i ∧ i ≤ n' ∧ ∃ acc G2, Cfg K { F with G := G1 } s Z ((Dl, acc) :: O) σ G2 H2 ∧ I i acc, ⟨_, rfl, Nat.zero_le _, [], G1, c1r, h0⟩, ?_⟩
    rintro i m H2 ⟨rfl, hi, acc, G2, c2, inv⟩
    obtain ⟨j1, j2, j3⟩ := hj i G2 H2 c2.e0 c2.ex
    by_cases hlt : i < n'
    · refine .inr ⟨j1 hlt, fun H' => ∃ acc G2, Cfg K { F with G := G1 } s Z ((Dl, acc) :: O) σ G2 H' ∧ I (i + 1) acc, fun H' p' => ⟨n' - (i + 1), by omega, rfl, hlt, p'⟩, fun x H3 hy => ?_⟩
      obtain ⟨d, hd', hcase⟩ := j3 x H3 hlt hy
      have main : ∀ (G3 : Hp), Cfg K { F with G := G1 } s Z ((Dl, acc) :: O) σ G3 H3 → Dp K G3 x d → g x (wipe σ vs) H3 fun σ2 H2 => wipe σ2 vs = wipe σ vs ∧ tt σ2 H2 fun b H3 =>
          if b = true then te σ2 H3 fun y H4 => ∃ acc, H4 Dl = some (.lst acc) ∧ acc.length < sizeLine ∧ (∃ acc2 G2, Cfg K { F with G := G1 } s Z ((Dl, acc2) :: O) σ G2 (upd H4 Dl (.lst (acc ++ [y]))) ∧ I (i + 1) acc2) else ∃ acc G2, Cfg K { F with G := G1 } s Z ((Dl, acc) :: O) σ G2 H3 ∧ I (i + 1) acc := fun G3 c3 hx => by
        refine ow x σ H3 _ ?_
        refine hs i d acc Dl hlt hd' inv _ x (wipe σ vs) G3 H3 (wipe_cfg c3 vs) hx _ fun Z4 O4 σ4 G4 H4 c4 e34 ⟨eo, body⟩ hwp => ?_
        subst eo
        have back : ∀ {acc' : List PyData} {G5 H5 : Hp}, Cfg K { F with G := G1 } s Z4 ((Dl, acc') :: O) σ4 G5 H5 → Ex G3 G5 → Cfg K { F with G := G1 } s Z ((Dl, acc') :: O) σ G5 H5 := fun c5 e5 =>
          c5.slots c3.len fun j k hk => by
            obtain ⟨o, h1, h2⟩ := c3.sl j k hk
            exact ⟨o, h1, h2.mono e5⟩
        refine body _ σ4 G4 H4 c4 _ fun b G5 H5 c5 e5 pb => ?_
        cases b with
        | false =>
          rw [if_neg Bool.false_ne_true] at pb ⊢
          exact ⟨acc, G5, back c5 (e34.trans e5), pb⟩
        | true =>
          rw [if_pos rfl] at pb ⊢
          refine pb _ σ4 G5 H5 c5 _ fun y dy G6 H6 c6 e6 hy pi => ?_
          obtain ⟨_, _, _, us, o4, o5⟩ := c6.own Dl acc (List.mem_cons_self ..)
          refine ⟨us, o4, Evl.sz_lt ?_, acc ++ [dy], G6, (back c6 ((e34.trans e5).trans e6)).setOwn (dpa_app o5 (.cons hy .nil)), pi⟩
          have := hil i acc inv
          rw [dpa_len o5]
          omega
      rcases hcase with ⟨e3, hx⟩ | ⟨T, vs, ex, hT, e3, ds, ed, hds⟩
      · subst e3
        exact main G2 c2 hx
      · subst e3 ex ed
        obtain ⟨c3, e4⟩ := c2.new (o := .tup vs) hT
        exact main _ c3 (.tup (.inl (.inl upd_same)) (dpa_mono e4 ds vs hds))
    · have e : i = n' := by omega
      subst e
      exact .inl ⟨j2 rfl, q _ _ _ _ (c2.unbase c1) (e1.trans c2.e0) (hd _ inv)⟩
end
end DL

/-! DLf: defs by data, built-ins by data, the box. -/
namespace DL
open PySem PySem.Spec PyProof.Rows L2
open Evl (Ex)

/-! ### a def that may be called -/
structure Def (P : Program) (w : World) (K : PySem.W.Frag) (mg : Str → Option Value) (base : Heap) (x : Str) (k : Nat) (ps : List Str) (sp : Sp) : Prop where
  ex : ∃ f fd, mg x = some (.ref f) ∧ PySem.W.keepIn K (.ref f) = true ∧ Binds K fd ps [] ∧ FnOk P w K mg base CX0 k f fd ps sp
/-- a def as it stands behind the top -/
structure FunAt (K : PySem.W.Frag) (mg : Str → Option Value) (x : Str) (st : Stmt) (ps : List Str) : Prop where
  ex : ∃ f fd, Fun K x x st f fd ∧ mg x = some (.ref f) ∧ Binds K fd ps []
section
variable {X : Cx} {k j : Nat} {ps : List Str} {sp : Sp} {x : Str} {p pos : Pos} {e : Expr} {es : List Expr} {t : TA}
theorem pe_def (D : Def X.prog X.w X.K X.mg X.base x k ps sp) (hr : Room j X.A) (hk : k ≤ j) (hg : Gl X x) (ha : PA X (e :: es) t) (hdb : (x == ("__debug__" : Str)) = false := by decide)
    (he : starEach (e :: es) X.env = (false, eval e X.env) :: starEach es X.env := by rfl) (hpl : (backTo pos (starEach es X.env)).any (·.1) = false := by rfl) : PE X (.Call (.Name x p) (e :: es) [] pos) (tCall sp [] E0 t) := by
  obtain ⟨f, fd, h1, h2, h3, h4⟩ := D.ex
  exact pe_call h4 (hr.mono hk) hg h1 h2 h3 .nil pass0 ha hdb he hpl
end
section
variable {P : Program} {w : World} {K : PySem.W.Frag} {mg : Str → Option Value} {base : Heap} {x : Str} {st : Stmt} {N ps : List Str} {k : Nat} {R : List PyData → (PyData → Prop) → Prop}
/-- the slots at the start -/
def Z0 (N : List Str) (ks : List Sk) : List Sk := ks ++ List.replicate (N.length - ks.length) .no
theorem sl_start {G : Hp} {N : List Str} : ∀ {ks : List Sk} {vs : List V}, ArgOk K G vs ks → (L2.start N vs).length = (Z0 N ks).length ∧ ∀ (i : Nat) (k : Sk), (Z0 N ks)[i]? = some k → ∃ o, (L2.start N vs)[i]? = some o ∧ SkOk K G k o := fun {ks vs} h => by
  have hl : ∀ {ks : List Sk} {vs : List V}, ArgOk K G vs ks → vs.length = ks.length := by
    intro ks
    induction ks with
    | nil => intro vs h; cases vs with
      | nil => rfl
      | cons _ _ => exact h.elim
    | cons k ks ih => intro vs h; cases vs with
      | nil => exact h.elim
      | cons v vs => exact congrArg (· + 1) (ih h.2)
  have at' : ∀ {ks : List Sk} {vs : List V} {i : Nat} {k : Sk}, ArgOk K G vs ks → ks[i]? = some k → ∃ o, (vs.map some)[i]? = some o ∧ SkOk K G k o := by
    intro ks
    induction ks with
    | nil => intro vs i k _ h; simp at h
    | cons k ks ih =>
      intro vs i k' h e
      cases vs with
      | nil => exact h.elim
      | cons v vs =>
        cases i with
        | zero =>
          simp at e
          subst e
          exact ⟨some v, rfl, h.1⟩
        | succ i =>
          obtain ⟨o, q1, q2⟩ := ih (vs := vs) (i := i) (k := k') h.2 (by simpa using e)
          exact ⟨o, by simpa using q1, q2⟩
  have l := hl h
  refine ⟨by simp [L2.start, Z0, l], fun i k e => ?_⟩
  unfold Z0 at e
  unfold L2.start
  by_cases hi : i < ks.length
  · rw [List.getElem?_append_left hi] at e
    obtain ⟨o, h1, h2⟩ := at' h e
    exact ⟨o, by rw [List.getElem?_append_left (by simp [l, hi])]; exact h1, h2⟩
  · rw [List.getElem?_append_right (by omega)] at e
    have e3 := List.mem_replicate.mp (List.mem_of_getElem? e)
    have e4 := (List.getElem?_eq_some_iff.mp e).1
    rw [List.length_replicate] at e4
    obtain ⟨_, e3⟩ := e3
    subst e3
    refine ⟨none, ?_, True.intro⟩
    rw [List.getElem?_append_right (by simp [l]; omega)]
    simp only [List.length_map, l]
    rw [List.getElem?_replicate, if_pos e4]
theorem argOk_datas {G : Hp} : ∀ {vs : List V} {ds : List PyData}, DpAll K G vs ds → ArgOk K G vs (ds.map .d)
  | _, _, .nil => True.intro
  | _, _, .cons a t => ⟨⟨_, rfl, a⟩, argOk_datas t⟩
/-- a def of data: its body's term and what it comes to -/
theorem fn_P (Fn : FunAt K mg x st ps) (S : FnScope N ps (defScope st)) (hl : ∀ ds Q, R ds Q → ds.length = ps.length)
    (hb : ∀ (f : Addr) (cdv : Value) (A : Around) (outer : List Env) (s : Shared) (H : Hp) (E : XK), Room k (A.deeper (envOfC x (defScope st) s.heap.objs.size f cdv)) →
      ∃ t, PSs (cxOf CX0 P w K mg base N x (defScope st) f cdv A outer s H E).nox (defBody st) t ∧ ∀ ds Q, R ds Q → SW K none t (Z0 N (ds.map .d)) [] { nx := fun _ _ => Q .none, rt := Q }) :
    Def P w K mg base x (k + 1) ps (spP K R) := by
  obtain ⟨f, fd, hf, hm, hbd⟩ := Fn.ex
  refine ⟨f, fd, hm, hf.kp, hbd, hf.ok S (fun vs H Q E h => ?_) fun cdv A outer s H vs Q E hr h => ?_⟩
  · obtain ⟨G, ds, _, hd, hR⟩ := h
    rw [dpa_len hd, hl _ _ hR]
  · obtain ⟨G, ds, e, hd, hR⟩ := h
    obtain ⟨t, ht, sw⟩ := hb f cdv A outer s H E hr
    refine ⟨t, ht, sw ds _ hR ⟨fun _ => False, G, H⟩ _ G H _ ?_ ?_⟩
    · obtain ⟨h1, h2⟩ := sl_start (N := N) (argOk_datas hd)
      exact ⟨h1, h2, e, fun b z => (by cases z), fun b z => (by cases z), fun p ds z => (by simp at z), List.nodup_nil, Evl.Ex.refl _, fun a o _ h => h, fun a o h => ⟨o, h⟩, fun _ _ _ => rfl⟩
    · have fin : ∀ (v : V) (d : PyData) (G' H' : Hp), Cfg K ⟨fun _ => False, G, H⟩ none [] [] [] G' H' → Dp K G' v d → (∀ v G' H', Ex G G' → Ex G' H' → Ex H H' → (∀ a o, H a = some o → G' a = G a) → Dp K G' v d → Q v H') → Q v H' := fun v d G' H' c hv q =>
        q v G' H' c.e0 c.ex (fun a o h => c.h0 a o (fun z => z) h) c.g0 hv
      exact ⟨fun Z O σ G' H' c q => fin _ _ _ _ c.forget .non q, fun v d G' H' c hv q => fin _ _ _ _ c hv q, fun _ _ _ _ _ _ z => z.elim, fun _ _ _ _ _ _ z => z.elim⟩
/-- a def whose first argument is the box -/
theorem fn_B (Fn : FunAt K mg x st ps) (S : FnScope N ps (defScope st)) (hl : ∀ ds Q, R ds Q → ds.length + 1 = ps.length)
    (hb : ∀ (f : Addr) (cdv : Value) (A : Around) (outer : List Env) (s : Shared) (H : Hp) (E : XK), Room k (A.deeper (envOfC x (defScope st) s.heap.objs.size f cdv)) →
      ∃ t, PSs (cxOf CX0 P w K mg base N x (defScope st) f cdv A outer s H E).nox (defBody st) t ∧ ∀ b ds Q, R ds Q → SW K (some b) t (Z0 N (.v (.ref b) :: ds.map .d)) [] { nx := fun _ _ => Q .none, rt := Q }) :
    Def P w K mg base x (k + 1) ps (spB K R) := by
  obtain ⟨f, fd, hf, hm, hbd⟩ := Fn.ex
  refine ⟨f, fd, hm, hf.kp, hbd, hf.ok S (fun vs H Q E h => ?_) fun cdv A outer s H vs Q E hr h => ?_⟩
  · obtain ⟨b, us, G, ds, ev, _, _, hd, hR⟩ := h
    rw [ev, List.length_cons, dpa_len hd, hl _ _ hR]
  · obtain ⟨b, us, G, ds, ev, e, bx, hd, hR⟩ := h
    subst ev
    obtain ⟨t, ht, sw⟩ := hb f cdv A outer s H E hr
    refine ⟨t, ht, sw b ds _ hR ⟨fun a => a = b, G, H⟩ _ G H _ ?_ ?_⟩
    · obtain ⟨h1, h2⟩ := sl_start (N := N) (ks := .v (.ref b) :: ds.map .d) (vs := .ref b :: us) ⟨rfl, argOk_datas hd⟩
      exact ⟨h1, h2, e, fun b' z => (by cases z; exact bx), fun b' z => (by cases z; exact .inl rfl), fun p ds z => (by simp at z), List.nodup_nil, Evl.Ex.refl _, fun a o _ h => h, fun a o h => ⟨o, h⟩, fun _ _ _ => rfl⟩
    · have fin : ∀ (v : V) (d : PyData) (G' H' : Hp), Cfg K ⟨fun a => a = b, G, H⟩ (some b) [] [] [] G' H' → Dp K G' v d → (∀ v G' H', Ex G G' → Ex G' H' → (∀ a o, a ≠ b → H a = some o → H' a = some o) → (∀ a o, H a = some o → G' a = G a) → BoxOk K b G' H' → Dp K G' v d → Q v H') → Q v H' := fun v d G' H' c hv q =>
        q v G' H' c.e0 c.ex (fun a o z h => c.h0 a o z h) c.g0 (c.box b rfl) hv
      exact ⟨fun Z O σ G' H' c q => fin _ _ _ _ c.forget .non q, fun v d G' H' c hv q => fin _ _ _ _ c hv q, fun _ _ _ _ _ _ z => z.elim, fun _ _ _ _ _ _ z => z.elim⟩
theorem Def.mono {sp : Sp} {j : Nat} (d : Def P w K mg base x k ps sp) (h : k ≤ j) : Def P w K mg base x j ps sp := by
  obtain ⟨f, fd, h1, h2, h3, h4⟩ := d.ex
  exact ⟨f, fd, h1, h2, h3, h4.mono h⟩
end

/-! ### built-ins by data -/
section
variable {K : PySem.W.Frag} {s : Option Addr} {Z : List Sk} {O : Own} {P : PyData → Prop} {PL : List PyData → Prop} {ta tr : TA}
theorem nc1 {r : List V → Hp → VK → Prop} {d z : PyData} (h : ∀ v G H (Q : VK), Ex G H → Dp K G v d → (∀ u, Dp K G u z → Q u H) → r [v] H Q) : NCall K r [.d d] z := fun vs G H Q e ha q => by
  match vs, ha with
  | [v], ⟨⟨_, ev, hv⟩, _⟩ =>
    cases ev
    exact h v G H Q e hv q
def lenD : PyData → Option Nat
  | .str y => if y.length ≤ sizeLine then some y.length else none
  | .list ds => some ds.length
  | .tuple ds => some ds.length
  | _ => none
theorem nc_len {d : PyData} {n : Nat} (h : lenD d = some n) : NCall K (fun xs H Q => ∃ x n, xs = [x] ∧ LenV K x H n ∧ Q (.int n) H) [.d d] (.int n) := nc1 fun v G H Q e hv q => by
  refine ⟨v, n, rfl, ?_, q _ (.int _)⟩
  cases hv with
  | str y =>
    simp only [lenD] at h
    split at h
    · rename_i hy
      cases h
      exact ⟨hy, rfl⟩
    · cases h
  | lst hs ha =>
    cases h
    exact .inl ⟨_, Evl.ex_l e hs, (dpa_len ha).symm⟩
  | tup hs ha =>
    cases h
    exact .inr ⟨_, Evl.ex_t e hs, (dpa_len ha).symm⟩
  | non => cases h
  | bl b => cases h
  | int i => cases h
theorem nc_abs {i : Int} : NCall K (fun xs H Q => ∃ i, xs = [.int i] ∧ Q (.int (if i < 0 then -i else i)) H) [.d (.int i)] (.int (if i < 0 then -i else i)) := nc1 fun v G H Q e hv q => by
  cases hv
  exact ⟨i, rfl, q _ (.int _)⟩
theorem nc_int {i : Int} : NCall K (fun xs H Q => (∃ i, xs = [.int i] ∧ Q (.int i) H) ∨ ∃ k, xs = [.bl k] ∧ Q (.int (if k then 1 else 0)) H) [.d (.int i)] (.int i) := nc1 fun v G H Q e hv q => by
  cases hv
  exact .inl ⟨i, rfl, q _ (.int _)⟩
theorem nc_intb {b : Bool} : NCall K (fun xs H Q => (∃ i, xs = [.int i] ∧ Q (.int i) H) ∨ ∃ k, xs = [.bl k] ∧ Q (.int (if k then 1 else 0)) H) [.d (.bool b)] (.int (if b then 1 else 0)) := nc1 fun v G H Q e hv q => by
  cases hv
  exact .inr ⟨b, rfl, q _ (.int _)⟩
theorem dpa_bools {G : Hp} : ∀ {bs : List Bool} {vs : List V}, DpAll K G vs (bs.map PyData.bool) → vs = bs.map V.bl
  | [], _, .nil => rfl
  | b :: bs, _, .cons a t => by
    cases a
    rw [dpa_bools t]
    rfl
theorem nc_all {bs : List Bool} : NCall K (rAll K) [.d (.list (bs.map .bool))] (.bool (bs.all id)) := nc1 fun v G H Q e hv q => by
  cases hv with
  | lst hs ha =>
    rw [dpa_bools ha] at hs
    exact ⟨_, bs, rfl, Evl.ex_l e hs, q _ (.bl _)⟩
theorem nc_any {bs : List Bool} : NCall K (rAny K) [.d (.list (bs.map .bool))] (.bool (bs.any id)) := nc1 fun v G H Q e hv q => by
  cases hv with
  | lst hs ha =>
    rw [dpa_bools ha] at hs
    exact ⟨_, bs, rfl, Evl.ex_l e hs, q _ (.bl _)⟩
theorem nc_sum {ns : List Int} : NCall K (rSum K) [.d (.list (ns.map .int))] (.int ns.sum) := nc1 fun v G H Q e hv q => by
  cases hv with
  | lst hs ha =>
    rw [dpa_ints_inv ha] at hs
    exact ⟨_, ns, rfl, Evl.ex_l e hs, q _ (.int _)⟩
/-- tuple(xs) -/
theorem we_tuple (h : WA K s tr Z O fun ks => ∃ ds, (ks = [.d (.list ds)] ∨ ks = [.d (.tuple ds)]) ∧ P (.tuple ds)) :
    WE K s (tCB (fun xs H Q => ∃ p ys, xs = [.ref p] ∧ ((SqL K H p ys ∧ ∀ l, H l = none → Q (.ref l) (upd H l (.tup ys))) ∨ (SqT K H p ys ∧ Q (.ref p) H))) tr) Z O P := fun F σ G H c Q q =>
  h F σ G H c _ fun vs ks G1 H1 c1 e1 ha ⟨ds, ek, p⟩ => by
    rcases ek with ek | ek
    · subst ek
      match vs, ha with
      | [v], ⟨⟨_, ev, hv⟩, _⟩ =>
        cases ev
        cases hv with
        | @lst a ys _ hs ha =>
          refine ⟨a, ys, rfl, .inl ⟨Evl.ex_l c1.ex hs, fun l hl => ?_⟩⟩
          obtain ⟨c2, e2⟩ := c1.new (o := .tup ys) hl
          exact q (.ref l) _ _ _ c2 (e1.trans e2) (.tup (.inl (.inl upd_same)) (dpa_mono e2 ds ys ha)) p
    · subst ek
      match vs, ha with
      | [v], ⟨⟨_, ev, hv⟩, _⟩ =>
        cases ev
        cases hv with
        | @tup a ys _ hs ha => exact ⟨a, ys, rfl, .inr ⟨Evl.ex_t c1.ex hs, q (.ref a) _ G1 H1 c1 e1 (.tup hs ha) p⟩⟩
/-- list(xs) -/
theorem wl_list (h : WA K s tr Z O fun ks => ∃ ds, (ks = [.d (.list ds)] ∨ ks = [.d (.tuple ds)]) ∧ PL ds) :
    WL K s (tCB (fun xs H Q => ∃ p ys, xs = [.ref p] ∧ (SqL K H p ys ∨ SqT K H p ys) ∧ ∀ l, H l = none → Q (.ref l) (upd H l (.lst ys))) tr) Z O PL := fun F σ G H c Q q =>
  h F σ G H c _ fun vs ks G1 H1 c1 e1 ha ⟨ds, ek, p⟩ => by
    rcases ek with ek | ek
    · subst ek
      match vs, ha with
      | [v], ⟨⟨_, ev, hv⟩, _⟩ =>
        cases ev
        cases hv with
        | @lst a ys _ hs ha => exact ⟨a, ys, rfl, .inl (Evl.ex_l c1.ex hs), fun l hl => q l ds G1 _ (c1.newOwn hl ha) e1 p⟩
    · subst ek
      match vs, ha with
      | [v], ⟨⟨_, ev, hv⟩, _⟩ =>
        cases ev
        cases hv with
        | @tup a ys _ hs ha => exact ⟨a, ys, rfl, .inr (Evl.ex_t c1.ex hs), fun l hl => q l ds G1 _ (c1.newOwn hl ha) e1 p⟩
theorem we_listB (h : WA K s tr Z O fun ks => ∃ ds, (ks = [.d (.list ds)] ∨ ks = [.d (.tuple ds)]) ∧ P (.list ds)) :
    WE K s (tCB (fun xs H Q => ∃ p ys, xs = [.ref p] ∧ (SqL K H p ys ∨ SqT K H p ys) ∧ ∀ l, H l = none → Q (.ref l) (upd H l (.lst ys))) tr) Z O P := we_of (wl_list h)
/-! isinstance -/
def tyD : PyData → String
  | .none => "NoneType" | .bool _ => "bool" | .int _ => "int" | .str _ => "str" | .list _ => "list" | .tuple _ => "tuple" | .dict _ => "dict"
def isTy (t T : String) : Bool := (t == T) || (T == "int" && t == "bool")
def isD (d : PyData) (T : String) : Bool := isTy (tyD d) T
theorem kit_all {T : String} (hT : T = "list" ∨ T = "tuple" ∨ T = "int" ∨ T = "bool" ∨ T = "str") :
    kitB "NoneType" T = some (isTy "NoneType" T) ∧ kitB "bool" T = some (isTy "bool" T) ∧ kitB "int" T = some (isTy "int" T) ∧ kitB "str" T = some (isTy "str" T) ∧ kitB "list" T = some (isTy "list" T) ∧ kitB "tuple" T = some (isTy "tuple" T) := by
  rcases hT with h | h | h | h | h <;> subst h <;> decide +kernel
theorem seqL_ty {H : Hp} {a : Addr} {xs : List V} (h : SqL K H a xs) : TyX K H (.ref a) (.type "list") := by
  rcases h with (h | ⟨o, h⟩) | ⟨o, its, n, h, hc, _⟩
  · exact .base (.lst h)
  · exact .base (.frz h)
  · exact .kList h hc
theorem seqT_ty {H : Hp} {a : Addr} {xs : List V} (h : SqT K H a xs) : TyX K H (.ref a) (.type "tuple") := by
  rcases h with (h | ⟨o, h⟩) | ⟨o, its, n, h, hc, _⟩
  · exact .base (.tup h)
  · exact .fTuple h
  · exact .kTuple h hc
theorem nc_isi {d : PyData} {T : String} (hT : T = "list" ∨ T = "tuple" ∨ T = "int" ∨ T = "bool" ∨ T = "str") : NCall K (rIsi K) [.d d, .v (.ty T)] (.bool (isD d T)) := fun vs G H Q e ha q => by
  match vs, ha with
  | [v, w], ⟨⟨_, ev, hv⟩, ew, _⟩ =>
    cases ev
    have ew : some w = some (.ty T) := ew
    cases ew
    cases hv with
    | non => exact ⟨_, _, _, _, isD .none T, rfl, .ty T, .base .non, kit_ty (kit_all hT).1, q _ (.bl _)⟩
    | bl b => exact ⟨_, _, _, _, isD (.bool b) T, rfl, .ty T, .base (.bl b), kit_ty (kit_all hT).2.1, q _ (.bl _)⟩
    | int b => exact ⟨_, _, _, _, isD (.int b) T, rfl, .ty T, .base (.int b), kit_ty (kit_all hT).2.2.1, q _ (.bl _)⟩
    | str b => exact ⟨_, _, _, _, isD (.str b) T, rfl, .ty T, .base (.str b), kit_ty (kit_all hT).2.2.2.1, q _ (.bl _)⟩
    | @lst a xs ds hs ha => exact ⟨_, _, _, _, isD (.list ds) T, rfl, .ty T, seqL_ty (Evl.ex_l e hs), kit_ty (kit_all hT).2.2.2.2.1, q _ (.bl _)⟩
    | @tup a xs ds hs ha => exact ⟨_, _, _, _, isD (.tuple ds) T, rfl, .ty T, seqT_ty (Evl.ex_t e hs), kit_ty (kit_all hT).2.2.2.2.2, q _ (.bl _)⟩
end

/-! ### the rules with the written part named (within a comprehension no term may hang on the block) -/
section
variable {X : Cx} {K : PySem.W.Frag}
theorem ix_seqK (h : X.K = K) : IxR X (rIx K) := h ▸ ix_seq
theorem op_eqDK (h : X.K = K) (hu : X.A.units + 64 < cLine) : OpR X (compareOp .Eq) (rEqD K) := h ▸ op_eqD hu
theorem op_neDK (h : X.K = K) (hu : X.A.units + 64 < cLine) : OpR X (compareOp .NotEq) (rNeD K) := h ▸ op_neD hu
theorem call_lenK (h : X.K = K) : CallR X (.builtin "len") (fun xs H Q => ∃ x n, xs = [x] ∧ LenV K x H n ∧ Q (.int n) H) := h ▸ call_len
theorem call_isiKK (h : X.K = K) : CallR X (.builtin "isinstance") (rIsi K) := h ▸ call_isi
theorem cr_allK (h : X.K = K) (hc : X.calm = true) : CallR X (.builtin "all") (rAll K) := h ▸ cr_all hc
theorem cr_anyK (h : X.K = K) (hc : X.calm = true) : CallR X (.builtin "any") (rAny K) := h ▸ cr_any hc
theorem cr_sumK (h : X.K = K) (hc : X.calm = true) : CallR X (.builtin "sum") (rSum K) := h ▸ cr_sum hc
theorem call_tuple_ofK (h : X.K = K) : CallR X (.type "tuple") (fun xs H Q => ∃ p ys, xs = [.ref p] ∧ ((SqL K H p ys ∧ ∀ l, H l = none → Q (.ref l) (upd H l (.tup ys))) ∨ (SqT K H p ys ∧ Q (.ref p) H))) := h ▸ call_tuple_of
theorem call_list_ofK (h : X.K = K) : CallR X (.type "list") (fun xs H Q => ∃ p ys, xs = [.ref p] ∧ (SqL K H p ys ∨ SqT K H p ys) ∧ ∀ l, H l = none → Q (.ref l) (upd H l (.lst ys))) := h ▸ call_list_of
theorem pi_listK {tg e : Expr} {t : TE} (h : X.K = K) (he : PE X e t) : PI X tg e (iList K t) := h ▸ pi_list he
theorem pi_tupK {tg e : Expr} {t : TE} (h : X.K = K) (he : PE X e t) : PI X tg e (iTup K t) := h ▸ pi_tup he
end
end DL

/-! DLx: the law's own drawing: _law_box, _law_take by their readings. -/
namespace DL
open PySem PySem.Spec PyProof.Rows L2
open Evl (Ex)

theorem mulS {i j : Int} (ha : i.natAbs < 2 ^ 250) (hb : j.natAbs < 2 ^ 250) : CMulW i j := wide_mul ha hb (by decide) (by decide) (by decide)
theorem divS {i j : Int} (h : 0 < j) (hb : j.natAbs < 2 ^ 250) : CDivW i j := wide_div h hb (by decide) (by decide)

/-! ### readings that leave the heap -/
def RE (te : TE) (σ : L2.St) (H : Hp) (v : V) : Prop := ∀ Q : VK, Q v H → te σ H Q
def RT (tt : TT) (σ : L2.St) (H : Hp) (b : Bool) : Prop := ∀ Q : Bool → Hp → Prop, Q b H → tt σ H Q
section
variable {K : PySem.W.Frag} {σ : L2.St} {H : Hp} {ta tb te : TE} {x y z v : V} {t u : TT}
theorem re_var {i : Nat} (h : σ[i]? = some (some v)) : RE (tVar i) σ H v := fun Q q => ⟨v, h, q⟩
theorem re_c : RE (tC v) σ H v := fun Q q => q
theorem re_I {f : Int → Int → Int} {i j : Int} (ha : RE ta σ H (.int i)) (hb : RE tb σ H (.int j)) : RE (tOp (rI0 fun i j => .int (f i j)) ta tb) σ H (.int (f i j)) := fun Q q => ha _ (hb _ ⟨i, j, rfl, rfl, q⟩)
theorem re_B {f : Int → Int → Bool} {i j : Int} (ha : RE ta σ H (.int i)) (hb : RE tb σ H (.int j)) : RE (tOp (rI0 fun i j => .bl (f i j)) ta tb) σ H (.bl (f i j)) := fun Q q => ha _ (hb _ ⟨i, j, rfl, rfl, q⟩)
theorem re_C {C : Int → Int → Prop} {f : Int → Int → Int} {i j : Int} (ha : RE ta σ H (.int i)) (hb : RE tb σ H (.int j)) (hc : C i j) : RE (tOp (rI C fun i j => .int (f i j)) ta tb) σ H (.int (f i j)) := fun Q q => ha _ (hb _ ⟨i, j, rfl, rfl, hc, q⟩)
theorem re_eq {i j : Int} (ha : RE ta σ H (.int i)) (hb : RE tb σ H (.int j)) : RE (tOp (rEqD K) ta tb) σ H (.bl (PyData.eqv (.int i) (.int j))) := fun Q q => ha _ (hb _ ⟨.int i, .int j, .int i, .int j, rfl, rfl, q⟩)
theorem re_ix {p : Addr} {xs : List V} {i : Int} (ha : RE ta σ H (.ref p)) (hs : SqL K H p xs) (hb : RE tb σ H (.int i)) (h : atI xs i = some v) : RE (tOp (rIx K) ta tb) σ H v := fun Q q => ha _ (hb _ (.inl ⟨p, xs, i, v, rfl, rfl, hs, h, q⟩))
theorem re_len {p : Addr} {xs : List V} (ha : RE ta σ H (.ref p)) (hs : SqL K H p xs) : RE (tCB (fun xs H Q => ∃ x n, xs = [x] ∧ LenV K x H n ∧ Q (.int n) H) (tCons ta tNil)) σ H (.int xs.length) := fun Q q => ha _ ⟨_, _, rfl, .inl ⟨xs, hs, rfl⟩, q⟩
theorem rt_test {b : Bool} (h : RE te σ H (.bl b)) : RT (tTest te) σ H b := fun Q q => h _ ⟨b, rfl, q⟩
theorem rt_and {a b : Bool} (h1 : RT t σ H a) (h2 : RT u σ H b) : RT (tAnd t u) σ H (a && b) := fun Q q => h1 _ (by
  cases a with
  | true => exact h2 _ q
  | false => exact q)
theorem rs_if {tt : TT} {t u : TS} {D : Ends} {b : Bool} (h : RT tt σ H b) (h1 : b = true → t D σ H) (h2 : b = false → u D σ H) : tIfS tt t u D σ H := h _ (by
  cases b with
  | true => exact h1 rfl
  | false => exact h2 rfl)
theorem rs_asg {D : Ends} {i : Nat} (h : RE te σ H v) (k : D.nx (σ.set i (some v)) H) : tAsg te (gName i) D σ H := h _ k
theorem rs_set {D : Ends} {p : Addr} {xs : List V} {i : Int} {j : Nat} (h : RE te σ H v) (ha : RE ta σ H (.ref p)) (hb : RE tb σ H (.int i)) (hp : H p = some (.lst xs)) (hj : ixN xs.length i = some j) (k : D.nx σ (upd H p (.lst (xs.set j v)))) :
    tAsg te (gSub ta tb rSetL) D σ H := h _ (ha _ (hb _ ⟨p, xs, i, j, rfl, rfl, hp, hj, k⟩))
theorem rs_ret {D : Ends} (h : RE te σ H v) (k : D.rt v H) : tRet te D σ H := h _ k
theorem seq_tail {t u : TS} {D : Ends} (M : L2.St → Hp → Prop) (tail : ∀ σ' H', M σ' H' → u D σ' H') (main : ∀ N : L2.St → Hp → Prop, (∀ σ' H', M σ' H' → N σ' H') → t { D with nx := N } σ H) : tSeq t u D σ H := main (u D) tail
theorem rs_seq {t u : TS} {D : Ends} (h : t { D with nx := u D } σ H) : tSeq t u D σ H := h
end

/-! ### _law_take -/
def R_take (ds : List PyData) (P : PyData → Prop) : Prop := ∃ m : Int, ds = [.int m] ∧ 0 < m ∧ m < 2 ^ 250 ∧ ∀ r : Int, 0 ≤ r → r < m → P (.int r)
theorem R_take_mono : ∀ ds P Q, (∀ d, P d → Q d) → R_take ds P → R_take ds Q := fun _ _ _ h ⟨m, e, h1, h2, k⟩ => ⟨m, e, h1, h2, fun r a b => h _ (k r a b)⟩
structure TkTxt (mg : Str → Option Value) : Prop where
  len : mg "len" = none

abbrev tIx (K : PySem.W.Frag) (k : Int) : TE := tOp (rIx K) (tVar 0) (tC (.int k))
theorem atI4 {a b c d : V} : atI [a, b, c, d] 0 = some a ∧ atI [a, b, c, d] 1 = some b ∧ atI [a, b, c, d] 2 = some c ∧ atI [a, b, c, d] 3 = some d := ⟨rfl, rfl, rfl, rfl⟩

/-! ### arguments that are all data -/
section
variable {K : PySem.W.Frag} {s : Option Addr} {Z : List Sk} {O : Own} {P : PyData → Prop} {PD PL : List PyData → Prop} {ta te : TE} {tr : TA} {R : List PyData → (PyData → Prop) → Prop} {E : XK}
theorem wa_imp {PA PA' : List Sk → Prop} (h : WA K s tr Z O PA') (k : ∀ d, PA' d → PA d) : WA K s tr Z O PA := fun F σ G H c Q q => h F σ G H c Q fun v d G' H' c' e hd hp => q v d G' H' c' e hd (k d hp)
def WD (K : PySem.W.Frag) (s : Option Addr) (ta : TA) (Z : List Sk) (O : Own) (P : List PyData → Prop) : Prop := WA K s ta Z O fun ks => ∃ ds, datas ks = some ds ∧ P ds
theorem wd_nil (p : PD []) : WD K s tNil Z O PD := wa_nil ⟨[], rfl, p⟩
theorem wd_cons (h : WE K s ta Z O fun x => WD K s tr Z O fun ds => PD (x :: ds)) : WD K s (tCons ta tr) Z O PD :=
  wa_cons (we_imp h fun x hx => wa_imp hx fun ks ⟨ds, e, p⟩ => ⟨x :: ds, by
    show (datas ks).map (x :: ·) = _
    rw [e]
    rfl, p⟩)
theorem we_tupD (h : WD K s tr Z O fun ds => Nat.ble ds.length 100000 = true ∧ P (.tuple ds)) : WE K s (tTup tr) Z O P :=
  we_tup (wa_imp h fun ks ⟨ds, e, hl, p⟩ => ⟨ds, e, Nat.le_of_ble_eq_true hl, p⟩)
theorem wl_lstD (h : WD K s tr Z O fun ds => Nat.ble ds.length 100000 = true ∧ PL ds) : WL K s (tLst tr) Z O PL :=
  wl_lst (wa_imp h fun ks ⟨ds, e, hl, p⟩ => ⟨ds, e, Nat.le_of_ble_eq_true hl, p⟩)
theorem we_lstD (h : WD K s tr Z O fun ds => Nat.ble ds.length 100000 = true ∧ P (.list ds)) : WE K s (tLst tr) Z O P := we_of (wl_lstD h)
/-- a contract grows with what is wanted -/
class MonoR (R : List PyData → (PyData → Prop) → Prop) : Prop where
  mono : ∀ ds P Q, (∀ d, P d → Q d) → R ds P → R ds Q
theorem we_callP [m : MonoR R] (h : WD K s tr Z O fun ds => R ds P) : WE K s (tCall (spP K R) [] E tr) Z O P :=
  we_call (wa_imp h fun ks ⟨ds, e, p⟩ => ⟨ds, e, p⟩) m.mono
theorem we_callX [m : MonoR R] {b : Addr} {i : Nat} (hi : Z[i]? = some (.v (.ref b))) (h : WD K (some b) tr Z O fun ds => R ds P) : WE K (some b) (tCall (spB K R) [] E (tCons (tVar i) tr)) Z O P :=
  we_callB (wa_raw hi (wa_imp h fun ks ⟨ds, e, p⟩ => ⟨ks, ds, rfl, e, p⟩)) m.mono
instance : MonoR R_take := ⟨R_take_mono⟩
end
theorem mono_ex {α : Type} {A B : α → Prop} (h : ∀ x, A x → B x) : (∃ x, A x) → ∃ x, B x := fun ⟨x, a⟩ => ⟨x, h x a⟩
theorem mono_and {a b b' : Prop} (h : b → b') : a ∧ b → a ∧ b' := fun ⟨x, y⟩ => ⟨x, h y⟩
theorem mono_imp {a b b' : Prop} (h : b → b') : (a → b) → a → b' := fun f x => h (f x)
theorem mono_all {α : Type} {A B : α → Prop} (h : ∀ x, A x → B x) : (∀ x, A x) → ∀ x, B x := fun f x => h x (f x)

/-! ### a target that stores a block's own names alone -/
def Ow (g : TG) (vs : List Nat) : Prop := ∀ x σ H (Q Q' : L2.St → Hp → Prop), (∀ σ2 H2, wipe σ2 vs = wipe σ vs → Q σ2 H2 → Q' σ2 H2) → g x σ H Q → g x σ H Q'
def Ows (g : TGs) (vs : List Nat) : Prop := ∀ x σ H (Q Q' : L2.St → Hp → Prop), (∀ σ2 H2, wipe σ2 vs = wipe σ vs → Q σ2 H2 → Q' σ2 H2) → g x σ H Q → g x σ H Q'
theorem wipe_at : ∀ (vs : List Nat) (σ : L2.St) (i : Nat), (wipe σ vs)[i]? = if i ∈ vs ∧ i < σ.length then some none else σ[i]?
  | [], σ, i => by simp [wipe]
  | v :: vs, σ, i => by
    show ((wipe σ vs).set v none)[i]? = _
    rw [List.getElem?_set, wipe_at vs σ i, wipe_length]
    by_cases h : v = i
    · subst h
      by_cases h2 : v < σ.length
      · simp [h2]
      · simp [h2]
    · have h' : i ≠ v := fun z => h z.symm
      simp [h, h']
theorem wipe_set {vs : List Nat} {σ : L2.St} {i : Nat} {x : Option V} (h : i ∈ vs) : wipe (σ.set i x) vs = wipe σ vs := by
  apply List.ext_getElem?
  intro j
  rw [wipe_at, wipe_at, List.length_set, List.getElem?_set]
  by_cases hj : i = j
  · subst hj
    by_cases h2 : i < σ.length
    · simp [h, h2]
    · simp [h, h2]
  · simp [hj]
theorem wipe_wipe {vs : List Nat} {σ : L2.St} : wipe (wipe σ vs) vs = wipe σ vs := by
  apply List.ext_getElem?
  intro j
  rw [wipe_at, wipe_length, wipe_at]
  split <;> rfl
theorem ow_name {i : Nat} {vs : List Nat} (h : i ∈ vs) : Ow (gName i) vs := fun x σ H Q Q' k q => k _ _ (wipe_set h) q
theorem ows_nil {vs : List Nat} : Ows gNil vs := fun x σ H Q Q' k ⟨e, q⟩ => ⟨e, k _ _ rfl q⟩
theorem ows_cons {g : TG} {u : TGs} {vs : List Nat} (hg : Ow g vs) (hu : Ows u vs) : Ows (gCons g u) vs := fun x σ H Q Q' k ⟨v, r, e, q⟩ =>
  ⟨v, r, e, hg v σ H _ _ (fun σ1 H1 e1 q1 => hu r σ1 H1 _ _ (fun σ2 H2 e2 q2 => k σ2 H2 (e2.trans e1) q2) q1) q⟩
theorem ow_tup {K : PySem.W.Frag} {n : Nat} {u : TGs} {vs : List Nat} (hu : Ows u vs) : Ow (gTup K n u) vs := fun x σ H Q Q' k ⟨a, xs, e, h, hl, q⟩ => ⟨a, xs, e, h, hl, hu xs σ H _ _ k q⟩
section
variable {K : PySem.W.Frag} {s : Option Addr} {Z : List Sk} {O : Own} {P : PyData → Prop}
theorem wl_comp {wi : TI} {g : TG} {tt : TT} {te : TE} {vs : List Nat} {PL : List PyData → Prop} (og : Ow g vs) (I : Nat → List PyData → Prop) (n : Nat) (Yd : Nat → PyData → Prop) (hw : IW K s wi Z O fun n' Y' => n' = n ∧ Y' = Yd) (h0 : I 0 []) (hn : n ≤ 50000)
    (hil : ∀ i acc, I i acc → acc.length ≤ i)
    (hs : ∀ i d acc p, i < n → Yd i d → I i acc → GW K s g d (wipeZ Z vs) ((p, acc) :: O) fun Z2 O2 => O2 = (p, acc) :: O ∧ WT K s tt Z2 O2 fun b => if b = true then WE K s te Z2 O2 fun y => I (i + 1) (acc ++ [y]) else I (i + 1) acc)
    (hd : ∀ acc, I n acc → PL acc) : WL K s (tLc wi g tt te vs) Z O PL :=
  wl_lc I n Yd hw h0 hn hil (fun x σ H Q h => og x _ H _ _ (fun σ2 H2 e q => ⟨e.trans wipe_wipe, q (e.trans wipe_wipe)⟩) h) hs hd
/-- no test, each element by a function of the turn's datum: the list is told -/
theorem wl_map {wi : TI} {g : TG} {te : TE} {vs : List Nat} {PL : List PyData → Prop} (og : Ow g vs) (n : Nat) (Yd : Nat → PyData → Prop) (out : List PyData) (hw : IW K s wi Z O fun n' Y' => n' = n ∧ Y' = Yd) (hn : n ≤ 50000) (ho : out.length = n)
    (hs : ∀ i d y p acc, i < n → Yd i d → out[i]? = some y → GW K s g d (wipeZ Z vs) ((p, acc) :: O) fun Z2 O2 => O2 = (p, acc) :: O ∧ WE K s te Z2 O2 fun z => z = y)
    (hd : PL out) : WL K s (tLc wi g tYes te vs) Z O PL := by
  refine wl_comp og (fun i acc => acc = out.take i) n Yd hw rfl hn (fun i acc e => by rw [e, List.length_take]; omega) (fun i d acc p hi hy e => ?_) (fun acc e => ?_)
  · have hi2 : i < out.length := by omega
    have h1 : out[i]? = some out[i] := List.getElem?_eq_getElem hi2
    intro F v σ G H c hx Q q
    refine hs i d _ p acc hi hy h1 F v σ G H c hx Q fun Z' O' σ' G' H' c' e' ⟨eo, h2⟩ => q Z' O' σ' G' H' c' e' ⟨eo, ?_⟩
    intro F2 σ2 G2 H2 c2 Q2 q2
    refine q2 true G2 H2 c2 (Evl.Ex.refl _) ?_
    show if true = true then _ else _
    rw [if_pos rfl]
    refine we_imp h2 fun z hz => ?_
    rw [hz, e, List.take_succ, h1]
    rfl
  · have e2 : acc = out := by rw [e, ← ho, List.take_length]
    rw [e2]
    exact hd
end

section
variable {K : PySem.W.Frag} {s : Option Addr} {Z : List Sk} {O : Own} {PB : Bool → Prop} {t : TT} {te : TE} {P : PyData → Prop}
theorem wt_true (h : WT K s t Z O fun b => b = true) (k : PB true) : WT K s t Z O PB := wt_imp h fun b e => by
  subst e
  exact k
theorem wt_false (h : WT K s t Z O fun b => b = false) (k : PB false) : WT K s t Z O PB := wt_imp h fun b e => by
  subst e
  exact k
theorem wt_is {c : Bool} (h : WT K s t Z O fun b => b = c) (k : PB c) : WT K s t Z O PB := wt_imp h fun b e => by
  subst e
  exact k
theorem we_is {d : PyData} (h : WE K s te Z O fun x => x = d) (k : P d) : WE K s te Z O P := we_imp h fun b e => by
  subst e
  exact k
end

theorem wl_imp {K : PySem.W.Frag} {s : Option Addr} {Z : List Sk} {O : Own} {te : TE} {PL PL' : List PyData → Prop} (h : WL K s te Z O PL') (k : ∀ d, PL' d → PL d) : WL K s te Z O PL := fun F σ G H c Q q => h F σ G H c Q fun p ds G' H' c' e hp => q p ds G' H' c' e (k ds hp)

section
variable {K : PySem.W.Frag} {s : Option Addr} {Z : List Sk} {O : Own} {P : PyData → Prop} {ta tb tc : TE} {tr : TA}
theorem we_ixV {i : Nat} (h : WE K s (tVar i) Z O fun x => WE K s tb Z O fun y => ∃ i d, y = .int i ∧ ItemAt x i d ∧ P d) : WE K s (tOp (rIx K) (tVar i) tb) Z O P := we_ix h
theorem we_ixI (h : WE K s (tOp (rIx K) ta tc) Z O fun x => WE K s tb Z O fun y => ∃ i d, y = .int i ∧ ItemAt x i d ∧ P d) : WE K s (tOp (rIx K) (tOp (rIx K) ta tc) tb) Z O P := we_ix h
theorem we_ixC {sp : Sp} {dvs : List V} {E : XK} (h : WE K s (tCall sp dvs E tr) Z O fun x => WE K s tb Z O fun y => ∃ i d, y = .int i ∧ ItemAt x i d ∧ P d) : WE K s (tOp (rIx K) (tCall sp dvs E tr) tb) Z O P := we_ix h
/-- an item of a display by a drawn place: what holds of each -/
theorem we_pick (P' : PyData → Prop) (h : WE K s (tLst tr) Z O fun x => WE K s tb Z O fun y => ∃ i d, y = .int i ∧ ItemAt x i d ∧ P' d) (k : ∀ d, P' d → P d) : WE K s (tOp (rIx K) (tLst tr) tb) Z O P := we_imp (we_ix h) k
end

theorem wt_yes {K : PySem.W.Frag} {s : Option Addr} {Z : List Sk} {O : Own} {PB : Bool → Prop} (p : PB true) : WT K s tYes Z O PB := fun F σ G H c Q q => q true G H c (Evl.Ex.refl _) p
end DL

/-! DLm: more operators by data: stars in displays, slices, sums and multiples of lists and tuples, chains of comparisons. -/
namespace DL
open PySem PySem.Spec PyProof.Rows L2
open Evl (Ex)
section
variable {K : PySem.W.Frag} {F : Fb} {s : Option Addr} {Z : List Sk} {O : Own} {P : PyData → Prop} {PB : Bool → Prop} {PD PL : List PyData → Prop} {ta tb tc te : TE} {tr : TA} {σ : L2.St} {G H : Hp}
theorem Cfg.tail {p : Addr × List PyData} (c : Cfg K F s Z (p :: O) σ G H) : Cfg K F s Z O σ G H :=
  ⟨c.len, c.sl, c.ex, c.box, c.bxM, fun q ds h => c.own q ds (List.mem_cons_of_mem _ h), (List.nodup_cons.mp (by have := c.nd; rwa [List.map_cons] at this)).2, c.e0, c.h0, c.h1, c.g0⟩
/-- *e in a display -/
theorem wd_star (h : WE K s ta Z O fun x => ∃ ds, (x = .list ds ∨ x = .tuple ds) ∧ WD K s tr Z O fun es => PD (ds ++ es)) : WD K s (StX.tStar K ta tr) Z O PD := fun F σ G H c Q q =>
  h F σ G H c _ fun v x G1 H1 c1 e1 hx ⟨ds, ex, hp⟩ => by
    have dapp : ∀ {a : List Sk} {b : List PyData} (as : List PyData), datas a = some b → datas (as.map Sk.d ++ a) = some (as ++ b) := by
      intro a b as e
      induction as with
      | nil => exact e
      | cons y ys ih =>
        show (datas (ys.map Sk.d ++ a)).map (y :: ·) = _
        rw [ih]
        rfl
    have aapp : ∀ {G : Hp} {us vs : List V} {as : List PyData} {b : List Sk}, DpAll K G us as → ArgOk K G vs b → ArgOk K G (us ++ vs) (as.map Sk.d ++ b) := by
      intro G us vs as b h1 h2
      induction as generalizing us with
      | nil => cases h1; exact h2
      | cons y ys ih =>
        cases h1 with
        | cons q1 q2 => exact ⟨⟨_, rfl, q1⟩, ih q2⟩
    rcases ex with ex | ex <;> subst ex
    · cases hx with
      | @lst a vs _ hs ha =>
        refine ⟨a, vs, rfl, .inr (Evl.ex_l c1.ex hs), hp F σ G1 H1 c1 _ fun us ks G2 H2 c2 e2 hk ⟨es, he, p⟩ => ?_⟩
        exact q (vs ++ us) (ds.map Sk.d ++ ks) G2 H2 c2 (e1.trans e2) (aapp (dpa_mono e2 _ _ ha) hk) ⟨_, dapp ds he, p⟩
    · cases hx with
      | @tup a vs _ hs ha =>
        refine ⟨a, vs, rfl, .inl (Evl.ex_t c1.ex hs), hp F σ G1 H1 c1 _ fun us ks G2 H2 c2 e2 hk ⟨es, he, p⟩ => ?_⟩
        exact q (vs ++ us) (ds.map Sk.d ++ ks) G2 H2 c2 (e1.trans e2) (aapp (dpa_mono e2 _ _ ha) hk) ⟨_, dapp ds he, p⟩

/-! ### slices -/
def WO (K : PySem.W.Frag) (s : Option Addr) (to : TO) (Z : List Sk) (O : Own) (P : Option Int → Prop) : Prop :=
  ∀ (F : Fb) σ G H, Cfg K F s Z O σ G H → ∀ Q : Option Int → Hp → Prop, (∀ o G' H', Cfg K F s Z O σ G' H' → Ex G G' → P o → Q o H') → to σ H Q
theorem wo_no {PO : Option Int → Prop} (p : PO none) : WO K s tNoPart Z O PO := fun F σ G H c Q q => q none G H c (Evl.Ex.refl _) p
theorem wo_part {PO : Option Int → Prop} (h : WE K s te Z O fun x => ∃ i, x = .int i ∧ PO (some i)) : WO K s (tPart te) Z O PO := fun F σ G H c Q q =>
  h F σ G H c _ fun v x G1 H1 c1 e1 hx ⟨i, ex, p⟩ => by
    subst ex
    cases hx
    exact ⟨i, rfl, q _ G1 H1 c1 e1 p⟩
def sliceD (ds : List PyData) (lo hi : Option Int) : List PyData := (ds.drop (HT.sIx ds.length 0 lo)).take (HT.sIx ds.length ds.length hi - HT.sIx ds.length 0 lo)
theorem dpa_cut {vs : List V} {ds : List PyData} {lo hi : Option Int} (h : DpAll K G vs ds) : DpAll K G (cutV vs lo hi) (sliceD ds lo hi) := by
  unfold cutV sliceD
  rw [dpa_len h]
  exact dpa_take _ (dpa_drop _ h)
theorem wl_slice {tl th : TO} (h : WE K s ta Z O fun x => ∃ ds, x = .list ds ∧ WO K s tl Z O fun lo => WO K s th Z O fun hi => PL (sliceD ds lo hi)) : WL K s (tSl (rSlL K) ta tl th) Z O PL := fun F σ G H c Q q =>
  h F σ G H c _ fun v x G1 H1 c1 e1 hx ⟨ds, ex, hl⟩ => hl F σ G1 H1 c1 _ fun lo G2 H2 c2 e2 hh => hh F σ G2 H2 c2 _ fun hi G3 H3 c3 e3 p => by
    subst ex
    cases hx with
    | @lst a vs _ hs ha =>
      have e23 := e2.trans e3
      refine ⟨a, vs, rfl, Evl.ex_l (e23.trans c3.ex) hs, fun pp hp => q pp _ G3 _ (c3.newOwn hp (dpa_cut (dpa_mono e23 _ _ ha))) (e1.trans e23) p⟩
theorem we_slTup {tl th : TO} (h : WE K s ta Z O fun x => ∃ ds, x = .tuple ds ∧ WO K s tl Z O fun lo => WO K s th Z O fun hi => P (.tuple (sliceD ds lo hi))) : WE K s (tSl (rSlA K) ta tl th) Z O P := fun F σ G H c Q q =>
  h F σ G H c _ fun v x G1 H1 c1 e1 hx ⟨ds, ex, hl⟩ => hl F σ G1 H1 c1 _ fun lo G2 H2 c2 e2 hh => hh F σ G2 H2 c2 _ fun hi G3 H3 c3 e3 p => by
    subst ex
    cases hx with
    | @tup a vs _ hs ha =>
      have e23 := e2.trans e3
      have hs3 := Evl.ex_t e23 hs
      have ha3 := dpa_mono e23 _ _ ha
      refine ⟨a, vs, rfl, Evl.ex_t c3.ex hs3, fun hw => ?_, fun hw pp hp => ?_⟩
      · refine q (.ref a) _ G3 H3 c3 (e1.trans e23) ?_ p
        have e : sliceD ds lo hi = ds := by
          have hl := dpa_len ha
          unfold sliceD
          rw [← hl, hw.1, hw.2, List.drop_zero, Nat.sub_zero, hl, List.take_length]
        rw [e]
        exact .tup hs3 ha3
      · obtain ⟨c4, e4⟩ := c3.new (o := .tup (cutV vs lo hi)) hp
        exact q (.ref pp) _ _ _ c4 ((e1.trans e23).trans e4) (.tup (.inl (.inl upd_same)) (dpa_mono e4 _ _ (dpa_cut ha3))) p
theorem we_slStr {tl th : TO} (h : WE K s ta Z O fun x => ∃ z, x = .str z ∧ z.length ≤ 100000 ∧ WO K s tl Z O fun lo => WO K s th Z O fun hi => P (.str (cutS z lo hi))) : WE K s (tSl rSlS ta tl th) Z O P := fun F σ G H c Q q =>
  h F σ G H c _ fun v x G1 H1 c1 e1 hx ⟨z, ex, hz, hl⟩ => hl F σ G1 H1 c1 _ fun lo G2 H2 c2 e2 hh => hh F σ G2 H2 c2 _ fun hi G3 H3 c3 e3 p => by
    subst ex
    cases hx
    exact ⟨z, rfl, Evl.sz_of hz, q _ _ G3 H3 c3 ((e1.trans e2).trans e3) (.str _) p⟩

/-! ### sums and multiples -/
theorem wl_cat (h : WL K s ta Z O fun xs => ∀ p, WL K s tb Z ((p, xs) :: O) fun ys => xs.length + ys.length ≤ 100000 ∧ PL (xs ++ ys)) : WL K s (tOp rCat ta tb) Z O PL := fun F σ G H c Q q =>
  h F σ G H c _ fun p xs G1 H1 c1 e1 hp => hp p F σ G1 H1 c1 _ fun r ys G2 H2 c2 e2 ⟨hl, pl⟩ => by
    obtain ⟨_, _, _, us, u4, u5⟩ := c2.own r ys (List.mem_cons_self ..)
    obtain ⟨_, _, _, vs, v4, v5⟩ := c2.own p xs (List.mem_cons_of_mem _ (List.mem_cons_self ..))
    refine ⟨p, r, vs, us, rfl, rfl, v4, u4, Evl.sz_of (by rw [dpa_len u5, dpa_len v5]; exact hl), fun t ht => q t _ G2 _ (c2.tail.tail.newOwn ht (dpa_app v5 u5)) (e1.trans e2) pl⟩
theorem dpa_rep {vs : List V} {ds : List PyData} (h : DpAll K G vs ds) : ∀ n : Nat, DpAll K G (List.replicate n vs).flatten (List.replicate n ds).flatten
  | 0 => .nil
  | n + 1 => by
    rw [List.replicate_succ, List.replicate_succ, List.flatten_cons, List.flatten_cons]
    exact dpa_app h (dpa_rep h n)
theorem wl_rep (h : WL K s ta Z O fun xs => ∀ p, WE K s tb Z ((p, xs) :: O) fun y => ∃ k : Int, y = .int k ∧ -(2 ^ 62) ≤ k ∧ k < 2 ^ 62 ∧ xs.length * k.toNat ≤ 100000 ∧ PL (List.replicate k.toNat xs).flatten) : WL K s (tOp rRep ta tb) Z O PL := fun F σ G H c Q q =>
  h F σ G H c _ fun p xs G1 H1 c1 e1 hp => hp p F σ G1 H1 c1 _ fun w y G2 H2 c2 e2 hy ⟨k, ey, k1, k2, hl, pl⟩ => by
    subst ey
    cases hy
    obtain ⟨_, _, _, vs, v4, v5⟩ := c2.own p xs (List.mem_cons_self ..)
    refine ⟨p, k, vs, rfl, rfl, v4, by omega, by omega, Evl.sz_of (by rw [dpa_len v5]; exact hl), fun t ht => q t _ G2 _ (c2.tail.newOwn ht (dpa_rep v5 _)) (e1.trans e2) pl⟩
theorem we_catT (h : WE K s ta Z O fun x => WE K s tb Z O fun y => ∃ ds es, x = .tuple ds ∧ y = .tuple es ∧ ds.length + es.length ≤ 100000 ∧ P (.tuple (ds ++ es))) : WE K s (tOp (rCatA K) ta tb) Z O P := fun F σ G H c Q q =>
  h F σ G H c _ fun v x G1 H1 c1 e1 hx hp => hp F σ G1 H1 c1 _ fun w y G2 H2 c2 e2 hy ⟨ds, es, ex, ey, hl, p⟩ => by
    subst ex ey
    cases hx with
    | @tup a vs _ hs ha =>
      cases hy with
      | @tup b ws _ ht hb =>
        have ha2 := dpa_mono e2 _ _ ha
        have hs2 := Evl.ex_t e2 hs
        refine ⟨a, b, vs, ws, rfl, rfl, Evl.ex_t c2.ex hs2, Evl.ex_t c2.ex ht, Evl.sz_of (by rw [dpa_len ha, dpa_len hb]; exact hl), fun e => ?_, fun _ e => ?_, fun _ _ t hn => ?_⟩
        · subst e
          cases ha
          exact q _ _ G2 H2 c2 (e1.trans e2) (.tup ht hb) p
        · subst e
          cases hb
          rw [List.append_nil] at p
          exact q _ _ G2 H2 c2 (e1.trans e2) (.tup hs2 ha2) p
        · obtain ⟨c3, e3⟩ := c2.new (o := .tup (vs ++ ws)) hn
          exact q (.ref t) _ _ _ c3 ((e1.trans e2).trans e3) (.tup (.inl (.inl upd_same)) (dpa_mono e3 _ _ (dpa_app ha2 hb))) p

/-! ### a < b < c of ints -/
theorem we_chainI {f g : Int → Int → Bool} (h : WE K s ta Z O fun x => WE K s tb Z O fun y => ∃ i j, x = .int i ∧ y = .int j ∧ if f i j = true then WE K s tc Z O fun z => ∃ l, z = .int l ∧ P (.bool (g j l)) else P (.bool false)) :
    WE K s (tChain (rI0 fun i j => .bl (f i j)) (rI0 fun i j => .bl (g i j)) ta tb tc) Z O P := fun F σ G H c Q q =>
  h F σ G H c _ fun v x G1 H1 c1 e1 hx hp => hp F σ G1 H1 c1 _ fun w y G2 H2 c2 e2 hy ⟨i, j, ex, ey, p⟩ => by
    subst ex ey
    cases hx
    cases hy
    refine ⟨i, j, rfl, rfl, f i j, rfl, ?_⟩
    cases hf : f i j with
    | true =>
      rw [hf, if_pos rfl] at p
      rw [if_pos rfl]
      exact p F σ G2 H2 c2 _ fun u z G3 H3 c3 e3 hz ⟨l, ez, p3⟩ => by
        subst ez
        cases hz
        exact ⟨j, l, rfl, rfl, q _ _ G3 H3 c3 ((e1.trans e2).trans e3) (.bl _) p3⟩
    | false =>
      rw [hf, if_neg Bool.false_ne_true] at p
      rw [if_neg Bool.false_ne_true]
      exact q _ _ G2 H2 c2 (e1.trans e2) (.bl false) p
theorem nc_max {hc : True} {i j : Int} : NCall K (fun xs H Q => ∃ i j, xs = [.int i, .int j] ∧ Q (.int (if j > i then j else i)) H) [.d (.int i), .d (.int j)] (.int (if j > i then j else i)) := fun vs G H Q _ ha q => by
  match vs, ha with
  | [v, w], ⟨⟨_, e1, h1⟩, ⟨_, e2, h2⟩, _⟩ =>
    cases e1
    cases e2
    cases h1
    cases h2
    exact ⟨i, j, rfl, q _ (.int _)⟩
end
section
variable {X : Cx} {K : PySem.W.Frag}
theorem sl_listK (h : X.K = K) : SlR X (rSlL K) := h ▸ sl_list
theorem sl_tupK (h : X.K = K) : SlR X (rSlA K) := h ▸ sl_tupA
theorem op_catAK (h : X.K = K) : OpR X (binaryOp .Add) (rCatA K) := h ▸ op_catA
theorem pa_starK {e : Expr} {es : List Expr} {te : TE} {t : TA} {p : Pos} (h : X.K = K) (he : PE X e te) (hr : PA X es t) (hs : starEach (.Starred e p :: es) X.env = (true, eval e X.env) :: starEach es X.env := by rfl) : PA X (.Starred e p :: es) (StX.tStar K te t) := h ▸ StX.pa_star he hr hs
end
end DL

/-! DLz: zip of two sequences of any kinds (a list and a tuple, too). -/
namespace DL
open PySem PySem.Spec PyProof.Rows L2
open Evl (Ex)
/-- a list (false) or a tuple (true) that is read -/
def SqB (K : PySem.W.Frag) (b : Bool) (H : Hp) (a : Addr) (xs : List V) : Prop := match b with
  | false => SqL K H a xs
  | true => SqT K H a xs
/-- the place of its iterator -/
def ItAt (b : Bool) (h : Heap) (it a : Addr) (i : Nat) : Prop := match b with
  | false => h.IsListIter it a i
  | true => h.IsTupleIter it a i
def SeqIs (b : Bool) (h : Heap) (a : Addr) (its : Array Value) : Prop := match b with
  | false => h.IsList a its
  | true => h.IsTuple a its
theorem SqB.mono {K : PySem.W.Frag} {b : Bool} {H H' : Hp} {a : Addr} {xs : List V} (e : Ex H H') (h : SqB K b H a xs) : SqB K b H' a xs := by
  cases b with
  | false => exact Evl.ex_l e h
  | true => exact Evl.ex_t e h
theorem ItAt.at {b : Bool} {h h' : Heap} {it a : Addr} {i : Nat} (x : ItAt b h it a i) (k : ∀ o, h.get? it = some o → h'.get? it = some o) : ItAt b h' it a i := by
  cases b with
  | false => exact Heap.IsListIter.at x k
  | true => exact Heap.IsTupleIter.at x k
theorem ItAt.obj {b : Bool} {h : Heap} {it a : Addr} {i : Nat} (x : ItAt b h it a i) : ∃ o, h.get? it = some o ∧ ∀ v, o.data ≠ .cell v := by
  cases b with
  | false =>
    obtain ⟨o, e, _, d⟩ := x
    exact ⟨o, e, fun v z => by rw [d] at z; cases z⟩
  | true =>
    obtain ⟨o, e, _, d⟩ := x
    exact ⟨o, e, fun v z => by rw [d] at z; cases z⟩
theorem draws {prog : Program} {w : World} {A : Around} (b : Bool) (hh : A.handled = none) (it l : Addr) (hne : l ≠ it) (items : Array Value) :
    Draws prog w A it [it, l] items.size (fun i v => items[i]? = some v) (fun i h => ItAt b h it l i ∧ SeqIs b h l items) := by
  cases b with
  | false => exact Draws.list hh it l hne items
  | true => exact Draws.tuple hh it l hne items
theorem seq_inv {X : Cx} {pins : List (Addr × Obj)} {σ : L2.St} {H : Hp} {s : Shared} {b : Bool} {a : Addr} {xs : List V} (I : Inv X pins σ H s) (h : SqB X.K b H a xs) : ∃ its : List Value, Vals xs its ∧ SeqIs b s.heap a its.toArray ∧ a < s.heap.objs.size := by
  cases b with
  | false =>
    obtain ⟨its, r, p, _⟩ := I.list h
    exact ⟨its, r, p.isList, p.lt⟩
  | true =>
    obtain ⟨its, r, p, _⟩ := I.tuple h
    obtain ⟨o, ho, _⟩ := id p
    exact ⟨its, r, p, Heap.lt_size ho⟩
theorem begins {b : Bool} (a : Addr) (its : Array Value) : ∃ o, Begins (.ref a) o (fun h => SeqIs b h a its) ∧ ∀ h it, h.get? it = some o → ItAt b h it a 0 := by
  cases b with
  | false => exact ⟨_, begins_list a its, fun h it e => ⟨_, e, rfl, rfl⟩⟩
  | true => exact ⟨_, begins_tuple a its, fun h it e => ⟨_, e, rfl, rfl⟩⟩
/-- both, as they stand all along: a new pair at each turn -/
def ItzB (K : PySem.W.Frag) (b1 b2 : Bool) (a1 a2 : Addr) (xs ys : List V) : It :=
  ⟨fun i H => SqB K b1 H a1 xs ∧ SqB K b2 H a2 ys ∧ i < min xs.length ys.length,
    fun i H v H' => ∃ T x y, v = .ref T ∧ H T = none ∧ H' = upd H T (.tup [x, y]) ∧ xs[i]? = some x ∧ ys[i]? = some y,
    fun i H => SqB K b1 H a1 xs ∧ SqB K b2 H a2 ys ∧ i = min xs.length ys.length⟩
/-- the five cells of a zip that were made at N -/
abbrev zfp (N : Nat) : List Addr := [N + 4, N + 2, N + 3, N, N + 1]
theorem turn_zipB {P : Program} {w : World} {K : PySem.W.Frag} {elts : List Expr} {kk : Nat} {tpos : Pos} {b1 b2 : Bool} {a1 a2 : Addr} {xs ys : List V} {N : Nat} (l1 : a1 < N) (l2 : a2 < N) :
    Turn P w K (.Tuple elts kk tpos) (ItzB K b1 b2 a1 a2 xs ys) (zfp N) (N + 4 : Nat)
      (fun i h => IsZip h (N + 4 : Nat) (N + 2 : Nat) (N + 3 : Nat) .none ∧ IsTupOf2 h (N + 2 : Nat) (.ref N) (.ref (N + 1 : Nat)) ∧ (∃ x y, IsTupOf2 h (N + 3 : Nat) x y) ∧ ItAt b1 h N a1 i ∧ ItAt b2 h (N + 1 : Nat) a2 i) where
  mem := List.mem_cons_self ..
  obj := fun i h st c hc => by
    obtain ⟨hz, hTI, ⟨x, y, hTO⟩, h1, h2⟩ := st
    simp only [zfp, List.mem_cons, List.mem_nil_iff, or_false] at hc
    rcases hc with q | q | q | q | q
    · rw [q]; exact ⟨_, hz, fun v z => nomatch z⟩
    · rw [q]; exact ⟨_, hTI, fun v z => nomatch z⟩
    · rw [q]; exact ⟨_, hTO, fun v z => nomatch z⟩
    · rw [q]; exact h1.obj
    · rw [q]; exact h2.obj
  keep := fun i h h' st k => by
    obtain ⟨hz, hTI, ⟨x, y, hTO⟩, h1, h2⟩ := st
    exact ⟨k _ (by simp [zfp]) _ hz, k _ (by simp [zfp]) _ hTI, ⟨x, y, k _ (by simp [zfp]) _ hTO⟩, h1.at fun o q => k _ (by simp [zfp]) o q, h2.at fun o q => k _ (by simp [zfp]) o q⟩
  item := by
    intro X hP hw hK hc i pins s σ H E I hf st hg
    subst hP hw hK
    obtain ⟨hz, hTI, hTO, h1, h2⟩ := st
    obtain ⟨hqx, hqy, hi⟩ := hg
    obtain ⟨its1, r1, p1, _⟩ := seq_inv I hqx
    obtain ⟨its2, r2, p2, _⟩ := seq_inv I hqy
    have hh : X.A.in1.handled = none := I.ok.hd hc
    have S := zip_sep2 (N := N) (fp1 := [a1]) (fp2 := [a2]) (fun b hb => by rw [List.mem_singleton.mp hb]; exact l1) (fun b hb => by rw [List.mem_singleton.mp hb]; exact l2)
    have W := GoesN.zip2 (elts := elts) (x1 := kk) (pos := tpos) S (draws (prog := X.prog) (w := X.w) b1 hh N a1 (Nat.ne_of_lt l1) its1.toArray) (draws (prog := X.prog) (w := X.w) b2 hh (N + 1 : Nat) a2 (Nat.ne_of_lt (Nat.lt_succ_of_lt l2)) its2.toArray)
    have hn : i < min its1.toArray.size its2.toArray.size := by
      rw [List.size_toArray, List.size_toArray, ← r1.length, ← r2.length]
      exact hi
    have hgo := W.goes i s (fun u s2 => ∃ x H', Inv X pins σ H' s2 ∧ RelV x u ∧ (ItzB X.K b1 b2 a1 a2 xs ys).yld i H x H' ∧ (IsZip s2.heap (N + 4 : Nat) (N + 2 : Nat) (N + 3 : Nat) .none ∧ IsTupOf2 s2.heap (N + 2 : Nat) (.ref N) (.ref (N + 1 : Nat)) ∧ (∃ x y, IsTupOf2 s2.heap (N + 3 : Nat) x y) ∧ ItAt b1 s2.heap N a1 (i + 1) ∧ ItAt b2 s2.heap (N + 1 : Nat) a2 (i + 1)) ∧ ∀ b ∈ zfp N, H' b = none) E hn ⟨hz, hTI, hTO, ⟨h1, p1⟩, ⟨h2, p2⟩⟩ ?_
    · exact wpAny_mono hgo (fun r s1 q => q) fun _ _ e => e
    intro v h' tk hy st' hk htk
    obtain ⟨T, u1, u2, ev, hT, hu1, hu2, hTup⟩ := hy
    obtain ⟨hz', hTI', hTO', ⟨h1', _⟩, ⟨h2', _⟩⟩ := st'
    have e1 : xs[i]? = some xs[i] := List.getElem?_eq_getElem (by omega)
    have e2 : ys[i]? = some ys[i] := List.getElem?_eq_getElem (by omega)
    obtain ⟨w1, g1, rv1⟩ := r1.get e1
    obtain ⟨w2, g2, rv2⟩ := r2.get e2
    have f1 : w1 = u1 := by
      have : its1[i]? = some u1 := by simpa using hu1
      rw [g1] at this
      exact Option.some.inj this
    have f2 : w2 = u2 := by
      have : its2[i]? = some u2 := by simpa using hu2
      rw [g2] at this
      exact Option.some.inj this
    subst f1 f2
    have new : ObjOk X.prog X.w (upd H T (.tup [xs[i], ys[i]])) h' T (.tup [xs[i], ys[i]]) := by
      refine ⟨by show 2 ≤ sizeLine; decide, [w1, w2], .cons rv1 (.cons rv2 .nil), ?_⟩
      exact hTup
    have I1 := I.turnedNew (t' := tk) (ch := zfp N) (fun c o hb q => hk c o (fun z => hb (by
      simp only [List.mem_cons, List.mem_nil_iff, or_false] at z
      simp only [zfp, List.mem_cons, List.mem_nil_iff, or_false]
      rcases z with z | z | z | z <;> simp [z])) q) hf hT new
    refine ⟨.ref T, _, I1, ev, ⟨T, _, _, rfl, I.hok.fresh hT, rfl, e1, e2⟩, ⟨hz', hTI', hTO', h1', h2'⟩, fun c hcm => ?_⟩
    have hlt : c < s.heap.objs.size := by
      obtain ⟨x0, y0, hTO0⟩ := hTO
      obtain ⟨o1, q1, _⟩ := h1.obj
      obtain ⟨o2, q2, _⟩ := h2.obj
      simp only [zfp, List.mem_cons, List.mem_nil_iff, or_false] at hcm
      rcases hcm with q | q | q | q | q
      · rw [q]; exact Heap.lt_size hz
      · rw [q]; exact Heap.lt_size hTI
      · rw [q]; exact Heap.lt_size hTO0
      · rw [q]; exact Heap.lt_size q1
      · rw [q]; exact Heap.lt_size q2
    rw [upd_ne (Nat.ne_of_lt (Nat.lt_of_lt_of_le hlt hT))]
    exact (hf c hcm).1
  done := by
    intro X hP hw hK hc i pins s σ H E I hf st hg
    subst hP hw hK
    obtain ⟨hz, hTI, hTO, h1, h2⟩ := st
    obtain ⟨hqx, hqy, hi⟩ := hg
    obtain ⟨its1, r1, p1, _⟩ := seq_inv I hqx
    obtain ⟨its2, r2, p2, _⟩ := seq_inv I hqy
    have hh : X.A.in1.handled = none := I.ok.hd hc
    have S := zip_sep2 (N := N) (fp1 := [a1]) (fp2 := [a2]) (fun b hb => by rw [List.mem_singleton.mp hb]; exact l1) (fun b hb => by rw [List.mem_singleton.mp hb]; exact l2)
    have W := GoesN.zip2 (elts := elts) (x1 := kk) (pos := tpos) S (draws (prog := X.prog) (w := X.w) b1 hh N a1 (Nat.ne_of_lt l1) its1.toArray) (draws (prog := X.prog) (w := X.w) b2 hh (N + 1 : Nat) a2 (Nat.ne_of_lt (Nat.lt_succ_of_lt l2)) its2.toArray)
    have hn : i = min its1.toArray.size its2.toArray.size := by
      rw [List.size_toArray, List.size_toArray, ← r1.length, ← r2.length]
      exact hi
    subst hn
    refine W.stops s (fun s1 => Inv X pins σ H s1) E ⟨hz, hTI, hTO, ⟨h1, p1⟩, ⟨h2, p2⟩⟩ fun h' tk hk htk => ?_
    exact I.turnedL (t' := tk) (ch := zfp N) (fun c o hb q => hk c o (fun z => hb (by
      simp only [List.mem_cons, List.mem_nil_iff, or_false] at z
      simp only [zfp, List.mem_cons, List.mem_nil_iff, or_false]
      rcases z with z | z | z | z <;> simp [z])) q) hf
  self := fun A i s Q E st h => wpAny_pyIter_zip st.1 h
/-- zip(.., ..) to a target of several names -/
def iZipB (K : PySem.W.Frag) (ta : TA) : TI := fun σ H R => ta σ H fun vs H1 => ∃ b1 b2 a1 a2 xs ys, vs = [.ref a1, .ref a2] ∧ SqB K b1 H1 a1 xs ∧ SqB K b2 H1 a2 ys ∧ R (ItzB K b1 b2 a1 a2 xs ys) H1
theorem pi_zipB {X : Cx} {e e2 : Expr} {ta : TA} {p pos tpos : Pos} {elts : List Expr} {kk : Nat} (hg : Gl X "zip") (hm : X.mg "zip" = none) (ha : PA X [e, e2] ta)
    (hs : starEach [e, e2] X.env = (false, eval e X.env) :: starEach [e2] X.env := by rfl) (hpl : (backTo pos (starEach [e2] X.env)).any (·.1) = false := by rfl) :
    PI X (.Tuple elts kk tpos) (.Call (.Name "zip" p) [e, e2] [] pos) (iZipB X.K ta) := by
  refine ⟨fun pins s σ H R I h => ?_⟩
  refine Call_ (ld_blt I hg hm boot_zip (callWith_type1 (thn (ha.run pos pins s σ H _ I h) fun us s1 ⟨vs, H1, I1, rr, q1⟩ => ?_) hs hpl))
  obtain ⟨b1, b2, a1, a2, xs, ys, ex, hqx, hqy, q⟩ := q1
  subst ex
  obtain ⟨u1, u2, eu, r1, r2⟩ := vals2 rr
  subst eu
  cases r1
  cases r2
  obtain ⟨its1, rv1, p1, lt1⟩ := seq_inv I1 hqx
  obtain ⟨its2, rv2, p2, lt2⟩ := seq_inv I1 hqy
  obtain ⟨o1, B1, g1⟩ := begins (b := b1) a1 its1.toArray
  obtain ⟨o2, B2, g2⟩ := begins (b := b2) a2 its2.toArray
  refine zip_begins2 B1 B2 p1 p2 fun h' hz hTI hTO c1 c2 hsz hk => wpAny_pyIter_zip hz ?_
  have I2 : Inv X pins σ H1 { s1 with heap := h' } := I1.kept (t' := s1.toks) hk
  have big : ∀ c, c ∈ zfp s1.heap.objs.size → s1.heap.objs.size ≤ c := fun c hc => by
    simp only [zfp, List.mem_cons, List.mem_nil_iff, or_false] at hc
    rcases hc with q | q | q | q | q <;> rw [q] <;> first | exact Nat.le_refl _ | exact Nat.le_add_right _ _
  exact ⟨_, zfp s1.heap.objs.size, _, _, H1, rfl, I2, turn_zipB lt1 lt2, ⟨hz, hTI, ⟨_, _, hTO⟩, g1 _ _ c1, g2 _ _ c2⟩, fun c hc => I1.fpOk (big c hc) (I1.hok.fresh (big c hc)), q⟩
theorem pi_zipK {X : Cx} {K : PySem.W.Frag} {e e2 : Expr} {ta : TA} {p pos tpos : Pos} {elts : List Expr} {kk : Nat} (h : X.K = K) (hg : Gl X "zip") (hm : X.mg "zip" = none) (ha : PA X [e, e2] ta)
    (hs : starEach [e, e2] X.env = (false, eval e X.env) :: starEach [e2] X.env := by rfl) (hpl : (backTo pos (starEach [e2] X.env)).any (·.1) = false := by rfl) :
    PI X (.Tuple elts kk tpos) (.Call (.Name "zip" p) [e, e2] [] pos) (iZipB K ta) := h ▸ pi_zipB hg hm ha hs hpl
/-- the items of a list or a tuple -/
def itemsD : PyData → Option (List PyData)
  | .list ds => some ds
  | .tuple ds => some ds
  | _ => none
theorem items_sq {K : PySem.W.Frag} {G : Hp} {v : V} {d : PyData} {ds : List PyData} (hd : Dp K G v d) (hi : itemsD d = some ds) : ∃ b a xs, v = .ref a ∧ SqB K b G a xs ∧ DpAll K G xs ds := by
  cases hd with
  | lst hs ha =>
    cases hi
    exact ⟨false, _, _, rfl, hs, ha⟩
  | tup hs ha =>
    cases hi
    exact ⟨true, _, _, rfl, hs, ha⟩
  | non => cases hi
  | bl _ => cases hi
  | int _ => cases hi
  | str _ => cases hi
theorem iw_zip {K : PySem.W.Frag} {s : Option Addr} {Z : List Sk} {O : Own} {ta : TA} {P : Nat → (Nat → PyData → Prop) → Prop} (h : WA K s ta Z O fun ks => ∃ x y ds es, ks = [.d x, .d y] ∧ itemsD x = some ds ∧ itemsD y = some es ∧
    P (min ds.length es.length) fun i d => ∃ x y, ds[i]? = some x ∧ es[i]? = some y ∧ d = .tuple [x, y]) : IW K s (iZipB K ta) Z O P := fun F σ G H c R r =>
  h F σ G H c _ fun vs ks G1 H1 c1 e1 ha ⟨x, y, ds, es, ek, hx, hy, p⟩ => by
    subst ek
    match vs, ha with
    | [v, w], ⟨⟨_, ev, hv⟩, ⟨_, ew, hw⟩, _⟩ =>
      cases ev
      cases ew
      obtain ⟨b1, a1, xs, rfl, q1, d1⟩ := items_sq hv hx
      obtain ⟨b2, a2, ys, rfl, q2, d2⟩ := items_sq hw hy
      have n1 := dpa_len d1
      have n2 := dpa_len d2
      refine ⟨b1, b2, a1, a2, xs, ys, rfl, q1.mono c1.ex, q2.mono c1.ex, r _ _ _ G1 H1 c1 e1 p fun i G2 H2 e2 e3 => ⟨fun hi => ⟨q1.mono (e2.trans e3), q2.mono (e2.trans e3), by rw [n1, n2]; exact hi⟩, fun hi => ⟨q1.mono (e2.trans e3), q2.mono (e2.trans e3), by rw [n1, n2]; exact hi⟩, fun x H3 hi hy => ?_⟩⟩
      obtain ⟨T, x1, y1, f1, f2, f3, f4, f5⟩ := hy
      obtain ⟨dx, r1, r2⟩ := dpa_at d1 f4
      obtain ⟨dy, s1, s2⟩ := dpa_at d2 f5
      exact ⟨_, ⟨dx, dy, r1, s1, rfl⟩, .inr ⟨T, [x1, y1], f1, f2, f3, _, rfl, .cons (dp_mono e2 _ _ r2) (.cons (dp_mono e2 _ _ s2) .nil)⟩⟩
end DL

/-! DLt: texts by data. -/
namespace DL
open PySem PySem.Spec PyProof.Rows L2
open Evl (Ex)
section
variable {K : PySem.W.Frag} {s : Option Addr} {Z : List Sk} {O : Own} {P : PyData → Prop} {PL : List PyData → Prop} {ta tb te : TE} {tr : TA}
theorem dpa_strs {G : Hp} : ∀ {ys : List Str}, DpAll K G (ys.map V.str) (ys.map PyData.str)
  | [] => .nil
  | y :: _ => .cons (.str y) dpa_strs
theorem dpa_strs_inv {G : Hp} : ∀ {ys : List Str} {vs : List V}, DpAll K G vs (ys.map PyData.str) → vs = ys.map V.str
  | [], _, .nil => rfl
  | y :: ys, _, .cons a t => by
    cases a
    rw [dpa_strs_inv t]
    rfl
/-- a.f() of a text, a truth -/
theorem we_m0B {f : Str → Bool} (h : WE K s ta Z O fun x => ∃ a, x = .str a ∧ P (.bool (f a))) : WE K s (tM0 (fun x xs H Q => ∃ a, x = .str a ∧ xs = [] ∧ True ∧ Q (.bl (f a)) H) ta) Z O P := fun F σ G H c Q q =>
  h F σ G H c _ fun v x G1 H1 c1 e1 hx ⟨a, ex, p⟩ => by
    subst ex
    cases hx
    exact ⟨⟨a, rfl⟩, a, rfl, rfl, True.intro, q _ _ G1 H1 c1 e1 (.bl _) p⟩
/-- a.f() by StrMore's way -/
theorem we_b0B {f : Str → Bool} (h : WE K s ta Z O fun x => ∃ a, x = .str a ∧ P (.bool (f a))) : WE K s (tBM0 K "str" (fun x xs H Q => ∃ a, x = .str a ∧ xs = [] ∧ True ∧ Q (.bl (f a)) H) ta) Z O P := fun F σ G H c Q q =>
  h F σ G H c _ fun v x G1 H1 c1 e1 hx ⟨a, ex, p⟩ => by
    subst ex
    cases hx
    exact ⟨rfl, a, rfl, rfl, True.intro, q _ _ G1 H1 c1 e1 (.bl _) p⟩
/-- a.f(b) of texts, a truth -/
theorem we_m1B {f : Str → Str → Bool} (h : WE K s ta Z O fun x => ∃ a, x = .str a ∧ WE K s tb Z O fun y => ∃ b, y = .str b ∧ P (.bool (f a b))) : WE K s (tM1 (fun x xs H Q => ∃ a b, x = .str a ∧ xs = [.str b] ∧ Q (.bl (f a b)) H) ta tb) Z O P := fun F σ G H c Q q =>
  h F σ G H c _ fun v x G1 H1 c1 e1 hx ⟨a, ex, hp⟩ => by
    subst ex
    cases hx
    exact ⟨⟨a, rfl⟩, hp F σ G1 H1 c1 _ fun w y G2 H2 c2 e2 hy ⟨b, ey, p⟩ => by
      subst ey
      cases hy
      exact ⟨a, b, rfl, rfl, q _ _ G2 H2 c2 (e1.trans e2) (.bl _) p⟩⟩
/-- a.split(b) -/
theorem wl_split (h : WE K s ta Z O fun x => ∃ a, x = .str a ∧ a.length + 2 ≤ 100000 ∧ WE K s tb Z O fun y => ∃ b, y = .str b ∧ (b.length == 0) = false ∧ PL ((Txt.split a b).map .str)) :
    WL K s (tM1 (fun x xs H Q => ∃ a b, x = .str a ∧ xs = [.str b] ∧ (b.length == 0) = false ∧ a.length + 2 ≤ sizeLine ∧ rNewStrs (Txt.split a b) H Q) ta tb) Z O PL := fun F σ G H c Q q =>
  h F σ G H c _ fun v x G1 H1 c1 e1 hx ⟨a, ex, hl, hp⟩ => by
    subst ex
    cases hx
    exact ⟨⟨a, rfl⟩, hp F σ G1 H1 c1 _ fun w y G2 H2 c2 e2 hy ⟨b, ey, hb, p⟩ => by
      subst ey
      cases hy
      exact ⟨a, b, rfl, rfl, hb, Evl.sz_of hl, fun pp hp => q pp _ G2 _ (c2.newOwn hp dpa_strs) (e1.trans e2) p⟩⟩
/-- a.join(xs) -/
theorem we_join (h : WE K s ta Z O fun x => ∃ a, x = .str a ∧ WE K s tb Z O fun y => ∃ ys : List Str, y = .list (ys.map .str) ∧ (ys.map (·.length)).sum + ys.length * a.length ≤ 16777216 ∧ P (.str (Txt.join a ys))) :
    WE K s (tM1 (fun x xs H Q => ∃ a p, ∃ ys : List Str, x = .str a ∧ xs = [.ref p] ∧ (SqL K H p (ys.map V.str) ∨ SqT K H p (ys.map V.str)) ∧ (ys.map (·.length)).sum + ys.length * a.length ≤ 16777216 ∧ Q (.str (Txt.join a ys)) H) ta tb) Z O P := fun F σ G H c Q q =>
  h F σ G H c _ fun v x G1 H1 c1 e1 hx ⟨a, ex, hp⟩ => by
    subst ex
    cases hx
    exact ⟨⟨a, rfl⟩, hp F σ G1 H1 c1 _ fun w y G2 H2 c2 e2 hy ⟨ys, ey, hz, p⟩ => by
      subst ey
      cases hy with
      | @lst b vs _ hs ha =>
        rw [dpa_strs_inv ha] at hs
        exact ⟨a, b, ys, rfl, rfl, .inl (Evl.ex_l c2.ex hs), hz, q _ _ G2 H2 c2 (e1.trans e2) (.str _) p⟩⟩
/-- i.bit_length() -/
theorem we_bits (h : WE K s ta Z O fun x => ∃ i, x = .int i ∧ P (.int (Builtin.Int.intBits i : Nat))) : WE K s (tBits ta) Z O P := fun F σ G H c Q q =>
  h F σ G H c _ fun v x G1 H1 c1 e1 hx ⟨i, ex, p⟩ => by
    subst ex
    cases hx
    exact ⟨i, rfl, q _ _ G1 H1 c1 e1 (.int _) p⟩
theorem nc_str {i : Int} (h : i.natAbs.log2 < 1920) : NCall K (fun xs H Q => ∃ i, xs = [.int i] ∧ i.natAbs.log2 < 1920 ∧ Q (.str (toString i)) H) [.d (.int i)] (.str (toString i)) := nc1 fun v G H Q e hv q => by
  cases hv
  exact ⟨i, rfl, h, q _ (.str _)⟩
theorem nc_intS {a : Str} {n : Int} (h : PySem.intText? a = some n) (hl : a.length ≤ 640) : NCall K (fun xs H Q => ∃ a n, xs = [.str a] ∧ PySem.intText? a = some n ∧ a.length ≤ 640 ∧ Q (.int n) H) [.d (.str a)] (.int n) := nc1 fun v G H Q e hv q => by
  cases hv
  exact ⟨a, n, rfl, h, hl, q _ (.int _)⟩
/-- a + b of texts -/
theorem we_addS (h : WE K s ta Z O fun x => WE K s tb Z O fun y => ∃ a b, x = .str a ∧ y = .str b ∧ a.length + b.length ≤ 100000 ∧ P (.str (a ++ b))) : WE K s (tOp (fun x y H Q => ∃ i j, x = .str i ∧ y = .str j ∧ i.length + j.length ≤ sizeLine ∧ Q (.str (i ++ j)) H) ta tb) Z O P := fun F σ G H c Q q =>
  h F σ G H c _ fun v x G1 H1 c1 e1 hx hp => hp F σ G1 H1 c1 _ fun w y G2 H2 c2 e2 hy ⟨a, b, ex, ey, hl, p⟩ => by
    subst ex ey
    cases hx
    cases hy
    exact ⟨a, b, rfl, rfl, Evl.sz_of hl, q _ _ G2 H2 c2 (e1.trans e2) (.str _) p⟩
/-- c in a, c one sign -/
theorem we_inSign (h : WE K s ta Z O fun x => WE K s tb Z O fun y => ∃ c z, x = .str ⟨#[c]⟩ ∧ y = .str z ∧ P (.bool (decide (c ∈ z.cps.toList)))) : WE K s (tOp (fun x y H Q => ∃ (c : Nat) (z : Str), x = .str ⟨#[c]⟩ ∧ y = .str z ∧ Q (.bl (decide (c ∈ z.cps.toList))) H) ta tb) Z O P := fun F σ G H c Q q =>
  h F σ G H c _ fun v x G1 H1 c1 e1 hx hp => hp F σ G1 H1 c1 _ fun w y G2 H2 c2 e2 hy ⟨a, b, ex, ey, p⟩ => by
    subst ex ey
    cases hx
    cases hy
    exact ⟨a, b, rfl, rfl, q _ _ G2 H2 c2 (e1.trans e2) (.bl _) p⟩
/-- x in a list of data -/
theorem we_inD (h : WE K s ta Z O fun x => WE K s tb Z O fun y => ∃ ds, y = .list ds ∧ SeqAt.shaped x = true ∧ SeqAt.shaped (.list ds) = true ∧ P (.bool (ds.any fun z => PyData.eqv z x))) : WE K s (tOp (rInD K) ta tb) Z O P := fun F σ G H c Q q =>
  h F σ G H c _ fun v x G1 H1 c1 e1 hx hp => hp F σ G1 H1 c1 _ fun w y G2 H2 c2 e2 hy ⟨ds, ey, s1, s2, p⟩ => by
    subst ey
    exact ⟨x, ds, dp_mono (e2.trans c2.ex) _ _ hx, dp_mono c2.ex _ _ hy, s1, s2, q _ _ G2 H2 c2 (e1.trans e2) (.bl _) p⟩
/-- the signs of a text, one by one -/
theorem iw_str {PI : Nat → (Nat → PyData → Prop) → Prop} (h : WE K s ta Z O fun x => ∃ a, x = .str a ∧ PI a.cps.size fun i d => ∃ c, a.cps[i]? = some c ∧ d = .str ⟨#[c]⟩) : IW K s (iStr ta) Z O PI := fun F σ G H c R r =>
  h F σ G H c _ fun v x G1 H1 c1 e1 hx ⟨a, ex, p⟩ => by
    subst ex
    cases hx
    refine ⟨a, rfl, r _ _ _ G1 H1 c1 e1 p fun i G2 H2 e2 e3 => ⟨fun hi => hi, fun hi => by rw [hi]; exact Nat.le_refl _, fun x H3 hi hy => ?_⟩⟩
    obtain ⟨h1, c, h2, h3⟩ := hy
    subst h3
    exact ⟨_, ⟨c, h2, rfl⟩, .inl ⟨h1, .str _⟩⟩
end
section
variable {X : Cx} {K : PySem.W.Frag}
theorem units65 {k : Nat} {A : Around} (r : Room k A) : A.units + 65 < cLine := by
  have := r.un
  omega
theorem pe_joinK {o e : Expr} {to te : TE} {apos pos : Pos} (h : X.K = K) (ho : PE X o to) (he : PE X e te) (hs : starEach [e] X.env = [(false, eval e X.env)] := by rfl) (hbase : attributeBase o "join" X.env (eval o X.env) = eval o X.env := by rfl) (hline : (apos.endLine == pos.line) = true := by rfl) :
    PE X (.Call (.Attribute o "join" apos) [e] [] pos) (tM1 (fun x xs H Q => ∃ a p, ∃ ys : List Str, x = .str a ∧ xs = [.ref p] ∧ (SqL K H p (ys.map V.str) ∨ SqT K H p (ys.map V.str)) ∧
      (ys.map (·.length)).sum + ys.length * a.length ≤ 16777216 ∧ Q (.str (Txt.join a ys)) H) to te) := by
  subst h
  exact pe_join ho he hs hbase hline
theorem pe_ascii {o : Expr} {to : TE} {apos pos : Pos} (ho : PE X o to) (hbase : attributeBase o "isascii" X.env (eval o X.env) = eval o X.env := by rfl) (hline : (apos.endLine == pos.line) = true := by rfl) :
    PE X (.Call (.Attribute o "isascii" apos) [] [] pos) (tM0 (fun x xs H Q => ∃ a, x = .str a ∧ xs = [] ∧ True ∧ Q (.bl (Txt.isascii a)) H) to) :=
  pe_m0 PySem.F.slot_str_isascii PySem.F.type_str_isascii mt_isascii ho hbase hline
theorem op_inDK (h : X.K = K) (hu : X.A.units + 65 < cLine) : OpR X (compareOp .In) (rInD K) := h ▸ op_inD hu
end
end DL

/-! DLk: zip of three, enumerate, ranges with a step, own lists read and popped, truth of ints and lists, any of ints, in of a tuple, a tuple times a number from one on. -/
namespace DL
open PySem PySem.Spec PyProof.Rows L2
open Evl (Ex)
/-! ### zip of three sequences -/
def Itz3 (K : PySem.W.Frag) (b1 b2 b3 : Bool) (a1 a2 a3 : Addr) (xs ys zs : List V) : It :=
  ⟨fun i H => SqB K b1 H a1 xs ∧ SqB K b2 H a2 ys ∧ SqB K b3 H a3 zs ∧ i < min (min xs.length ys.length) zs.length,
    fun i H v H' => ∃ T x y z, v = .ref T ∧ H T = none ∧ H' = upd H T (.tup [x, y, z]) ∧ xs[i]? = some x ∧ ys[i]? = some y ∧ zs[i]? = some z,
    fun i H => SqB K b1 H a1 xs ∧ SqB K b2 H a2 ys ∧ SqB K b3 H a3 zs ∧ i = min (min xs.length ys.length) zs.length⟩
abbrev zfp3 (N : Nat) : List Addr := [N + 5, N + 3, N + 4, N, N + 1, N + 2]
theorem turn_zip3 {P : Program} {w : World} {K : PySem.W.Frag} {elts : List Expr} {kk : Nat} {tpos : Pos} {b1 b2 b3 : Bool} {a1 a2 a3 : Addr} {xs ys zs : List V} {N : Nat} (l1 : a1 < N) (l2 : a2 < N) (l3 : a3 < N) :
    Turn P w K (.Tuple elts kk tpos) (Itz3 K b1 b2 b3 a1 a2 a3 xs ys zs) (zfp3 N) (N + 5 : Nat)
      (fun i h => IsZip h (N + 5 : Nat) (N + 3 : Nat) (N + 4 : Nat) .none ∧ IsTupOf3 h (N + 3 : Nat) (.ref N) (.ref (N + 1 : Nat)) (.ref (N + 2 : Nat)) ∧ (∃ x y z, IsTupOf3 h (N + 4 : Nat) x y z) ∧ ItAt b1 h N a1 i ∧ ItAt b2 h (N + 1 : Nat) a2 i ∧ ItAt b3 h (N + 2 : Nat) a3 i) where
  mem := List.mem_cons_self ..
  obj := fun i h st c hc => by
    obtain ⟨hz, hTI, ⟨x, y, z, hTO⟩, h1, h2, h3⟩ := st
    simp only [zfp3, List.mem_cons, List.mem_nil_iff, or_false] at hc
    rcases hc with q | q | q | q | q | q
    · rw [q]; exact ⟨_, hz, fun v z => nomatch z⟩
    · rw [q]; exact ⟨_, hTI, fun v z => nomatch z⟩
    · rw [q]; exact ⟨_, hTO, fun v z => nomatch z⟩
    · rw [q]; exact h1.obj
    · rw [q]; exact h2.obj
    · rw [q]; exact h3.obj
  keep := fun i h h' st k => by
    obtain ⟨hz, hTI, ⟨x, y, z, hTO⟩, h1, h2, h3⟩ := st
    exact ⟨k _ (by simp [zfp3]) _ hz, k _ (by simp [zfp3]) _ hTI, ⟨x, y, z, k _ (by simp [zfp3]) _ hTO⟩, h1.at fun o q => k _ (by simp [zfp3]) o q, h2.at fun o q => k _ (by simp [zfp3]) o q, h3.at fun o q => k _ (by simp [zfp3]) o q⟩
  item := by
    intro X hP hw hK hc i pins s σ H E I hf st hg
    subst hP hw hK
    obtain ⟨hz, hTI, hTO, h1, h2, h3⟩ := st
    obtain ⟨hqx, hqy, hqz, hi⟩ := hg
    obtain ⟨its1, r1, p1, _⟩ := seq_inv I hqx
    obtain ⟨its2, r2, p2, _⟩ := seq_inv I hqy
    obtain ⟨its3, r3, p3, _⟩ := seq_inv I hqz
    have hh : X.A.in1.handled = none := I.ok.hd hc
    have S := zip_sep3 (N := N) (fp1 := [a1]) (fp2 := [a2]) (fp3 := [a3]) (fun b hb => by rw [List.mem_singleton.mp hb]; exact l1) (fun b hb => by rw [List.mem_singleton.mp hb]; exact l2) (fun b hb => by rw [List.mem_singleton.mp hb]; exact l3)
    have W := GoesN.zip3 (elts := elts) (x1 := kk) (pos := tpos) S (draws (prog := X.prog) (w := X.w) b1 hh N a1 (Nat.ne_of_lt l1) its1.toArray) (draws (prog := X.prog) (w := X.w) b2 hh (N + 1 : Nat) a2 (Nat.ne_of_lt (Nat.lt_succ_of_lt l2)) its2.toArray)
      (draws (prog := X.prog) (w := X.w) b3 hh (N + 2 : Nat) a3 (Nat.ne_of_lt (Nat.lt_succ_of_lt (Nat.lt_succ_of_lt l3))) its3.toArray)
    have hn : i < min (min its1.toArray.size its2.toArray.size) its3.toArray.size := by
      rw [List.size_toArray, List.size_toArray, List.size_toArray, ← r1.length, ← r2.length, ← r3.length]
      exact hi
    have hgo := W.goes i s (fun u s2 => ∃ x H', Inv X pins σ H' s2 ∧ RelV x u ∧ (Itz3 X.K b1 b2 b3 a1 a2 a3 xs ys zs).yld i H x H' ∧ (IsZip s2.heap (N + 5 : Nat) (N + 3 : Nat) (N + 4 : Nat) .none ∧ IsTupOf3 s2.heap (N + 3 : Nat) (.ref N) (.ref (N + 1 : Nat)) (.ref (N + 2 : Nat)) ∧ (∃ x y z, IsTupOf3 s2.heap (N + 4 : Nat) x y z) ∧ ItAt b1 s2.heap N a1 (i + 1) ∧ ItAt b2 s2.heap (N + 1 : Nat) a2 (i + 1) ∧ ItAt b3 s2.heap (N + 2 : Nat) a3 (i + 1)) ∧ ∀ b ∈ zfp3 N, H' b = none) E hn ⟨hz, hTI, hTO, ⟨h1, p1⟩, ⟨h2, p2⟩, ⟨h3, p3⟩⟩ ?_
    · exact wpAny_mono hgo (fun r s1 q => q) fun _ _ e => e
    intro v h' tk hy st' hk htk
    obtain ⟨T, u1, u2, u3, ev, hT, hu1, hu2, hu3, hTup⟩ := hy
    obtain ⟨hz', hTI', hTO', ⟨h1', _⟩, ⟨h2', _⟩, ⟨h3', _⟩⟩ := st'
    have e1 : xs[i]? = some xs[i] := List.getElem?_eq_getElem (by omega)
    have e2 : ys[i]? = some ys[i] := List.getElem?_eq_getElem (by omega)
    have e3 : zs[i]? = some zs[i] := List.getElem?_eq_getElem (by omega)
    obtain ⟨w1, g1, rv1⟩ := r1.get e1
    obtain ⟨w2, g2, rv2⟩ := r2.get e2
    obtain ⟨w3, g3, rv3⟩ := r3.get e3
    have f1 : w1 = u1 := by
      have : its1[i]? = some u1 := by simpa using hu1
      rw [g1] at this
      exact Option.some.inj this
    have f2 : w2 = u2 := by
      have : its2[i]? = some u2 := by simpa using hu2
      rw [g2] at this
      exact Option.some.inj this
    have f3 : w3 = u3 := by
      have : its3[i]? = some u3 := by simpa using hu3
      rw [g3] at this
      exact Option.some.inj this
    subst f1 f2 f3
    have new : ObjOk X.prog X.w (upd H T (.tup [xs[i], ys[i], zs[i]])) h' T (.tup [xs[i], ys[i], zs[i]]) := by
      refine ⟨by show 3 ≤ sizeLine; decide, [w1, w2, w3], .cons rv1 (.cons rv2 (.cons rv3 .nil)), ?_⟩
      exact hTup
    have I1 := I.turnedNew (t' := tk) (ch := zfp3 N) (fun c o hb q => hk c o (fun z => hb (by
      simp only [List.mem_cons, List.mem_nil_iff, or_false] at z
      simp only [zfp3, List.mem_cons, List.mem_nil_iff, or_false]
      rcases z with z | z | z | z | z <;> simp [z])) q) hf hT new
    refine ⟨.ref T, _, I1, ev, ⟨T, _, _, _, rfl, I.hok.fresh hT, rfl, e1, e2, e3⟩, ⟨hz', hTI', hTO', h1', h2', h3'⟩, fun c hcm => ?_⟩
    have hlt : c < s.heap.objs.size := by
      obtain ⟨x0, y0, z0, hTO0⟩ := hTO
      obtain ⟨o1, q1, _⟩ := h1.obj
      obtain ⟨o2, q2, _⟩ := h2.obj
      obtain ⟨o3, q3, _⟩ := h3.obj
      simp only [zfp3, List.mem_cons, List.mem_nil_iff, or_false] at hcm
      rcases hcm with q | q | q | q | q | q
      · rw [q]; exact Heap.lt_size hz
      · rw [q]; exact Heap.lt_size hTI
      · rw [q]; exact Heap.lt_size hTO0
      · rw [q]; exact Heap.lt_size q1
      · rw [q]; exact Heap.lt_size q2
      · rw [q]; exact Heap.lt_size q3
    rw [upd_ne (Nat.ne_of_lt (Nat.lt_of_lt_of_le hlt hT))]
    exact (hf c hcm).1
  done := by
    intro X hP hw hK hc i pins s σ H E I hf st hg
    subst hP hw hK
    obtain ⟨hz, hTI, hTO, h1, h2, h3⟩ := st
    obtain ⟨hqx, hqy, hqz, hi⟩ := hg
    obtain ⟨its1, r1, p1, _⟩ := seq_inv I hqx
    obtain ⟨its2, r2, p2, _⟩ := seq_inv I hqy
    obtain ⟨its3, r3, p3, _⟩ := seq_inv I hqz
    have hh : X.A.in1.handled = none := I.ok.hd hc
    have S := zip_sep3 (N := N) (fp1 := [a1]) (fp2 := [a2]) (fp3 := [a3]) (fun b hb => by rw [List.mem_singleton.mp hb]; exact l1) (fun b hb => by rw [List.mem_singleton.mp hb]; exact l2) (fun b hb => by rw [List.mem_singleton.mp hb]; exact l3)
    have W := GoesN.zip3 (elts := elts) (x1 := kk) (pos := tpos) S (draws (prog := X.prog) (w := X.w) b1 hh N a1 (Nat.ne_of_lt l1) its1.toArray) (draws (prog := X.prog) (w := X.w) b2 hh (N + 1 : Nat) a2 (Nat.ne_of_lt (Nat.lt_succ_of_lt l2)) its2.toArray)
      (draws (prog := X.prog) (w := X.w) b3 hh (N + 2 : Nat) a3 (Nat.ne_of_lt (Nat.lt_succ_of_lt (Nat.lt_succ_of_lt l3))) its3.toArray)
    have hn : i = min (min its1.toArray.size its2.toArray.size) its3.toArray.size := by
      rw [List.size_toArray, List.size_toArray, List.size_toArray, ← r1.length, ← r2.length, ← r3.length]
      exact hi
    subst hn
    refine W.stops s (fun s1 => Inv X pins σ H s1) E ⟨hz, hTI, hTO, ⟨h1, p1⟩, ⟨h2, p2⟩, ⟨h3, p3⟩⟩ fun h' tk hk htk => ?_
    exact I.turnedL (t' := tk) (ch := zfp3 N) (fun c o hb q => hk c o (fun z => hb (by
      simp only [List.mem_cons, List.mem_nil_iff, or_false] at z
      simp only [zfp3, List.mem_cons, List.mem_nil_iff, or_false]
      rcases z with z | z | z | z | z <;> simp [z])) q) hf
  self := fun A i s Q E st h => wpAny_pyIter_zip st.1 h
theorem vals3x {x y z : V} {us : List Value} (r : Vals [x, y, z] us) : ∃ u w' t', us = [u, w', t'] ∧ RelV x u ∧ RelV y w' ∧ RelV z t' := by
  cases r with
  | cons a r =>
    cases r with
    | cons b r =>
      cases r with
      | cons c r =>
        cases r
        exact ⟨_, _, _, rfl, a, b, c⟩
def iZip3 (K : PySem.W.Frag) (ta : TA) : TI := fun σ H R => ta σ H fun vs H1 => ∃ b1 b2 b3 a1 a2 a3 xs ys zs, vs = [.ref a1, .ref a2, .ref a3] ∧ SqB K b1 H1 a1 xs ∧ SqB K b2 H1 a2 ys ∧ SqB K b3 H1 a3 zs ∧ R (Itz3 K b1 b2 b3 a1 a2 a3 xs ys zs) H1
theorem pi_zip3 {X : Cx} {e e2 e3 : Expr} {ta : TA} {p pos tpos : Pos} {elts : List Expr} {kk : Nat} (hg : Gl X "zip") (hm : X.mg "zip" = none) (ha : PA X [e, e2, e3] ta)
    (hs : starEach [e, e2, e3] X.env = (false, eval e X.env) :: starEach [e2, e3] X.env := by rfl) (hpl : (backTo pos (starEach [e2, e3] X.env)).any (·.1) = false := by rfl) :
    PI X (.Tuple elts kk tpos) (.Call (.Name "zip" p) [e, e2, e3] [] pos) (iZip3 X.K ta) := by
  refine ⟨fun pins s σ H R I h => ?_⟩
  refine Call_ (ld_blt I hg hm boot_zip (callWith_type1 (thn (ha.run pos pins s σ H _ I h) fun us s1 ⟨vs, H1, I1, rr, q1⟩ => ?_) hs hpl))
  obtain ⟨b1, b2, b3, a1, a2, a3, xs, ys, zs, ex, hqx, hqy, hqz, q⟩ := q1
  subst ex
  obtain ⟨u1, u2, u3, eu, r1, r2, r3⟩ := vals3x rr
  subst eu
  cases r1
  cases r2
  cases r3
  obtain ⟨its1, rv1, p1, lt1⟩ := seq_inv I1 hqx
  obtain ⟨its2, rv2, p2, lt2⟩ := seq_inv I1 hqy
  obtain ⟨its3, rv3, p3, lt3⟩ := seq_inv I1 hqz
  obtain ⟨o1, B1, g1⟩ := begins (b := b1) a1 its1.toArray
  obtain ⟨o2, B2, g2⟩ := begins (b := b2) a2 its2.toArray
  obtain ⟨o3, B3, g3⟩ := begins (b := b3) a3 its3.toArray
  refine zip_begins3 B1 B2 B3 p1 p2 p3 fun h' hz hTI hTO c1 c2 c3 hsz hk => wpAny_pyIter_zip hz ?_
  have I2 : Inv X pins σ H1 { s1 with heap := h' } := I1.kept (t' := s1.toks) hk
  have big : ∀ c, c ∈ zfp3 s1.heap.objs.size → s1.heap.objs.size ≤ c := fun c hc => by
    simp only [zfp3, List.mem_cons, List.mem_nil_iff, or_false] at hc
    rcases hc with q | q | q | q | q | q <;> rw [q] <;> first | exact Nat.le_refl _ | exact Nat.le_add_right _ _
  exact ⟨_, zfp3 s1.heap.objs.size, _, _, H1, rfl, I2, turn_zip3 lt1 lt2 lt3, ⟨hz, hTI, ⟨_, _, _, hTO⟩, g1 _ _ c1, g2 _ _ c2, g3 _ _ c3⟩, fun c hc => I1.fpOk (big c hc) (I1.hok.fresh (big c hc)), q⟩
theorem pi_zip3K {X : Cx} {K : PySem.W.Frag} {e e2 e3 : Expr} {ta : TA} {p pos tpos : Pos} {elts : List Expr} {kk : Nat} (h : X.K = K) (hg : Gl X "zip") (hm : X.mg "zip" = none) (ha : PA X [e, e2, e3] ta)
    (hs : starEach [e, e2, e3] X.env = (false, eval e X.env) :: starEach [e2, e3] X.env := by rfl) (hpl : (backTo pos (starEach [e2, e3] X.env)).any (·.1) = false := by rfl) :
    PI X (.Tuple elts kk tpos) (.Call (.Name "zip" p) [e, e2, e3] [] pos) (iZip3 K ta) := h ▸ pi_zip3 hg hm ha hs hpl
section
variable {K : PySem.W.Frag} {s : Option Addr} {Z : List Sk} {O : Own} {P : PyData → Prop} {ta tb te : TE} {D : DE}
theorem argOk1 {G : Hp} {vs : List V} {x : PyData} {ks : List Sk} (h : ArgOk K G vs (.d x :: ks)) : ∃ v ws, vs = v :: ws ∧ Dp K G v x ∧ ArgOk K G ws ks := by
  cases vs with
  | nil => exact h.elim
  | cons v ws =>
    obtain ⟨⟨u, e, hd⟩, h2⟩ := h
    cases e
    exact ⟨v, ws, rfl, hd, h2⟩
theorem argOk0 {G : Hp} {vs : List V} (h : ArgOk K G vs []) : vs = [] := by
  cases vs with
  | nil => rfl
  | cons v ws => exact h.elim
theorem argOk3 {G : Hp} {vs : List V} {x y z : PyData} (h : ArgOk K G vs [.d x, .d y, .d z]) : ∃ v w u, vs = [v, w, u] ∧ Dp K G v x ∧ Dp K G w y ∧ Dp K G u z := by
  obtain ⟨v, ws, e1, h1, k1⟩ := argOk1 h
  obtain ⟨w, us, e2, h2, k2⟩ := argOk1 k1
  obtain ⟨u, ts, e3, h3, k3⟩ := argOk1 k2
  have e4 := argOk0 k3
  subst e4 e3 e2 e1
  exact ⟨v, w, u, rfl, h1, h2, h3⟩
theorem iw_zip3 {ta : TA} {P : Nat → (Nat → PyData → Prop) → Prop} (h : WA K s ta Z O fun ks => ∃ x y z ds es fs, ks = [.d x, .d y, .d z] ∧ itemsD x = some ds ∧ itemsD y = some es ∧ itemsD z = some fs ∧
    P (min (min ds.length es.length) fs.length) fun i d => ∃ x y z, ds[i]? = some x ∧ es[i]? = some y ∧ fs[i]? = some z ∧ d = .tuple [x, y, z]) : IW K s (iZip3 K ta) Z O P := fun F σ G H c R r =>
  h F σ G H c _ fun vs ks G1 H1 c1 e1 ha ⟨x, y, z, ds, es, fs, ek, hx, hy, hz, p⟩ => by
    subst ek
    · obtain ⟨v, w, u, evs, hv, hw, hu⟩ := argOk3 ha
      subst evs
      obtain ⟨b1, a1, xs, rfl, q1, d1⟩ := items_sq hv hx
      obtain ⟨b2, a2, ys, rfl, q2, d2⟩ := items_sq hw hy
      obtain ⟨b3, a3, zs, rfl, q3, d3⟩ := items_sq hu hz
      have n1 := dpa_len d1
      have n2 := dpa_len d2
      have n3 := dpa_len d3
      refine ⟨b1, b2, b3, a1, a2, a3, xs, ys, zs, rfl, q1.mono c1.ex, q2.mono c1.ex, q3.mono c1.ex, r _ _ _ G1 H1 c1 e1 p fun i G2 H2 e2 e3 => ⟨fun hi => ⟨q1.mono (e2.trans e3), q2.mono (e2.trans e3), q3.mono (e2.trans e3), by rw [n1, n2, n3]; exact hi⟩, fun hi => ⟨q1.mono (e2.trans e3), q2.mono (e2.trans e3), q3.mono (e2.trans e3), by rw [n1, n2, n3]; exact hi⟩, fun x H3 hi hy => ?_⟩⟩
      obtain ⟨T, x1, y1, z1, f1, f2, f3, f4, f5, f6⟩ := hy
      obtain ⟨dx, r1, r2⟩ := dpa_at d1 f4
      obtain ⟨dy, s1, s2⟩ := dpa_at d2 f5
      obtain ⟨dz, t1, t2⟩ := dpa_at d3 f6
      exact ⟨_, ⟨dx, dy, dz, r1, s1, t1, rfl⟩, .inr ⟨T, [x1, y1, z1], f1, f2, f3, _, rfl, .cons (dp_mono e2 _ _ r2) (.cons (dp_mono e2 _ _ s2) (.cons (dp_mono e2 _ _ t2) .nil))⟩⟩
/-! ### enumerate(list), range(a, b, c) -/
theorem iw_enum {ta : TA} {P : Nat → (Nat → PyData → Prop) → Prop} (h : WA K s ta Z O fun ks => ∃ ds, ks = [.d (.list ds)] ∧ P ds.length fun i d => ∃ x, ds[i]? = some x ∧ d = .tuple [.int (i : Nat), x]) : IW K s (iEnum K ta) Z O P := fun F σ G H c R r =>
  h F σ G H c _ fun vs ks G1 H1 c1 e1 ha ⟨ds, ek, p⟩ => by
    subst ek
    match vs, ha with
    | [v], ⟨⟨_, ev, hv⟩, _⟩ =>
      cases ev
      cases hv with
      | @lst a xs _ hs ha =>
        refine ⟨a, xs, rfl, Evl.ex_l c1.ex hs, r _ _ _ G1 H1 c1 e1 p fun i G2 H2 e2 e3 => ?_⟩
        have W := walk_enum (K := K) (a := a) (xs := xs)
        have q := Evl.ex_l (e2.trans e3) hs
        have l := dpa_len ha
        refine ⟨fun hi => W.goes i H2 (by omega) q, fun hi => by rw [hi, ← l]; exact W.stops H2 q, fun x H3 hi hy => ?_⟩
        obtain ⟨T, x1, y1, q1, q2, q3, q4, q5⟩ := W.yields i H2 x H3 (by omega) q hy
        cases q4
        obtain ⟨dy, s1, s2⟩ := dpa_at ha q5
        exact ⟨_, ⟨dy, s1, rfl⟩, .inr ⟨T, [_, y1], q1, q2, q3, _, rfl, .cons (.int _) (.cons (dp_mono e2 _ _ s2) .nil)⟩⟩
theorem iw_rng3 {ta : TA} {P : Nat → (Nat → PyData → Prop) → Prop} (h : WA K s ta Z O fun ks => ∃ (l j c : Int) (n : Nat), ks = [.d (.int l), .d (.int j), .d (.int c)] ∧ RgC l j c n ∧ P n fun i d => d = .int (l + (i : Nat) * c)) : IW K s (iRng3 ta) Z O P := fun F σ G H c R r =>
  h F σ G H c _ fun vs ks G1 H1 c1 e1 ha ⟨l, j, cc, n, ek, hr, p⟩ => by
    subst ek
    · obtain ⟨v, w, u, evs, hv, hw, hu⟩ := argOk3 ha
      subst evs
      cases hv
      cases hw
      cases hu
      refine ⟨l, j, cc, n, rfl, hr, r _ _ _ G1 H1 c1 e1 p fun i G2 H2 e2 e3 => ?_⟩
      have W := walk_rangeC (lo := l) (c := cc) (n := n)
      refine ⟨fun hi => W.goes i H2 hi True.intro, fun hi => by rw [hi]; exact W.stops H2 True.intro, fun x H3 hi hy => ?_⟩
      obtain ⟨q1, q2⟩ := W.yields i H2 x H3 hi True.intro hy
      exact ⟨_, rfl, .inl ⟨q1, by rw [q2]; exact .int _⟩⟩
/-- a range by twos from one -/
theorem rgc_two {j : Int} (h0 : 0 ≤ j) (h1 : j < 2 ^ 61) : RgC 1 j 2 (j / 2).toNat := by
  have hs : Builtin.Range.rangeSize 1 j 2 = ((j / 2).toNat : Int) := by
    unfold Builtin.Range.rangeSize
    rw [if_pos (by decide)]
    split <;> omega
  have fl : ∀ i : Int, -(2 ^ 63) ≤ i → i < 2 ^ 63 → Builtin.Range.rangeFitsLong i = true := fun i a b => by
    unfold Builtin.Range.rangeFitsLong
    rw [decide_eq_true a, decide_eq_true b]
    rfl
  refine ⟨by decide, by decide, ?_, hs⟩
  unfold Builtin.Range.small
  rw [hs, fl 1 (by decide) (by decide), fl j (by omega) (by omega), fl 2 (by decide) (by decide), fl _ (by omega) (by omega), if_pos (by decide), fl (j + (2 - 1)) (by omega) (by omega), Bool.or_true]
  rfl
/-! ### own lists read and popped -/
theorem we_ixO {p : Addr} {ds : List PyData} {i : Nat} (hi : Z[i]? = some (.v (.ref p))) (h : WE K s tb Z ((p, ds) :: O) fun y => ∃ k d, y = .int k ∧ atI ds k = some d ∧ P d) : WE K s (tOp (rIx K) (tVar i) tb) Z ((p, ds) :: O) P := fun F σ G H c Q q => by
  obtain ⟨o, h1, h2⟩ := c.sl i _ hi
  have h2 : o = some (.ref p) := h2
  subst h2
  refine ⟨.ref p, h1, h F σ G H c _ fun w y G2 H2 c2 e2 hy ⟨k, d, ey, hk, pp⟩ => ?_⟩
  subst ey
  cases hy
  obtain ⟨_, _, _, vs, o4, o5⟩ := c2.own p ds (List.mem_cons_self ..)
  obtain ⟨v, q1, q2⟩ := dpa_atI o5 hk
  exact .inl ⟨p, vs, k, v, rfl, rfl, Evl.sq_of o4, q1, q v d G2 H2 c2 e2 q2 pp⟩
theorem dpa_dropLast {G : Hp} {vs : List V} {ds : List PyData} (h : DpAll K G vs ds) : DpAll K G vs.dropLast ds.dropLast := by
  rw [List.dropLast_eq_take, List.dropLast_eq_take, dpa_len h]
  exact dpa_take _ h
theorem sw_pop {p : Addr} {ds : List PyData} {i : Nat} (hi : Z[i]? = some (.v (.ref p))) (hl : 0 < ds.length) (h : D.nx Z ((p, ds.dropLast) :: O)) : SW K s (tDrop (tBM0 K "list" rPop (tVar i))) Z ((p, ds) :: O) D := fun F σ G H E c cv => by
  obtain ⟨o, h1, h2⟩ := c.sl i _ hi
  have h2 : o = some (.ref p) := h2
  subst h2
  obtain ⟨_, _, _, vs, o4, o5⟩ := c.own p ds (List.mem_cons_self ..)
  refine ⟨.ref p, h1, .inl ⟨rfl, vs, Evl.sq_of o4⟩, ?_⟩
  have hl2 := dpa_len o5
  have hv : vs.length - 1 < vs.length := by omega
  refine ⟨p, vs, vs[vs.length - 1], rfl, rfl, o4, List.getElem?_eq_getElem hv, ?_⟩
  exact cv.nx _ _ _ _ _ (c.setOwn (dpa_dropLast o5)) h
/-! ### truth -/
def truD : PyData → Option Bool
  | .int i => some (i != 0)
  | .list ds => some (!ds.isEmpty)
  | .tuple ds => some (!ds.isEmpty)
  | .bool b => some b
  | _ => none
theorem dpa_empty {G : Hp} {vs : List V} {ds : List PyData} (h : DpAll K G vs ds) : vs.isEmpty = ds.isEmpty := by
  cases h <;> rfl
theorem wt_truth {PB : Bool → Prop} (h : WE K s ta Z O fun x => ∃ b, truD x = some b ∧ PB b) : WT K s (fun σ H Q => ta σ H fun x H' => ∃ k, TruV K x H' k ∧ Q k H') Z O PB := fun F σ G H c Q q => h F σ G H c _ fun v x G1 H1 c1 e1 hx ⟨b, hb, p⟩ => by
  refine ⟨b, ?_, q b G1 H1 c1 e1 p⟩
  cases hx with
  | int i => cases hb; rfl
  | bl b => cases hb; rfl
  | lst hs ha =>
    cases hb
    exact .inl ⟨_, Evl.ex_l c1.ex hs, by rw [dpa_empty ha]⟩
  | tup hs ha =>
    cases hb
    exact .inr (.inl ⟨_, Evl.ex_t c1.ex hs, by rw [dpa_empty ha]⟩)
  | non => cases hb
  | str x => cases hb
end
/-! ### any of a list or a tuple of ints -/
theorem truth_ints {prog : Program} {w : World} {A : Around} {ns : List Int} {its : List Value} (r : Vals (ns.map V.int) its) :
    TruthOf prog w A (fun i v => its.toArray[i]? = some v) (fun i => (ns.map (· != 0)).getD i false) := fun i v s Q E hv hq => by
  have hv' : its[i]? = some v := by simpa using hv
  have hi : i < its.length := (List.getElem?_eq_some_iff.mp hv').1
  have hl := r.length
  rw [List.length_map] at hl
  have hn : ns[i]? = some (ns[i]'(by omega)) := List.getElem?_eq_getElem _
  have hx : (ns.map V.int)[i]? = some (.int (ns[i]'(by omega))) := by rw [List.getElem?_map, hn]; rfl
  obtain ⟨u, g, ru⟩ := r.get hx
  rw [hv'] at g
  cases g
  obtain ⟨t, rfl⟩ := ru
  have hg : (ns.map (· != 0)).getD i false = ((ns[i]'(by omega)) != 0) := by rw [List.getD_eq_getElem?_getD, List.getElem?_map, hn]; rfl
  have hq' : Q ((ns.map (· != 0)).getD i false) s := hq
  rw [hg] at hq'
  exact PyProof.Rows.truthy_int hq'
def rAnyN (K : PySem.W.Frag) : List V → Hp → VK → Prop := fun vs H Q => ∃ (a : Addr) (ns : List Int), vs = [V.ref a] ∧ SqT K H a (ns.map V.int) ∧ Q (.bl (ns.any (· != 0))) H
theorem cr_anyN {X : Cx} (hc : X.calm = true) : CallR X (.builtin "any") (rAnyN X.K) := by
  intro pins s σ H vs us Q I r h
  obtain ⟨a, ns, rfl, hs, q⟩ := h
  obtain ⟨its, rv, hl, _⟩ := I.tuple hs
  rw [Vals.ref1 r]
  have hlt : a < s.heap.objs.size := by obtain ⟨_, e, _⟩ := id hl; exact Heap.lt_size e
  refine call_any_walk (PyProof.Rows.iter_tuple hl ?_)
  refine ⟨_, _, _, _, _, _, _, rfl, Walks.tuple (A := X.A.in1) (I.ok.hd hc) _ a (Nat.ne_of_lt hlt) its.toArray, ⟨⟨_, Heap.get?_push_size _ rfl, rfl, rfl⟩, Heap.IsTuple.push hl _⟩, truth_ints rv, fun h' tk hk => ?_⟩
  refine ⟨.bl _, H, I.kept fun b o eo => hk b o (fun hmem => ?_) (Heap.get?_push_of_some _ eo), ?_, q⟩
  · rcases List.mem_cons.mp hmem with e1 | hmem
    · exact absurd (e1 ▸ Heap.lt_size eo) (Nat.lt_irrefl _)
    · cases hmem
  · show Value.bool _ = Value.bool _
    have e2 : its.toArray.size = (ns.map (· != 0)).length := by
      have := rv.length
      rw [List.length_map] at this
      rw [List.size_toArray, List.length_map]
      exact this.symm
    rw [e2, L2.any_range, List.any_map]
    rfl
theorem cr_anyNK {X : Cx} {K : PySem.W.Frag} (h : X.K = K) (hc : X.calm = true) : CallR X (.builtin "any") (rAnyN K) := h ▸ cr_anyN hc
theorem nc_anyN {K : PySem.W.Frag} {ns : List Int} : NCall K (rAnyN K) [.d (.tuple (ns.map .int))] (.bool (ns.any (· != 0))) := nc1 fun v G H Q e hv q => by
  cases hv with
  | tup hs ha =>
    rw [dpa_ints_inv ha] at hs
    exact ⟨_, ns, rfl, Evl.ex_t e hs, q _ (.bl _)⟩
/-! ### a number in a tuple of numbers -/
theorem op_in_seqK {X : Cx} {K : PySem.W.Frag} (h : X.K = K) : OpR X (compareOp .In) (rIn K false) := h ▸ op_in_seq
theorem we_inT {K : PySem.W.Frag} {s : Option Addr} {Z : List Sk} {O : Own} {P : PyData → Prop} {ta tb : TE} (h : WE K s ta Z O fun x => WE K s tb Z O fun y => ∃ (i : Int) (ns : List Int), x = .int i ∧ y = .tuple (ns.map .int) ∧ P (.bool (ns.any fun n => n == i))) : WE K s (tOp (rIn K false) ta tb) Z O P :=
  we_nop (we_imp h fun x hx => we_imp hx fun y ⟨i, ns, e1, e2, p⟩ => ⟨_, fun v w G H Q e hv hw q => by
    subst e1 e2
    cases hv
    cases hw with
    | tup hs ha =>
      rw [dpa_ints_inv ha] at hs
      refine ⟨_, _, rfl, .inr (Evl.ex_t e hs), rfl, by simp [flatV], ?_⟩
      have e3 : inV (.int i) (ns.map V.int) = ns.any fun n => n == i := by
        unfold inV
        rw [List.any_map]
        rfl
      rw [if_neg Bool.false_ne_true, e3]
      exact q _ (.bl _), p⟩)
theorem pt_truthK {X : Cx} {K : PySem.W.Frag} {a : Expr} {ta : TE} (h : X.K = K) (ha : PE X a ta) (he : ∀ whole, isTrue a X.env whole = (do let v ← whole; standAt a.pos; holding [v] (truthy v))) :
    PT X a (fun σ H Q => ta σ H fun x H' => ∃ k, TruV K x H' k ∧ Q k H') := h ▸ pt_truth ha he
theorem pi_enumK {X : Cx} {K : PySem.W.Frag} {e : Expr} {ta : TA} {p pos tpos : Pos} {elts : List Expr} {kk : Nat} (h : X.K = K) (hg : Gl X "enumerate") (hm : X.mg "enumerate" = none) (ha : PA X [e] ta) (hs : starEach [e] X.env = [(false, eval e X.env)] := by rfl) :
    PI X (.Tuple elts kk tpos) (.Call (.Name "enumerate" p) [e] [] pos) (iEnum K ta) := h ▸ pi_enum hg hm ha hs
end DL

/-! DLr: a tuple times a number from one on. -/
namespace DL
open PySem PySem.Spec PyProof.Rows L2
open Evl (Ex)
/-! ### t * k, k from 1 on -/
theorem tuple_mul1 (l : Addr) (items : Array Value) (n : Nat) (dd : Option Addr) (sl : Array (Option Value)) (x : Int) (u : Tok) (c0 : (decide (x < -(2 ^ 63)) || decide (x ≥ 2 ^ 63)) = false) (c1 : (items.isEmpty || x == 1) = true) :
    Meets (Builtin.«tuple.__mul__» ⟨[.ref l, .int x u], []⟩) (fun _ R s => s.heap.get? l = some { cls := .type "tuple", dict := dd, data := .seq items n, slots := sl } ∧
      R (.ok (.ret (Value.ref l))) s) :=
  .of_wp fun prog w A R s h => by
    obtain ⟨hp, g, d, tk, os⟩ := s
    obtain ⟨hl, h⟩ := h
    have f1 := AutoSeq1.idx_int
    wp_walk using wpAny_loadPart' hl
    refine wpAny_ite_false (decide_eq_false (by rw [c0]; exact Bool.false_ne_true)) ?_
    wp_walk using wpAny_loadPart' hl
    exact ⟨_, rfl, h⟩
def rRepU (K : PySem.W.Frag) : R2 := fun x y H Q => ∃ l k xs, x = .ref l ∧ y = .int k ∧ SqT K H l xs ∧ xs ≠ [] ∧ 1 ≤ k ∧ k ≤ 1000 ∧ xs.length ≤ 1000 ∧ (k = 1 → Q (.ref l) H) ∧ (2 ≤ k → ∀ p, H p = none → Q (.ref p) (upd H p (.tup (List.replicate k.toNat xs).flatten)))
theorem op_repU {X : Cx} : OpR X (binaryOp .Mult) (rRepU X.K) := by
  intro pins s σ H x y v u Q I rx ry h
  obtain ⟨l, k, xs, rfl, rfl, hT, hne, h1, h2, hz, q1, q2⟩ := h
  by_cases e : k = 1
  · subst e
    cases rx
    obtain ⟨t, rfl⟩ := ry
    obtain ⟨its, r, ⟨⟨cls, dd, data, sl⟩, ho, hc, n, hd⟩, hs⟩ := I.tuple hT
    simp only at hc hd
    subst hc hd
    refine wpAny_binaryOp_repeat_ref (T := "tuple") (U := "int") (by decide) ⟨_, ho, rfl⟩ (fun s' => typeIs_int s' 1 t) noFill_tuple_mul F.fills_int_mul F.slot_int_rmul repeat_tuple F.slot_int_index.lookup
      (call_meets F.slot_int_rmul (typeIs_int s 1 t) F.entry_int_rmul (F.args_int_rmul_2 _ _) (int_rmul_tuple 1 t l its.toArray n dd sl)
        ⟨ho, rfl, ⟨_, ho, rfl⟩, call_meets F.slot_tuple_mul ⟨_, ho, rfl⟩ F.entry_tuple_mul (F.args_tuple_mul_2 _ _) (tuple_mul1 l its.toArray n dd sl 1 t (by decide) (by simp)) ⟨ho, ?_⟩⟩)
    exact ⟨.ref l, H, I, rfl, q1 rfl⟩
  · exact op_repT pins s σ H _ _ v u Q I rx ry ⟨l, k, xs, rfl, rfl, hT, hne, by omega, h2, hz, q2 (by omega)⟩
theorem op_repUK {X : Cx} {K : PySem.W.Frag} (h : X.K = K) : OpR X (binaryOp .Mult) (rRepU K) := h ▸ op_repU
theorem we_repT {K : PySem.W.Frag} {s : Option Addr} {Z : List Sk} {O : Own} {P : PyData → Prop} {ta tb : TE} (h : WE K s ta Z O fun x => WE K s tb Z O fun y => ∃ ds k, x = .tuple ds ∧ y = .int k ∧ ds ≠ [] ∧ 1 ≤ k ∧ k ≤ 1000 ∧ ds.length ≤ 1000 ∧ P (.tuple (List.replicate k.toNat ds).flatten)) : WE K s (tOp (rRepU K) ta tb) Z O P := fun F σ G H c Q q =>
  h F σ G H c _ fun v x G1 H1 c1 e1 hx hp => hp F σ G1 H1 c1 _ fun w y G2 H2 c2 e2 hy ⟨ds, k, ex, ey, hne, h1, h2, hl, p⟩ => by
    subst ex ey
    cases hy
    cases hx with
    | @tup a vs _ hs ha =>
      have ha2 := dpa_mono e2 _ _ ha
      have hs2 := Evl.ex_t e2 hs
      have hn : vs ≠ [] := fun z => hne (by
        subst z
        cases ha
        rfl)
      refine ⟨a, k, vs, rfl, rfl, Evl.ex_t c2.ex hs2, hn, h1, h2, by rw [dpa_len ha]; exact hl, fun e => ?_, fun _ t ht => ?_⟩
      · subst e
        have e3 : (List.replicate (Int.toNat 1) ds).flatten = ds := by simp
        rw [e3] at p
        exact q _ _ G2 H2 c2 (e1.trans e2) (.tup hs2 ha2) p
      · obtain ⟨c3, e3⟩ := c2.new (o := .tup (List.replicate k.toNat vs).flatten) ht
        exact q (.ref t) _ _ _ c3 ((e1.trans e2).trans e3) (.tup (.inl (.inl upd_same)) (dpa_mono e3 _ _ (dpa_rep ha2 _))) p
end DL

/-! SLa: a symbolic heap over the hand layer. G: the part of the heap that stands still (data are told by it); O: the cells that are one's own,
told by what they hold; the box: the law's own drawing list; X: what may be raised, of class and field. -/
namespace SL
open PySem PySem.Spec PyProof.Rows L2
open Evl (Ex)

/-! ### data stay told where the heap grows -/
theorem rd_mono {H H' : Hp} {a : Addr} {u : HO} (e : Ex H H') (h : Rd H a u) : Rd H' a u := Evl.ex_rd e h
mutual
theorem dp_mono {K : PySem.W.Frag} {H H' : Hp} (e : Ex H H') : ∀ (d : PyData) (v : V), Dp K H v d → Dp K H' v d
  | .none, _, h => by cases h; exact .non
  | .bool b, _, h => by cases h; exact .bl b
  | .int i, _, h => by cases h; exact .int i
  | .str x, _, h => by cases h; exact .str x
  | .list ds, _, h => by
    cases h with
    | lst hs ha => exact .lst (Evl.ex_l e hs) (dpa_mono e ds _ ha)
  | .tuple ds, _, h => by
    cases h with
    | tup hs ha => exact .tup (Evl.ex_t e hs) (dpa_mono e ds _ ha)
  | .dict _, _, h => by cases h
theorem dpa_mono {K : PySem.W.Frag} {H H' : Hp} (e : Ex H H') : ∀ (ds : List PyData) (vs : List V), DpAll K H vs ds → DpAll K H' vs ds
  | [], _, h => by cases h; exact .nil
  | d :: ds, _, h => by
    cases h with
    | cons h1 h2 => exact .cons (dp_mono e d _ h1) (dpa_mono e ds _ h2)
end
theorem dpa_len {K : PySem.W.Frag} {G : Hp} : ∀ {vs : List V} {ds : List PyData}, DpAll K G vs ds → vs.length = ds.length
  | _, _, .nil => rfl
  | _, _, .cons _ t => congrArg (· + 1) (dpa_len t)
theorem dpa_app {K : PySem.W.Frag} {G : Hp} : ∀ {vs ws : List V} {ds es : List PyData}, DpAll K G vs ds → DpAll K G ws es → DpAll K G (vs ++ ws) (ds ++ es)
  | _, _, _, _, .nil, h => h
  | _, _, _, _, .cons a t, h => .cons a (dpa_app t h)
theorem dpa_at {K : PySem.W.Frag} {G : Hp} : ∀ {vs : List V} {ds : List PyData} {i : Nat} {v : V}, DpAll K G vs ds → vs[i]? = some v → ∃ d, ds[i]? = some d ∧ Dp K G v d
  | _, _, i, _, .nil, e => by simp at e
  | _, _, 0, _, .cons a _, e => by
    simp at e
    subst e
    exact ⟨_, rfl, a⟩
  | _, _, i + 1, _, .cons _ t, e => by
    obtain ⟨d, h1, h2⟩ := dpa_at (i := i) t (by simpa using e)
    exact ⟨d, by simpa using h1, h2⟩
theorem dpa_atd {K : PySem.W.Frag} {G : Hp} {vs : List V} {ds : List PyData} {i : Nat} {d : PyData} (h : DpAll K G vs ds) (e : ds[i]? = some d) : ∃ v, vs[i]? = some v ∧ Dp K G v d := by
  have hl := dpa_len h
  have hi : i < ds.length := (List.getElem?_eq_some_iff.mp e).1
  have hv : vs[i]? = some vs[i] := List.getElem?_eq_getElem (by omega)
  obtain ⟨d', h1, h2⟩ := dpa_at h hv
  rw [e] at h1
  cases h1
  exact ⟨_, hv, h2⟩
theorem dpa_set {K : PySem.W.Frag} {G : Hp} {v : V} {d : PyData} (hd : Dp K G v d) : ∀ {vs : List V} {ds : List PyData} (i : Nat), DpAll K G vs ds → DpAll K G (vs.set i v) (ds.set i d)
  | _, _, _, .nil => .nil
  | _, _, 0, .cons _ t => .cons hd t
  | _, _, i + 1, .cons a t => .cons a (dpa_set hd i t)
theorem dpa_drop {K : PySem.W.Frag} {G : Hp} : ∀ {vs : List V} {ds : List PyData} (n : Nat), DpAll K G vs ds → DpAll K G (vs.drop n) (ds.drop n)
  | _, _, 0, h => h
  | _, _, _ + 1, .nil => .nil
  | _, _, n + 1, .cons _ t => dpa_drop n t
theorem dpa_take {K : PySem.W.Frag} {G : Hp} : ∀ {vs : List V} {ds : List PyData} (n : Nat), DpAll K G vs ds → DpAll K G (vs.take n) (ds.take n)
  | _, _, 0, _ => .nil
  | _, _, _ + 1, .nil => .nil
  | _, _, n + 1, .cons a t => .cons a (dpa_take n t)
theorem dpa_ints {K : PySem.W.Frag} {G : Hp} : ∀ {ns : List Int}, DpAll K G (ns.map V.int) (ns.map PyData.int)
  | [] => .nil
  | n :: _ => .cons (.int n) dpa_ints
theorem dpa_ints_inv {K : PySem.W.Frag} {G : Hp} : ∀ {ns : List Int} {vs : List V}, DpAll K G vs (ns.map PyData.int) → vs = ns.map V.int
  | [], _, .nil => rfl
  | n :: ns, _, .cons a t => by
    cases a
    rw [dpa_ints_inv t]
    rfl

/-! ### kinds of values, cells -/
/-- what is known of a value: nothing, its datum, or the value itself -/
inductive Sk where
  | no | d (x : PyData) | v (u : V)
def SkV (K : PySem.W.Frag) (G : Hp) : Sk → V → Prop
  | .no, _ => True
  | .d x, v => Dp K G v x
  | .v u, v => v = u
def SkO (K : PySem.W.Frag) (G : Hp) : Sk → Option V → Prop
  | .no, _ => True
  | .d x, o => ∃ v, o = some v ∧ Dp K G v x
  | .v u, o => o = some u
theorem SkV.mono {K : PySem.W.Frag} {G G' : Hp} (e : Ex G G') : ∀ {k : Sk} {v : V}, SkV K G k v → SkV K G' k v
  | .no, _, _ => True.intro
  | .d x, v, h => dp_mono e x v h
  | .v _, _, h => h
theorem SkO.mono {K : PySem.W.Frag} {G G' : Hp} (e : Ex G G') : ∀ {k : Sk} {o : Option V}, SkO K G k o → SkO K G' k o
  | .no, _, _ => True.intro
  | .d x, _, ⟨v, h, q⟩ => ⟨v, h, dp_mono e x v q⟩
  | .v _, _, h => h
theorem SkV.toO {K : PySem.W.Frag} {G : Hp} : ∀ {k : Sk} {v : V}, SkV K G k v → SkO K G k (some v)
  | .no, _, _ => True.intro
  | .d _, v, h => ⟨v, rfl, h⟩
  | .v _, _, h => congrArg some h
def SkAll (K : PySem.W.Frag) (G : Hp) : List V → List Sk → Prop
  | [], [] => True
  | v :: vs, k :: ks => SkV K G k v ∧ SkAll K G vs ks
  | _, _ => False
theorem SkAll.mono {K : PySem.W.Frag} {G G' : Hp} (e : Ex G G') : ∀ {vs : List V} {ks : List Sk}, SkAll K G vs ks → SkAll K G' vs ks
  | [], [], _ => True.intro
  | _ :: _, _ :: _, h => ⟨h.1.mono e, SkAll.mono e h.2⟩
  | [], _ :: _, h => h.elim
  | _ :: _, [], h => h.elim
theorem SkAll.len {K : PySem.W.Frag} {G : Hp} : ∀ {vs : List V} {ks : List Sk}, SkAll K G vs ks → vs.length = ks.length
  | [], [], _ => rfl
  | _ :: _, _ :: _, h => congrArg (· + 1) (SkAll.len h.2)
  | [], _ :: _, h => h.elim
  | _ :: _, [], h => h.elim
theorem SkAll.app {K : PySem.W.Frag} {G : Hp} : ∀ {vs ws : List V} {ks ls : List Sk}, SkAll K G vs ks → SkAll K G ws ls → SkAll K G (vs ++ ws) (ks ++ ls)
  | [], _, [], _, _, h => h
  | _ :: _, _, _ :: _, _, h, h2 => ⟨h.1, SkAll.app h.2 h2⟩
  | [], _, _ :: _, _, h, _ => h.elim
  | _ :: _, _, [], _, h, _ => h.elim
theorem SkAll.at {K : PySem.W.Frag} {G : Hp} : ∀ {vs : List V} {ks : List Sk} {i : Nat} {k : Sk}, SkAll K G vs ks → ks[i]? = some k → ∃ v, vs[i]? = some v ∧ SkV K G k v
  | [], [], i, _, _, e => by simp at e
  | v :: _, _ :: _, 0, _, h, e => by
    simp at e
    subst e
    exact ⟨v, rfl, h.1⟩
  | _ :: _, _ :: _, i + 1, _, h, e => by
    obtain ⟨v, h1, h2⟩ := SkAll.at (i := i) h.2 (by simpa using e)
    exact ⟨v, by simpa using h1, h2⟩
  | [], _ :: _, _, _, h, _ => h.elim
  | _ :: _, [], _, _, h, _ => h.elim
theorem SkAll.set {K : PySem.W.Frag} {G : Hp} {v : V} {k : Sk} (hk : SkV K G k v) : ∀ {vs : List V} {ks : List Sk} (i : Nat), SkAll K G vs ks → SkAll K G (vs.set i v) (ks.set i k)
  | [], [], _, _ => True.intro
  | _ :: _, _ :: _, 0, h => ⟨hk, h.2⟩
  | _ :: _, _ :: _, i + 1, h => ⟨h.1, SkAll.set hk i h.2⟩
  | [], _ :: _, _, h => h.elim
  | _ :: _, [], _, h => h.elim
theorem SkAll.data {K : PySem.W.Frag} {G : Hp} : ∀ {vs : List V} {ds : List PyData}, DpAll K G vs ds → SkAll K G vs (ds.map .d)
  | _, _, .nil => True.intro
  | _, _, .cons a t => ⟨a, SkAll.data t⟩
theorem SkAll.undata {K : PySem.W.Frag} {G : Hp} : ∀ {vs : List V} {ds : List PyData}, SkAll K G vs (ds.map .d) → DpAll K G vs ds
  | [], [], _ => .nil
  | _ :: _, _ :: _, h => .cons h.1 (SkAll.undata h.2)
  | [], _ :: _, h => h.elim
  | _ :: _, [], h => h.elim
/-- entries by key -/
def KvAll (K : PySem.W.Frag) (G : Hp) {κ : Type} : List (κ × V) → List (κ × Sk) → Prop
  | [], [] => True
  | (a, v) :: r, (b, k) :: r' => a = b ∧ SkV K G k v ∧ KvAll K G r r'
  | _, _ => False
theorem KvAll.mono {K : PySem.W.Frag} {κ : Type} {G G' : Hp} (e : Ex G G') : ∀ {r : List (κ × V)} {r' : List (κ × Sk)}, KvAll K G r r' → KvAll K G' r r'
  | [], [], _ => True.intro
  | (_, _) :: _, (_, _) :: _, h => ⟨h.1, h.2.1.mono e, KvAll.mono e h.2.2⟩
  | [], (_, _) :: _, h => h.elim
  | (_, _) :: _, [], h => h.elim
/-- what one's own cell holds -/
inductive Cell where
  | lst (ks : List Sk)
  | dct (kvs : List (Key × Sk))
  | dcT (kvs : List (List Key × Sk))
  | ins (C dx : Addr) (fs : List (Str × Sk))
  | own (x : Addr)
  | xd (fs : List (Str × Sk))
  | tup (ks : List Sk)
  | lck (od : Obj) (us : List (Key × V)) (kvs : List (Key × Sk))
def CellOk (K : PySem.W.Frag) (G : Hp) : Cell → HO → Prop
  | .lst ks, o => ∃ vs, o = .lst vs ∧ SkAll K G vs ks
  | .dct kvs, o => ∃ us, o = .dK us ∧ KvAll K G us kvs
  | .dcT kvs, o => ∃ us, o = .dT us ∧ KvAll K G us kvs
  | .ins C dx fs, o => ∃ us, o = .ins C dx us ∧ KvAll K G us fs
  | .own x, o => o = .own x
  | .xd fs, o => ∃ us, o = .xd us ∧ KvAll K G us fs
  | .tup ks, o => ∃ vs, o = .tup vs ∧ SkAll K G vs ks
  | .lck od us kvs, o => o = .frz od (.dK us) ∧ KvAll K G us kvs
theorem CellOk.mono {K : PySem.W.Frag} {G G' : Hp} (e : Ex G G') : ∀ {c : Cell} {o : HO}, CellOk K G c o → CellOk K G' c o
  | .lst _, _, ⟨vs, h, q⟩ => ⟨vs, h, q.mono e⟩
  | .dct _, _, ⟨vs, h, q⟩ => ⟨vs, h, q.mono e⟩
  | .dcT _, _, ⟨vs, h, q⟩ => ⟨vs, h, q.mono e⟩
  | .ins _ _ _, _, ⟨vs, h, q⟩ => ⟨vs, h, q.mono e⟩
  | .own _, _, h => h
  | .xd _, _, ⟨vs, h, q⟩ => ⟨vs, h, q.mono e⟩
  | .tup _, _, ⟨vs, h, q⟩ => ⟨vs, h, q.mono e⟩
  | .lck _ _ _, _, ⟨h, q⟩ => ⟨h, q.mono e⟩
abbrev Own := List (Addr × Cell)

/-! ### the box -/
def BoxOk (K : PySem.W.Frag) (b : Addr) (G H : Hp) : Prop := ∃ (c : Addr) (ns : List Int) (i x sd : Int), H b = some (.lst [.ref c, .int i, .int x, .int sd]) ∧ G b = none ∧ SqL K G c (ns.map V.int) ∧ ns.length ≤ 63 ∧
  0 ≤ i ∧ i ≤ 63 ∧ 0 ≤ x ∧ 0 ≤ sd ∧ sd < 2147483399
def BoxO (K : PySem.W.Frag) (s : Option Addr) (G H : Hp) : Prop := ∀ b, s = some b → BoxOk K b G H

/-! ### the state -/
structure Fb where
  M : Addr → Prop
  G : Hp
  H : Hp
structure Cfg (K : PySem.W.Frag) (F : Fb) (s : Option Addr) (Z : List Sk) (O : Own) (σ : L2.St) (G H : Hp) : Prop where
  len : σ.length = Z.length
  sl : ∀ (i : Nat) (k : Sk), Z[i]? = some k → ∃ o, σ[i]? = some o ∧ SkO K G k o
  ex : Ex G H
  box : BoxO K s G H
  bxM : ∀ b, s = some b → F.M b ∨ F.H b = none
  own : ∀ p c, (p, c) ∈ O → G p = none ∧ s ≠ some p ∧ (F.M p ∨ F.H p = none) ∧ ∃ o, H p = some o ∧ CellOk K G c o
  nd : (O.map (·.1)).Nodup
  e0 : Ex F.G G
  h0 : ∀ a o, ¬ F.M a → F.H a = some o → H a = some o
  h1 : ∀ a o, F.H a = some o → ∃ o', H a = some o'
  g0 : ∀ a o, ¬ F.M a → F.H a = some o → G a = F.G a
section
variable {K : PySem.W.Frag} {F : Fb} {s : Option Addr} {Z : List Sk} {O : Own} {σ : L2.St} {G H : Hp}
/-- the heap grows, the still part grows, what stood stands -/
theorem Cfg.grow (c : Cfg K F s Z O σ G H) {G' H' : Hp} (e : Ex G G') (e' : Ex G' H') (h : Ex H H') (k : ∀ a o, H a = some o → G' a = G a) : Cfg K F s Z O σ G' H' := by
  refine ⟨c.len, fun i k' hk => ?_, e', fun b hb => ?_, c.bxM, fun p cc hp => ?_, c.nd, c.e0.trans e, fun a o hm ha => h a o (c.h0 a o hm ha), fun a o ha => ?_, fun a o hm ha => ?_⟩
  · obtain ⟨o, h1, h2⟩ := c.sl i k' hk
    exact ⟨o, h1, h2.mono e⟩
  · obtain ⟨cc, ns, i, x, sd, b1, b2, b3, b4⟩ := c.box b hb
    exact ⟨cc, ns, i, x, sd, h _ _ b1, by rw [k _ _ b1]; exact b2, Evl.ex_l e b3, b4⟩
  · obtain ⟨o1, o2, o3, o, o4, o5⟩ := c.own p cc hp
    exact ⟨by rw [k _ _ o4]; exact o1, o2, o3, o, h _ _ o4, o5.mono e⟩
  · obtain ⟨o', h'⟩ := c.h1 a o ha
    exact ⟨o', h _ _ h'⟩
  · obtain ⟨o', h'⟩ := c.h1 a o ha
    rw [k a o' h']
    exact c.g0 a o hm ha
/-- the same where the box has turned -/
theorem Cfg.growB {b : Addr} (c : Cfg K F (some b) Z O σ G H) {G' H' : Hp} (e : Ex G G') (e' : Ex G' H') (h : ∀ a o, a ≠ b → H a = some o → H' a = some o) (k : ∀ a o, H a = some o → G' a = G a) (hb : BoxOk K b G' H') : Cfg K F (some b) Z O σ G' H' := by
  refine ⟨c.len, fun i k' hk => ?_, e', fun b' hb' => ?_, c.bxM, fun p cc hp => ?_, c.nd, c.e0.trans e, fun a o hm ha => ?_, fun a o ha => ?_, fun a o hm ha => ?_⟩
  · obtain ⟨o, h1, h2⟩ := c.sl i k' hk
    exact ⟨o, h1, h2.mono e⟩
  · cases hb'
    exact hb
  · obtain ⟨o1, o2, o3, o, o4, o5⟩ := c.own p cc hp
    exact ⟨by rw [k _ _ o4]; exact o1, o2, o3, o, h _ _ (fun z => o2 (by rw [z])) o4, o5.mono e⟩
  · refine h a o (fun z => ?_) (c.h0 a o hm ha)
    rcases c.bxM b rfl with q | q
    · exact hm (by rw [z]; exact q)
    · rw [z, q] at ha
      cases ha
  · obtain ⟨o', h'⟩ := c.h1 a o ha
    by_cases z : a = b
    · obtain ⟨_, _, _, _, _, b1, _⟩ := hb
      exact ⟨_, by rw [z]; exact b1⟩
    · exact ⟨o', h _ _ z h'⟩
  · obtain ⟨o', h'⟩ := c.h1 a o ha
    rw [k a o' h']
    exact c.g0 a o hm ha
theorem Cfg.gnone (c : Cfg K F s Z O σ G H) {p : Addr} (hp : H p = none) : G p = none := by
  cases q : G p with
  | none => rfl
  | some u =>
    rw [c.ex p u q] at hp
    cases hp
theorem Cfg.hnone (c : Cfg K F s Z O σ G H) {p : Addr} (hp : H p = none) : F.H p = none := by
  cases q : F.H p with
  | none => rfl
  | some u =>
    obtain ⟨o', h'⟩ := c.h1 p u q
    rw [h'] at hp
    cases hp
/-- a new thing that stands still -/
theorem Cfg.new (c : Cfg K F s Z O σ G H) {p : Addr} {o : HO} (hp : H p = none) : Cfg K F s Z O σ (upd G p o) (upd H p o) ∧ Ex G (upd G p o) := by
  have hg : G p = none := c.gnone hp
  refine ⟨c.grow (Evl.Ex.new hg) (fun a u hu => ?_) (Evl.Ex.new hp) (fun a u hu => ?_), Evl.Ex.new hg⟩
  · by_cases z : a = p
    · subst z
      rw [upd_same] at hu ⊢
      exact hu
    · rw [upd_ne z] at hu ⊢
      exact c.ex a u hu
  · rw [upd_ne (ne_of_none hu hp)]
theorem Cfg.notOwn (c : Cfg K F s Z O σ G H) {p : Addr} (hp : H p = none) : p ∉ O.map (·.1) := fun z => by
  obtain ⟨⟨q, es⟩, hq, e⟩ := List.mem_map.mp z
  obtain ⟨_, _, _, o, o4, _⟩ := c.own q es hq
  have e : q = p := e
  rw [e, hp] at o4
  cases o4
theorem Cfg.notBox (c : Cfg K F s Z O σ G H) {p : Addr} (hp : H p = none) : s ≠ some p := fun z => by
  obtain ⟨_, _, _, _, _, b1, _⟩ := c.box p z
  rw [hp] at b1
  cases b1
/-- a new cell of one's own -/
theorem Cfg.newOwn (c : Cfg K F s Z O σ G H) {p : Addr} {cc : Cell} {o : HO} (hp : H p = none) (hc : CellOk K G cc o) : Cfg K F s Z ((p, cc) :: O) σ G (upd H p o) := by
  have hg : G p = none := c.gnone hp
  have c' := c.grow (G' := G) (H' := upd H p o) (Evl.Ex.refl _) (c.ex.trans (Evl.Ex.new hp)) (Evl.Ex.new hp) (fun _ _ _ => rfl)
  refine ⟨c'.len, c'.sl, c'.ex, c'.box, c'.bxM, fun q es hq => ?_, ?_, c'.e0, c'.h0, c'.h1, c'.g0⟩
  · rcases List.mem_cons.mp hq with z | z
    · cases z
      exact ⟨hg, c.notBox hp, .inr (c.hnone hp), o, upd_same, hc⟩
    · exact c'.own q es z
  · rw [List.map_cons, List.nodup_cons]
    exact ⟨c.notOwn hp, c.nd⟩
theorem Cfg.perm {O' : Own} (c : Cfg K F s Z O σ G H) (h : O.Perm O') : Cfg K F s Z O' σ G H :=
  ⟨c.len, c.sl, c.ex, c.box, c.bxM, fun p cc hp => c.own p cc (h.mem_iff.mpr hp), (h.map (·.1)).nodup_iff.mp c.nd, c.e0, c.h0, c.h1, c.g0⟩
theorem Cfg.tail {p : Addr × Cell} (c : Cfg K F s Z (p :: O) σ G H) : Cfg K F s Z O σ G H :=
  ⟨c.len, c.sl, c.ex, c.box, c.bxM, fun q ds h => c.own q ds (List.mem_cons_of_mem _ h), (List.nodup_cons.mp (by have := c.nd; rwa [List.map_cons] at this)).2, c.e0, c.h0, c.h1, c.g0⟩
/-- the cell at the head changes -/
theorem Cfg.setOwn {p : Addr} {cc cd : Cell} {o : HO} (c : Cfg K F s Z ((p, cc) :: O) σ G H) (hd : CellOk K G cd o) : Cfg K F s Z ((p, cd) :: O) σ G (upd H p o) := by
  obtain ⟨o1, o2, o3, u, o4, o5⟩ := c.own p cc (List.mem_cons_self ..)
  have nd := c.nd
  rw [List.map_cons, List.nodup_cons] at nd
  have keep : ∀ a v, a ≠ p → H a = some v → (upd H p o) a = some v := fun a v ha h => by
    rw [upd_ne ha]
    exact h
  refine ⟨c.len, c.sl, fun a u hu => keep a u (fun z => by rw [z, o1] at hu; cases hu) (c.ex a u hu), fun b hb => ?_, c.bxM, fun q fs hq => ?_, ?_, c.e0, fun a v hm ha => ?_, fun a v ha => ?_, c.g0⟩
  · obtain ⟨cc, ns, i, x, sd, b1, b2, b3, b4⟩ := c.box b hb
    exact ⟨cc, ns, i, x, sd, keep _ _ (fun z => o2 (by rw [← z]; exact hb)) b1, b2, b3, b4⟩
  · rcases List.mem_cons.mp hq with z | z
    · cases z
      exact ⟨o1, o2, o3, o, upd_same, hd⟩
    · obtain ⟨p1, p2, p3, us, p4, p5⟩ := c.own q fs (List.mem_cons_of_mem _ z)
      refine ⟨p1, p2, p3, us, keep _ _ (fun e => nd.1 ?_) p4, p5⟩
      exact List.mem_map.mpr ⟨(q, fs), z, e⟩
  · rw [List.map_cons, List.nodup_cons]
    exact nd
  · refine keep a v (fun z => ?_) (c.h0 a v hm ha)
    rcases o3 with q | q
    · exact hm (by rw [z]; exact q)
    · rw [z, q] at ha
      cases ha
  · by_cases z : a = p
    · subst z
      exact ⟨_, upd_same⟩
    · obtain ⟨o', h'⟩ := c.h1 a v ha
      exact ⟨o', keep _ _ z h'⟩
/-- an own list of data at the head comes to stand still -/
theorem Cfg.freeze {p : Addr} {ds : List PyData} (c : Cfg K F s Z ((p, .lst (ds.map .d)) :: O) σ G H) : ∃ G', Cfg K F s Z O σ G' H ∧ Ex G G' ∧ Dp K G' (.ref p) (.list ds) := by
  obtain ⟨o1, o2, o3, u, o4, vs, eu, o5⟩ := c.own p _ (List.mem_cons_self ..)
  subst eu
  have nd := c.nd
  rw [List.map_cons, List.nodup_cons] at nd
  have e : Ex G (upd G p (.lst vs)) := Evl.Ex.new o1
  refine ⟨upd G p (.lst vs), ⟨c.len, fun i k hk => ?_, fun a u hu => ?_, fun b hb => ?_, c.bxM, fun q fs hq => ?_, nd.2, c.e0.trans e, c.h0, c.h1, fun a o hm ha => ?_⟩, e, .lst (.inl (.inl upd_same)) (dpa_mono e ds vs (SkAll.undata o5))⟩
  · obtain ⟨o, h1, h2⟩ := c.sl i k hk
    exact ⟨o, h1, h2.mono e⟩
  · by_cases z : a = p
    · subst z
      rw [upd_same] at hu
      cases hu
      exact o4
    · rw [upd_ne z] at hu
      exact c.ex a u hu
  · obtain ⟨cc, ns, i, x, sd, b1, b2, b3, b4⟩ := c.box b hb
    exact ⟨cc, ns, i, x, sd, b1, by rw [upd_ne (fun z => o2 (by rw [← z]; exact hb))]; exact b2, Evl.ex_l e b3, b4⟩
  · obtain ⟨p1, p2, p3, us, p4, p5⟩ := c.own q fs (List.mem_cons_of_mem _ hq)
    refine ⟨?_, p2, p3, us, p4, p5.mono e⟩
    rw [upd_ne (fun z => nd.1 (List.mem_map.mpr ⟨(q, fs), hq, z⟩))]
    exact p1
  · rw [upd_ne (fun z => ?_)]
    · exact c.g0 a o hm ha
    · rcases o3 with q | q
      · exact hm (by rw [z]; exact q)
      · rw [z, q] at ha
        cases ha
theorem Cfg.setO (c : Cfg K F s Z O σ G H) {i : Nat} {k : Sk} {o : Option V} (h : SkO K G k o) : Cfg K F s (Z.set i k) O (σ.set i o) G H := by
  refine ⟨by rw [List.length_set, List.length_set]; exact c.len, fun j k' hj => ?_, c.ex, c.box, c.bxM, c.own, c.nd, c.e0, c.h0, c.h1, c.g0⟩
  by_cases z : i = j
  · subst z
    have hi : i < Z.length := by
      have := (List.getElem?_eq_some_iff.mp hj).1
      rwa [List.length_set] at this
    rw [List.getElem?_set_self hi] at hj
    cases hj
    exact ⟨_, List.getElem?_set_self (by rw [c.len]; exact hi), h⟩
  · rw [List.getElem?_set_ne z] at hj ⊢
    exact c.sl j k' hj
theorem Cfg.set (c : Cfg K F s Z O σ G H) {i : Nat} {k : Sk} {v : V} (h : SkV K G k v) : Cfg K F s (Z.set i k) O (σ.set i (some v)) G H := c.setO h.toO
theorem Cfg.forget (c : Cfg K F s Z O σ G H) : Cfg K F s [] O [] G H :=
  ⟨rfl, fun i k h => by simp at h, c.ex, c.box, c.bxM, c.own, c.nd, c.e0, c.h0, c.h1, c.g0⟩
theorem Cfg.drop (c : Cfg K F s Z O σ G H) : Cfg K F s Z [] σ G H :=
  ⟨c.len, c.sl, c.ex, c.box, c.bxM, fun p ds h => by simp at h, List.nodup_nil, c.e0, c.h0, c.h1, c.g0⟩
/-- slots told again -/
theorem Cfg.slots (c : Cfg K F s Z O σ G H) {Z' : List Sk} {σ' : L2.St} (hl : σ'.length = Z'.length) (h : ∀ (i : Nat) (k : Sk), Z'[i]? = some k → ∃ o, σ'[i]? = some o ∧ SkO K G k o) : Cfg K F s Z' O σ' G H :=
  ⟨hl, h, c.ex, c.box, c.bxM, c.own, c.nd, c.e0, c.h0, c.h1, c.g0⟩
theorem Cfg.rebase {Z' : List Sk} {O' : Own} {σ σ' : L2.St} {G1 H1 G2 H2 : Hp} (c : Cfg K F s Z O σ G2 H2) (c1 : Cfg K F s Z' O' σ' G1 H1) (e : Ex G1 G2) : Cfg K { F with G := G1 } s Z O σ G2 H2 :=
  ⟨c.len, c.sl, c.ex, c.box, c.bxM, c.own, c.nd, e, c.h0, c.h1, fun a o m h => (c.g0 a o m h).trans (c1.g0 a o m h).symm⟩
theorem Cfg.unbase {Z' : List Sk} {O' : Own} {σ σ' : L2.St} {G1 H1 G2 H2 : Hp} (c : Cfg K { F with G := G1 } s Z O σ G2 H2) (c1 : Cfg K F s Z' O' σ' G1 H1) : Cfg K F s Z O σ G2 H2 :=
  ⟨c.len, c.sl, c.ex, c.box, c.bxM, c.own, c.nd, c1.e0.trans c.e0, c.h0, c.h1, fun a o m h => (c.g0 a o m h).trans (c1.g0 a o m h)⟩
end

/-! ### what may be raised -/
structure Sx where
  box : Option Addr := none
  E : WX := fun _ _ _ _ => False
  X : Value → Option Addr → List Sk → Own → Prop := fun _ _ _ _ => False
def FX (K : PySem.W.Frag) (F : Fb) (s : Sx) : Prop := ∀ cls d Z O σ G H, Cfg K F s.box Z O σ G H → s.X cls d Z O → s.E cls d σ H
theorem FX.rebase {K : PySem.W.Frag} {F : Fb} {s : Sx} {Z' : List Sk} {O' : Own} {σ' : L2.St} {G1 H1 : Hp} (x : FX K F s) (c1 : Cfg K F s.box Z' O' σ' G1 H1) : FX K { F with G := G1 } s :=
  fun cls d Z O σ G H c q => x cls d Z O σ G H (c.unbase c1) q

/-! ### judgements -/
section
variable (K : PySem.W.Frag) (s : Sx)
def WE (te : TE) (Z : List Sk) (O : Own) (P : Sk → Own → Prop) : Prop :=
  ∀ (F : Fb) (x : FX K F s) σ G H, Cfg K F s.box Z O σ G H → ∀ Q : VK, (∀ v k O' G' H', Cfg K F s.box Z O' σ G' H' → Ex G G' → SkV K G' k v → P k O' → Q v H') → te σ H Q
def WT (tt : TT) (Z : List Sk) (O : Own) (P : Bool → Own → Prop) : Prop :=
  ∀ (F : Fb) (x : FX K F s) σ G H, Cfg K F s.box Z O σ G H → ∀ Q : Bool → Hp → Prop, (∀ b O' G' H', Cfg K F s.box Z O' σ G' H' → Ex G G' → P b O' → Q b H') → tt σ H Q
def WA (ta : TA) (Z : List Sk) (O : Own) (P : List Sk → Own → Prop) : Prop :=
  ∀ (F : Fb) (x : FX K F s) σ G H, Cfg K F s.box Z O σ G H → ∀ Q : List V → Hp → Prop, (∀ vs ks O' G' H', Cfg K F s.box Z O' σ G' H' → Ex G G' → SkAll K G' vs ks → P ks O' → Q vs H') → ta σ H Q
def WO (to : TO) (Z : List Sk) (O : Own) (P : Option Int → Own → Prop) : Prop :=
  ∀ (F : Fb) (x : FX K F s) σ G H, Cfg K F s.box Z O σ G H → ∀ Q : Option Int → Hp → Prop, (∀ o O' G' H', Cfg K F s.box Z O' σ G' H' → Ex G G' → P o O' → Q o H') → to σ H Q
structure DE where
  nx : List Sk → Own → Prop
  rt : Sk → Own → Prop
  bk : List Sk → Own → Prop := fun _ _ => False
  ct : List Sk → Own → Prop := fun _ _ => False
structure Conv (F : Fb) (D : DE) (E : Ends) : Prop where
  nx : ∀ Z O σ G H, Cfg K F s.box Z O σ G H → D.nx Z O → E.nx σ H
  rt : ∀ v k O G H, Cfg K F s.box [] O [] G H → SkV K G k v → D.rt k O → E.rt v H
  bk : ∀ Z O σ G H, Cfg K F s.box Z O σ G H → D.bk Z O → E.bk σ H
  ct : ∀ Z O σ G H, Cfg K F s.box Z O σ G H → D.ct Z O → E.ct σ H
def SW (t : TS) (Z : List Sk) (O : Own) (D : DE) : Prop := ∀ (F : Fb) (x : FX K F s) σ G H E, Cfg K F s.box Z O σ G H → Conv K s F D E → t E σ H
/-- what a target does with a value -/
def GW (g : TG) (k : Sk) (Z : List Sk) (O : Own) (N : List Sk → Own → Prop) : Prop :=
  ∀ (F : Fb) (x : FX K F s) v σ G H, Cfg K F s.box Z O σ G H → SkV K G k v → ∀ Q : L2.St → Hp → Prop, (∀ Z' O' σ' G' H', Cfg K F s.box Z' O' σ' G' H' → Ex G G' → N Z' O' → Q σ' H') → g v σ H Q
def GWs (g : TGs) (ks : List Sk) (Z : List Sk) (O : Own) (N : List Sk → Own → Prop) : Prop :=
  ∀ (F : Fb) (x : FX K F s) vs σ G H, Cfg K F s.box Z O σ G H → SkAll K G vs ks → ∀ Q : L2.St → Hp → Prop, (∀ Z' O' σ' G' H', Cfg K F s.box Z' O' σ' G' H' → Ex G G' → N Z' O' → Q σ' H') → g vs σ H Q
/-- what is walked, by data: n turns, the i-th datum -/
def IW (wi : TI) (Z : List Sk) (O : Own) (P : Nat → (Nat → PyData → Prop) → Own → Prop) : Prop :=
  ∀ (F : Fb) (x : FX K F s) σ G H, Cfg K F s.box Z O σ G H → ∀ R : It → Hp → Prop, (∀ (J : It) (n : Nat) (Yd : Nat → PyData → Prop) (O' : Own) (G1 H1 : Hp), Cfg K F s.box Z O' σ G1 H1 → Ex G G1 → P n Yd O' →
    (∀ i G2 H2, Ex G1 G2 → Ex G2 H2 → (i < n → J.go i H2) ∧ (i = n → J.stop i H2) ∧ ∀ x H3, i < n → J.yld i H2 x H3 →
      ∃ d, Yd i d ∧ ((H3 = H2 ∧ Dp K G2 x d) ∨ ∃ T vs, x = .ref T ∧ H2 T = none ∧ H3 = upd H2 T (.tup vs) ∧ ∃ ds, d = .tuple ds ∧ DpAll K G2 vs ds)) → R J H1) → wi σ H R
end
end SL

/-! SLb: expressions. -/
namespace SL
open PySem PySem.Spec PyProof.Rows L2
open Evl (Ex)
theorem skd {K : PySem.W.Frag} {G : Hp} {v : V} {x : PyData} (h : Dp K G v x) : SkV K G (.d x) v := h
theorem skv {K : PySem.W.Frag} {G : Hp} {v : V} : SkV K G (.v v) v := rfl
section
variable {K : PySem.W.Frag} {F : Fb} {s : Sx} {Z : List Sk} {O : Own} {P : Sk → Own → Prop} {PB : Bool → Own → Prop} {ta tb tc te : TE} {t u : TT} {tr : TA} {G H : Hp} {σ : L2.St}
theorem we_imp {P' : Sk → Own → Prop} (h : WE K s te Z O P') (k : ∀ d O', P' d O' → P d O') : WE K s te Z O P := fun F x σ G H c Q q => h F x σ G H c Q fun v d O' G' H' c' e hd hp => q v d O' G' H' c' e hd (k d O' hp)
theorem wt_imp {P' : Bool → Own → Prop} (h : WT K s t Z O P') (k : ∀ d O', P' d O' → PB d O') : WT K s t Z O PB := fun F x σ G H c Q q => h F x σ G H c Q fun b O' G' H' c' e hp => q b O' G' H' c' e (k b O' hp)
theorem wa_imp {PA PA' : List Sk → Own → Prop} (h : WA K s tr Z O PA') (k : ∀ d O', PA' d O' → PA d O') : WA K s tr Z O PA := fun F x σ G H c Q q => h F x σ G H c Q fun v d O' G' H' c' e hd hp => q v d O' G' H' c' e hd (k d O' hp)
/-- a value that is not yet known is known, the own cells as they were -/
theorem we_is {k : Sk} (h : WE K s te Z O fun x O' => x = k ∧ O' = O) (p : P k O) : WE K s te Z O P := we_imp h fun d O' ⟨e, e'⟩ => by
  subst e e'
  exact p
theorem wt_is {c : Bool} (h : WT K s t Z O fun b O' => b = c ∧ O' = O) (k : PB c O) : WT K s t Z O PB := wt_imp h fun b O' ⟨e, e'⟩ => by
  subst e e'
  exact k
theorem wt_true (h : WT K s t Z O fun b O' => b = true ∧ O' = O) (k : PB true O) : WT K s t Z O PB := wt_is h k
theorem wt_false (h : WT K s t Z O fun b O' => b = false ∧ O' = O) (k : PB false O) : WT K s t Z O PB := wt_is h k
theorem we_var {i : Nat} {k : Sk} (h : Z[i]? = some k) (hk : k ≠ .no) (p : P k O) : WE K s (tVar i) Z O P := fun F x σ G H c Q q => by
  obtain ⟨o, h1, h2⟩ := c.sl i _ h
  cases k with
  | no => exact absurd rfl hk
  | d y =>
    obtain ⟨v, h2, h3⟩ := h2
    subst h2
    exact ⟨v, h1, q v (.d y) O G H c (Evl.Ex.refl _) h3 p⟩
  | v w =>
    have h2 : o = some w := h2
    subst h2
    exact ⟨w, h1, q w (.v w) O G H c (Evl.Ex.refl _) skv p⟩
theorem we_varD {i : Nat} {y : PyData} (h : Z[i]? = some (.d y)) (p : P (.d y) O) : WE K s (tVar i) Z O P := we_var h (fun z => nomatch z) p
theorem we_varV {i : Nat} {w : V} (h : Z[i]? = some (.v w)) (p : P (.v w) O) : WE K s (tVar i) Z O P := we_var h (fun z => nomatch z) p
theorem we_int {i : Int} (p : P (.d (.int i)) O) : WE K s (tC (.int i)) Z O P := fun F x σ G H c Q q => q _ _ O G H c (Evl.Ex.refl _) (skd (Dp.int i)) p
theorem we_bl {b : Bool} (p : P (.d (.bool b)) O) : WE K s (tC (.bl b)) Z O P := fun F x σ G H c Q q => q _ _ O G H c (Evl.Ex.refl _) (skd (Dp.bl b)) p
theorem we_non (p : P (.d .none) O) : WE K s (tC .non) Z O P := fun F x σ G H c Q q => q _ _ O G H c (Evl.Ex.refl _) (skd Dp.non) p
theorem we_str {y : Str} (p : P (.d (.str y)) O) : WE K s (tC (.str y)) Z O P := fun F x σ G H c Q q => q _ _ O G H c (Evl.Ex.refl _) (skd (Dp.str y)) p
theorem we_ty {n : String} (p : P (.v (.ty n)) O) : WE K s (tC (.ty n)) Z O P := fun F x σ G H c Q q => q _ _ O G H c (Evl.Ex.refl _) skv p
theorem we_refc {a : Addr} (p : P (.v (.ref a)) O) : WE K s (tC (.ref a)) Z O P := fun F x σ G H c Q q => q _ _ O G H c (Evl.Ex.refl _) skv p
/-- a new list of data comes to stand still -/
theorem we_frz (h : WE K s te Z O fun k O' => ∃ p ds O1, k = .v (.ref p) ∧ O' = (p, .lst (ds.map .d)) :: O1 ∧ P (.d (.list ds)) O1) : WE K s te Z O P := fun F x σ G H c Q q => h F x σ G H c Q fun v k O' G' H' c' e hk ⟨p, ds, O1, ek, eo, hp⟩ => by
  subst ek eo
  have hk : v = .ref p := hk
  subst hk
  obtain ⟨G2, c2, e2, hd⟩ := c'.freeze
  exact q (.ref p) _ O1 G2 H' c2 (e.trans e2) (skd hd) hp
theorem we_perm (h : WE K s te Z O fun k O' => ∃ O'', O'.Perm O'' ∧ P k O'') : WE K s te Z O P := fun F x σ G H c Q q => h F x σ G H c Q fun v k O' G' H' c' e hk ⟨O'', hp, p⟩ => q v k O'' G' H' (c'.perm hp) e hk p

/-! ### operations -/
/-- an operation of two data that leaves the heap -/
def NOp (K : PySem.W.Frag) (r : R2) (x y z : PyData) : Prop := ∀ v w G H (Q : VK), Ex G H → Dp K G v x → Dp K G w y → (∀ u, Dp K G u z → Q u H) → r v w H Q
theorem we_nop {r : R2} (h : WE K s ta Z O fun k1 O1 => WE K s tb Z O1 fun k2 O2 => ∃ x y z, k1 = .d x ∧ k2 = .d y ∧ NOp K r x y z ∧ P (.d z) O2) : WE K s (tOp r ta tb) Z O P := fun F x σ G H c Q q =>
  h F x σ G H c _ fun v k1 O1 G1 H1 c1 e1 h1 hp => hp F x σ G1 H1 c1 _ fun w k2 O2 G2 H2 c2 e2 h2 ⟨a, b, z, ea, eb, hz, p⟩ => by
    subst ea eb
    exact hz v w G2 H2 Q c2.ex (dp_mono e2 _ _ h1) h2 fun u hu => q u (.d z) O2 G2 H2 c2 (e1.trans e2) hu p
theorem we_opI {f : Int → Int → Int} (h : WE K s ta Z O fun k1 O1 => WE K s tb Z O1 fun k2 O2 => ∃ i j, k1 = .d (.int i) ∧ k2 = .d (.int j) ∧ P (.d (.int (f i j))) O2) : WE K s (tOp (rI0 fun i j => .int (f i j)) ta tb) Z O P :=
  we_nop (we_imp h fun x O1 hx => we_imp hx fun y O2 ⟨i, j, e1, e2, p⟩ => ⟨_, _, .int (f i j), e1, e2, fun v w G H Q _ hv hw q => by
    cases hv
    cases hw
    exact ⟨i, j, rfl, rfl, q _ (Dp.int _)⟩, p⟩)
theorem we_opB {f : Int → Int → Bool} (h : WE K s ta Z O fun k1 O1 => WE K s tb Z O1 fun k2 O2 => ∃ i j, k1 = .d (.int i) ∧ k2 = .d (.int j) ∧ P (.d (.bool (f i j))) O2) : WE K s (tOp (rI0 fun i j => .bl (f i j)) ta tb) Z O P :=
  we_nop (we_imp h fun x O1 hx => we_imp hx fun y O2 ⟨i, j, e1, e2, p⟩ => ⟨_, _, .bool (f i j), e1, e2, fun v w G H Q _ hv hw q => by
    cases hv
    cases hw
    exact ⟨i, j, rfl, rfl, q _ (Dp.bl _)⟩, p⟩)
theorem we_opC {C : Int → Int → Prop} {f : Int → Int → Int} (h : WE K s ta Z O fun k1 O1 => WE K s tb Z O1 fun k2 O2 => ∃ i j, k1 = .d (.int i) ∧ k2 = .d (.int j) ∧ C i j ∧ P (.d (.int (f i j))) O2) : WE K s (tOp (rI C fun i j => .int (f i j)) ta tb) Z O P :=
  we_nop (we_imp h fun x O1 hx => we_imp hx fun y O2 ⟨i, j, e1, e2, hc, p⟩ => ⟨_, _, .int (f i j), e1, e2, fun v w G H Q _ hv hw q => by
    cases hv
    cases hw
    exact ⟨i, j, rfl, rfl, hc, q _ (Dp.int _)⟩, p⟩)
theorem we_neg (h : WE K s ta Z O fun k O1 => ∃ i, k = .d (.int i) ∧ P (.d (.int (-i))) O1) : WE K s (tUn (rU fun i => .int (-i)) ta) Z O P := fun F x σ G H c Q q =>
  h F x σ G H c _ fun v k O1 G1 H1 c1 e1 hx ⟨i, ex, p⟩ => by
    subst ex
    cases hx
    exact ⟨i, rfl, q _ _ O1 G1 H1 c1 e1 (skd (Dp.int _)) p⟩
theorem we_eqD (h : WE K s ta Z O fun k1 O1 => WE K s tb Z O1 fun k2 O2 => ∃ x y, k1 = .d x ∧ k2 = .d y ∧ SeqAt.shaped x = true ∧ SeqAt.shaped y = true ∧ P (.d (.bool (PyData.eqv x y))) O2) : WE K s (tOp (rEqD K) ta tb) Z O P :=
  we_nop (we_imp h fun k1 O1 hx => we_imp hx fun k2 O2 ⟨x, y, e1, e2, s1, s2, p⟩ => ⟨x, y, _, e1, e2, fun v w G H Q e hv hw q => ⟨x, y, dp_mono e _ _ hv, dp_mono e _ _ hw, s1, s2, q _ (Dp.bl _)⟩, p⟩)
theorem we_neD (h : WE K s ta Z O fun k1 O1 => WE K s tb Z O1 fun k2 O2 => ∃ x y, k1 = .d x ∧ k2 = .d y ∧ SeqAt.shaped x = true ∧ SeqAt.shaped y = true ∧ P (.d (.bool (!PyData.eqv x y))) O2) : WE K s (tOp (rNeD K) ta tb) Z O P :=
  we_nop (we_imp h fun k1 O1 hx => we_imp hx fun k2 O2 ⟨x, y, e1, e2, s1, s2, p⟩ => ⟨x, y, _, e1, e2, fun v w G H Q e hv hw q => ⟨x, y, dp_mono e _ _ hv, dp_mono e _ _ hw, s1, s2, q _ (Dp.bl _)⟩, p⟩)
/-- an item, by what the thing is -/
inductive ItemAt : PyData → Int → PyData → Prop where
  | lst {ds : List PyData} {i : Int} {d : PyData} : atI ds i = some d → ItemAt (.list ds) i d
  | tup {ds : List PyData} {i : Int} {d : PyData} : atI ds i = some d → ItemAt (.tuple ds) i d
  | str {z : Str} {i : Int} {c : Nat} : z.length ≤ sizeLine → atI z.cps.toList i = some c → ItemAt (.str z) i (.str ⟨#[c]⟩)
theorem dpa_atI {G : Hp} {vs : List V} {ds : List PyData} {i : Int} {d : PyData} (h : DpAll K G vs ds) (e : atI ds i = some d) : ∃ v, atI vs i = some v ∧ Dp K G v d := by
  unfold atI at e ⊢
  rw [dpa_len h]
  cases q : ixN ds.length i with
  | none => rw [q] at e; cases e
  | some j =>
    rw [q] at e
    obtain ⟨v, h1, h2⟩ := dpa_atd h e
    exact ⟨v, h1, h2⟩
theorem we_ix (h : WE K s ta Z O fun k1 O1 => WE K s tb Z O1 fun k2 O2 => ∃ x i d, k1 = .d x ∧ k2 = .d (.int i) ∧ ItemAt x i d ∧ P (.d d) O2) : WE K s (tOp (rIx K) ta tb) Z O P :=
  we_nop (we_imp h fun k1 O1 hx => we_imp hx fun k2 O2 ⟨x, i, d, e1, e2, hi, p⟩ => ⟨x, .int i, d, e1, e2, fun v w G H Q e hv hw q => by
    cases hw
    cases hi with
    | lst hi =>
      cases hv with
      | lst hs ha =>
        obtain ⟨u, h1, h2⟩ := dpa_atI ha hi
        exact .inl ⟨_, _, i, u, rfl, rfl, Evl.ex_l e hs, h1, q u h2⟩
    | tup hi =>
      cases hv with
      | tup hs ha =>
        obtain ⟨u, h1, h2⟩ := dpa_atI ha hi
        exact .inr (.inl ⟨_, _, i, u, rfl, rfl, Evl.ex_t e hs, h1, q u h2⟩)
    | str hz hi =>
      cases hv
      exact .inr (.inr ⟨_, i, _, rfl, rfl, hz, hi, q _ (Dp.str _)⟩), p⟩)
theorem SkAll.atI {G : Hp} {vs : List V} {ks : List Sk} {i : Int} {k : Sk} (h : SkAll K G vs ks) (e : atI ks i = some k) : ∃ v, L2.atI vs i = some v ∧ SkV K G k v := by
  unfold L2.atI at e ⊢
  rw [h.len]
  cases q : ixN ks.length i with
  | none => rw [q] at e; cases e
  | some j =>
    rw [q] at e
    obtain ⟨v, h1, h2⟩ := SkAll.at h e
    exact ⟨v, h1, h2⟩
/-- an item of an own list -/
theorem we_ixO (h : WE K s ta Z O fun k1 O1 => WE K s tb Z O1 fun k2 O2 => ∃ p ks i k, k1 = .v (.ref p) ∧ k2 = .d (.int i) ∧ (p, .lst ks) ∈ O2 ∧ atI ks i = some k ∧ P k O2) : WE K s (tOp (rIx K) ta tb) Z O P := fun F x σ G H c Q q =>
  h F x σ G H c _ fun v k1 O1 G1 H1 c1 e1 h1 hp => hp F x σ G1 H1 c1 _ fun w k2 O2 G2 H2 c2 e2 h2 ⟨p, ks, i, k, ea, eb, hm, ha, pk⟩ => by
    subst ea eb
    have h1 : v = .ref p := h1
    subst h1
    cases h2
    obtain ⟨_, _, _, o, o4, vs, eo, o5⟩ := c2.own p _ hm
    subst eo
    obtain ⟨u, u1, u2⟩ := o5.atI ha
    exact .inl ⟨p, vs, i, u, rfl, rfl, Evl.sq_of o4, u1, q u k O2 G2 H2 c2 (e1.trans e2) u2 pk⟩

/-! ### tests -/
theorem wt_test (h : WE K s te Z O fun k O' => ∃ b, k = .d (.bool b) ∧ PB b O') : WT K s (tTest te) Z O PB := fun F x σ G H c Q q => h F x σ G H c _ fun v k O' G1 H1 c1 e1 hx ⟨b, ex, p⟩ => by
  subst ex
  cases hx
  exact ⟨b, rfl, q b O' G1 H1 c1 e1 p⟩
theorem wt_B (h : WE K s te Z O fun k O' => ∃ b, k = .d (.bool b) ∧ PB b O') : WT K s (tB te) Z O PB := fun F x σ G H c Q q => h F x σ G H c _ fun v k O' G1 H1 c1 e1 hx ⟨b, ex, p⟩ => by
  subst ex
  cases hx
  exact ⟨b, rfl, q b O' G1 H1 c1 e1 p⟩
theorem wt_yes (p : PB true O) : WT K s tYes Z O PB := fun F x σ G H c Q q => q true O G H c (Evl.Ex.refl _) p
theorem wt_and (h : WT K s t Z O fun b O' => if b = true then WT K s u Z O' PB else PB false O') : WT K s (tAnd t u) Z O PB := fun F x σ G H c Q q => h F x σ G H c _ fun b O1 G1 H1 c1 e1 p => by
  cases b with
  | true =>
    rw [if_pos rfl] at p ⊢
    exact p F x σ G1 H1 c1 Q fun b2 O2 G2 H2 c2 e2 p2 => q b2 O2 G2 H2 c2 (e1.trans e2) p2
  | false =>
    rw [if_neg Bool.false_ne_true] at p ⊢
    exact q false O1 G1 H1 c1 e1 p
theorem wt_or (h : WT K s t Z O fun b O' => if b = true then PB true O' else WT K s u Z O' PB) : WT K s (tOr t u) Z O PB := fun F x σ G H c Q q => h F x σ G H c _ fun b O1 G1 H1 c1 e1 p => by
  cases b with
  | true =>
    rw [if_pos rfl] at p ⊢
    exact q true O1 G1 H1 c1 e1 p
  | false =>
    rw [if_neg Bool.false_ne_true] at p ⊢
    exact p F x σ G1 H1 c1 Q fun b2 O2 G2 H2 c2 e2 p2 => q b2 O2 G2 H2 c2 (e1.trans e2) p2
theorem wt_not (h : WT K s t Z O fun b O' => PB (!b) O') : WT K s (tNot t) Z O PB := fun F x σ G H c Q q => h F x σ G H c _ fun b O1 G1 H1 c1 e1 p => q (!b) O1 G1 H1 c1 e1 p
theorem we_andV (h : WE K s ta Z O fun k O' => ∃ b, k = .d (.bool b) ∧ if b = true then WE K s tb Z O' P else P (.d (.bool false)) O') : WE K s (tAndV ta tb) Z O P := fun F x σ G H c Q q => h F x σ G H c _ fun v k O1 G1 H1 c1 e1 hx ⟨b, ex, p⟩ => by
  subst ex
  cases hx
  refine ⟨b, rfl, ?_⟩
  cases b with
  | true =>
    rw [if_pos rfl] at p ⊢
    exact p F x σ G1 H1 c1 Q fun w d O2 G2 H2 c2 e2 hd p2 => q w d O2 G2 H2 c2 (e1.trans e2) hd p2
  | false =>
    rw [if_neg Bool.false_ne_true] at p ⊢
    exact q _ _ O1 G1 H1 c1 e1 (skd (Dp.bl false)) p
theorem we_orV (h : WE K s ta Z O fun k O' => ∃ b, k = .d (.bool b) ∧ if b = true then P (.d (.bool true)) O' else WE K s tb Z O' P) : WE K s (tOrV ta tb) Z O P := fun F x σ G H c Q q => h F x σ G H c _ fun v k O1 G1 H1 c1 e1 hx ⟨b, ex, p⟩ => by
  subst ex
  cases hx
  refine ⟨b, rfl, ?_⟩
  cases b with
  | true =>
    rw [if_pos rfl] at p ⊢
    exact q _ _ O1 G1 H1 c1 e1 (skd (Dp.bl true)) p
  | false =>
    rw [if_neg Bool.false_ne_true] at p ⊢
    exact p F x σ G1 H1 c1 Q fun w d O2 G2 H2 c2 e2 hd p2 => q w d O2 G2 H2 c2 (e1.trans e2) hd p2
theorem we_notV (h : WE K s ta Z O fun k O' => ∃ b, k = .d (.bool b) ∧ P (.d (.bool (!b))) O') : WE K s (tNotV ta) Z O P := fun F x σ G H c Q q => h F x σ G H c _ fun v k O1 G1 H1 c1 e1 hx ⟨b, ex, p⟩ => by
  subst ex
  cases hx
  exact ⟨b, rfl, q _ _ O1 G1 H1 c1 e1 (skd (Dp.bl _)) p⟩
theorem we_if (h : WT K s t Z O fun b O' => if b = true then WE K s ta Z O' P else WE K s tb Z O' P) : WE K s (tIf t ta tb) Z O P := fun F x σ G H c Q q => h F x σ G H c _ fun b O1 G1 H1 c1 e1 p => by
  cases b with
  | true =>
    rw [if_pos rfl] at p ⊢
    exact p F x σ G1 H1 c1 Q fun w d O2 G2 H2 c2 e2 hd p2 => q w d O2 G2 H2 c2 (e1.trans e2) hd p2
  | false =>
    rw [if_neg Bool.false_ne_true] at p ⊢
    exact p F x σ G1 H1 c1 Q fun w d O2 G2 H2 c2 e2 hd p2 => q w d O2 G2 H2 c2 (e1.trans e2) hd p2
/-- is it None: a datum that is None; an own thing is not -/
def isNoneK : Sk → Option Bool
  | .d .none => some true
  | .d _ => some false
  | .v .non => some true
  | .v _ => some false
  | .no => none
theorem skv_none {G : Hp} {k : Sk} {v : V} {b : Bool} (h : SkV K G k v) (e : isNoneK k = some b) : decide (v = .non) = b := by
  cases k with
  | no => cases e
  | d y =>
    cases y <;> cases h <;> cases e <;> rfl
  | v u =>
    have h : v = u := h
    subst h
    cases v <;> cases e <;> rfl
theorem we_isN (h : WE K s ta Z O fun k O' => ∃ b, isNoneK k = some b ∧ P (.d (.bool b)) O') : WE K s (tIsN ta) Z O P := fun F x σ G H c Q q => h F x σ G H c _ fun v k O1 G1 H1 c1 e1 hx ⟨b, hb, p⟩ => by
  show Q (.bl (decide (v = .non))) H1
  rw [skv_none hx hb]
  exact q _ _ O1 G1 H1 c1 e1 (skd (Dp.bl _)) p
theorem we_notN (h : WE K s ta Z O fun k O' => ∃ b, isNoneK k = some b ∧ P (.d (.bool (!b))) O') : WE K s (tNotN ta) Z O P := fun F x σ G H c Q q => h F x σ G H c _ fun v k O1 G1 H1 c1 e1 hx ⟨b, hb, p⟩ => by
  show Q (.bl (!decide (v = .non))) H1
  rw [skv_none hx hb]
  exact q _ _ O1 G1 H1 c1 e1 (skd (Dp.bl _)) p

/-! ### arguments, displays -/
variable {PA : List Sk → Own → Prop} {PD : List PyData → Own → Prop}
theorem wa_nil (p : PA [] O) : WA K s tNil Z O PA := fun F x σ G H c Q q => q [] [] O G H c (Evl.Ex.refl _) True.intro p
theorem wa_cons (h : WE K s ta Z O fun k O1 => WA K s tr Z O1 fun ks O2 => PA (k :: ks) O2) : WA K s (tCons ta tr) Z O PA := fun F x σ G H c Q q =>
  h F x σ G H c _ fun v k O1 G1 H1 c1 e1 hx hp => hp F x σ G1 H1 c1 _ fun vs ks O2 G2 H2 c2 e2 hk p => q (v :: vs) (k :: ks) O2 G2 H2 c2 (e1.trans e2) ⟨hx.mono e2, hk⟩ p
/-- arguments that are all data -/
def WD (K : PySem.W.Frag) (s : Sx) (ta : TA) (Z : List Sk) (O : Own) (P : List PyData → Own → Prop) : Prop := WA K s ta Z O fun ks O' => ∃ ds, ks = ds.map .d ∧ P ds O'
theorem wd_nil (p : PD [] O) : WD K s tNil Z O PD := wa_nil ⟨[], rfl, p⟩
theorem wd_cons (h : WE K s ta Z O fun k O1 => ∃ y, k = .d y ∧ WD K s tr Z O1 fun ds O2 => PD (y :: ds) O2) : WD K s (tCons ta tr) Z O PD :=
  wa_cons (we_imp h fun k O1 ⟨y, ek, hx⟩ => wa_imp hx fun ks O2 ⟨ds, e, p⟩ => ⟨y :: ds, by rw [ek, e]; rfl, p⟩)
/-- *e in a display -/
theorem wd_star (h : WE K s ta Z O fun k O1 => ∃ ds, (k = .d (.list ds) ∨ k = .d (.tuple ds)) ∧ WD K s tr Z O1 fun es O2 => PD (ds ++ es) O2) : WD K s (StX.tStar K ta tr) Z O PD := fun F x σ G H c Q q =>
  h F x σ G H c _ fun v k O1 G1 H1 c1 e1 hx ⟨ds, ex, hp⟩ => by
    rcases ex with ex | ex <;> subst ex
    · cases hx with
      | @lst a vs _ hs ha =>
        refine ⟨a, vs, rfl, .inr (Evl.ex_l c1.ex hs), hp F x σ G1 H1 c1 _ fun us ks O2 G2 H2 c2 e2 hk ⟨es, he, p⟩ => ?_⟩
        subst he
        exact q (vs ++ us) ((ds ++ es).map .d) O2 G2 H2 c2 (e1.trans e2) (by rw [List.map_append]; exact (SkAll.data (dpa_mono e2 _ _ ha)).app hk) ⟨_, rfl, p⟩
    · cases hx with
      | @tup a vs _ hs ha =>
        refine ⟨a, vs, rfl, .inl (Evl.ex_t c1.ex hs), hp F x σ G1 H1 c1 _ fun us ks O2 G2 H2 c2 e2 hk ⟨es, he, p⟩ => ?_⟩
        subst he
        exact q (vs ++ us) ((ds ++ es).map .d) O2 G2 H2 c2 (e1.trans e2) (by rw [List.map_append]; exact (SkAll.data (dpa_mono e2 _ _ ha)).app hk) ⟨_, rfl, p⟩
theorem we_tupD (h : WD K s tr Z O fun ds O' => Nat.ble ds.length 100000 = true ∧ P (.d (.tuple ds)) O') : WE K s (tTup tr) Z O P := fun F x σ G H c Q q =>
  h F x σ G H c _ fun vs ks O1 G1 H1 c1 e1 ha ⟨ds, hd, hl, p⟩ => by
    subst hd
    have da := SkAll.undata ha
    refine ⟨Evl.sz_of (by rw [dpa_len da]; exact Nat.le_of_ble_eq_true hl), fun pp hp => ?_⟩
    obtain ⟨c2, e2⟩ := c1.new (o := .tup vs) hp
    exact q (.ref pp) (.d (.tuple ds)) O1 _ _ c2 (e1.trans e2) (.tup (.inl (.inl upd_same)) (dpa_mono e2 ds vs da)) p
/-- a new list of one's own, its items of any kind -/
theorem we_lstO (h : WA K s tr Z O fun ks O' => Nat.ble ks.length 100000 = true ∧ ∀ p, P (.v (.ref p)) ((p, .lst ks) :: O')) : WE K s (tLst tr) Z O P := fun F x σ G H c Q q =>
  h F x σ G H c _ fun vs ks O1 G1 H1 c1 e1 ha ⟨hl, p⟩ =>
    ⟨Evl.sz_of (by rw [ha.len]; exact Nat.le_of_ble_eq_true hl), fun pp hp => q (.ref pp) (.v (.ref pp)) _ G1 _ (c1.newOwn hp (cc := .lst ks) ⟨vs, rfl, ha⟩) e1 rfl (p pp)⟩
/-- .. of data, that comes to stand still -/
theorem we_lstD (h : WD K s tr Z O fun ds O' => Nat.ble ds.length 100000 = true ∧ P (.d (.list ds)) O') : WE K s (tLst tr) Z O P :=
  we_frz (we_lstO (wa_imp h fun ks O' ⟨ds, e, hl, p⟩ => ⟨by rw [e, List.length_map]; exact hl, fun pp => ⟨pp, ds, O', rfl, by rw [e], p⟩⟩))
/-- a new list of data of one's own: what is made is told -/
def WL (K : PySem.W.Frag) (s : Sx) (te : TE) (Z : List Sk) (O : Own) (P : List PyData → Own → Prop) : Prop := WE K s te Z O fun k O' => ∃ p ds O1, k = .v (.ref p) ∧ O' = (p, .lst (ds.map .d)) :: O1 ∧ P ds O1
theorem we_of (h : WL K s te Z O fun ds O' => P (.d (.list ds)) O') : WE K s te Z O P := we_frz h
theorem wl_own (h : WL K s te Z O fun ds O' => ∀ p, P (.v (.ref p)) ((p, .lst (ds.map .d)) :: O')) : WE K s te Z O P := we_imp h fun k O' ⟨p, ds, O1, e1, e2, h⟩ => by
  subst e1 e2
  exact h p
theorem wl_imp {PL PL' : List PyData → Own → Prop} (h : WL K s te Z O PL') (k : ∀ d O', PL' d O' → PL d O') : WL K s te Z O PL := we_imp h fun x O' ⟨p, ds, O1, e1, e2, h⟩ => ⟨p, ds, O1, e1, e2, k ds O1 h⟩
theorem wl_lstD (h : WD K s tr Z O fun ds O' => Nat.ble ds.length 100000 = true ∧ PD ds O') : WL K s (tLst tr) Z O PD :=
  we_lstO (wa_imp h fun ks O' ⟨ds, e, hl, p⟩ => ⟨by rw [e, List.length_map]; exact hl, fun pp => ⟨pp, ds, O', rfl, by rw [e], p⟩⟩)

/-! ### items of displays -/
theorem we_ixV {i : Nat} (h : WE K s (tVar i) Z O fun k1 O1 => WE K s tb Z O1 fun k2 O2 => ∃ x i d, k1 = .d x ∧ k2 = .d (.int i) ∧ ItemAt x i d ∧ P (.d d) O2) : WE K s (tOp (rIx K) (tVar i) tb) Z O P := we_ix h
theorem we_ixI (h : WE K s (tOp (rIx K) ta tc) Z O fun k1 O1 => WE K s tb Z O1 fun k2 O2 => ∃ x i d, k1 = .d x ∧ k2 = .d (.int i) ∧ ItemAt x i d ∧ P (.d d) O2) : WE K s (tOp (rIx K) (tOp (rIx K) ta tc) tb) Z O P := we_ix h
theorem we_ixC {sp : Sp} {dvs : List V} {E : XK} (h : WE K s (tCall sp dvs E tr) Z O fun k1 O1 => WE K s tb Z O1 fun k2 O2 => ∃ x i d, k1 = .d x ∧ k2 = .d (.int i) ∧ ItemAt x i d ∧ P (.d d) O2) : WE K s (tOp (rIx K) (tCall sp dvs E tr) tb) Z O P := we_ix h
theorem we_pick (P' : PyData → Prop) (h : WE K s (tLst tr) Z O fun k1 O1 => WE K s tb Z O1 fun k2 O2 => ∃ x i d, k1 = .d x ∧ k2 = .d (.int i) ∧ ItemAt x i d ∧ P' d ∧ O2 = O) (k : ∀ d, P' d → P (.d d) O) : WE K s (tOp (rIx K) (tLst tr) tb) Z O P :=
  we_ix (we_imp h fun x O1 hx => we_imp hx fun y O2 ⟨x, i, d, e1, e2, hi, hp, eo⟩ => ⟨x, i, d, e1, e2, hi, by rw [eo]; exact k d hp⟩)

/-! ### slices -/
theorem wo_no {PO : Option Int → Own → Prop} (p : PO none O) : WO K s tNoPart Z O PO := fun F x σ G H c Q q => q none O G H c (Evl.Ex.refl _) p
theorem wo_part {PO : Option Int → Own → Prop} (h : WE K s te Z O fun k O' => ∃ i, k = .d (.int i) ∧ PO (some i) O') : WO K s (tPart te) Z O PO := fun F x σ G H c Q q =>
  h F x σ G H c _ fun v k O1 G1 H1 c1 e1 hx ⟨i, ex, p⟩ => by
    subst ex
    cases hx
    exact ⟨i, rfl, q _ O1 G1 H1 c1 e1 p⟩
def sliceD {α : Type} (ds : List α) (lo hi : Option Int) : List α := (ds.drop (HT.sIx ds.length 0 lo)).take (HT.sIx ds.length ds.length hi - HT.sIx ds.length 0 lo)
theorem dpa_cut {vs : List V} {ds : List PyData} {lo hi : Option Int} (h : DpAll K G vs ds) : DpAll K G (cutV vs lo hi) (sliceD ds lo hi) := by
  unfold cutV sliceD
  rw [dpa_len h]
  exact dpa_take _ (dpa_drop _ h)
theorem wl_slice {tl th : TO} (h : WE K s ta Z O fun k O1 => ∃ ds, k = .d (.list ds) ∧ WO K s tl Z O1 fun lo O2 => WO K s th Z O2 fun hi O3 => PD (sliceD ds lo hi) O3) : WL K s (tSl (rSlL K) ta tl th) Z O PD := fun F x σ G H c Q q =>
  h F x σ G H c _ fun v k O1 G1 H1 c1 e1 hx ⟨ds, ex, hl⟩ => hl F x σ G1 H1 c1 _ fun lo O2 G2 H2 c2 e2 hh => hh F x σ G2 H2 c2 _ fun hi O3 G3 H3 c3 e3 p => by
    subst ex
    cases hx with
    | @lst a vs _ hs ha =>
      have e23 := e2.trans e3
      refine ⟨a, vs, rfl, Evl.ex_l (e23.trans c3.ex) hs, fun pp hp => q (.ref pp) (.v (.ref pp)) _ G3 _ (c3.newOwn hp (cc := .lst ((sliceD ds lo hi).map .d)) ⟨_, rfl, SkAll.data (dpa_cut (dpa_mono e23 _ _ ha))⟩) (e1.trans e23) rfl ⟨pp, _, O3, rfl, rfl, p⟩⟩
theorem we_slTup {tl th : TO} (h : WE K s ta Z O fun k O1 => ∃ ds, k = .d (.tuple ds) ∧ WO K s tl Z O1 fun lo O2 => WO K s th Z O2 fun hi O3 => P (.d (.tuple (sliceD ds lo hi))) O3) : WE K s (tSl (rSlA K) ta tl th) Z O P := fun F x σ G H c Q q =>
  h F x σ G H c _ fun v k O1 G1 H1 c1 e1 hx ⟨ds, ex, hl⟩ => hl F x σ G1 H1 c1 _ fun lo O2 G2 H2 c2 e2 hh => hh F x σ G2 H2 c2 _ fun hi O3 G3 H3 c3 e3 p => by
    subst ex
    cases hx with
    | @tup a vs _ hs ha =>
      have e23 := e2.trans e3
      have hs3 := Evl.ex_t e23 hs
      have ha3 := dpa_mono e23 _ _ ha
      refine ⟨a, vs, rfl, Evl.ex_t c3.ex hs3, fun hw => ?_, fun hw pp hp => ?_⟩
      · refine q (.ref a) (.d (.tuple (sliceD ds lo hi))) O3 G3 H3 c3 (e1.trans e23) ?_ p
        have e : sliceD ds lo hi = ds := by
          have hl := dpa_len ha
          unfold sliceD
          rw [← hl, hw.1, hw.2, List.drop_zero, Nat.sub_zero, hl, List.take_length]
        rw [e]
        exact skd (.tup hs3 ha3)
      · obtain ⟨c4, e4⟩ := c3.new (o := .tup (cutV vs lo hi)) hp
        exact q (.ref pp) _ O3 _ _ c4 ((e1.trans e23).trans e4) (skd (.tup (.inl (.inl upd_same)) (dpa_mono e4 _ _ (dpa_cut ha3)))) p
theorem we_slStr {tl th : TO} (h : WE K s ta Z O fun k O1 => ∃ z, k = .d (.str z) ∧ z.length ≤ 100000 ∧ WO K s tl Z O1 fun lo O2 => WO K s th Z O2 fun hi O3 => P (.d (.str (cutS z lo hi))) O3) : WE K s (tSl rSlS ta tl th) Z O P := fun F x σ G H c Q q =>
  h F x σ G H c _ fun v k O1 G1 H1 c1 e1 hx ⟨z, ex, hz, hl⟩ => hl F x σ G1 H1 c1 _ fun lo O2 G2 H2 c2 e2 hh => hh F x σ G2 H2 c2 _ fun hi O3 G3 H3 c3 e3 p => by
    subst ex
    cases hx
    exact ⟨z, rfl, Evl.sz_of hz, q _ _ O3 G3 H3 c3 ((e1.trans e2).trans e3) (skd (Dp.str _)) p⟩

/-! ### sums and multiples -/
theorem wl_cat (h : WL K s ta Z O fun xs O1 => ∀ p, WL K s tb Z ((p, .lst (xs.map .d)) :: O1) fun ys O2 => ∃ O3, O2 = (p, .lst (xs.map .d)) :: O3 ∧ xs.length + ys.length ≤ 100000 ∧ PD (xs ++ ys) O3) : WL K s (tOp rCat ta tb) Z O PD := fun F x σ G H c Q q =>
  h F x σ G H c _ fun v k O1 G1 H1 c1 e1 hk ⟨p, xs, O1', ek, eo, hp⟩ => by
    subst ek eo
    have hk : v = .ref p := hk
    subst hk
    exact hp p F x σ G1 H1 c1 _ fun w k2 O2 G2 H2 c2 e2 hk2 ⟨r, ys, O2', ek2, eo2, O3, eo3, hl, pl⟩ => by
      subst ek2 eo2 eo3
      have hk2 : w = .ref r := hk2
      subst hk2
      obtain ⟨_, _, _, _, u4, us, eu, u5⟩ := c2.own r _ (List.mem_cons_self ..)
      subst eu
      obtain ⟨_, _, _, _, v4, vs, ev, v5⟩ := c2.own p _ (List.mem_cons_of_mem _ (List.mem_cons_self ..))
      subst ev
      have l1 := u5.len
      have l2 := v5.len
      rw [List.length_map] at l1 l2
      refine ⟨p, r, vs, us, rfl, rfl, v4, u4, Evl.sz_of (by rw [l1, l2]; exact hl), fun t ht => q (.ref t) (.v (.ref t)) _ G2 _ (c2.tail.tail.newOwn ht (cc := .lst ((xs ++ ys).map .d)) ⟨_, rfl, by rw [List.map_append]; exact v5.app u5⟩) (e1.trans e2) rfl ⟨t, _, O3, rfl, rfl, pl⟩⟩
theorem dpa_rep {vs : List V} {ds : List PyData} (h : DpAll K G vs ds) : ∀ n : Nat, DpAll K G (List.replicate n vs).flatten (List.replicate n ds).flatten
  | 0 => .nil
  | n + 1 => by
    rw [List.replicate_succ, List.replicate_succ, List.flatten_cons, List.flatten_cons]
    exact dpa_app h (dpa_rep h n)
theorem wl_rep (h : WL K s ta Z O fun xs O1 => ∀ p, WE K s tb Z ((p, .lst (xs.map .d)) :: O1) fun y O2 => ∃ (k : Int) (O3 : Own), O2 = (p, .lst (xs.map .d)) :: O3 ∧ y = .d (.int k) ∧ -(2 ^ 62) ≤ k ∧ k < 2 ^ 62 ∧ xs.length * k.toNat ≤ 100000 ∧ PD (List.replicate k.toNat xs).flatten O3) : WL K s (tOp rRep ta tb) Z O PD := fun F x σ G H c Q q =>
  h F x σ G H c _ fun v k O1 G1 H1 c1 e1 hk ⟨p, xs, O1', ek, eo, hp⟩ => by
    subst ek eo
    have hk : v = .ref p := hk
    subst hk
    exact hp p F x σ G1 H1 c1 _ fun w y O2 G2 H2 c2 e2 hy ⟨k, O3, eo3, ey, k1, k2, hl, pl⟩ => by
      subst ey eo3
      cases hy
      obtain ⟨_, _, _, _, v4, vs, ev, v5⟩ := c2.own p _ (List.mem_cons_self ..)
      subst ev
      have l2 := v5.len
      rw [List.length_map] at l2
      refine ⟨p, k, vs, rfl, rfl, v4, by omega, by omega, Evl.sz_of (by rw [l2]; exact hl), fun t ht => q (.ref t) (.v (.ref t)) _ G2 _ (c2.tail.newOwn ht (cc := .lst ((List.replicate k.toNat xs).flatten.map .d)) ⟨_, rfl, SkAll.data (dpa_rep (SkAll.undata v5) _)⟩) (e1.trans e2) rfl ⟨t, _, O3, rfl, rfl, pl⟩⟩
theorem we_catT (h : WE K s ta Z O fun k1 O1 => WE K s tb Z O1 fun k2 O2 => ∃ ds es, k1 = .d (.tuple ds) ∧ k2 = .d (.tuple es) ∧ ds.length + es.length ≤ 100000 ∧ P (.d (.tuple (ds ++ es))) O2) : WE K s (tOp (rCatA K) ta tb) Z O P := fun F x σ G H c Q q =>
  h F x σ G H c _ fun v k1 O1 G1 H1 c1 e1 hx hp => hp F x σ G1 H1 c1 _ fun w k2 O2 G2 H2 c2 e2 hy ⟨ds, es, ex, ey, hl, p⟩ => by
    subst ex ey
    cases hx with
    | @tup a vs _ hs ha =>
      cases hy with
      | @tup b ws _ ht hb =>
        have ha2 := dpa_mono e2 _ _ ha
        have hs2 := Evl.ex_t e2 hs
        refine ⟨a, b, vs, ws, rfl, rfl, Evl.ex_t c2.ex hs2, Evl.ex_t c2.ex ht, Evl.sz_of (by rw [dpa_len ha, dpa_len hb]; exact hl), fun e => ?_, fun _ e => ?_, fun _ _ t hn => ?_⟩
        · subst e
          cases ha
          exact q _ _ O2 G2 H2 c2 (e1.trans e2) (skd (.tup ht hb)) p
        · subst e
          cases hb
          rw [List.append_nil] at p
          exact q _ _ O2 G2 H2 c2 (e1.trans e2) (skd (.tup hs2 ha2)) p
        · obtain ⟨c3, e3⟩ := c2.new (o := .tup (vs ++ ws)) hn
          exact q (.ref t) _ O2 _ _ c3 ((e1.trans e2).trans e3) (skd (.tup (.inl (.inl upd_same)) (dpa_mono e3 _ _ (dpa_app ha2 hb)))) p
/-- a < b < c of ints -/
theorem we_chainI {f g : Int → Int → Bool} (h : WE K s ta Z O fun k1 O1 => WE K s tb Z O1 fun k2 O2 => ∃ i j, k1 = .d (.int i) ∧ k2 = .d (.int j) ∧ if f i j = true then WE K s tc Z O2 fun k3 O3 => ∃ l, k3 = .d (.int l) ∧ P (.d (.bool (g j l))) O3 else P (.d (.bool false)) O2) :
    WE K s (tChain (rI0 fun i j => .bl (f i j)) (rI0 fun i j => .bl (g i j)) ta tb tc) Z O P := fun F x σ G H c Q q =>
  h F x σ G H c _ fun v k1 O1 G1 H1 c1 e1 hx hp => hp F x σ G1 H1 c1 _ fun w k2 O2 G2 H2 c2 e2 hy ⟨i, j, ex, ey, p⟩ => by
    subst ex ey
    cases hx
    cases hy
    refine ⟨i, j, rfl, rfl, f i j, rfl, ?_⟩
    cases hf : f i j with
    | true =>
      rw [hf, if_pos rfl] at p
      rw [if_pos rfl]
      exact p F x σ G2 H2 c2 _ fun u k3 O3 G3 H3 c3 e3 hz ⟨l, ez, p3⟩ => by
        subst ez
        cases hz
        exact ⟨j, l, rfl, rfl, q _ _ O3 G3 H3 c3 ((e1.trans e2).trans e3) (skd (Dp.bl _)) p3⟩
    | false =>
      rw [hf, if_neg Bool.false_ne_true] at p
      rw [if_neg Bool.false_ne_true]
      exact q _ _ O2 G2 H2 c2 (e1.trans e2) (skd (Dp.bl false)) p
end
end SL

/-! SLc: statements, loops, comprehensions. -/
namespace SL
open PySem PySem.Spec PyProof.Rows L2
open Evl (Ex)
section
variable {K : PySem.W.Frag} {s : Sx} {Z : List Sk} {O : Own} {D : DE} {t u : TS} {te ta tb tc : TE} {tt : TT}
theorem Conv.seq {F : Fb} {E : Ends} (c : Conv K s F D E) (x : FX K F s) : Conv K s F { D with nx := fun Z O => SW K s u Z O D } { E with nx := u E } :=
  ⟨fun Z O σ G H cf h => h F x σ G H E cf c, c.rt, c.bk, c.ct⟩
theorem sw_seq (h : SW K s t Z O { D with nx := fun Z O => SW K s u Z O D }) : SW K s (tSeq t u) Z O D := fun F x σ G H E c cv => h F x σ G H _ c (cv.seq x)
theorem sw_next (h : D.nx Z O) : SW K s tNext Z O D := fun F x σ G H E c cv => cv.nx Z O σ G H c h
theorem sw_break (h : D.bk Z O) : SW K s tBreak Z O D := fun F x σ G H E c cv => cv.bk Z O σ G H c h
theorem sw_cont (h : D.ct Z O) : SW K s tCont Z O D := fun F x σ G H E c cv => cv.ct Z O σ G H c h
theorem sw_never (h : False) : SW K s tNever Z O D := h.elim
theorem sw_ret (h : WE K s te Z O D.rt) : SW K s (tRet te) Z O D := fun F x σ G H E c cv => h F x σ G H c _ fun v k O' G' H' c' e hd p => cv.rt v k O' G' H' c'.forget hd p
theorem sw_retN (h : D.rt (.d .none) O) : SW K s tRetN Z O D := fun F x σ G H E c cv => cv.rt .non (.d .none) O G H c.forget (skd .non) h
theorem sw_drop (h : WE K s te Z O fun _ O' => D.nx Z O') : SW K s (tDrop te) Z O D := fun F x σ G H E c cv => h F x σ G H c _ fun v k O' G' H' c' e hd p => cv.nx Z O' σ G' H' c' p
theorem sw_asg {i : Nat} (h : WE K s te Z O fun k O' => D.nx (Z.set i k) O') : SW K s (tAsg te (gName i)) Z O D := fun F x σ G H E c cv =>
  h F x σ G H c _ fun v k O' G' H' c' e hd p => cv.nx _ _ _ G' H' (c'.set hd) p
theorem sw_if (h : WT K s tt Z O fun b O' => if b = true then SW K s t Z O' D else SW K s u Z O' D) : SW K s (tIfS tt t u) Z O D := fun F x σ G H E c cv =>
  h F x σ G H c _ fun b O1 G1 H1 c1 e1 p => by
    cases b with
    | true =>
      rw [if_pos rfl] at p ⊢
      exact p F x σ G1 H1 E c1 cv
    | false =>
      rw [if_neg Bool.false_ne_true] at p ⊢
      exact p F x σ G1 H1 E c1 cv
theorem Cfg.same {F : Fb} {σ : L2.St} {G H : Hp} {b : Option Addr} {i : Nat} {o : Option V} {k : Sk} (c : Cfg K F b Z O σ G H) (h : σ[i]? = some o) (hk : SkO K G k o) : Cfg K F b (Z.set i k) O σ G H := by
  have c2 := c.setO (i := i) hk
  have e2 : σ.set i o = σ := by
    apply List.ext_getElem?
    intro j
    by_cases z : i = j
    · subst z
      have hl := (List.getElem?_eq_some_iff.mp h).1
      rw [List.getElem?_set_self hl, h]
    · rw [List.getElem?_set_ne z]
  rw [e2] at c2
  exact c2
/-- the own list of data at the head stands still from here on -/
theorem sw_freeze {p : Addr} {ds : List PyData} {i : Nat} (hi : Z[i]? = some (.v (.ref p))) (h : SW K s t (Z.set i (.d (.list ds))) O D) : SW K s t Z ((p, .lst (ds.map .d)) :: O) D := fun F x σ G H E c cv => by
  obtain ⟨G', c', e, hd⟩ := c.freeze
  obtain ⟨o, h1, h2⟩ := c'.sl i _ hi
  have h2 : o = some (.ref p) := h2
  subst h2
  exact h F x σ G' H E (c'.same h1 (k := .d (.list ds)) ⟨.ref p, rfl, hd⟩) cv
theorem sw_perm {O' : Own} (hp : O.Perm O') (h : SW K s t Z O' D) : SW K s t Z O D := fun F x σ G H E c cv => h F x σ G H E (c.perm hp) cv
theorem sw_forget {p : Addr × Cell} (h : SW K s t Z O D) : SW K s t Z (p :: O) D := fun F x σ G H E c cv => h F x σ G H E c.tail cv
theorem sw_imp {D' : DE} (h : SW K s t Z O D') (hn : ∀ Z O, D'.nx Z O → D.nx Z O) (hr : ∀ k O, D'.rt k O → D.rt k O) (hb : ∀ Z O, D'.bk Z O → D.bk Z O) (hc : ∀ Z O, D'.ct Z O → D.ct Z O) : SW K s t Z O D := fun F x σ G H E c cv =>
  h F x σ G H E c ⟨fun Z O σ G H c h => cv.nx Z O σ G H c (hn Z O h), fun v k O G H c hd h => cv.rt v k O G H c hd (hr k O h), fun Z O σ G H c h => cv.bk Z O σ G H c (hb Z O h), fun Z O σ G H c h => cv.ct Z O σ G H c (hc Z O h)⟩
/-- a statement, then the rest, by a word between them -/
theorem sw_cut (M : List Sk → Own → Prop) (h : SW K s t Z O { D with nx := M }) (k : ∀ Z' O', M Z' O' → SW K s u Z' O' D) : SW K s (tSeq t u) Z O D :=
  sw_seq (sw_imp h k (fun _ _ h => h) (fun _ _ h => h) (fun _ _ h => h))
/-- xs.append(e) on the own list at the head -/
theorem sw_app {p : Addr} {ks : List Sk} {i : Nat} (hi : Z[i]? = some (.v (.ref p))) (hl : ks.length < 100000) (h : WE K s te Z ((p, .lst ks) :: O) fun k O' => ∃ O2, O' = (p, .lst ks) :: O2 ∧ D.nx Z ((p, .lst (ks ++ [k])) :: O2)) :
    SW K s (tDrop (tBM K "list" rAppend (tVar i) (tCons te tNil))) Z ((p, .lst ks) :: O) D := fun F x σ G H E c cv => by
  obtain ⟨o, h1, h2⟩ := c.sl i _ hi
  have h2 : o = some (.ref p) := h2
  subst h2
  obtain ⟨_, _, _, _, b4, vs0, e0, _⟩ := c.own p _ (List.mem_cons_self ..)
  subst e0
  refine ⟨.ref p, h1, .inl ⟨rfl, vs0, Evl.sq_of b4⟩, ?_⟩
  refine h F x σ G H c _ fun v k O' G' H' c' e hd ⟨O2, eo, p'⟩ => ?_
  subst eo
  obtain ⟨_, _, _, _, o4, vs, e5, o5⟩ := c'.own p _ (List.mem_cons_self ..)
  subst e5
  refine ⟨p, vs, v, rfl, rfl, o4, Evl.sz_lt (by rw [o5.len]; exact hl), ?_⟩
  exact cv.nx _ _ _ _ _ (c'.setOwn (cd := .lst (ks ++ [k])) ⟨_, rfl, o5.app ⟨hd, True.intro⟩⟩) p'
/-- xs[i] = e on the own list at the head -/
theorem sw_setL {p : Addr} {ks : List Sk} {i : Nat} (hi : Z[i]? = some (.v (.ref p)))
    (h : WE K s te Z ((p, .lst ks) :: O) fun k O1 => WE K s tb Z O1 fun y O2 => ∃ n j O3, O2 = (p, .lst ks) :: O3 ∧ y = .d (.int n) ∧ ixN ks.length n = some j ∧ D.nx Z ((p, .lst (ks.set j k)) :: O3)) :
    SW K s (tAsg te (gSub (tVar i) tb rSetL)) Z ((p, .lst ks) :: O) D := fun F x σ G H E c cv => by
  obtain ⟨o, h1, h2⟩ := c.sl i _ hi
  have h2 : o = some (.ref p) := h2
  subst h2
  refine h F x σ G H c _ fun v k O1 G' H' c' e hd p' => ?_
  refine ⟨.ref p, h1, ?_⟩
  refine p' F x σ G' H' c' _ fun w y O2 G2 H2 c2 e2 hy ⟨n, j, O3, eo, ey, hj, q⟩ => ?_
  subst ey eo
  cases hy
  obtain ⟨_, _, _, _, o4, vs, e5, o5⟩ := c2.own p _ (List.mem_cons_self ..)
  subst e5
  refine ⟨p, vs, n, j, rfl, rfl, o4, by rw [o5.len]; exact hj, ?_⟩
  exact cv.nx _ _ _ _ _ (c2.setOwn (cd := .lst (ks.set j k)) ⟨_, rfl, o5.set (hd.mono e2) j⟩) q

/-! ### targets -/
theorem gw_name {i : Nat} {k : Sk} {N : List Sk → Own → Prop} (h : N (Z.set i k) O) : GW K s (gName i) k Z O N := fun F x v σ G H c hd Q q => q _ _ _ G H (c.set hd) (Evl.Ex.refl _) h
theorem gws_nil {N : List Sk → Own → Prop} (h : N Z O) : GWs K s gNil [] Z O N := fun F x vs σ G H c hd Q q => by
  cases vs with
  | nil => exact ⟨rfl, q _ _ _ G H c (Evl.Ex.refl _) h⟩
  | cons _ _ => exact hd.elim
theorem gws_name {i : Nat} {g : TGs} {k : Sk} {ks : List Sk} {N : List Sk → Own → Prop} (h : GWs K s g ks (Z.set i k) O N) : GWs K s (gCons (gName i) g) (k :: ks) Z O N := fun F x vs σ G H c hd Q q => by
  cases vs with
  | nil => exact hd.elim
  | cons v vs => exact ⟨_, _, rfl, h F x _ _ G H (c.set hd.1) hd.2 Q q⟩
theorem gw_tup {n : Nat} {g : TGs} {ds : List PyData} {N : List Sk → Own → Prop} (hn : ds.length = n) (h : GWs K s g (ds.map .d) Z O N) : GW K s (gTup K n g) (.d (.tuple ds)) Z O N := fun F x v σ G H c hd Q q => by
  cases hd with
  | tup hs ha => exact ⟨_, _, rfl, Evl.ex_t c.ex hs, by rw [dpa_len ha]; exact hn, h F x _ σ G H c (SkAll.data ha) Q q⟩
/-- a nested target within a target -/
theorem gws_tup {g : TG} {u : TGs} {k : Sk} {ks : List Sk} {N : List Sk → Own → Prop} (h : GW K s g k Z O fun Z' O' => GWs K s u ks Z' O' N) : GWs K s (gCons g u) (k :: ks) Z O N := fun F x vs σ G H c hd Q q => by
  cases vs with
  | nil => exact hd.elim
  | cons v vs => exact ⟨_, _, rfl, h F x v σ G H c hd.1 _ fun Z' O' σ' G' H' c' e hn => hn F x vs σ' G' H' c' (hd.2.mono e) Q fun Z2 O2 σ2 G2 H2 c2 e2 n => q Z2 O2 σ2 G2 H2 c2 (e.trans e2) n⟩
theorem sw_asgG {g : TG} (h : WE K s te Z O fun k O' => GW K s g k Z O' D.nx) : SW K s (tAsg te g) Z O D := fun F x σ G H E c cv =>
  h F x σ G H c _ fun v k O' G' H' c' e hd p => p F x v σ G' H' c' hd _ fun Z' O' σ' G2 H2 c2 _ n => cv.nx _ _ _ _ _ c2 n
theorem sw_par {i j : Nat} (h : WE K s ta Z O fun x O1 => WE K s tb Z O1 fun y O2 => D.nx ((Z.set i x).set j y) O2) : SW K s (tPar i j (tCons ta (tCons tb tNil))) Z O D := fun F x σ G H E c cv =>
  h F x σ G H c _ fun v k1 O1 G1 H1 c1 e1 hx p => p F x σ G1 H1 c1 _ fun w k2 O2 G2 H2 c2 e2 hy q =>
    ⟨v, w, rfl, cv.nx _ _ _ G2 H2 ((c2.set (hx.mono e2)).set hy) q⟩
theorem sw_par3 {i j l : Nat} (h : WE K s ta Z O fun x O1 => WE K s tb Z O1 fun y O2 => WE K s tc Z O2 fun z O3 => D.nx (((Z.set i x).set j y).set l z) O3) : SW K s (tPar3 i j l (tCons ta (tCons tb (tCons tc tNil)))) Z O D := fun F x σ G H E c cv =>
  h F x σ G H c _ fun v k1 O1 G1 H1 c1 e1 hx p => p F x σ G1 H1 c1 _ fun w k2 O2 G2 H2 c2 e2 hy q => q F x σ G2 H2 c2 _ fun u k3 O3 G3 H3 c3 e3 hz r =>
    ⟨v, w, u, rfl, cv.nx _ _ _ G3 H3 (((c3.set (hx.mono (e2.trans e3))).set (hy.mono e3)).set hz) r⟩
theorem sw_aug {i : Nat} {f : Int → Int → Int} {a : Int} (hi : Z[i]? = some (.d (.int a))) (h : WE K s te Z O fun y O' => ∃ b, y = .d (.int b) ∧ D.nx (Z.set i (.d (.int (f a b)))) O') : SW K s (tAug i te (ipI f)) Z O D := fun F x σ G H E c cv => by
  obtain ⟨o, h1, v, h2, h3⟩ := c.sl i _ hi
  subst h2
  cases h3
  exact ⟨.int a, h1, h F x σ G H c _ fun w y O1 G1 H1 c1 e1 hy ⟨b, ey, p⟩ => by
    subst ey
    cases hy
    exact ⟨a, b, rfl, rfl, cv.nx _ _ _ G1 H1 (c1.set (skd (Dp.int (f a b)))) p⟩⟩

/-! ### loops -/
/-- for: an invariant over the turn, the slots' words and the own cells -/
theorem sw_for {wi : TI} {g : TG} {tb : TS} (I : Nat → List Sk → Own → Prop) (n : Nat) (Yd : Nat → PyData → Prop) (hw : IW K s wi Z O fun n' Y' O' => n' = n ∧ Y' = Yd ∧ I 0 Z O')
    (hs : ∀ i d Z' O', i < n → Yd i d → I i Z' O' → GW K s g (.d d) Z' O' fun Z2 O2 => SW K s tb Z2 O2 { D with nx := I (i + 1), ct := I (i + 1), bk := D.nx }) (hd : ∀ Z' O', I n Z' O' → D.nx Z' O') : SW K s (tFor wi g tb) Z O D := fun F x σ G H E c cv =>
  hw F x σ G H c _ fun J n' Y' O1 G1 H1 c1 e1 ⟨en, ey, h0⟩ hj => by
    subst en ey
    have x1 := x.rebase c1
    refine ⟨fun i m σ2 H2 => m = n' - i ∧ i ≤ n' ∧ ∃ Z2 O2 G2, Cfg K { F with G := G1 } s.box Z2 O2 σ2 G2 H2 ∧ I i Z2 O2, ⟨_, rfl, Nat.zero_le _, Z, O1, G1, c1.rebase c1 (Evl.Ex.refl _), h0⟩, ?_⟩
    rintro i m σ2 H2 ⟨rfl, hi, Z2, O2, G2, c2, inv⟩
    obtain ⟨j1, j2, j3⟩ := hj i G2 H2 c2.e0 c2.ex
    by_cases hlt : i < n'
    · refine .inr ⟨j1 hlt, fun σ' H' => ∃ Z2 O2 G2, Cfg K { F with G := G1 } s.box Z2 O2 σ' G2 H' ∧ I (i + 1) Z2 O2, fun σ' H' p' => ⟨n' - (i + 1), by omega, rfl, hlt, p'⟩, fun y H3 hy => ?_⟩
      obtain ⟨d, hd', hcase⟩ := j3 y H3 hlt hy
      have main : ∀ (G3 : Hp), Cfg K { F with G := G1 } s.box Z2 O2 σ2 G3 H3 → Dp K G3 y d → g y σ2 H3 fun σ4 H4 => tb { E with nx := fun σ' H' => ∃ Z2 O2 G2, Cfg K { F with G := G1 } s.box Z2 O2 σ' G2 H' ∧ I (i + 1) Z2 O2, ct := fun σ' H' => ∃ Z2 O2 G2, Cfg K { F with G := G1 } s.box Z2 O2 σ' G2 H' ∧ I (i + 1) Z2 O2, bk := E.nx } σ4 H4 := fun G3 c3 hx =>
        hs i d Z2 O2 hlt hd' inv _ x1 y σ2 G3 H3 c3 hx _ fun Z4 O4 σ4 G4 H4 c4 _ body => body _ x1 σ4 G4 H4 _ c4
          ⟨fun Z O σ G H c h => ⟨Z, O, G, c, h⟩, fun v k O G H c hd h => cv.rt v k O G H (c.unbase c1) hd h, fun Z O σ G H c h => cv.nx Z O σ G H (c.unbase c1) h, fun Z O σ G H c h => ⟨Z, O, G, c, h⟩⟩
      rcases hcase with ⟨e3, hx⟩ | ⟨T, vs, ex, hT, e3, ds, ed, hds⟩
      · subst e3
        exact main G2 c2 hx
      · subst e3 ex ed
        obtain ⟨c3, e4⟩ := c2.new (o := .tup vs) hT
        exact main _ c3 (.tup (.inl (.inl upd_same)) (dpa_mono e4 ds vs hds))
    · have e : i = n' := by omega
      subst e
      exact .inl ⟨j2 rfl, cv.nx _ _ _ _ _ (c2.unbase c1) (hd _ _ inv)⟩
theorem iw_list {tl : TE} {P : Nat → (Nat → PyData → Prop) → Own → Prop} (h : WE K s tl Z O fun k O' => ∃ ds, k = .d (.list ds) ∧ P ds.length (fun i d => ds[i]? = some d) O') : IW K s (iList K tl) Z O P := fun F x σ G H c R r =>
  h F x σ G H c _ fun v k O1 G1 H1 c1 e1 hx ⟨ds, ex, p⟩ => by
    subst ex
    cases hx with
    | @lst a vs _ hs ha =>
      refine ⟨a, rfl, ⟨vs, Evl.ex_l c1.ex hs⟩, r _ _ _ O1 G1 H1 c1 e1 p fun i G2 H2 e2 e3 => ⟨fun hi => ?_, fun hi => ?_, fun x H3 hi hy => ?_⟩⟩
      · exact ⟨vs, vs[i]'(by rw [dpa_len ha]; exact hi), Evl.ex_l (e2.trans e3) hs, List.getElem?_eq_getElem _⟩
      · exact ⟨vs, Evl.ex_l (e2.trans e3) hs, by rw [dpa_len ha, hi]; exact Nat.le_refl _⟩
      · obtain ⟨h1, h2⟩ := hy
        obtain ⟨d, q1, q2⟩ := dpa_at ha (h2 vs (Evl.ex_l (e2.trans e3) hs))
        exact ⟨d, q1, .inl ⟨h1, dp_mono e2 _ _ q2⟩⟩
theorem iw_tup {tl : TE} {P : Nat → (Nat → PyData → Prop) → Own → Prop} (h : WE K s tl Z O fun k O' => ∃ ds, k = .d (.tuple ds) ∧ P ds.length (fun i d => ds[i]? = some d) O') : IW K s (iTup K tl) Z O P := fun F x σ G H c R r =>
  h F x σ G H c _ fun v k O1 G1 H1 c1 e1 hx ⟨ds, ex, p⟩ => by
    subst ex
    cases hx with
    | @tup a vs _ hs ha =>
      refine ⟨a, rfl, ⟨vs, Evl.ex_t c1.ex hs⟩, r _ _ _ O1 G1 H1 c1 e1 p fun i G2 H2 e2 e3 => ⟨fun hi => ?_, fun hi => ?_, fun x H3 hi hy => ?_⟩⟩
      · exact ⟨vs, vs[i]'(by rw [dpa_len ha]; exact hi), Evl.ex_t (e2.trans e3) hs, List.getElem?_eq_getElem _⟩
      · exact ⟨vs, Evl.ex_t (e2.trans e3) hs, by rw [dpa_len ha, hi]; exact Nat.le_refl _⟩
      · obtain ⟨h1, h2⟩ := hy
        obtain ⟨d, q1, q2⟩ := dpa_at ha (h2 vs (Evl.ex_t (e2.trans e3) hs))
        exact ⟨d, q1, .inl ⟨h1, dp_mono e2 _ _ q2⟩⟩
theorem iw_rng1 {ta : TA} {P : Nat → (Nat → PyData → Prop) → Own → Prop} (h : WA K s ta Z O fun ks O' => ∃ j : Int, ks = [.d (.int j)] ∧ (-(2 ^ 62) ≤ j ∧ j < 2 ^ 62) ∧ P j.toNat (fun i d => d = .int (i : Nat)) O') : IW K s (iRng1 ta) Z O P := fun F x σ G H c R r =>
  h F x σ G H c _ fun vs ks O1 G1 H1 c1 e1 ha ⟨j, ek, ⟨hj1, hj2⟩, p⟩ => by
    subst ek
    match vs, ha with
    | [v], ⟨hv, _⟩ =>
      cases hv
      refine ⟨j, rfl, hj1, hj2, r _ _ _ O1 G1 H1 c1 e1 p fun i G2 H2 e2 e3 => ⟨fun hi => hi, fun hi => Nat.le_of_eq hi.symm, fun x H3 hi hy => ?_⟩⟩
      obtain ⟨h1, h2⟩ := hy
      subst h2
      exact ⟨_, rfl, .inl ⟨h1, by rw [Int.zero_add]; exact .int _⟩⟩
theorem iw_rng2 {ta : TA} {P : Nat → (Nat → PyData → Prop) → Own → Prop} (h : WA K s ta Z O fun ks O' => ∃ l j : Int, ks = [.d (.int l), .d (.int j)] ∧ (-(2 ^ 62) ≤ l ∧ l < 2 ^ 62 ∧ -(2 ^ 62) ≤ j ∧ j < 2 ^ 62) ∧ P (j - l).toNat (fun i d => d = .int (l + (i : Nat))) O') : IW K s (iRng2 ta) Z O P := fun F x σ G H c R r =>
  h F x σ G H c _ fun vs ks O1 G1 H1 c1 e1 ha ⟨l, j, ek, hb, p⟩ => by
    subst ek
    match vs, ha with
    | [v, w], ⟨hv, hw, _⟩ =>
      cases hv
      cases hw
      refine ⟨l, j, rfl, hb, r _ _ _ O1 G1 H1 c1 e1 p fun i G2 H2 e2 e3 => ⟨fun hi => hi, fun hi => Nat.le_of_eq hi.symm, fun x H3 hi hy => ?_⟩⟩
      obtain ⟨h1, h2⟩ := hy
      subst h2
      exact ⟨_, rfl, .inl ⟨h1, .int _⟩⟩
/-- while: an invariant and a measure -/
theorem sw_while {tb : TS} (I : Nat → List Sk → Own → Prop) (m0 : Nat) (h0 : I m0 Z O)
    (hs : ∀ m Z' O', I m Z' O' → WT K s tt Z' O' fun b O1 => if b = true then SW K s tb Z' O1 { D with nx := fun Z2 O2 => ∃ m', m' < m ∧ I m' Z2 O2, ct := fun Z2 O2 => ∃ m', m' < m ∧ I m' Z2 O2, bk := D.nx } else D.nx Z' O1) : SW K s (tWhile tt tb) Z O D := fun F x σ G H E c cv => by
  refine ⟨fun m σ2 H2 => ∃ Z2 O2 G2, Cfg K F s.box Z2 O2 σ2 G2 H2 ∧ I m Z2 O2, ⟨m0, Z, O, G, c, h0⟩, ?_⟩
  rintro m σ2 H2 ⟨Z2, O2, G2, c2, inv⟩
  refine hs m Z2 O2 inv F x σ2 G2 H2 c2 _ fun b O3 G3 H3 c3 e3 p => ?_
  cases b with
  | true =>
    rw [if_pos rfl] at p ⊢
    refine ⟨fun σ' H' => ∃ m', m' < m ∧ ∃ Z2 O2 G2, Cfg K F s.box Z2 O2 σ' G2 H' ∧ I m' Z2 O2, fun σ' H' ⟨m', hm, q⟩ => ⟨m', hm, q⟩, ?_⟩
    exact p F x σ2 G3 H3 _ c3 ⟨fun Z O σ G H c ⟨m', hm, h⟩ => ⟨m', hm, Z, O, G, c, h⟩, cv.rt, fun Z O σ G H c h => cv.nx Z O σ G H c h, fun Z O σ G H c ⟨m', hm, h⟩ => ⟨m', hm, Z, O, G, c, h⟩⟩
  | false =>
    rw [if_neg Bool.false_ne_true] at p ⊢
    exact cv.nx _ _ _ _ _ c3 p

/-! ### comprehensions -/
def wipeZ (Z : List Sk) : List Nat → List Sk
  | [] => Z
  | v :: vs => (wipeZ Z vs).set v .no
theorem wipe_cfg {F : Fb} {b : Option Addr} {σ : L2.St} {G H : Hp} (c : Cfg K F b Z O σ G H) : ∀ vs, Cfg K F b (wipeZ Z vs) O (wipe σ vs) G H
  | [] => c
  | v :: vs => (wipe_cfg c vs).setO (k := .no) True.intro
/-- a target that stores a block's own names alone -/
def Ow (g : TG) (vs : List Nat) : Prop := ∀ x σ H (Q Q' : L2.St → Hp → Prop), (∀ σ2 H2, wipe σ2 vs = wipe σ vs → Q σ2 H2 → Q' σ2 H2) → g x σ H Q → g x σ H Q'
def Ows (g : TGs) (vs : List Nat) : Prop := ∀ x σ H (Q Q' : L2.St → Hp → Prop), (∀ σ2 H2, wipe σ2 vs = wipe σ vs → Q σ2 H2 → Q' σ2 H2) → g x σ H Q → g x σ H Q'
theorem wipe_at : ∀ (vs : List Nat) (σ : L2.St) (i : Nat), (wipe σ vs)[i]? = if i ∈ vs ∧ i < σ.length then some none else σ[i]?
  | [], σ, i => by simp [wipe]
  | v :: vs, σ, i => by
    show ((wipe σ vs).set v none)[i]? = _
    rw [List.getElem?_set, wipe_at vs σ i, wipe_length]
    by_cases h : v = i
    · subst h
      by_cases h2 : v < σ.length
      · simp [h2]
      · simp [h2]
    · have h' : i ≠ v := fun z => h z.symm
      simp [h, h']
theorem wipe_set {vs : List Nat} {σ : L2.St} {i : Nat} {x : Option V} (h : i ∈ vs) : wipe (σ.set i x) vs = wipe σ vs := by
  apply List.ext_getElem?
  intro j
  rw [wipe_at, wipe_at, List.length_set, List.getElem?_set]
  by_cases hj : i = j
  · subst hj
    by_cases h2 : i < σ.length
    · simp [h, h2]
    · simp [h, h2]
  · simp [hj]
theorem wipe_wipe {vs : List Nat} {σ : L2.St} : wipe (wipe σ vs) vs = wipe σ vs := by
  apply List.ext_getElem?
  intro j
  rw [wipe_at, wipe_length, wipe_at]
  split <;> rfl
theorem ow_name {i : Nat} {vs : List Nat} (h : i ∈ vs) : Ow (gName i) vs := fun x σ H Q Q' k q => k _ _ (wipe_set h) q
theorem ows_nil {vs : List Nat} : Ows gNil vs := fun x σ H Q Q' k ⟨e, q⟩ => ⟨e, k _ _ rfl q⟩
theorem ows_cons {g : TG} {u : TGs} {vs : List Nat} (hg : Ow g vs) (hu : Ows u vs) : Ows (gCons g u) vs := fun x σ H Q Q' k ⟨v, r, e, q⟩ =>
  ⟨v, r, e, hg v σ H _ _ (fun σ1 H1 e1 q1 => hu r σ1 H1 _ _ (fun σ2 H2 e2 q2 => k σ2 H2 (e2.trans e1) q2) q1) q⟩
theorem ow_tup {n : Nat} {u : TGs} {vs : List Nat} (hu : Ows u vs) : Ow (gTup K n u) vs := fun x σ H Q Q' k ⟨a, xs, e, h, hl, q⟩ => ⟨a, xs, e, h, hl, hu xs σ H _ _ k q⟩
theorem ow_of {g : TG} {vs : List Nat} (og : Ow g vs) (y : V) (σ : L2.St) (H : Hp) (Q0 : L2.St → Hp → Prop) (h : g y (wipe σ vs) H fun σ2 H2 => wipe σ2 vs = wipe σ vs → Q0 σ2 H2) : g y (wipe σ vs) H fun σ2 H2 => wipe σ2 vs = wipe σ vs ∧ Q0 σ2 H2 :=
  og y _ H _ _ (fun σ2 H2 e q => ⟨e.trans wipe_wipe, q (e.trans wipe_wipe)⟩) h
/-- [e for target in iter if test]: I by the turn, what is made so far, the other own cells -/
theorem we_comp {wi : TI} {g : TG} {tt : TT} {te : TE} {vs : List Nat} {P : Sk → Own → Prop} (og : Ow g vs) (I : Nat → List Sk → Own → Prop) (n : Nat) (Yd : Nat → PyData → Prop) (hw : IW K s wi Z O fun n' Y' O' => n' = n ∧ Y' = Yd ∧ I 0 [] O') (hn : n ≤ 50000)
    (hil : ∀ i acc O', I i acc O' → acc.length ≤ i)
    (hs : ∀ i d acc O' p, i < n → Yd i d → I i acc O' → GW K s g (.d d) (wipeZ Z vs) ((p, .lst acc) :: O') fun Z2 O2 => O2 = (p, .lst acc) :: O' ∧ WT K s tt Z2 O2 fun b O3 => if b = true then WE K s te Z2 O3 fun y O4 => ∃ O5, O4 = (p, .lst acc) :: O5 ∧ I (i + 1) (acc ++ [y]) O5 else ∃ O5, O3 = (p, .lst acc) :: O5 ∧ I (i + 1) acc O5)
    (hd : ∀ acc O' p, I n acc O' → P (.v (.ref p)) ((p, .lst acc) :: O')) : WE K s (tLc wi g tt te vs) Z O P := fun F x σ G H c Q q =>
  hw F x σ G H c _ fun J n' Y' O1 G1 H1 c1 e1 ⟨en, ey, h0⟩ hj => by
    subst en ey
    intro Dl hD
    have x1 := x.rebase c1
    have c1r := (c1.rebase c1 (Evl.Ex.refl _)).newOwn (cc := .lst []) (o := .lst []) hD ⟨[], rfl, True.intro⟩
    refine ⟨fun i m H2 => m = n' - i ∧ i ≤ n' ∧ ∃ acc O2 G2, Cfg K { F with G := G1 } s.box Z ((Dl, .lst acc) :: O2) σ G2 H2 ∧ I i acc O2, ⟨_, rfl, Nat.zero_le _, [], O1, G1, c1r, h0⟩, ?_⟩
    rintro i m H2 ⟨rfl, hi, acc, O2, G2, c2, inv⟩
    obtain ⟨j1, j2, j3⟩ := hj i G2 H2 c2.e0 c2.ex
    by_cases hlt : i < n'
    · refine .inr ⟨j1 hlt, fun H' => ∃ acc O2 G2, Cfg K { F with G := G1 } s.box Z ((Dl, .lst acc) :: O2) σ G2 H' ∧ I (i + 1) acc O2, fun H' p' => ⟨n' - (i + 1), by omega, rfl, hlt, p'⟩, fun y H3 hy => ?_⟩
      obtain ⟨d, hd', hcase⟩ := j3 y H3 hlt hy
      have main : ∀ (G3 : Hp), Cfg K { F with G := G1 } s.box Z ((Dl, .lst acc) :: O2) σ G3 H3 → Dp K G3 y d → g y (wipe σ vs) H3 fun σ2 H2 => wipe σ2 vs = wipe σ vs ∧ tt σ2 H2 fun b H3 =>
          if b = true then te σ2 H3 fun y H4 => ∃ acc, H4 Dl = some (.lst acc) ∧ acc.length < sizeLine ∧ (∃ acc2 O2 G2, Cfg K { F with G := G1 } s.box Z ((Dl, .lst acc2) :: O2) σ G2 (upd H4 Dl (.lst (acc ++ [y]))) ∧ I (i + 1) acc2 O2) else ∃ acc O2 G2, Cfg K { F with G := G1 } s.box Z ((Dl, .lst acc) :: O2) σ G2 H3 ∧ I (i + 1) acc O2 := fun G3 c3 hx => by
        refine ow_of og y σ H3 _ ?_
        refine hs i d acc O2 Dl hlt hd' inv _ x1 y (wipe σ vs) G3 H3 (wipe_cfg c3 vs) hx _ fun Z4 O4 σ4 G4 H4 c4 e34 ⟨eo, body⟩ hwp => ?_
        subst eo
        have back : ∀ {O5 : Own} {G5 H5 : Hp}, Cfg K { F with G := G1 } s.box Z4 O5 σ4 G5 H5 → Ex G3 G5 → Cfg K { F with G := G1 } s.box Z O5 σ G5 H5 := fun c5 e5 =>
          c5.slots c3.len fun j k hk => by
            obtain ⟨o, h1, h2⟩ := c3.sl j k hk
            exact ⟨o, h1, h2.mono e5⟩
        refine body _ x1 σ4 G4 H4 c4 _ fun b O5 G5 H5 c5 e5 pb => ?_
        cases b with
        | false =>
          rw [if_neg Bool.false_ne_true] at pb ⊢
          obtain ⟨O6, eo6, pb⟩ := pb
          subst eo6
          exact ⟨acc, O6, G5, back c5 (e34.trans e5), pb⟩
        | true =>
          rw [if_pos rfl] at pb ⊢
          refine pb _ x1 σ4 G5 H5 c5 _ fun y k O6 G6 H6 c6 e6 hy ⟨O7, eo7, pi⟩ => ?_
          subst eo7
          obtain ⟨_, _, _, _, o4, us, eu, o5⟩ := c6.own Dl _ (List.mem_cons_self ..)
          subst eu
          refine ⟨us, o4, Evl.sz_lt ?_, acc ++ [k], O7, G6, (back c6 ((e34.trans e5).trans e6)).setOwn (cd := .lst (acc ++ [k])) ⟨_, rfl, o5.app ⟨hy, True.intro⟩⟩, pi⟩
          have := hil i acc O2 inv
          rw [o5.len]
          omega
      rcases hcase with ⟨e3, hx⟩ | ⟨T, us, ex, hT, e3, ds, ed, hds⟩
      · subst e3
        exact main G2 c2 hx
      · subst e3 ex ed
        obtain ⟨c3, e4⟩ := c2.new (o := .tup us) hT
        exact main _ c3 (.tup (.inl (.inl upd_same)) (dpa_mono e4 ds us hds))
    · have e : i = n' := by omega
      subst e
      exact .inl ⟨j2 rfl, q _ _ _ _ _ (c2.unbase c1) (e1.trans c2.e0) skv (hd _ _ _ inv)⟩
/-- of data, by an invariant -/
theorem wl_comp {wi : TI} {g : TG} {tt : TT} {te : TE} {vs : List Nat} {PL : List PyData → Own → Prop} (og : Ow g vs) (I : Nat → List PyData → Own → Prop) (n : Nat) (Yd : Nat → PyData → Prop) (hw : IW K s wi Z O fun n' Y' O' => n' = n ∧ Y' = Yd ∧ I 0 [] O') (hn : n ≤ 50000)
    (hil : ∀ i acc O', I i acc O' → acc.length ≤ i)
    (hs : ∀ i d acc O' p, i < n → Yd i d → I i acc O' → GW K s g (.d d) (wipeZ Z vs) ((p, .lst (acc.map .d)) :: O') fun Z2 O2 => O2 = (p, .lst (acc.map .d)) :: O' ∧ WT K s tt Z2 O2 fun b O3 => if b = true then WE K s te Z2 O3 fun y O4 => ∃ w O5, y = .d w ∧ O4 = (p, .lst (acc.map .d)) :: O5 ∧ I (i + 1) (acc ++ [w]) O5 else ∃ O5, O3 = (p, .lst (acc.map .d)) :: O5 ∧ I (i + 1) acc O5)
    (hd : ∀ acc O', I n acc O' → PL acc O') : WL K s (tLc wi g tt te vs) Z O PL := by
  refine we_comp og (fun i ks O' => ∃ acc, ks = acc.map .d ∧ I i acc O') n Yd ?_ hn (fun i ks O' ⟨acc, e, h⟩ => by rw [e, List.length_map]; exact hil i acc O' h) ?_ (fun ks O' p ⟨acc, e, h⟩ => ⟨p, acc, O', rfl, by rw [e], hd acc O' h⟩)
  · intro F x σ G H c R r
    exact hw F x σ G H c R fun J n Yd O' G1 H1 c1 e1 ⟨e2, e3, h0⟩ hj => r J n Yd O' G1 H1 c1 e1 ⟨e2, e3, [], rfl, h0⟩ hj
  · rintro i d ks O' p hi hy ⟨acc, rfl, inv⟩
    intro F x v σ G H c hx Q q
    refine hs i d acc O' p hi hy inv F x v σ G H c hx Q fun Z' O2 σ' G' H' c' e' ⟨eo, body⟩ => q Z' O2 σ' G' H' c' e' ⟨eo, ?_⟩
    refine wt_imp body fun b O3 hb => ?_
    cases b with
    | true =>
      rw [if_pos rfl] at hb ⊢
      refine we_imp hb fun y O4 ⟨w, O5, ey, eo5, h⟩ => ⟨O5, eo5, acc ++ [w], by rw [ey, List.map_append]; rfl, h⟩
    | false =>
      rw [if_neg Bool.false_ne_true] at hb ⊢
      obtain ⟨O5, eo5, h⟩ := hb
      exact ⟨O5, eo5, acc, rfl, h⟩
/-- no test, the other own cells untouched, each element told -/
theorem wl_map {wi : TI} {g : TG} {te : TE} {vs : List Nat} {PL : List PyData → Own → Prop} (og : Ow g vs) (n : Nat) (Yd : Nat → PyData → Prop) (out : List PyData) (hw : IW K s wi Z O fun n' Y' O' => n' = n ∧ Y' = Yd ∧ O' = O) (hn : n ≤ 50000) (ho : out.length = n)
    (hs : ∀ i d y p acc, i < n → Yd i d → out[i]? = some y → GW K s g (.d d) (wipeZ Z vs) ((p, .lst acc) :: O) fun Z2 O2 => O2 = (p, .lst acc) :: O ∧ WE K s te Z2 O2 fun z O3 => z = .d y ∧ O3 = O2)
    (hd : PL out O) : WL K s (tLc wi g tYes te vs) Z O PL := by
  refine wl_comp og (fun i acc O' => acc = out.take i ∧ O' = O) n Yd ?_ hn (fun i acc O' ⟨e, _⟩ => by rw [e, List.length_take]; omega) ?_ (fun acc O' ⟨e, eo⟩ => ?_)
  · intro F x σ G H c R r
    exact hw F x σ G H c R fun J n Yd O' G1 H1 c1 e1 ⟨e2, e3, e4⟩ hj => r J n Yd O' G1 H1 c1 e1 ⟨e2, e3, rfl, e4⟩ hj
  · rintro i d acc O' p hi hy ⟨e, rfl⟩
    have hi2 : i < out.length := by omega
    have h1 : out[i]? = some out[i] := List.getElem?_eq_getElem hi2
    intro F x v σ G H c hx Q q
    refine hs i d _ p (acc.map .d) hi hy h1 F x v σ G H c hx Q fun Z' O2 σ' G' H' c' e' ⟨eo, h2⟩ => q Z' O2 σ' G' H' c' e' ⟨eo, ?_⟩
    refine wt_yes ?_
    rw [if_pos rfl]
    refine we_imp h2 fun z O3 ⟨hz, e3⟩ => ⟨out[i], O', hz, by rw [e3, eo], ?_, rfl⟩
    rw [e, List.take_succ, h1]
    rfl
  · have e2 : acc = out := by rw [e, ← ho, List.take_length]
    rw [e2, eo]
    exact hd
end
end SL

/-! SLd: what defs promise, calls, raising, catching. -/
namespace SL
open PySem PySem.Spec PyProof.Rows L2
open Evl (Ex)

/-! ### contracts -/
/-- what a call leaves: all but the box and the cells handed in stands -/
structure Ret (K : PySem.W.Frag) (b : Option Addr) (A : List Addr) (G H G' H' : Hp) (O' : Own) : Prop where
  eg : Ex G G'
  eh : Ex G' H'
  keep : ∀ a o, a ∉ A → b ≠ some a → H a = some o → H' a = some o
  there : ∀ a o, H a = some o → ∃ o', H' a = some o'
  still : ∀ a o, a ∉ A → b ≠ some a → H a = some o → G' a = G a
  box : BoxO K b G' H'
  own : ∀ p c, (p, c) ∈ O' → G' p = none ∧ b ≠ some p ∧ (p ∈ A ∨ H p = none) ∧ ∃ o, H' p = some o ∧ CellOk K G' c o
  nd : (O'.map (·.1)).Nodup
/-- from the box, the arguments' kinds, the cells handed in: what is wanted of the value, of what is raised -/
abbrev Ct := Option Addr → List Sk → Own → (Sk → Own → Prop) → (Value → Option Addr → Own → Prop) → Prop
def spC (K : PySem.W.Frag) (R : Ct) : Sp := fun vs H Q E => ∃ b G ks O, Ex G H ∧ SkAll K G vs ks ∧ BoxO K b G H ∧ (∀ p c, (p, c) ∈ O → G p = none ∧ b ≠ some p ∧ ∃ o, H p = some o ∧ CellOk K G c o) ∧ (O.map (·.1)).Nodup ∧
  R b ks O (fun k O' => ∀ v G' H', Ret K b (O.map (·.1)) G H G' H' O' → SkV K G' k v → Q v H') (fun cls d O' => ∀ G' H', Ret K b (O.map (·.1)) G H G' H' O' → E cls d H')
class MonoC (R : Ct) : Prop where
  mono : ∀ b ks O P P' X X', (∀ k O', P k O' → P' k O') → (∀ c d O', X c d O' → X' c d O') → R b ks O P X → R b ks O P' X'
/-- data alone: R by data, nothing handed in -/
def ctP (R : List PyData → (PyData → Prop) → Prop) : Ct := fun b ks O P _ => b = none ∧ O = [] ∧ ∃ ds, ks = ds.map .d ∧ R ds fun d => P (.d d) []
/-- .. that may raise an error without a field -/
def ctX (R : List PyData → (PyData → Prop) → (Value → Prop) → Prop) : Ct := fun b ks O P X => b = none ∧ O = [] ∧ ∃ ds, ks = ds.map .d ∧ R ds (fun d => P (.d d) []) fun c => X c none []
/-- .. behind the box -/
def ctB (R : List PyData → (PyData → Prop) → Prop) : Ct := fun b ks O P _ => O = [] ∧ ∃ bb ds, b = some bb ∧ ks = .v (.ref bb) :: ds.map .d ∧ R ds fun d => P (.d d) []
class MonoR (R : List PyData → (PyData → Prop) → Prop) : Prop where
  mono : ∀ ds P Q, (∀ d, P d → Q d) → R ds P → R ds Q
class MonoX (R : List PyData → (PyData → Prop) → (Value → Prop) → Prop) : Prop where
  mono : ∀ ds P Q X Y, (∀ d, P d → Q d) → (∀ c, X c → Y c) → R ds P X → R ds Q Y
instance {R : List PyData → (PyData → Prop) → Prop} [m : MonoR R] : MonoC (ctP R) := ⟨fun _ _ _ _ _ _ _ h _ ⟨e, eo, ds, ek, r⟩ => ⟨e, eo, ds, ek, m.mono _ _ _ (fun d => h (.d d) []) r⟩⟩
instance {R : List PyData → (PyData → Prop) → (Value → Prop) → Prop} [m : MonoX R] : MonoC (ctX R) := ⟨fun _ _ _ _ _ _ _ h g ⟨e, eo, ds, ek, r⟩ => ⟨e, eo, ds, ek, m.mono _ _ _ _ _ (fun d => h (.d d) []) (fun c => g c none []) r⟩⟩
instance {R : List PyData → (PyData → Prop) → Prop} [m : MonoR R] : MonoC (ctB R) := ⟨fun _ _ _ _ _ _ _ h _ ⟨eo, bb, ds, e, ek, r⟩ => ⟨eo, bb, ds, e, ek, m.mono _ _ _ (fun d => h (.d d) []) r⟩⟩

/-! ### the state behind a call -/
section
variable {K : PySem.W.Frag} {F : Fb} {b : Option Addr} {Z : List Sk} {Op Of : Own} {σ : L2.St} {G H G' H' : Hp} {O' : Own}
/-- the box was handed on -/
theorem Cfg.back (c : Cfg K F b Z (Op ++ Of) σ G H) (r : Ret K b (Op.map (·.1)) G H G' H' O') : Cfg K F b Z (O' ++ Of) σ G' H' := by
  have nd := c.nd
  rw [List.map_append, List.nodup_append] at nd
  have offA : ∀ p cc, (p, cc) ∈ Of → p ∉ Op.map (·.1) := fun p cc h z => nd.2.2 p z p (List.mem_map.mpr ⟨_, h, rfl⟩) rfl
  have ownA : ∀ p, p ∈ Op.map (·.1) → F.M p ∨ F.H p = none := fun p h => by
    obtain ⟨⟨q, cc⟩, hq, e⟩ := List.mem_map.mp h
    have e : q = p := e
    subst e
    exact (c.own q cc (List.mem_append_left _ hq)).2.2.1
  refine ⟨c.len, fun i k hk => ?_, r.eh, r.box, c.bxM, fun p cc hp => ?_, ?_, c.e0.trans r.eg, fun a o hm ha => ?_, fun a o ha => ?_, fun a o hm ha => ?_⟩
  · obtain ⟨o, h1, h2⟩ := c.sl i k hk
    exact ⟨o, h1, h2.mono r.eg⟩
  · rcases List.mem_append.mp hp with h | h
    · obtain ⟨o1, o2, o3, o4⟩ := r.own p cc h
      refine ⟨o1, o2, ?_, o4⟩
      rcases o3 with q | q
      · exact ownA p q
      · exact .inr (c.hnone q)
    · obtain ⟨o1, o2, o3, o, o4, o5⟩ := c.own p cc (List.mem_append_right _ h)
      have na := offA p cc h
      exact ⟨by rw [r.still p o na o2 o4]; exact o1, o2, o3, o, r.keep p o na o2 o4, o5.mono r.eg⟩
  · rw [List.map_append, List.nodup_append]
    refine ⟨r.nd, nd.2.1, fun p hp q hq e => ?_⟩
    subst e
    obtain ⟨⟨p1, c1⟩, m1, e1⟩ := List.mem_map.mp hp
    obtain ⟨⟨p2, c2⟩, m2, e2⟩ := List.mem_map.mp hq
    have e1 : p1 = p := e1
    have e2 : p2 = p := e2
    rw [e1] at m1
    rw [e2] at m2
    rcases (r.own p c1 m1).2.2.1 with z | z
    · exact offA p c2 m2 z
    · obtain ⟨_, _, _, o, o4, _⟩ := c.own p c2 (List.mem_append_right _ m2)
      rw [z] at o4
      cases o4
  · have h := c.h0 a o hm ha
    refine r.keep a o (fun z => ?_) (fun z => ?_) h
    · rcases ownA a z with q | q
      · exact hm q
      · rw [q] at ha
        cases ha
    · rcases c.bxM a z with q | q
      · exact hm q
      · rw [q] at ha
        cases ha
  · obtain ⟨o', h'⟩ := c.h1 a o ha
    exact r.there a o' h'
  · obtain ⟨o', h'⟩ := c.h1 a o ha
    rw [r.still a o' (fun z => ?_) (fun z => ?_) h']
    · exact c.g0 a o hm ha
    · rcases ownA a z with q | q
      · exact hm q
      · rw [q] at ha
        cases ha
    · rcases c.bxM a z with q | q
      · exact hm q
      · rw [q] at ha
        cases ha
/-- the box was not handed on -/
theorem Cfg.back0 (c : Cfg K F b Z (Op ++ Of) σ G H) (r : Ret K none (Op.map (·.1)) G H G' H' O') : Cfg K F b Z (O' ++ Of) σ G' H' := by
  have bx : ∀ bb, b = some bb → bb ∉ Op.map (·.1) := fun bb e z => by
    obtain ⟨⟨q, cc⟩, hq, e2⟩ := List.mem_map.mp z
    have e2 : q = bb := e2
    subst e2
    exact (c.own q cc (List.mem_append_left _ hq)).2.1 e
  refine c.back ⟨r.eg, r.eh, fun a o na _ h => r.keep a o na (fun z => by cases z) h, r.there, fun a o na _ h => r.still a o na (fun z => by cases z) h, fun bb e => ?_, fun p cc hp => ?_, r.nd⟩
  · obtain ⟨cc, ns, i, x, sd, b1, b2, b3, b4⟩ := c.box bb e
    exact ⟨cc, ns, i, x, sd, r.keep _ _ (bx bb e) (fun z => by cases z) b1, by rw [r.still _ _ (bx bb e) (fun z => by cases z) b1]; exact b2, Evl.ex_l r.eg b3, b4⟩
  · obtain ⟨o1, _, o3, o4⟩ := r.own p cc hp
    refine ⟨o1, fun z => ?_, o3, o4⟩
    rcases o3 with q | q
    · exact bx p z q
    · exact c.notBox q z
end

/-! ### calls -/
section
variable {K : PySem.W.Frag} {s : Sx} {Z : List Sk} {O : Own} {P : Sk → Own → Prop} {tr : TA} {R : Ct} {E : XK} {PD : List PyData → Own → Prop}
/-- with what may be raised -/
theorem we_callX [m : MonoC R] (hE : ∀ cls d σ H, s.E cls d σ H → E cls d H) (h : WA K s tr Z O fun ks O1 => ∃ Op Of, O1.Perm (Op ++ Of) ∧ (R none ks Op (fun k O' => P k (O' ++ Of)) (fun cls d O' => s.X cls d Z (O' ++ Of)) ∨ R s.box ks Op (fun k O' => P k (O' ++ Of)) (fun cls d O' => s.X cls d Z (O' ++ Of)))) :
    WE K s (tCall (spC K R) [] E tr) Z O P := fun F x σ G H c Q q =>
  h F x σ G H c _ fun vs ks O1 G1 H1 c1 e1 ha ⟨Op, Of, hp, hr⟩ => by
    show spC K R (vs ++ []) H1 Q E
    rw [List.append_nil]
    have c2 := c1.perm hp
    have nd := c2.nd
    rw [List.map_append, List.nodup_append] at nd
    rcases hr with hr | hr
    · refine ⟨none, G1, ks, Op, c2.ex, ha, fun bb z => (by cases z), fun p cc hm => ?_, nd.1, m.mono _ _ _ _ _ _ _ (fun k O' p v G' H' r hk => ?_) (fun cls d O' p G' H' r => ?_) hr⟩
      · obtain ⟨o1, o2, _, o4⟩ := c2.own p cc (List.mem_append_left _ hm)
        exact ⟨o1, fun z => (by cases z), o4⟩
      · exact q v k _ G' H' (c2.back0 r) (e1.trans r.eg) hk p
      · exact hE _ _ σ _ (x cls d Z _ σ G' H' (c2.back0 r) p)
    · refine ⟨s.box, G1, ks, Op, c2.ex, ha, c2.box, fun p cc hm => ?_, nd.1, m.mono _ _ _ _ _ _ _ (fun k O' p v G' H' r hk => ?_) (fun cls d O' p G' H' r => ?_) hr⟩
      · obtain ⟨o1, o2, _, o4⟩ := c2.own p cc (List.mem_append_left _ hm)
        exact ⟨o1, o2, o4⟩
      · exact q v k _ G' H' (c2.back r) (e1.trans r.eg) hk p
      · exact hE _ _ σ _ (x cls d Z _ σ G' H' (c2.back r) p)
/-- nothing is raised -/
theorem we_callN [m : MonoC R] (h : WA K s tr Z O fun ks O1 => ∃ Op Of, O1.Perm (Op ++ Of) ∧ (R none ks Op (fun k O' => P k (O' ++ Of)) (fun _ _ _ => False) ∨ R s.box ks Op (fun k O' => P k (O' ++ Of)) (fun _ _ _ => False))) :
    WE K s (tCall (spC K R) [] E tr) Z O P := fun F x σ G H c Q q =>
  h F x σ G H c _ fun vs ks O1 G1 H1 c1 e1 ha ⟨Op, Of, hp, hr⟩ => by
    show spC K R (vs ++ []) H1 Q E
    rw [List.append_nil]
    have c2 := c1.perm hp
    have nd := c2.nd
    rw [List.map_append, List.nodup_append] at nd
    rcases hr with hr | hr
    · refine ⟨none, G1, ks, Op, c2.ex, ha, fun bb z => (by cases z), fun p cc hm => ?_, nd.1, m.mono _ _ _ _ _ _ _ (fun k O' p v G' H' r hk => ?_) (fun cls d O' p => p.elim) hr⟩
      · obtain ⟨o1, o2, _, o4⟩ := c2.own p cc (List.mem_append_left _ hm)
        exact ⟨o1, fun z => (by cases z), o4⟩
      · exact q v k _ G' H' (c2.back0 r) (e1.trans r.eg) hk p
    · refine ⟨s.box, G1, ks, Op, c2.ex, ha, c2.box, fun p cc hm => ?_, nd.1, m.mono _ _ _ _ _ _ _ (fun k O' p v G' H' r hk => ?_) (fun cls d O' p => p.elim) hr⟩
      · obtain ⟨o1, o2, _, o4⟩ := c2.own p cc (List.mem_append_left _ hm)
        exact ⟨o1, o2, o4⟩
      · exact q v k _ G' H' (c2.back r) (e1.trans r.eg) hk p
theorem we_callP {R : List PyData → (PyData → Prop) → Prop} [m : MonoR R] (h : WD K s tr Z O fun ds O' => R ds fun d => P (.d d) O') : WE K s (tCall (spC K (ctP R)) [] E tr) Z O P :=
  we_callN (wa_imp h fun ks O1 ⟨ds, e, r⟩ => ⟨[], O1, .refl _, .inl ⟨rfl, rfl, ds, e, r⟩⟩)
theorem we_callXD {R : List PyData → (PyData → Prop) → (Value → Prop) → Prop} [m : MonoX R] (hE : ∀ cls d σ H, s.E cls d σ H → E cls d H) (h : WD K s tr Z O fun ds O' => R ds (fun d => P (.d d) O') fun c => s.X c none Z O') : WE K s (tCall (spC K (ctX R)) [] E tr) Z O P :=
  we_callX hE (wa_imp h fun ks O1 ⟨ds, e, r⟩ => ⟨[], O1, .refl _, .inl ⟨rfl, rfl, ds, e, r⟩⟩)
/-- the box first -/
theorem we_callB {R : List PyData → (PyData → Prop) → Prop} [m : MonoR R] {b : Addr} {i : Nat} (hs : s.box = some b) (hi : Z[i]? = some (.v (.ref b))) (h : WD K s tr Z O fun ds O' => R ds fun d => P (.d d) O') : WE K s (tCall (spC K (ctB R)) [] E (tCons (tVar i) tr)) Z O P :=
  we_callN (wa_cons (we_varV hi (wa_imp h fun ks O1 ⟨ds, e, r⟩ => ⟨[], O1, .refl _, .inr ⟨rfl, b, ds, hs, by rw [e], r⟩⟩)))
end

/-! ### defs -/
structure Def (P : Program) (w : World) (K : PySem.W.Frag) (mg : Str → Option Value) (base : Heap) (x : Str) (k : Nat) (ps : List Str) (sp : Sp) : Prop where
  ex : ∃ f fd, mg x = some (.ref f) ∧ PySem.W.keepIn K (.ref f) = true ∧ Binds K fd ps [] ∧ FnOk P w K mg base (L2.CX P w) k f fd ps sp
structure FunAt (K : PySem.W.Frag) (mg : Str → Option Value) (x : Str) (st : Stmt) (ps : List Str) : Prop where
  ex : ∃ f fd, Fun K x x st f fd ∧ mg x = some (.ref f) ∧ Binds K fd ps []
section
variable {X : Cx} {k j : Nat} {ps : List Str} {sp : Sp} {x : Str} {p pos : Pos} {e : Expr} {es : List Expr} {t : TA} {E : XK}
theorem pe_def (D : Def X.prog X.w X.K X.mg X.base x k ps sp) (hr : Room j X.A) (hk : k ≤ j) (hx : Passes (L2.CX X.prog X.w) X E) (hg : Gl X x) (ha : PA X (e :: es) t) (hdb : (x == ("__debug__" : Str)) = false := by decide)
    (he : starEach (e :: es) X.env = (false, eval e X.env) :: starEach es X.env := by rfl) (hpl : (backTo pos (starEach es X.env)).any (·.1) = false := by rfl) : PE X (.Call (.Name x p) (e :: es) [] pos) (tCall sp [] E t) := by
  obtain ⟨f, fd, h1, h2, h3, h4⟩ := D.ex
  exact pe_call h4 (hr.mono hk) hg h1 h2 h3 .nil hx ha hdb he hpl
/-- in a body: what is raised leaves the def -/
theorem passX {W : WX} (tk : Takes X W) (hW : ∀ cls d σ H, E cls d H → W cls d σ H) : Passes (L2.CX X.prog X.w) X E := fun pins σ H s e s' I h => passes_call tk hW pins σ H s e s' I h
end
section
variable {P : Program} {w : World} {K : PySem.W.Frag} {mg : Str → Option Value} {base : Heap} {x : Str} {st : Stmt} {N ps : List Str} {k : Nat} {R : Ct}
/-- the slots at the start -/
def Z0 (N : List Str) (ks : List Sk) : List Sk := ks ++ List.replicate (N.length - ks.length) .no
theorem sl_start {G : Hp} {N : List Str} {ks : List Sk} {vs : List V} (h : SkAll K G vs ks) : (L2.start N vs).length = (Z0 N ks).length ∧ ∀ (i : Nat) (k : Sk), (Z0 N ks)[i]? = some k → ∃ o, (L2.start N vs)[i]? = some o ∧ SkO K G k o := by
  have l := h.len
  refine ⟨by simp [L2.start, Z0, l], fun i k e => ?_⟩
  unfold Z0 at e
  unfold L2.start
  by_cases hi : i < ks.length
  · rw [List.getElem?_append_left hi] at e
    obtain ⟨v, h1, h2⟩ := SkAll.at h e
    exact ⟨some v, by rw [List.getElem?_append_left (by simp [l, hi]), List.getElem?_map, h1]; rfl, h2.toO⟩
  · rw [List.getElem?_append_right (by omega)] at e
    have e3 := List.mem_replicate.mp (List.mem_of_getElem? e)
    have e4 := (List.getElem?_eq_some_iff.mp e).1
    rw [List.length_replicate] at e4
    obtain ⟨_, e3⟩ := e3
    subst e3
    refine ⟨none, ?_, True.intro⟩
    rw [List.getElem?_append_right (by simp [l]; omega)]
    simp only [List.length_map, l]
    rw [List.getElem?_replicate, if_pos e4]
/-- THE RULE for a def: its body's term and what it comes to -/
theorem fn_C (Fn : FunAt K mg x st ps) (S : FnScope N ps (defScope st)) (hl : ∀ b ks O P X, R b ks O P X → ks.length = ps.length)
    (hb : ∀ (f : Addr) (cdv : Value) (A : Around) (outer : List Env) (s : Shared) (H : Hp) (E : XK), Room k (A.deeper (envOfC x (defScope st) s.heap.objs.size f cdv)) →
      ∃ t, PSs (cxOf (L2.CX P w) P w K mg base N x (defScope st) f cdv A outer s H E) (defBody st) t ∧
        ∀ b ks O Q X, R b ks O Q X → SW K ⟨b, fun cls d _ H => E cls d H, fun cls d _ O' => ∃ O2, O'.Perm O2 ∧ ∃ O3 O4, O2 = O3 ++ O4 ∧ X cls d O3⟩ t (Z0 N ks) O { nx := fun _ O' => ∃ O3 O4, O'.Perm (O3 ++ O4) ∧ Q (.d .none) O3, rt := fun v O' => ∃ O3 O4, O'.Perm (O3 ++ O4) ∧ Q v O3 }) :
    Def P w K mg base x (k + 1) ps (spC K R) := by
  obtain ⟨f, fd, hf, hm, hbd⟩ := Fn.ex
  refine ⟨f, fd, hm, hf.kp, hbd, hf.okX S (fun vs H Q E h => ?_) fun cdv A outer s H vs Q E hr h => ?_⟩
  · obtain ⟨b, G, ks, O, _, hk, _, _, _, hR⟩ := h
    rw [hk.len, hl _ _ _ _ _ hR]
  · obtain ⟨b, G, ks, O, e, hk, bx, ow, nd, hR⟩ := h
    obtain ⟨t, ht, sw⟩ := hb f cdv A outer s H E hr
    have fin : ∀ (G' H' : Hp) (O' O3 O4 : Own), Cfg K ⟨fun a => a ∈ O.map (·.1) ∨ b = some a, G, H⟩ b [] O' [] G' H' → O'.Perm (O3 ++ O4) → Ret K b (O.map (·.1)) G H G' H' O3 := fun G' H' O' O3 O4 c hp => by
      have c2 := c.perm hp
      have nd2 := c2.nd
      rw [List.map_append, List.nodup_append] at nd2
      refine ⟨c2.e0, c2.ex, fun a o na nb h => c2.h0 a o (fun z => ?_) h, c2.h1, fun a o na nb h => c2.g0 a o (fun z => ?_) h, c2.box, fun p cc hp => ?_, nd2.1⟩
      · rcases z with z | z
        · exact na z
        · exact nb z
      · rcases z with z | z
        · exact na z
        · exact nb z
      · obtain ⟨o1, o2, o3, o4⟩ := c2.own p cc (List.mem_append_left _ hp)
        refine ⟨o1, o2, ?_, o4⟩
        rcases o3 with (q | q) | q
        · exact .inl q
        · exact absurd q o2
        · exact .inr q
    refine ⟨t, ht, sw b ks O _ _ hR ⟨fun a => a ∈ O.map (·.1) ∨ b = some a, G, H⟩ ?_ _ G H _ ?_ ?_⟩
    · intro cls d Z O' σ G' H' c ⟨O2, hp, O3, O4, e2, hx⟩
      subst e2
      exact hx G' H' (fin G' H' O' O3 O4 c.forget hp)
    · obtain ⟨h1, h2⟩ := sl_start (N := N) hk
      exact ⟨h1, h2, e, bx, fun bb z => .inl (.inr z), fun p cc hp => ⟨(ow p cc hp).1, (ow p cc hp).2.1, .inl (.inl (List.mem_map.mpr ⟨_, hp, rfl⟩)), (ow p cc hp).2.2⟩, nd, Evl.Ex.refl _, fun a o _ h => h, fun a o h => ⟨o, h⟩, fun _ _ _ _ => rfl⟩
    · exact ⟨fun Z O' σ G' H' c ⟨O3, O4, hp, q⟩ => q .non G' H' (fin G' H' O' O3 O4 c.forget hp) (skd .non), fun v k O' G' H' c hv ⟨O3, O4, hp, q⟩ => q v G' H' (fin G' H' O' O3 O4 c hp) hv, fun _ _ _ _ _ _ z => z.elim, fun _ _ _ _ _ _ z => z.elim⟩
/-- the same of data -/
theorem fn_P {R : List PyData → (PyData → Prop) → Prop} (Fn : FunAt K mg x st ps) (S : FnScope N ps (defScope st)) (hl : ∀ ds Q, R ds Q → ds.length = ps.length)
    (hb : ∀ (f : Addr) (cdv : Value) (A : Around) (outer : List Env) (s : Shared) (H : Hp) (E : XK), Room k (A.deeper (envOfC x (defScope st) s.heap.objs.size f cdv)) →
      ∃ t, PSs (cxOf (L2.CX P w) P w K mg base N x (defScope st) f cdv A outer s H E) (defBody st) t ∧ ∀ s' ds Q, s'.box = none → R ds Q → SW K s' t (Z0 N (ds.map .d)) [] { nx := fun _ _ => Q .none, rt := fun k _ => ∃ d, k = .d d ∧ Q d }) :
    Def P w K mg base x (k + 1) ps (spC K (ctP R)) :=
  fn_C Fn S (fun b ks O P X ⟨_, _, ds, e, r⟩ => by rw [e, List.length_map]; exact hl _ _ r) fun f cdv A outer s H E hr => by
    obtain ⟨t, ht, sw⟩ := hb f cdv A outer s H E hr
    refine ⟨t, ht, fun b ks O Q X ⟨eb, eo, ds, ek, r⟩ => ?_⟩
    subst eb eo ek
    exact sw_imp (sw _ ds _ rfl r) (fun Z O h => ⟨[], O, .refl _, h⟩) (fun k O ⟨d, e, h⟩ => ⟨[], O, .refl _, by rw [e]; exact h⟩) (fun _ _ h => h) (fun _ _ h => h)
theorem fn_X {R : List PyData → (PyData → Prop) → (Value → Prop) → Prop} (Fn : FunAt K mg x st ps) (S : FnScope N ps (defScope st)) (hl : ∀ ds Q X, R ds Q X → ds.length = ps.length)
    (hb : ∀ (f : Addr) (cdv : Value) (A : Around) (outer : List Env) (s : Shared) (H : Hp) (E : XK), Room k (A.deeper (envOfC x (defScope st) s.heap.objs.size f cdv)) →
      ∃ t, PSs (cxOf (L2.CX P w) P w K mg base N x (defScope st) f cdv A outer s H E) (defBody st) t ∧ ∀ s' ds Q X, s'.box = none → (∀ cls d σ H, s'.E cls d σ H → E cls d H) → (∀ c Z O, X c → s'.X c none Z O) → R ds Q X → SW K s' t (Z0 N (ds.map .d)) [] { nx := fun _ _ => Q .none, rt := fun k _ => ∃ d, k = .d d ∧ Q d }) :
    Def P w K mg base x (k + 1) ps (spC K (ctX R)) :=
  fn_C Fn S (fun b ks O P X ⟨_, _, ds, e, r⟩ => by rw [e, List.length_map]; exact hl _ _ _ r) fun f cdv A outer s H E hr => by
    obtain ⟨t, ht, sw⟩ := hb f cdv A outer s H E hr
    refine ⟨t, ht, fun b ks O Q X ⟨eb, eo, ds, ek, r⟩ => ?_⟩
    subst eb eo ek
    refine sw_imp (sw _ ds _ (fun c => X c none []) rfl (fun _ _ _ _ h => h) (fun c Z O h => ⟨O, .refl _, [], O, rfl, h⟩) r) (fun Z O h => ⟨[], O, .refl _, h⟩) (fun k O ⟨d, e, h⟩ => ⟨[], O, .refl _, by rw [e]; exact h⟩) (fun _ _ h => h) (fun _ _ h => h)
/-- .. behind the box -/
theorem fn_B {R : List PyData → (PyData → Prop) → Prop} (Fn : FunAt K mg x st ps) (S : FnScope N ps (defScope st)) (hl : ∀ ds Q, R ds Q → ds.length + 1 = ps.length)
    (hb : ∀ (f : Addr) (cdv : Value) (A : Around) (outer : List Env) (s : Shared) (H : Hp) (E : XK), Room k (A.deeper (envOfC x (defScope st) s.heap.objs.size f cdv)) →
      ∃ t, PSs (cxOf (L2.CX P w) P w K mg base N x (defScope st) f cdv A outer s H E) (defBody st) t ∧ ∀ s' b ds Q, s'.box = some b → R ds Q → SW K s' t (Z0 N (.v (.ref b) :: ds.map .d)) [] { nx := fun _ _ => Q .none, rt := fun k _ => ∃ d, k = .d d ∧ Q d }) :
    Def P w K mg base x (k + 1) ps (spC K (ctB R)) :=
  fn_C Fn S (fun b ks O P X ⟨_, bb, ds, eb, e, r⟩ => by rw [e, List.length_cons, List.length_map]; exact hl _ _ r) fun f cdv A outer s H E hr => by
    obtain ⟨t, ht, sw⟩ := hb f cdv A outer s H E hr
    refine ⟨t, ht, fun b ks O Q X ⟨eo, bb, ds, eb, ek, r⟩ => ?_⟩
    subst eb eo ek
    exact sw_imp (sw _ bb ds _ rfl r) (fun Z O h => ⟨[], O, .refl _, h⟩) (fun k O ⟨d, e, h⟩ => ⟨[], O, .refl _, by rw [e]; exact h⟩) (fun _ _ h => h) (fun _ _ h => h)
theorem Def.mono {sp : Sp} {j : Nat} (d : Def P w K mg base x k ps sp) (h : k ≤ j) : Def P w K mg base x j ps sp := by
  obtain ⟨f, fd, h1, h2, h3, h4⟩ := d.ex
  exact ⟨f, fd, h1, h2, h3, h4.mono h⟩
end

/-! ### raising, catching -/
section
variable {K : PySem.W.Frag} {s : Sx} {Z : List Sk} {O : Own} {D : DE} {W Wout : WX}
theorem sw_raise {C : Addr} (hW : ∀ cls d σ H, s.E cls d σ H → W cls d σ H) (h : s.X (.ref C) none Z O) : SW K s (fun _ σ H => (fun (_ : L2.St) H (Q : XK) => Q (.ref C) none H) σ H fun cls d H' => W cls d σ H') Z O D := fun F x σ G H E c cv =>
  hW _ _ σ H (x (.ref C) none Z O σ G H c h)
/-- try: body, except c as n (slot i): suite -/
theorem sw_try_as {c : Value} {i : Nat} {ts : Addr → Value → Option Addr → TS} {tb : WX → TS} (X' : Value → Option Addr → List Sk → Own → Prop) (hW : ∀ cls d σ H, s.E cls d σ H → Wout cls d σ H)
    (hb : ∀ W', SW K ⟨s.box, W', X'⟩ (tb W') Z O D)
    (hx : ∀ cls d Z' O', X' cls d Z' O' → ∃ b, PySem.W.exmOne K cls c = some b ∧ (b = true → ∀ a, SW K s (ts a cls d) (Z'.set i (.v (.ref a))) O' { nx := fun Z2 O2 => D.nx (Z2.set i .no) O2, rt := D.rt, bk := fun Z2 O2 => D.bk (Z2.set i .no) O2, ct := fun Z2 O2 => D.ct (Z2.set i .no) O2 }) ∧ (b = false → s.X cls d Z' O')) :
    SW K s (fun D σ H => tb (wAs K c i ts Wout D) D σ H) Z O D := fun F x σ G H E cf cv => by
  refine hb (wAs K c i ts Wout E) F ?_ σ G H E cf ⟨cv.nx, cv.rt, cv.bk, cv.ct⟩
  intro cls d Z' O' σ' G' H' c' hX
  obtain ⟨b, e, h1, h2⟩ := hx cls d Z' O' hX
  refine ⟨b, e, fun hb a ha => ?_, fun hb => ?_⟩
  · refine h1 hb a F x _ G' H' _ (c'.set (k := .v (.ref a)) skv) ⟨fun Z2 O2 σ2 G2 H2 c2 n => cv.nx _ _ _ G2 H2 (c2.setO (k := .no) (o := none) True.intro) n, cv.rt, fun Z2 O2 σ2 G2 H2 c2 n => cv.bk _ _ _ G2 H2 (c2.setO (k := .no) (o := none) True.intro) n, fun Z2 O2 σ2 G2 H2 c2 n => cv.ct _ _ _ G2 H2 (c2.setO (k := .no) (o := none) True.intro) n⟩
  · exact hW _ _ _ _ (x cls d Z' O' σ' G' H' c' (h2 hb))
end
end SL

/-! SLm: between the two layers: a def that raises nothing may be told in either. -/
namespace SL
open PySem PySem.Spec PyProof.Rows L2
open Evl (Ex)
section
variable {P : Program} {w : World} {K : PySem.W.Frag} {mg : Str → Option Value} {base : Heap} {CX : CXT} {k : Nat} {f : Addr} {fd : FuncData} {ps : List Str} {sp : Sp} {x : Str} {R : List PyData → (PyData → Prop) → Prop}
theorem fnOk_up (F : FnOk P w K mg base CX0 k f fd ps sp) : FnOk P w K mg base CX k f fd ps sp :=
  ⟨F.len, fun A outer s H args us vs Q E hr he hb hv hs => codeAny_mono (F.run A outer s H args us vs Q E hr he hb hv hs) fun r s' h => by
    cases r with
    | error e => exact False.elim h
    | ok g => cases g <;> exact h⟩
theorem fnOk_down (F : FnOk P w K mg base (L2.CX P w) k f fd ps sp) (hE : ∀ vs H Q E, sp vs H Q E → sp vs H Q fun _ _ _ => False) : FnOk P w K mg base CX0 k f fd ps sp :=
  ⟨F.len, fun A outer s H args us vs Q E hr he hb hv hs => codeAny_mono (F.run A outer s H args us vs Q (fun _ _ _ => False) hr he hb hv (hE _ _ _ _ hs)) fun r s' h => by
    cases r with
    | error e =>
      obtain ⟨_, _, _, _, _, _, _, _, _, _, _, _, z⟩ := h
      exact z.elim
    | ok g => cases g <;> exact h⟩
theorem Def.up [m : DL.MonoR R] (d : DL.Def P w K mg base x k ps (DL.spP K R)) : Def P w K mg base x k ps (spC K (ctP R)) := by
  obtain ⟨f, fd, h1, h2, h3, h4⟩ := d.ex
  refine ⟨f, fd, h1, h2, h3, (fnOk_up h4).imp fun vs H Q E h => ?_⟩
  obtain ⟨b, G, ks, O, e, hk, _, _, _, eb, eo, ds, ek, hr⟩ := h
  subst eb eo ek
  refine ⟨G, ds, e, SkAll.undata hk, m.mono _ _ _ (fun d q v G' H' e1 e2 e3 e4 hd => q v G' H' ⟨e1, e2, fun a o _ _ h => e3 a o h, fun a o h => ⟨o, e3 a o h⟩, fun a o _ _ h => e4 a o h, fun b z => (by cases z), fun p c z => (by simp at z), List.nodup_nil⟩ (skd hd)) hr⟩
theorem Def.down [m : DL.MonoR R] (d : Def P w K mg base x k ps (spC K (ctP R))) : DL.Def P w K mg base x k ps (DL.spP K R) := by
  obtain ⟨f, fd, h1, h2, h3, h4⟩ := d.ex
  refine ⟨f, fd, h1, h2, h3, FnOk.imp (fnOk_down h4 fun vs H Q E h => ?_) fun vs H Q E h => ?_⟩
  · obtain ⟨b, G, ks, O, e, hk, bx, ow, nd, eb, eo, ds, ek, hr⟩ := h
    exact ⟨b, G, ks, O, e, hk, bx, ow, nd, eb, eo, ds, ek, hr⟩
  · obtain ⟨G, ds, e, hd, hr⟩ := h
    exact ⟨none, G, ds.map .d, [], e, SkAll.data hd, fun b z => (by cases z), fun p c z => (by simp at z), List.nodup_nil, rfl, rfl, ds, rfl, m.mono _ _ _ (fun d q v G' H' r hv => q v G' H' r.eg r.eh (fun a o h => r.keep a o (by simp) (by simp) h) (fun a o h => r.still a o (by simp) (by simp) h) hv) hr⟩
end
instance {R : List PyData → (PyData → Prop) → Prop} [m : DL.MonoR R] : MonoR R := ⟨m.mono⟩
/-! ### built-ins by data -/
def conv : Sk → DL.Sk
  | .no => .no
  | .d x => .d x
  | .v u => .v u
theorem argOk_of {K : PySem.W.Frag} {G : Hp} : ∀ {vs : List V} {ks : List Sk}, SkAll K G vs ks → DL.ArgOk K G vs (ks.map conv)
  | [], [], _ => True.intro
  | v :: vs, k :: ks, h => ⟨(match k, h.1 with
    | .no, _ => True.intro
    | .d x, q => ⟨v, rfl, q⟩
    | .v u, q => congrArg some q), argOk_of h.2⟩
  | [], _ :: _, h => h.elim
  | _ :: _, [], h => h.elim
section
variable {K : PySem.W.Frag} {s : Sx} {Z : List Sk} {O : Own} {P : Sk → Own → Prop} {tr : TA}
theorem we_ncall {r : List V → Hp → VK → Prop} (h : WA K s tr Z O fun ks O' => ∃ z, DL.NCall K r (ks.map conv) z ∧ P (.d z) O') : WE K s (tCB r tr) Z O P := fun F x σ G H c Q q =>
  h F x σ G H c _ fun vs ks G1' G1 H1 c1 e1 ha ⟨z, hn, p⟩ => hn vs G1 H1 _ c1.ex (argOk_of ha) fun u hu => q u (.d z) _ G1 H1 c1 e1 (skd hu) p
end
/-! ### a def of data in whose body something may be raised -/
section
variable {P : Program} {w : World} {K : PySem.W.Frag} {mg : Str → Option Value} {base : Heap} {x : Str} {st : Stmt} {N ps : List Str} {k : Nat}
theorem fn_PE {R : List PyData → (PyData → Prop) → Prop} (Fn : FunAt K mg x st ps) (S : FnScope N ps (defScope st)) (hl : ∀ ds Q, R ds Q → ds.length = ps.length)
    (hb : ∀ (f : Addr) (cdv : Value) (A : Around) (outer : List Env) (s : Shared) (H : Hp) (E : XK), Room k (A.deeper (envOfC x (defScope st) s.heap.objs.size f cdv)) →
      ∃ t, PSs (cxOf (L2.CX P w) P w K mg base N x (defScope st) f cdv A outer s H E) (defBody st) t ∧ ∀ s' ds Q, s'.box = none → (∀ cls d σ H, s'.E cls d σ H → E cls d H) → R ds Q → SW K s' t (Z0 N (ds.map .d)) [] { nx := fun _ _ => Q .none, rt := fun k _ => ∃ d, k = .d d ∧ Q d }) :
    Def P w K mg base x (k + 1) ps (spC K (ctP R)) :=
  fn_C Fn S (fun b ks O P X ⟨_, _, ds, e, r⟩ => by rw [e, List.length_map]; exact hl _ _ r) fun f cdv A outer s H E hr => by
    obtain ⟨t, ht, sw⟩ := hb f cdv A outer s H E hr
    refine ⟨t, ht, fun b ks O Q X ⟨eb, eo, ds, ek, r⟩ => ?_⟩
    subst eb eo ek
    exact sw_imp (sw _ ds _ rfl (fun _ _ _ _ h => h) r) (fun Z O h => ⟨[], O, .refl _, h⟩) (fun k O ⟨d, e, h⟩ => ⟨[], O, .refl _, by rw [e]; exact h⟩) (fun _ _ h => h) (fun _ _ h => h)
end
theorem pss_if {X : Cx} {sts : List Stmt} {t : TS} {c : Prop} [Decidable c] (h : c → PSs X sts t) : PSs X sts (if c then t else tNever) := by
  split
  · rename_i hc
    exact h hc
  · exact pss_never
theorem zc_of {cls : Value} {d : Option Addr} {C : Addr} {oe : Obj} (h : cls = .ref C ∧ d = none) (z : Zc cls d oe) : Zc (.ref C) none oe := by
  obtain ⟨rfl, rfl⟩ := h
  exact z
/-! ### a call within a try -/
theorem pass0X {X : Cx} : Passes (L2.CX X.prog X.w) X (fun _ _ _ => False) := fun _ _ _ _ _ _ _ h => by
  obtain ⟨_, _, _, _, _, _, _, _, _, _, _, _, z⟩ := h
  exact z.elim
section
variable {X : Cx} {k j : Nat} {ps : List Str} {sp : Sp} {x : Str} {p pos : Pos} {e : Expr} {es : List Expr} {t : TA} {E : L2.St → XK}
theorem pe_defS (D : Def X.prog X.w X.K X.mg X.base x k ps sp) (hr : Room j X.A) (hk : k ≤ j) (hx : ∀ σ, PassesAt (L2.CX X.prog X.w) X σ (E σ)) (hg : Gl X x) (ha : PA X (e :: es) t) (hdb : (x == ("__debug__" : Str)) = false := by decide)
    (he : starEach (e :: es) X.env = (false, eval e X.env) :: starEach es X.env := by rfl) (hpl : (backTo pos (starEach es X.env)).any (·.1) = false := by rfl) : PE X (.Call (.Name x p) (e :: es) [] pos) (tCallS sp E t) := by
  obtain ⟨f, fd, h1, h2, h3, h4⟩ := D.ex
  exact pe_callS h4 (hr.mono hk) hg h1 h2 h3 hx ha hdb he hpl
end
section
variable {K : PySem.W.Frag} {s : Sx} {Z : List Sk} {O : Own} {P : Sk → Own → Prop} {tr : TA} {R : Ct} {E : L2.St → XK}
theorem we_callS [m : MonoC R] (hE : ∀ cls d σ H, s.E cls d σ H → E σ cls d H) (h : WA K s tr Z O fun ks O1 => ∃ Op Of, O1.Perm (Op ++ Of) ∧ (R none ks Op (fun k O' => P k (O' ++ Of)) (fun cls d O' => s.X cls d Z (O' ++ Of)) ∨ R s.box ks Op (fun k O' => P k (O' ++ Of)) (fun cls d O' => s.X cls d Z (O' ++ Of)))) :
    WE K s (tCallS (spC K R) E tr) Z O P := fun F x σ G H c Q q => by
  have h2 := we_callX (E := E σ) (K := K) (s := s) (P := P) (R := R) (tr := tr) (Z := Z) (O := O)
  refine h F x σ G H c _ fun vs ks O1 G1 H1 c1 e1 ha ⟨Op, Of, hp, hr⟩ => ?_
  show spC K R vs H1 Q (E σ)
  have c2 := c1.perm hp
  have nd := c2.nd
  rw [List.map_append, List.nodup_append] at nd
  rcases hr with hr | hr
  · refine ⟨none, G1, ks, Op, c2.ex, ha, fun bb z => (by cases z), fun p cc hm => ?_, nd.1, m.mono _ _ _ _ _ _ _ (fun k O' p v G' H' r hk => ?_) (fun cls d O' p G' H' r => ?_) hr⟩
    · obtain ⟨o1, o2, _, o4⟩ := c2.own p cc (List.mem_append_left _ hm)
      exact ⟨o1, fun z => (by cases z), o4⟩
    · exact q v k _ G' H' (c2.back0 r) (e1.trans r.eg) hk p
    · exact hE _ _ σ _ (x cls d Z _ σ G' H' (c2.back0 r) p)
  · refine ⟨s.box, G1, ks, Op, c2.ex, ha, c2.box, fun p cc hm => ?_, nd.1, m.mono _ _ _ _ _ _ _ (fun k O' p v G' H' r hk => ?_) (fun cls d O' p G' H' r => ?_) hr⟩
    · obtain ⟨o1, o2, _, o4⟩ := c2.own p cc (List.mem_append_left _ hm)
      exact ⟨o1, o2, o4⟩
    · exact q v k _ G' H' (c2.back r) (e1.trans r.eg) hk p
    · exact hE _ _ σ _ (x cls d Z _ σ G' H' (c2.back r) p)
theorem we_callXS {R : List PyData → (PyData → Prop) → (Value → Prop) → Prop} [m : MonoX R] (hE : ∀ cls d σ H, s.E cls d σ H → E σ cls d H) (h : WD K s tr Z O fun ds O' => R ds (fun d => P (.d d) O') fun c => s.X c none Z O') : WE K s (tCallS (spC K (ctX R)) E tr) Z O P :=
  we_callS hE (wa_imp h fun ks O1 ⟨ds, e, r⟩ => ⟨[], O1, .refl _, .inl ⟨rfl, rfl, ds, e, r⟩⟩)
/-- isinstance(e, c) of a caught error -/
theorem we_isE {D a : Addr} (h : WA K s tr Z O fun ks O' => ∃ (c : V) (cv : Value) (b : Bool), ks = [.v (.ref a), .v c] ∧ (∀ u, RelV c u → u = cv) ∧ PySem.W.kitOne K (.ref D) cv = some b ∧ P (.d (.bool b)) O') : WE K s (tCB (rIsE K D a) tr) Z O P := fun F x σ G H c Q q =>
  h F x σ G H c _ fun vs ks O1 G1 H1 c1 e1 ha ⟨cc, cv, b, ek, hc, hk, p⟩ => by
    subst ek
    match vs, ha with
    | [v, w], ⟨hv, hw, _⟩ =>
      have hv : v = .ref a := hv
      have hw : w = cc := hw
      subst hv hw
      exact ⟨_, cv, b, rfl, hc, hk, q _ (.d (.bool b)) O1 G1 H1 c1 e1 (skd (Dp.bl b)) p⟩
end
/-! ### what isinstance asks of classes -/
theorem kit_refS {K : PySem.W.Frag} {C S : Addr} (hd : PySem.W.hasDictIn K S = true) (ht : PySem.W.typeIn K (.ref S) = some (.type "type")) (hs : PySem.W.subIn K (.ref C) (.ref S) = some true) : PySem.W.kitOne K (.ref C) (.ref S) = some true := by
  unfold PySem.W.kitOne
  split
  · rfl
  · obtain ⟨cd, hc, _⟩ := PySem.W.any_some hd
    show (if ((PySem.W.clsIn K S).isSome && PySem.W.typeIn K (.ref S) == some (.type "type")) = true then PySem.W.subIn K (.ref C) (.ref S) else none) = some true
    rw [if_pos (by rw [hc, ht] <;> rfl)]
    exact hs
theorem kit_tyS {K : PySem.W.Frag} {C : Addr} {T : String} (hT : PySem.W.kitMeta T = true) (hs : PySem.W.subIn K (.ref C) (.type T) = some true) : PySem.W.kitOne K (.ref C) (.type T) = some true := by
  unfold PySem.W.kitOne
  split
  · rfl
  · show (if PySem.W.kitMeta T = true then PySem.W.subIn K (.ref C) (.type T) else none) = some true
    rw [if_pos hT]
    exact hs
end SL

/-! SLn: loops whose number of turns is drawn, or that walk one's own things. -/
namespace SL
open PySem PySem.Spec PyProof.Rows L2
open Evl (Ex)
section
variable {K : PySem.W.Frag} {s : Sx} {Z : List Sk} {O : Own} {D : DE} {t u : TS} {te ta tb tc : TE} {tt : TT} {tr : TA}
/-- what is walked, by data, as long as the own cells are as L says -/
def IWL (K : PySem.W.Frag) (s : Sx) (wi : TI) (Z : List Sk) (O : Own) (P : Nat → (Nat → PyData → Prop) → (Own → Prop) → Own → Prop) : Prop :=
  ∀ (F : Fb) (x : FX K F s) σ G H, Cfg K F s.box Z O σ G H → ∀ R : It → Hp → Prop, (∀ (J : It) (n : Nat) (Yd : Nat → PyData → Prop) (L : Own → Prop) (O' : Own) (G1 H1 : Hp), Cfg K F s.box Z O' σ G1 H1 → Ex G G1 → P n Yd L O' →
    (∀ i F2 Z2 O2 σ2 G2 H2, Ex G1 G2 → Cfg K F2 s.box Z2 O2 σ2 G2 H2 → L O2 → (i < n → J.go i H2) ∧ (i = n → J.stop i H2) ∧ ∀ x H3, i < n → J.yld i H2 x H3 →
      ∃ d, Yd i d ∧ ((H3 = H2 ∧ Dp K G2 x d) ∨ ∃ T vs, x = .ref T ∧ H2 T = none ∧ H3 = upd H2 T (.tup vs) ∧ ∃ ds, d = .tuple ds ∧ DpAll K G2 vs ds)) → R J H1) → wi σ H R
theorem iwl_up {wi : TI} {P : Nat → (Nat → PyData → Prop) → (Own → Prop) → Own → Prop} (h : IW K s wi Z O fun n Y O' => P n Y (fun _ => True) O') : IWL K s wi Z O P := fun F x σ G H c R r =>
  h F x σ G H c R fun J n Yd O' G1 H1 c1 e1 p hj => r J n Yd (fun _ => True) O' G1 H1 c1 e1 p fun i F2 Z2 O2 σ2 G2 H2 e2 c2 _ => hj i G2 H2 e2 c2.ex
/-- for: an invariant over the turn, the slots' words and the own cells -/
theorem sw_forL {wi : TI} {g : TG} {tb : TS} (I : Nat → List Sk → Own → Prop) (C : Nat → (Nat → PyData → Prop) → (Own → Prop) → Prop) (hw : IWL K s wi Z O fun n Y L O' => C n Y L ∧ I 0 Z O') (hL : ∀ n Y L, C n Y L → ∀ i Z' O', I i Z' O' → L O')
    (hs : ∀ n Yd L, C n Yd L → ∀ i d Z' O', i < n → Yd i d → I i Z' O' → GW K s g (.d d) Z' O' fun Z2 O2 => SW K s tb Z2 O2 { D with nx := I (i + 1), ct := I (i + 1), bk := D.nx }) (hd : ∀ n Yd L, C n Yd L → ∀ Z' O', I n Z' O' → D.nx Z' O') : SW K s (tFor wi g tb) Z O D := fun F x σ G H E c cv =>
  hw F x σ G H c _ fun J n' Y' L O1 G1 H1 c1 e1 ⟨hC, h0⟩ hj => by
    have x1 := x.rebase c1
    refine ⟨fun i m σ2 H2 => m = n' - i ∧ i ≤ n' ∧ ∃ Z2 O2 G2, Cfg K { F with G := G1 } s.box Z2 O2 σ2 G2 H2 ∧ I i Z2 O2, ⟨_, rfl, Nat.zero_le _, Z, O1, G1, c1.rebase c1 (Evl.Ex.refl _), h0⟩, ?_⟩
    rintro i m σ2 H2 ⟨rfl, hi, Z2, O2, G2, c2, inv⟩
    obtain ⟨j1, j2, j3⟩ := hj i _ Z2 O2 σ2 G2 H2 c2.e0 c2 (hL _ _ _ hC _ _ _ inv)
    by_cases hlt : i < n'
    · refine .inr ⟨j1 hlt, fun σ' H' => ∃ Z2 O2 G2, Cfg K { F with G := G1 } s.box Z2 O2 σ' G2 H' ∧ I (i + 1) Z2 O2, fun σ' H' p' => ⟨n' - (i + 1), by omega, rfl, hlt, p'⟩, fun y H3 hy => ?_⟩
      obtain ⟨d, hd', hcase⟩ := j3 y H3 hlt hy
      have main : ∀ (G3 : Hp), Cfg K { F with G := G1 } s.box Z2 O2 σ2 G3 H3 → Dp K G3 y d → g y σ2 H3 fun σ4 H4 => tb { E with nx := fun σ' H' => ∃ Z2 O2 G2, Cfg K { F with G := G1 } s.box Z2 O2 σ' G2 H' ∧ I (i + 1) Z2 O2, ct := fun σ' H' => ∃ Z2 O2 G2, Cfg K { F with G := G1 } s.box Z2 O2 σ' G2 H' ∧ I (i + 1) Z2 O2, bk := E.nx } σ4 H4 := fun G3 c3 hx =>
        hs _ _ _ hC i d Z2 O2 hlt hd' inv _ x1 y σ2 G3 H3 c3 hx _ fun Z4 O4 σ4 G4 H4 c4 _ body => body _ x1 σ4 G4 H4 _ c4
          ⟨fun Z O σ G H c h => ⟨Z, O, G, c, h⟩, fun v k O G H c hd h => cv.rt v k O G H (c.unbase c1) hd h, fun Z O σ G H c h => cv.nx Z O σ G H (c.unbase c1) h, fun Z O σ G H c h => ⟨Z, O, G, c, h⟩⟩
      rcases hcase with ⟨e3, hx⟩ | ⟨T, vs, ex, hT, e3, ds, ed, hds⟩
      · subst e3
        exact main G2 c2 hx
      · subst e3 ex ed
        obtain ⟨c3, e4⟩ := c2.new (o := .tup vs) hT
        exact main _ c3 (.tup (.inl (.inl upd_same)) (dpa_mono e4 ds vs hds))
    · obtain rfl : n' = i := by omega
      exact .inl ⟨j2 rfl, cv.nx _ _ _ _ _ (c2.unbase c1) (hd _ _ _ hC _ _ inv)⟩
/-- [e for target in iter if test]: I by the turn, what is made so far, the other own cells -/
theorem we_compL {wi : TI} {g : TG} {tt : TT} {te : TE} {vs : List Nat} {P : Sk → Own → Prop} (og : Ow g vs) (I : Nat → List Sk → Own → Prop) (C : Nat → (Nat → PyData → Prop) → (Own → Prop) → Prop) (hw : IWL K s wi Z O fun n Y L O' => C n Y L ∧ I 0 [] O') (hn : ∀ n Y L, C n Y L → n ≤ 50000) (hL : ∀ n Y L, C n Y L → ∀ i acc O' p, I i acc O' → L ((p, .lst acc) :: O'))
    (hil : ∀ i acc O', I i acc O' → acc.length ≤ i)
    (hs : ∀ n Yd L, C n Yd L → ∀ i d acc O' p, i < n → Yd i d → I i acc O' → GW K s g (.d d) (wipeZ Z vs) ((p, .lst acc) :: O') fun Z2 O2 => O2 = (p, .lst acc) :: O' ∧ WT K s tt Z2 O2 fun b O3 => if b = true then WE K s te Z2 O3 fun y O4 => ∃ O5, O4 = (p, .lst acc) :: O5 ∧ I (i + 1) (acc ++ [y]) O5 else ∃ O5, O3 = (p, .lst acc) :: O5 ∧ I (i + 1) acc O5)
    (hd : ∀ n Yd L, C n Yd L → ∀ acc O' p, I n acc O' → P (.v (.ref p)) ((p, .lst acc) :: O')) : WE K s (tLc wi g tt te vs) Z O P := fun F x σ G H c Q q =>
  hw F x σ G H c _ fun J n' Y' L O1 G1 H1 c1 e1 ⟨hC, h0⟩ hj => by
    have hn := hn _ _ _ hC
    intro Dl hD
    have x1 := x.rebase c1
    have c1r := (c1.rebase c1 (Evl.Ex.refl _)).newOwn (cc := .lst []) (o := .lst []) hD ⟨[], rfl, True.intro⟩
    refine ⟨fun i m H2 => m = n' - i ∧ i ≤ n' ∧ ∃ acc O2 G2, Cfg K { F with G := G1 } s.box Z ((Dl, .lst acc) :: O2) σ G2 H2 ∧ I i acc O2, ⟨_, rfl, Nat.zero_le _, [], O1, G1, c1r, h0⟩, ?_⟩
    rintro i m H2 ⟨rfl, hi, acc, O2, G2, c2, inv⟩
    obtain ⟨j1, j2, j3⟩ := hj i _ Z _ σ G2 H2 c2.e0 c2 (hL _ _ _ hC _ _ _ _ inv)
    by_cases hlt : i < n'
    · refine .inr ⟨j1 hlt, fun H' => ∃ acc O2 G2, Cfg K { F with G := G1 } s.box Z ((Dl, .lst acc) :: O2) σ G2 H' ∧ I (i + 1) acc O2, fun H' p' => ⟨n' - (i + 1), by omega, rfl, hlt, p'⟩, fun y H3 hy => ?_⟩
      obtain ⟨d, hd', hcase⟩ := j3 y H3 hlt hy
      have main : ∀ (G3 : Hp), Cfg K { F with G := G1 } s.box Z ((Dl, .lst acc) :: O2) σ G3 H3 → Dp K G3 y d → g y (wipe σ vs) H3 fun σ2 H2 => wipe σ2 vs = wipe σ vs ∧ tt σ2 H2 fun b H3 =>
          if b = true then te σ2 H3 fun y H4 => ∃ acc, H4 Dl = some (.lst acc) ∧ acc.length < sizeLine ∧ (∃ acc2 O2 G2, Cfg K { F with G := G1 } s.box Z ((Dl, .lst acc2) :: O2) σ G2 (upd H4 Dl (.lst (acc ++ [y]))) ∧ I (i + 1) acc2 O2) else ∃ acc O2 G2, Cfg K { F with G := G1 } s.box Z ((Dl, .lst acc) :: O2) σ G2 H3 ∧ I (i + 1) acc O2 := fun G3 c3 hx => by
        refine ow_of og y σ H3 _ ?_
        refine hs _ _ _ hC i d acc O2 Dl hlt hd' inv _ x1 y (wipe σ vs) G3 H3 (wipe_cfg c3 vs) hx _ fun Z4 O4 σ4 G4 H4 c4 e34 ⟨eo, body⟩ hwp => ?_
        subst eo
        have back : ∀ {O5 : Own} {G5 H5 : Hp}, Cfg K { F with G := G1 } s.box Z4 O5 σ4 G5 H5 → Ex G3 G5 → Cfg K { F with G := G1 } s.box Z O5 σ G5 H5 := fun c5 e5 =>
          c5.slots c3.len fun j k hk => by
            obtain ⟨o, h1, h2⟩ := c3.sl j k hk
            exact ⟨o, h1, h2.mono e5⟩
        refine body _ x1 σ4 G4 H4 c4 _ fun b O5 G5 H5 c5 e5 pb => ?_
        cases b with
        | false =>
          rw [if_neg Bool.false_ne_true] at pb ⊢
          obtain ⟨O6, eo6, pb⟩ := pb
          subst eo6
          exact ⟨acc, O6, G5, back c5 (e34.trans e5), pb⟩
        | true =>
          rw [if_pos rfl] at pb ⊢
          refine pb _ x1 σ4 G5 H5 c5 _ fun y k O6 G6 H6 c6 e6 hy ⟨O7, eo7, pi⟩ => ?_
          subst eo7
          obtain ⟨_, _, _, _, o4, us, eu, o5⟩ := c6.own Dl _ (List.mem_cons_self ..)
          subst eu
          refine ⟨us, o4, Evl.sz_lt ?_, acc ++ [k], O7, G6, (back c6 ((e34.trans e5).trans e6)).setOwn (cd := .lst (acc ++ [k])) ⟨_, rfl, o5.app ⟨hy, True.intro⟩⟩, pi⟩
          have := hil i acc O2 inv
          rw [o5.len]
          omega
      rcases hcase with ⟨e3, hx⟩ | ⟨T, us, ex, hT, e3, ds, ed, hds⟩
      · subst e3
        exact main G2 c2 hx
      · subst e3 ex ed
        obtain ⟨c3, e4⟩ := c2.new (o := .tup us) hT
        exact main _ c3 (.tup (.inl (.inl upd_same)) (dpa_mono e4 ds us hds))
    · obtain rfl : n' = i := by omega
      exact .inl ⟨j2 rfl, q _ _ _ _ _ (c2.unbase c1) (e1.trans c2.e0) skv (hd _ _ _ hC _ _ _ inv)⟩
/-- an own list of data, walked -/
theorem iwl_own {tl : TE} {P : Nat → (Nat → PyData → Prop) → (Own → Prop) → Own → Prop} (h : WE K s tl Z O fun k O' => ∃ p, ∃ ds : List PyData, k = .v (.ref p) ∧ (p, .lst (ds.map .d)) ∈ O' ∧ P ds.length (fun i d => ds[i]? = some d) (fun O2 => (p, .lst (ds.map .d)) ∈ O2) O') : IWL K s (iList K tl) Z O P := fun F x σ G H c R r =>
  h F x σ G H c _ fun v k O1 G1 H1 c1 e1 hk ⟨p, ds, ek, hm, pp⟩ => by
    subst ek
    obtain rfl : v = .ref p := hk
    obtain ⟨_, _, _, o, o4, vs, eo, o5⟩ := c1.own p _ hm
    subst eo
    refine ⟨p, rfl, ⟨vs, Evl.sq_of o4⟩, r _ _ _ _ O1 G1 H1 c1 e1 pp fun i F2 Z2 O2 σ2 G2 H2 e2 c2 hL => ?_⟩
    obtain ⟨_, _, _, o', q4, ws, eo, q5⟩ := c2.own p _ hL
    subst eo
    have ha := SkAll.undata q5
    have hs : SqL K H2 p ws := Evl.sq_of q4
    refine ⟨fun hi => ?_, fun hi => ?_, fun y H3 hi hy => ?_⟩
    · exact ⟨ws, ws[i]'(by rw [dpa_len ha]; exact hi), hs, List.getElem?_eq_getElem _⟩
    · exact ⟨ws, hs, by rw [dpa_len ha, hi]; exact Nat.le_refl _⟩
    · obtain ⟨h1, h2⟩ := hy
      obtain ⟨d, q1, q2⟩ := dpa_at ha (h2 ws hs)
      exact ⟨d, q1, .inl ⟨h1, q2⟩⟩
def keyD : Key → PyData
  | .inl i => .int i
  | .inr x => .str x
theorem dp_key {G : Hp} : ∀ k : Key, Dp K G (kV k) (keyD k)
  | .inl i => .int i
  | .inr x => .str x
theorem dp_kV {G : Hp} {v : V} : ∀ {k : Key}, Dp K G v (keyD k) → v = kV k
  | .inl _, h => by cases h; rfl
  | .inr _, h => by cases h; rfl
theorem kv_at {κ : Type} {G : Hp} : ∀ {us : List (κ × V)} {kvs : List (κ × Sk)} {i : Nat} {k : κ} {v : V}, KvAll K G us kvs → us[i]? = some (k, v) → ∃ y, kvs[i]? = some (k, y) ∧ SkV K G y v
  | [], [], i, _, _, _, e => by simp at e
  | (a, v) :: r, (b, y) :: r', 0, _, _, h, e => by
    simp at e
    obtain ⟨e1, e2⟩ := e
    subst e1 e2
    exact ⟨y, by rw [h.1]; rfl, h.2.1⟩
  | (a, v) :: r, (b, y) :: r', i + 1, _, _, h, e => by
    obtain ⟨z, h1, h2⟩ := kv_at (i := i) h.2.2 (by simpa using e)
    exact ⟨z, by simpa using h1, h2⟩
  | [], (_, _) :: _, _, _, _, h, _ => h.elim
  | (_, _) :: _, [], _, _, _, h, _ => h.elim
theorem kv_len {κ : Type} {G : Hp} : ∀ {us : List (κ × V)} {kvs : List (κ × Sk)}, KvAll K G us kvs → us.length = kvs.length
  | [], [], _ => rfl
  | (_, _) :: _, (_, _) :: _, h => congrArg (· + 1) (kv_len h.2.2)
  | [], (_, _) :: _, h => h.elim
  | (_, _) :: _, [], h => h.elim
/-- the keys of a locked dict -/
theorem iwl_keys {td : TE} {P : Nat → (Nat → PyData → Prop) → (Own → Prop) → Own → Prop} (h : WE K s td Z O fun k O' => ∃ p od us, ∃ kvs : List (Key × Sk), k = .v (.ref p) ∧ (p, .lck od us kvs) ∈ O' ∧ P kvs.length (fun i d => ∃ k y, kvs[i]? = some (k, y) ∧ d = keyD k) (fun O2 => (p, .lck od us kvs) ∈ O2) O') : IWL K s (iKeys td) Z O P := fun F x σ G H c R r =>
  h F x σ G H c _ fun v k O1 G1 H1 c1 e1 hk ⟨p, od, us, kvs, ek, hm, pp⟩ => by
    subst ek
    obtain rfl : v = .ref p := hk
    obtain ⟨_, _, _, o, o4, eo, o5⟩ := c1.own p _ hm
    subst eo
    refine ⟨p, od, rfl, .inl ⟨us, o4, r _ _ _ _ O1 G1 H1 c1 e1 pp fun i F2 Z2 O2 σ2 G2 H2 e2 c2 hL => ?_⟩⟩
    obtain ⟨_, _, _, o', q4, eo, q5⟩ := c2.own p _ hL
    subst eo
    have hl := kv_len q5
    refine ⟨fun hi => ⟨q4, by rw [hl]; exact hi⟩, fun hi => ⟨q4, by rw [hl, hi]; exact Nat.le_refl _⟩, fun y H3 hi hy => ?_⟩
    obtain ⟨h1, k, v, h2, h3⟩ := hy
    obtain ⟨z, q1, q2⟩ := kv_at q5 h2
    exact ⟨_, ⟨k, z, q1, rfl⟩, .inl ⟨h1, by rw [h3]; exact dp_key k⟩⟩
end
end SL

/-! SLo: objects and dicts of one's own. -/
namespace SL
open PySem PySem.Spec PyProof.Rows L2
open Evl (Ex)
theorem perm_set {α : Type} : ∀ {l : List α} {i : Nat} {x : α}, l[i]? = some x → ∃ r, l.Perm (x :: r) ∧ ∀ y, (l.set i y).Perm (y :: r)
  | [], _, _, h => by simp at h
  | a :: l, 0, x, h => by
    simp at h
    subst h
    exact ⟨l, .refl _, fun y => .refl _⟩
  | a :: l, i + 1, x, h => by
    obtain ⟨r, h1, h2⟩ := perm_set (l := l) (i := i) (x := x) (by simpa using h)
    exact ⟨a :: r, (h1.cons a).trans (.swap ..), fun y => ((h2 y).cons a).trans (.swap ..)⟩
section
variable {K : PySem.W.Frag} {F : Fb} {b : Option Addr} {Z : List Sk} {O : Own} {σ : L2.St} {G H : Hp}
theorem Cfg.setAt {i : Nat} {p : Addr} {cc cd : Cell} {o : HO} (c : Cfg K F b Z O σ G H) (hi : O[i]? = some (p, cc)) (hd : CellOk K G cd o) : Cfg K F b Z (O.set i (p, cd)) σ G (upd H p o) := by
  obtain ⟨r, h1, h2⟩ := perm_set hi
  exact ((c.perm h1).setOwn hd).perm (h2 _).symm
end
/-! ### fields -/
def putFS (f : Str) (k : Sk) : List (Str × Sk) → List (Str × Sk)
  | [] => [(f, k)]
  | (g, x) :: r => if g = f then (g, k) :: r else (g, x) :: putFS f k r
section
variable {K : PySem.W.Frag} {G : Hp}
theorem kv_lookup : ∀ {us : List (Str × V)} {fs : List (Str × Sk)} {f : Str} {k : Sk}, KvAll K G us fs → fs.lookup f = some k → ∃ v, us.lookup f = some v ∧ SkV K G k v
  | [], [], _, _, _, e => by cases e
  | (a, v) :: r, (b, y) :: r', f, k, h, e => by
    obtain ⟨h1, h2, h3⟩ := h
    subst h1
    rw [List.lookup_cons] at e ⊢
    cases hb : (f == a) with
    | true =>
      rw [hb] at e
      cases e
      exact ⟨v, rfl, h2⟩
    | false =>
      rw [hb] at e
      exact kv_lookup h3 e
  | [], (_, _) :: _, _, _, h, _ => h.elim
  | (_, _) :: _, [], _, _, h, _ => h.elim
theorem kv_lookup0 : ∀ {us : List (Str × V)} {fs : List (Str × Sk)} {f : Str}, KvAll K G us fs → fs.lookup f = none → us.lookup f = none
  | [], [], _, _, _ => rfl
  | (a, v) :: r, (b, y) :: r', f, h, e => by
    obtain ⟨h1, h2, h3⟩ := h
    subst h1
    rw [List.lookup_cons] at e ⊢
    cases hb : (f == a) with
    | true => rw [hb] at e; cases e
    | false =>
      rw [hb] at e
      exact kv_lookup0 h3 e
  | [], (_, _) :: _, _, h, _ => h.elim
  | (_, _) :: _, [], _, h, _ => h.elim
theorem kv_putF {f : Str} {k : Sk} {v : V} (hk : SkV K G k v) : ∀ {us : List (Str × V)} {fs : List (Str × Sk)}, KvAll K G us fs → KvAll K G (putF f v us) (putFS f k fs)
  | [], [], _ => ⟨rfl, hk, True.intro⟩
  | (a, w) :: r, (b, y) :: r', h => by
    obtain ⟨h1, h2, h3⟩ := h
    subst h1
    unfold putF putFS
    split
    · exact ⟨rfl, hk, h3⟩
    · exact ⟨rfl, h2, kv_putF hk h3⟩
  | [], (_, _) :: _, h => h.elim
  | (_, _) :: _, [], h => h.elim
end
/-! ### dicts -/
section
variable {κ : Type} [DecidableEq κ] {K : PySem.W.Frag} {G : Hp}
def valS {α : Type} (kvs : List (κ × α)) (k : κ) : Option α := (kvs.find? fun kv => decide (kv.1 = k)).map (·.2)
def putS {α : Type} (kvs : List (κ × α)) (k : κ) (v : α) : List (κ × α) :=
  if (kvs.any fun kv => decide (kv.1 = k)) = true then kvs.map (fun kv => if kv.1 = k then (kv.1, v) else kv) else kvs ++ [(k, v)]
def dropS {α : Type} (kvs : List (κ × α)) (k : κ) : List (κ × α) := kvs.filter fun kv => decide (kv.1 ≠ k)
theorem valS_cons {α : Type} {a k : κ} {y : α} {r : List (κ × α)} : valS ((a, y) :: r) k = if a = k then some y else valS r k := by
  unfold valS
  rw [List.find?_cons]
  by_cases h : a = k
  · rw [if_pos h]; simp [h]
  · rw [if_neg h]; simp [h]
theorem valV_cons {a k : κ} {y : V} {r : List (κ × V)} : valV ((a, y) :: r) k = if a = k then some y else valV r k := by
  unfold valV
  rw [List.find?_cons]
  by_cases h : a = k
  · rw [if_pos h]; simp [h]
  · rw [if_neg h]; simp [h]
theorem kv_val {k : κ} : ∀ {us : List (κ × V)} {kvs : List (κ × Sk)}, KvAll K G us kvs → (∀ y, valS kvs k = some y → ∃ v, valV us k = some v ∧ SkV K G y v) ∧ (valV us k).isSome = (valS kvs k).isSome
  | [], [], _ => ⟨fun y e => (by cases e), rfl⟩
  | (a, v) :: r, (b, y) :: r', h => by
    obtain ⟨h1, h2, h3⟩ := h
    subst h1
    rw [valV_cons, valS_cons]
    obtain ⟨q1, q2⟩ := kv_val (k := k) h3
    by_cases e : a = k
    · rw [if_pos e, if_pos e]
      exact ⟨fun z ez => ⟨v, rfl, by cases ez; exact h2⟩, rfl⟩
    · rw [if_neg e, if_neg e]
      exact ⟨q1, q2⟩
  | [], (_, _) :: _, h => h.elim
  | (_, _) :: _, [], h => h.elim
theorem kv_any {k : κ} : ∀ {us : List (κ × V)} {kvs : List (κ × Sk)}, KvAll K G us kvs → (us.any fun kv => decide (kv.1 = k)) = (kvs.any fun kv => decide (kv.1 = k))
  | [], [], _ => rfl
  | (a, v) :: r, (b, y) :: r', h => by
    obtain ⟨h1, h2, h3⟩ := h
    subst h1
    rw [List.any_cons, List.any_cons, kv_any h3]
  | [], (_, _) :: _, h => h.elim
  | (_, _) :: _, [], h => h.elim
theorem kv_map {k : κ} {v : V} {y : Sk} (hk : SkV K G y v) : ∀ {us : List (κ × V)} {kvs : List (κ × Sk)}, KvAll K G us kvs → KvAll K G (us.map fun kv => if kv.1 = k then (kv.1, v) else kv) (kvs.map fun kv => if kv.1 = k then (kv.1, y) else kv)
  | [], [], _ => True.intro
  | (a, w) :: r, (b, z) :: r', h => by
    obtain ⟨h1, h2, h3⟩ := h
    subst h1
    have q := kv_map (k := k) hk h3
    rw [List.map_cons, List.map_cons]
    by_cases e : a = k
    · simp only [e, if_true]
      subst e
      exact ⟨rfl, hk, q⟩
    · simp only [e, if_false]
      exact ⟨rfl, h2, q⟩
  | [], (_, _) :: _, h => h.elim
  | (_, _) :: _, [], h => h.elim
theorem kv_app : ∀ {us us' : List (κ × V)} {kvs kvs' : List (κ × Sk)}, KvAll K G us kvs → KvAll K G us' kvs' → KvAll K G (us ++ us') (kvs ++ kvs')
  | [], _, [], _, _, h => h
  | (_, _) :: _, _, (_, _) :: _, _, h, h2 => ⟨h.1, h.2.1, kv_app h.2.2 h2⟩
  | [], _, (_, _) :: _, _, h, _ => h.elim
  | (_, _) :: _, _, [], _, h, _ => h.elim
theorem kv_put {k : κ} {v : V} {y : Sk} (hk : SkV K G y v) {us : List (κ × V)} {kvs : List (κ × Sk)} (h : KvAll K G us kvs) : KvAll K G (putK us k v) (putS kvs k y) := by
  unfold putK putS
  rw [kv_any h]
  split
  · exact kv_map hk h
  · exact kv_app h ⟨rfl, hk, True.intro⟩
theorem kv_drop {k : κ} : ∀ {us : List (κ × V)} {kvs : List (κ × Sk)}, KvAll K G us kvs → KvAll K G (dropK us k) (dropS kvs k)
  | [], [], _ => True.intro
  | (a, v) :: r, (b, y) :: r', h => by
    obtain ⟨h1, h2, h3⟩ := h
    subst h1
    have q := kv_drop (k := k) h3
    unfold dropK dropS at q ⊢
    rw [List.filter_cons, List.filter_cons]
    by_cases e : a = k
    · simp only [e, ne_eq, not_true_eq_false, decide_false, Bool.false_eq_true, if_false]
      exact q
    · simp only [e, ne_eq, not_false_eq_true, decide_true, if_true]
      exact ⟨rfl, h2, q⟩
  | [], (_, _) :: _, h => h.elim
  | (_, _) :: _, [], h => h.elim
end
/-! ### readings -/
section
variable {K : PySem.W.Frag} {s : Sx} {Z : List Sk} {O : Own} {P : Sk → Own → Prop} {D : DE} {t u : TS} {te ta tb tc td ty tv : TE} {tt : TT} {tr : TA} {R : Ct} {E : XK}
theorem we_fld {f : Str} (h : WE K s ta Z O fun k O1 => ∃ p C dx fs kk, k = .v (.ref p) ∧ (p, .ins C dx fs) ∈ O1 ∧ Cls K C ∧ NoAttr K C f ∧ fs.lookup f = some kk ∧ P kk O1) : WE K s (tFld K ta f) Z O P := fun F x σ G H c Q q =>
  h F x σ G H c _ fun v k O1 G1 H1 c1 e1 hk ⟨p, C, dx, fs, kk, ek, hm, hc, hn, hl, pp⟩ => by
    subst ek
    obtain rfl : v = .ref p := hk
    obtain ⟨_, _, _, o, o4, us, eo, o5⟩ := c1.own p _ hm
    subst eo
    obtain ⟨w, u1, u2⟩ := kv_lookup o5 hl
    exact ⟨p, C, dx, us, w, rfl, o4, hc, hn, u1, q w kk O1 G1 H1 c1 e1 u2 pp⟩
theorem sw_fld {f : Str} (h : WE K s tv Z O fun ky O1 => WE K s ta Z O1 fun kx O2 => ∃ p C dx fs i, kx = .v (.ref p) ∧ O2[i]? = some (p, .ins C dx fs) ∧ Cls K C ∧ NoAttr K C f ∧ fs.length < 1000 ∧ D.nx Z (O2.set i (p, .ins C dx (putFS f ky fs)))) : SW K s (sFld K ta tv f) Z O D := fun F x σ G H En c cv =>
  h F x σ G H c _ fun y ky O1 G1 H1 c1 e1 hy hp => hp F x σ G1 H1 c1 _ fun v kx O2 G2 H2 c2 e2 hv ⟨p, C, dx, fs, i, ek, hi, hc, hn, hl, n⟩ => by
    subst ek
    obtain rfl : v = .ref p := hv
    obtain ⟨_, _, _, o, o4, us, eo, o5⟩ := c2.own p _ (List.mem_of_getElem? hi)
    subst eo
    exact ⟨p, C, dx, us, rfl, o4, hc, hn, by rw [kv_len o5]; exact hl, cv.nx _ _ _ _ _ (c2.setAt hi (cd := .ins C dx (putFS f ky fs)) ⟨_, rfl, kv_putF (hy.mono e2) o5⟩) n⟩
/-- a call: the own cells handed in stand between A and B -/
def CallN (s : Sx) (R : Ct) (ks : List Sk) (O : Own) (P : Sk → Own → Prop) (X : Value → Option Addr → Own → Prop) : Prop :=
  ∃ A Op B : Own, O = A ++ (Op ++ B) ∧ (R none ks Op (fun k O' => P k (A ++ (O' ++ B))) (fun cls d O' => X cls d (A ++ (O' ++ B))) ∨ R s.box ks Op (fun k O' => P k (A ++ (O' ++ B))) (fun cls d O' => X cls d (A ++ (O' ++ B))))
theorem perm_mid {A B C : Own} : (A ++ (B ++ C)).Perm (B ++ (A ++ C)) := by
  rw [← List.append_assoc, ← List.append_assoc]
  exact (List.perm_append_comm (l₁ := A) (l₂ := B)).append_right C
theorem call_run [m : MonoC R] {F : Fb} (x : FX K F s) {σ : L2.St} {G H : Hp} {ks : List Sk} {vs : List V} (c : Cfg K F s.box Z O σ G H) (ha : SkAll K G vs ks) {X : Value → Option Addr → Own → Prop} (hX : ∀ cls d O', X cls d O' → s.X cls d Z O') (hE : ∀ cls d H', (∃ O', X cls d O') → s.E cls d σ H' → E cls d H') {Q : VK}
    (q : ∀ v k O' G' H', Cfg K F s.box Z O' σ G' H' → Ex G G' → SkV K G' k v → P k O' → Q v H') (h : CallN s R ks O P X) : spC K R vs H Q E := by
  obtain ⟨A, Op, B, eo, hr⟩ := h
  subst eo
  have c2 := c.perm perm_mid
  have nd := c2.nd
  rw [List.map_append, List.nodup_append] at nd
  rcases hr with hr | hr
  · refine ⟨none, G, ks, Op, c2.ex, ha, fun bb z => (by cases z), fun p cc hm => ?_, nd.1, m.mono _ _ _ _ _ _ _ (fun k O' p v G' H' r hk => ?_) (fun cls d O' p G' H' r => ?_) hr⟩
    · obtain ⟨o1, o2, _, o4⟩ := c2.own p cc (List.mem_append_left _ hm)
      exact ⟨o1, fun z => (by cases z), o4⟩
    · exact q v k _ G' H' ((c2.back0 r).perm perm_mid) r.eg hk p
    · exact hE _ _ _ ⟨_, p⟩ (x cls d Z _ σ G' H' ((c2.back0 r).perm perm_mid) (hX _ _ _ p))
  · refine ⟨s.box, G, ks, Op, c2.ex, ha, c2.box, fun p cc hm => ?_, nd.1, m.mono _ _ _ _ _ _ _ (fun k O' p v G' H' r hk => ?_) (fun cls d O' p G' H' r => ?_) hr⟩
    · obtain ⟨o1, o2, _, o4⟩ := c2.own p cc (List.mem_append_left _ hm)
      exact ⟨o1, o2, o4⟩
    · exact q v k _ G' H' ((c2.back r).perm perm_mid) (r.eg) hk p
    · exact hE _ _ _ ⟨_, p⟩ (x cls d Z _ σ G' H' ((c2.back r).perm perm_mid) (hX _ _ _ p))
/-- f(..), nothing raised -/
theorem we_callO [m : MonoC R] (h : WA K s tr Z O fun ks O1 => CallN s R ks O1 P fun _ _ _ => False) : WE K s (tCall (spC K R) [] E tr) Z O P := fun F x σ G H c Q q =>
  h F x σ G H c _ fun vs ks O1 G1 H1 c1 e1 ha hc => by
    show spC K R (vs ++ []) H1 Q E
    rw [List.append_nil]
    exact call_run x c1 ha (fun _ _ _ z => z.elim) (fun _ _ _ ⟨_, z⟩ => z.elim) (fun v k O' G' H' c' e => q v k O' G' H' c' (e1.trans e)) hc
/-- .. that may raise -/
theorem we_callOX [m : MonoC R] (hE : ∀ cls d σ H, s.E cls d σ H → E cls d H) (h : WA K s tr Z O fun ks O1 => CallN s R ks O1 P fun cls d O' => s.X cls d Z O') : WE K s (tCall (spC K R) [] E tr) Z O P := fun F x σ G H c Q q =>
  h F x σ G H c _ fun vs ks O1 G1 H1 c1 e1 ha hc => by
    show spC K R (vs ++ []) H1 Q E
    rw [List.append_nil]
    exact call_run x c1 ha (fun _ _ _ z => z) (fun cls d H' _ z => hE cls d σ H' z) (fun v k O' G' H' c' e => q v k O' G' H' c' (e1.trans e)) hc
/-- o.m(..), nothing raised -/
theorem we_meth [mm : MonoC R] {C : Addr} {m : Str} (h : WE K s ta Z O fun k O1 => ∃ p dx fs, k = .v (.ref p) ∧ (p, .ins C dx fs) ∈ O1 ∧ fs.lookup m = none ∧ WA K s tr Z O1 fun ks O2 => CallN s R (.v (.ref p) :: ks) O2 P fun _ _ _ => False) : WE K s (tMeth C m (spC K R) [] E ta tr) Z O P := fun F x σ G H c Q q =>
  h F x σ G H c _ fun v k O1 G1 H1 c1 e1 hk ⟨p, dx, fs, ek, hm, hl, ha⟩ => by
    subst ek
    obtain rfl : v = .ref p := hk
    obtain ⟨_, _, _, o, o4, us, eo, o5⟩ := c1.own p _ hm
    subst eo
    refine ⟨p, dx, us, rfl, o4, kv_lookup0 o5 hl, ha F x σ G1 H1 c1 _ fun vs ks O2 G2 H2 c2 e2 hks hc => ?_⟩
    rw [List.append_nil]
    exact call_run x c2 (ks := .v (.ref p) :: ks) (vs := .ref p :: vs) ⟨rfl, hks⟩ (fun _ _ _ z => z.elim) (fun _ _ _ ⟨_, z⟩ => z.elim) (fun v k O' G' H' c' e => q v k O' G' H' c' ((e1.trans e2).trans e)) hc
theorem we_methX [mm : MonoC R] {C : Addr} {m : Str} (hE : ∀ cls d σ H, s.E cls d σ H → E cls d H) (h : WE K s ta Z O fun k O1 => ∃ p dx fs, k = .v (.ref p) ∧ (p, .ins C dx fs) ∈ O1 ∧ fs.lookup m = none ∧ WA K s tr Z O1 fun ks O2 => CallN s R (.v (.ref p) :: ks) O2 P fun cls d O' => s.X cls d Z O') : WE K s (tMeth C m (spC K R) [] E ta tr) Z O P := fun F x σ G H c Q q =>
  h F x σ G H c _ fun v k O1 G1 H1 c1 e1 hk ⟨p, dx, fs, ek, hm, hl, ha⟩ => by
    subst ek
    obtain rfl : v = .ref p := hk
    obtain ⟨_, _, _, o, o4, us, eo, o5⟩ := c1.own p _ hm
    subst eo
    refine ⟨p, dx, us, rfl, o4, kv_lookup0 o5 hl, ha F x σ G1 H1 c1 _ fun vs ks O2 G2 H2 c2 e2 hks hc => ?_⟩
    rw [List.append_nil]
    exact call_run x c2 (ks := .v (.ref p) :: ks) (vs := .ref p :: vs) ⟨rfl, hks⟩ (fun _ _ _ z => z) (fun cls d H' _ z => hE cls d σ H' z) (fun v k O' G' H' c' e => q v k O' G' H' c' ((e1.trans e2).trans e)) hc
/-- C(..) -/
theorem we_make [mm : MonoC R] {C : Addr} (h : WA K s tr Z O fun ks O1 => ∀ p dx, R none (.v (.ref p) :: ks) [(p, .ins C dx [])] (fun k O' => k = .d .none ∧ P (.v (.ref p)) (O' ++ O1)) (fun _ _ _ => False)) : WE K s (tMake C (spC K R) [] E tr) Z O P := fun F x σ G H c Q q =>
  h F x σ G H c _ fun vs ks O1 G1 H1 c1 e1 ha hr y dx ny ndx nex => by
    have c2 : Cfg K F s.box Z O1 σ G1 (upd H1 dx (.own y)) := c1.grow (Evl.Ex.refl _) (c1.ex.trans (Evl.Ex.new ndx)) (Evl.Ex.new ndx) (fun _ _ _ => rfl)
    have ny2 : (upd H1 dx (.own y)) y = none := by rw [upd_ne (fun z => nex z.symm)]; exact ny
    have c3 := c2.newOwn (cc := .ins C dx []) (o := .ins C dx []) ny2 ⟨[], rfl, True.intro⟩
    rw [List.append_nil]
    refine call_run (O := (y, .ins C dx []) :: O1) (P := fun k O' => k = .d .none ∧ P (.v (.ref y)) O') x c3 (ks := .v (.ref y) :: ks) (vs := .ref y :: vs) ⟨rfl, ha⟩ (X := fun _ _ _ => False) (fun _ _ _ z => z.elim) (fun _ _ _ ⟨_, z⟩ => z.elim) (fun v k O' G' H' c' e hk ⟨ek, pp⟩ => ?_) ⟨[], [(y, .ins C dx [])], O1, rfl, .inl (hr y dx)⟩
    subst ek
    cases hk
    exact ⟨rfl, q (.ref y) _ O' G' H' c' (e1.trans e) skv pp⟩
/-! dicts -/
theorem we_dnew (h : ∀ p, P (.v (.ref p)) ((p, .dct []) :: O)) : WE K s tDNewK Z O P := fun F x σ G H c Q q p hp =>
  q _ _ _ G _ (c.newOwn (cc := .dct []) (o := .dK []) hp ⟨[], rfl, True.intro⟩) (Evl.Ex.refl _) skv (h p)
theorem we_dget (h : WE K s td Z O fun kx O1 => WE K s ty Z O1 fun ky O2 => ∃ p kvs key y, kx = .v (.ref p) ∧ (p, .dct kvs) ∈ O2 ∧ ky = .d (keyD key) ∧ valS kvs key = some y ∧ P y O2) : WE K s (tDGet td ty) Z O P := fun F x σ G H c Q q =>
  h F x σ G H c _ fun v kx O1 G1 H1 c1 e1 hv hp => hp F x σ G1 H1 c1 _ fun w ky O2 G2 H2 c2 e2 hw ⟨p, kvs, key, y, ex, hm, ek, hval, pp⟩ => by
    subst ex ek
    obtain rfl : v = .ref p := hv
    have hw : Dp K G2 w (keyD key) := hw
    obtain rfl := dp_kV hw
    obtain ⟨_, _, _, o, o4, us, eo, o5⟩ := c2.own p _ hm
    subst eo
    obtain ⟨u, u1, u2⟩ := (kv_val (k := key) o5).1 y hval
    exact ⟨p, u, rfl, by rw [← u1]; exact DGet.k o4, q u y O2 G2 H2 c2 (e1.trans e2) u2 pp⟩
theorem we_din (h : WE K s ty Z O fun ky O1 => WE K s td Z O1 fun kx O2 => ∃ p kvs key, kx = .v (.ref p) ∧ (p, .dct kvs) ∈ O2 ∧ ky = .d (keyD key) ∧ P (.d (.bool (valS kvs key).isSome)) O2) : WE K s (tDIn ty td) Z O P := fun F x σ G H c Q q =>
  h F x σ G H c _ fun w ky O1 G1 H1 c1 e1 hw hp => hp F x σ G1 H1 c1 _ fun v kx O2 G2 H2 c2 e2 hv ⟨p, kvs, key, ex, hm, ek, pp⟩ => by
    subst ex ek
    obtain rfl : v = .ref p := hv
    have hw : Dp K G1 w (keyD key) := hw
    obtain rfl := dp_kV hw
    obtain ⟨_, _, _, o, o4, us, eo, o5⟩ := c2.own p _ hm
    subst eo
    refine ⟨p, _, rfl, DGet.k o4, ?_⟩
    rw [(kv_val (k := key) o5).2]
    exact q _ _ O2 G2 H2 c2 (e1.trans e2) (skd (Dp.bl _)) pp
theorem we_dnotin (h : WE K s ty Z O fun ky O1 => WE K s td Z O1 fun kx O2 => ∃ p kvs key, kx = .v (.ref p) ∧ (p, .dct kvs) ∈ O2 ∧ ky = .d (keyD key) ∧ P (.d (.bool (!(valS kvs key).isSome))) O2) : WE K s (tDNotIn ty td) Z O P := fun F x σ G H c Q q =>
  h F x σ G H c _ fun w ky O1 G1 H1 c1 e1 hw hp => hp F x σ G1 H1 c1 _ fun v kx O2 G2 H2 c2 e2 hv ⟨p, kvs, key, ex, hm, ek, pp⟩ => by
    subst ex ek
    obtain rfl : v = .ref p := hv
    have hw : Dp K G1 w (keyD key) := hw
    obtain rfl := dp_kV hw
    obtain ⟨_, _, _, o, o4, us, eo, o5⟩ := c2.own p _ hm
    subst eo
    refine ⟨p, _, rfl, DGet.k o4, ?_⟩
    rw [(kv_val (k := key) o5).2]
    exact q _ _ O2 G2 H2 c2 (e1.trans e2) (skd (Dp.bl _)) pp
theorem sw_dput (h : WE K s tv Z O fun kv O1 => WE K s td Z O1 fun kx O2 => WE K s ty Z O2 fun ky O3 => ∃ p kvs key i, kx = .v (.ref p) ∧ O3[i]? = some (p, .dct kvs) ∧ ky = .d (keyD key) ∧ kvs.length < 100000 ∧ D.nx Z (O3.set i (p, .dct (putS kvs key kv)))) : SW K s (sDPut td ty tv) Z O D := fun F x σ G H En c cv =>
  h F x σ G H c _ fun z kv O1 G1 H1 c1 e1 hz hp => hp F x σ G1 H1 c1 _ fun v kx O2 G2 H2 c2 e2 hv hp2 => hp2 F x σ G2 H2 c2 _ fun w ky O3 G3 H3 c3 e3 hw ⟨p, kvs, key, i, ex, hi, ek, hl, n⟩ => by
    subst ex ek
    obtain rfl : v = .ref p := hv
    have hw : Dp K G3 w (keyD key) := hw
    obtain rfl := dp_kV hw
    obtain ⟨_, _, _, o, o4, us, eo, o5⟩ := c3.own p _ (List.mem_of_getElem? hi)
    subst eo
    exact ⟨p, _, rfl, DPut.k o4 (by rw [kv_len o5]; exact Evl.sz_lt hl), cv.nx _ _ _ _ _ (c3.setAt hi (cd := .dct (putS kvs key kv)) ⟨_, rfl, kv_put (hz.mono (e2.trans e3)) o5⟩) n⟩
theorem sw_ddel (h : WE K s td Z O fun kx O1 => WE K s ty Z O1 fun ky O2 => ∃ p kvs key i, kx = .v (.ref p) ∧ O2[i]? = some (p, .dct kvs) ∧ ky = .d (keyD key) ∧ (valS kvs key).isSome = true ∧ D.nx Z (O2.set i (p, .dct (dropS kvs key)))) : SW K s (sDDel td ty) Z O D := fun F x σ G H En c cv =>
  h F x σ G H c _ fun v kx O1 G1 H1 c1 e1 hv hp => hp F x σ G1 H1 c1 _ fun w ky O2 G2 H2 c2 e2 hw ⟨p, kvs, key, i, ex, hi, ek, hs, n⟩ => by
    subst ex ek
    obtain rfl : v = .ref p := hv
    have hw : Dp K G2 w (keyD key) := hw
    obtain rfl := dp_kV hw
    obtain ⟨_, _, _, o, o4, us, eo, o5⟩ := c2.own p _ (List.mem_of_getElem? hi)
    subst eo
    exact ⟨p, us, key, rfl, o4, rfl, by rw [(kv_val (k := key) o5).2]; exact hs, cv.nx _ _ _ _ _ (c2.setAt hi (cd := .dct (dropS kvs key)) ⟨_, rfl, kv_drop o5⟩) n⟩
theorem we_dlen (h : WA K s tr Z O fun ks O1 => ∃ p kvs, ks = [.v (.ref p)] ∧ (p, .dct kvs) ∈ O1 ∧ P (.d (.int (kvs.length : Nat))) O1) : WE K s (tCB (fun xs H Q => ∃ a kvs, xs = [V.ref a] ∧ H a = some (.dK kvs) ∧ Q (.int kvs.length) H) tr) Z O P := fun F x σ G H c Q q =>
  h F x σ G H c _ fun vs ks O1 G1 H1 c1 e1 ha ⟨p, kvs, ek, hm, pp⟩ => by
    subst ek
    match vs, ha with
    | [v], ⟨hv, _⟩ =>
      obtain rfl : v = .ref p := hv
      obtain ⟨_, _, _, o, o4, us, eo, o5⟩ := c1.own p _ hm
      subst eo
      refine ⟨p, us, rfl, o4, ?_⟩
      rw [kv_len o5]
      exact q _ _ O1 G1 H1 c1 e1 (skd (Dp.int _)) pp
/-- len of an own list -/
theorem we_llen (h : WA K s tr Z O fun ks O1 => ∃ p ls, ks = [.v (.ref p)] ∧ (p, .lst ls) ∈ O1 ∧ P (.d (.int (ls.length : Nat))) O1) : WE K s (tCB (fun xs H Q => ∃ x n, xs = [x] ∧ LenV K x H n ∧ Q (.int n) H) tr) Z O P := fun F x σ G H c Q q =>
  h F x σ G H c _ fun vs ks O1 G1 H1 c1 e1 ha ⟨p, ls, ek, hm, pp⟩ => by
    subst ek
    match vs, ha with
    | [v], ⟨hv, _⟩ =>
      obtain rfl : v = .ref p := hv
      obtain ⟨_, _, _, o, o4, us, eo, o5⟩ := c1.own p _ hm
      subst eo
      refine ⟨_, us.length, rfl, .inl ⟨us, Evl.sq_of o4, rfl⟩, ?_⟩
      rw [o5.len]
      exact q _ _ O1 G1 H1 c1 e1 (skd (Dp.int _)) pp
theorem skall_keys {G : Hp} : ∀ {us : List (Key × V)} {kvs : List (Key × Sk)}, KvAll K G us kvs → SkAll K G (us.map fun kv => kV kv.1) ((kvs.map fun kv => keyD kv.1).map .d)
  | [], [], _ => True.intro
  | (a, v) :: r, (b, y) :: r', h => by
    obtain ⟨h1, h2, h3⟩ := h
    subst h1
    exact ⟨dp_key a, skall_keys h3⟩
  | [], (_, _) :: _, h => h.elim
  | (_, _) :: _, [], h => h.elim
/-- list(d): its keys, a new list -/
theorem wl_listD {PL : List PyData → Own → Prop} (h : WA K s tr Z O fun ks O1 => ∃ p kvs, ks = [.v (.ref p)] ∧ (p, .dct kvs) ∈ O1 ∧ PL (kvs.map fun kv => keyD kv.1) O1) : WL K s (tCB (fun xs H Q => ∃ (a : Addr) (kvs : List (Key × V)), xs = [.ref a] ∧ Rd H a (.dK kvs) ∧ ∀ p, H p = none → Q (.ref p) (upd H p (.lst (kvs.map fun kv => kV kv.1)))) tr) Z O PL := fun F x σ G H c Q q =>
  h F x σ G H c _ fun vs ks O1 G1 H1 c1 e1 ha ⟨p, kvs, ek, hm, pp⟩ => by
    subst ek
    match vs, ha with
    | [v], ⟨hv, _⟩ =>
      obtain rfl : v = .ref p := hv
      obtain ⟨_, _, _, o, o4, us, eo, o5⟩ := c1.own p _ hm
      subst eo
      refine ⟨p, us, rfl, .inl o4, fun r hr => ?_⟩
      exact q _ _ _ G1 _ (c1.newOwn (cc := .lst ((kvs.map fun kv => keyD kv.1).map .d)) (o := .lst (us.map fun kv => kV kv.1)) hr ⟨_, rfl, skall_keys o5⟩) e1 skv ⟨r, _, O1, rfl, rfl, pp⟩
/-- within a lock -/
theorem we_lock (i : Nat) (p : Addr) (kvs : List (Key × Sk)) (hi : O[i]? = some (p, .dct kvs)) (h : ∀ od us, WE K s te Z (O.set i (p, .lck od us kvs)) fun k O' => ∃ j, O'[j]? = some (p, .lck od us kvs) ∧ P k (O'.set j (p, .dct kvs))) : WE K s (tLockE te) Z O P := fun F x σ G H c Q q => by
  obtain ⟨_, _, _, o, o4, us, eo, o5⟩ := c.own p _ (List.mem_of_getElem? hi)
  subst eo
  refine ⟨p, .dK us, o4, True.intro, fun od => ?_⟩
  have c2 := c.setAt hi (cd := .lck od us kvs) (o := .frz od (.dK us)) ⟨rfl, o5⟩
  refine h od us F x σ G _ c2 _ fun v k O' G' H' c' e hk ⟨j, hj, pp⟩ => ?_
  obtain ⟨_, _, _, o', q4, eo, q5⟩ := c'.own p _ (List.mem_of_getElem? hj)
  subst eo
  exact ⟨q4, q v k _ G' _ (c'.setAt hj (cd := .dct kvs) ⟨us, rfl, q5⟩) e hk pp⟩
end
end SL

/-! SLp: tuples of one's own things, dict displays, lending, box defs, methods, the law. -/
namespace SL
open PySem PySem.Spec PyProof.Rows L2
open Evl (Ex)
section
variable {K : PySem.W.Frag} {s : Sx} {Z : List Sk} {O : Own} {P : Sk → Own → Prop} {D : DE} {t u : TS} {te ta tb tc td ty tv : TE} {tt : TT} {tr : TA} {R : Ct} {E : XK}
/-- (a, b): a new tuple of things of any kind -/
theorem we_tupO (h : WA K s tr Z O fun ks O' => Nat.ble ks.length 100000 = true ∧ ∀ p, P (.v (.ref p)) ((p, .tup ks) :: O')) : WE K s (tTup tr) Z O P := fun F x σ G H c Q q =>
  h F x σ G H c _ fun vs ks O1 G1 H1 c1 e1 ha ⟨hl, p⟩ => by
    refine ⟨Evl.sz_of (by rw [ha.len]; exact Nat.le_of_ble_eq_true hl), fun pp hp => ?_⟩
    exact q (.ref pp) _ _ G1 _ (c1.newOwn (cc := .tup ks) (o := .tup vs) hp ⟨vs, rfl, ha⟩) e1 skv (p pp)
theorem gw_tupO {n : Nat} {g : TGs} {p : Addr} {ks : List Sk} {N : List Sk → Own → Prop} (hm : (p, .tup ks) ∈ O) (hn : ks.length = n) (h : GWs K s g ks Z O N) : GW K s (gTup K n g) (.v (.ref p)) Z O N := fun F x v σ G H c hd Q q => by
  obtain rfl : v = .ref p := hd
  obtain ⟨_, _, _, o, o4, vs, eo, o5⟩ := c.own p _ hm
  subst eo
  exact ⟨p, vs, rfl, .inl (.inl o4), by rw [o5.len]; exact hn, h F x vs σ G H c o5 Q q⟩
/-- an item of an own tuple -/
theorem we_ixT (h : WE K s ta Z O fun k1 O1 => WE K s tb Z O1 fun k2 O2 => ∃ p ks i k, k1 = .v (.ref p) ∧ k2 = .d (.int i) ∧ (p, .tup ks) ∈ O2 ∧ atI ks i = some k ∧ P k O2) : WE K s (tOp (rIx K) ta tb) Z O P := fun F x σ G H c Q q =>
  h F x σ G H c _ fun v k1 O1 G1 H1 c1 e1 h1 hp => hp F x σ G1 H1 c1 _ fun w k2 O2 G2 H2 c2 e2 h2 ⟨p, ks, i, k, ea, eb, hm, ha, pk⟩ => by
    subst ea eb
    obtain rfl : v = .ref p := h1
    cases h2
    obtain ⟨_, _, _, o, o4, vs, eo, o5⟩ := c2.own p _ hm
    subst eo
    obtain ⟨u, u1, u2⟩ := o5.atI ha
    exact .inr (.inl ⟨p, vs, i, u, rfl, rfl, .inl (.inl o4), u1, q u k O2 G2 H2 c2 (e1.trans e2) u2 pk⟩)
/-- a locked dict read -/
theorem we_dgetL (h : WE K s td Z O fun kx O1 => WE K s ty Z O1 fun ky O2 => ∃ p od us kvs key y, kx = .v (.ref p) ∧ (p, .lck od us kvs) ∈ O2 ∧ ky = .d (keyD key) ∧ valS kvs key = some y ∧ P y O2) : WE K s (tDGet td ty) Z O P := fun F x σ G H c Q q =>
  h F x σ G H c _ fun v kx O1 G1 H1 c1 e1 hv hp => hp F x σ G1 H1 c1 _ fun w ky O2 G2 H2 c2 e2 hw ⟨p, od, us, kvs, key, y, ex, hm, ek, hval, pp⟩ => by
    subst ex ek
    obtain rfl : v = .ref p := hv
    have hw : Dp K G2 w (keyD key) := hw
    obtain rfl := dp_kV hw
    obtain ⟨_, _, _, o, o4, eo, o5⟩ := c2.own p _ hm
    subst eo
    obtain ⟨u, u1, u2⟩ := (kv_val (k := key) o5).1 y hval
    exact ⟨p, u, rfl, .inl ⟨us, key, .inr ⟨od, o4⟩, rfl, u1.symm⟩, q u y O2 G2 H2 c2 (e1.trans e2) u2 pp⟩
/-! dict displays -/
/-- the pairs of a display -/
def WP (K : PySem.W.Frag) (s : Sx) (trs : List (TE × TE)) (Z : List Sk) (O : Own) (P : List (Key × Sk) → Own → Prop) : Prop :=
  ∀ (F : Fb) (x : FX K F s) σ G H, Cfg K F s.box Z O σ G H → ∀ Q : List (V × V) → Hp → Prop, (∀ us kvs O' G' H', Cfg K F s.box Z O' σ G' H' → Ex G G' → KvAll K G' us kvs → P kvs O' → Q (us.map fun kv => (kV kv.1, kv.2)) H') → tPairs trs σ H Q
theorem wp_nil {PP : List (Key × Sk) → Own → Prop} (p : PP [] O) : WP K s [] Z O PP := fun F x σ G H c Q q => q [] [] O G H c (Evl.Ex.refl _) True.intro p
theorem wp_cons {PP : List (Key × Sk) → Own → Prop} {trs : List (TE × TE)} (h : WE K s ty Z O fun ky O1 => ∃ key, ky = .d (keyD key) ∧ WE K s tv Z O1 fun kv O2 => WP K s trs Z O2 fun r O3 => PP ((key, kv) :: r) O3) : WP K s ((ty, tv) :: trs) Z O PP := fun F x σ G H c Q q =>
  h F x σ G H c _ fun w ky O1 G1 H1 c1 e1 hw ⟨key, ek, hp⟩ => hp F x σ G1 H1 c1 _ fun v kv O2 G2 H2 c2 e2 hv hp2 => hp2 F x σ G2 H2 c2 _ fun us kvs O3 G3 H3 c3 e3 ha pp => by
    subst ek
    have hw : Dp K G1 w (keyD key) := hw
    obtain rfl := dp_kV hw
    exact q ((key, v) :: us) ((key, kv) :: kvs) O3 G3 H3 c3 ((e1.trans e2).trans e3) ⟨rfl, hv.mono e3, ha⟩ pp
def mergeS (kvs more : List (Key × Sk)) : List (Key × Sk) := more.foldl (fun acc kv => putS acc kv.1 kv.2) kvs
theorem kv_merge {G : Hp} : ∀ {us : List (Key × V)} {more : List (Key × Sk)} {vs : List (Key × V)} {kvs : List (Key × Sk)}, KvAll K G us more → KvAll K G vs kvs → KvAll K G (mergeK vs us) (mergeS kvs more)
  | [], [], _, _, _, h => h
  | (a, v) :: r, (b, y) :: r', vs, kvs, h, h2 => by
    obtain ⟨h1, h3, h4⟩ := h
    subst h1
    exact kv_merge (us := r) (more := r') h4 (kv_put h3 h2)
  | [], (_, _) :: _, _, _, h, _ => h.elim
  | (_, _) :: _, [], _, _, h, _ => h.elim
theorem we_disp {trs : List (TE × TE)} (h : ∀ p, WP K s trs Z ((p, .dct []) :: O) fun kvs O' => ∃ i, O'[i]? = some (p, .dct []) ∧ Nat.ble kvs.length 15 = true ∧ P (.v (.ref p)) (O'.set i (p, .dct (mergeS [] kvs)))) : WE K s (tDisp trs) Z O P := fun F x σ G H c Q q p hp => by
  have c1 := c.newOwn (cc := .dct []) (o := .dK []) hp ⟨[], rfl, True.intro⟩
  refine h p F x σ G _ c1 _ fun us kvs O' G' H' c' e ha ⟨i, hi, hl, pp⟩ => ?_
  obtain ⟨_, _, _, o, o4, ws, eo, o5⟩ := c'.own p _ (List.mem_of_getElem? hi)
  subst eo
  have ew : ws = [] := by
    cases ws with
    | nil => rfl
    | cons a r => exact o5.elim
  subst ew
  refine ⟨o4, us, rfl, by rw [kv_len ha]; exact Nat.le_of_ble_eq_true hl, ?_⟩
  exact q (.ref p) _ _ G' _ (c'.setAt hi (cd := .dct (mergeS [] kvs)) ⟨_, rfl, kv_merge ha True.intro⟩) e skv pp
/-! ### lists made, cleared -/
theorem wl_list {PL : List PyData → Own → Prop} (h : WA K s tr Z O fun ks O1 => ∃ ds, (ks = [.d (.list ds)] ∨ ks = [.d (.tuple ds)]) ∧ PL ds O1) :
    WL K s (tCB (fun xs H Q => ∃ p ys, xs = [.ref p] ∧ (SqL K H p ys ∨ SqT K H p ys) ∧ ∀ l, H l = none → Q (.ref l) (upd H l (.lst ys))) tr) Z O PL := fun F x σ G H c Q q =>
  h F x σ G H c _ fun vs ks O1 G1 H1 c1 e1 ha ⟨ds, ek, p⟩ => by
    have fin : ∀ (l : Addr) (ys : List V), H1 l = none → DpAll K G1 ys ds → Q (.ref l) (upd H1 l (.lst ys)) := fun l ys hl hd => q _ _ _ G1 _ (c1.newOwn (cc := .lst (ds.map .d)) (o := .lst ys) hl ⟨ys, rfl, SkAll.data hd⟩) e1 skv ⟨l, ds, O1, rfl, rfl, p⟩
    rcases ek with ek | ek
    · subst ek
      match vs, ha with
      | [v], ⟨hv, _⟩ =>
        cases hv with
        | @lst a ys _ hs ha => exact ⟨a, ys, rfl, .inl (Evl.ex_l c1.ex hs), fun l hl => fin l ys hl ha⟩
    · subst ek
      match vs, ha with
      | [v], ⟨hv, _⟩ =>
        cases hv with
        | @tup a ys _ hs ha => exact ⟨a, ys, rfl, .inr (Evl.ex_t c1.ex hs), fun l hl => fin l ys hl ha⟩
/-- list(xs) of an own list of data -/
theorem wl_listO {PL : List PyData → Own → Prop} (h : WA K s tr Z O fun ks O1 => ∃ p, ∃ ds : List PyData, ks = [.v (.ref p)] ∧ (p, .lst (ds.map .d)) ∈ O1 ∧ PL ds O1) :
    WL K s (tCB (fun xs H Q => ∃ p ys, xs = [.ref p] ∧ (SqL K H p ys ∨ SqT K H p ys) ∧ ∀ l, H l = none → Q (.ref l) (upd H l (.lst ys))) tr) Z O PL := fun F x σ G H c Q q =>
  h F x σ G H c _ fun vs ks O1 G1 H1 c1 e1 ha ⟨p, ds, ek, hm, pp⟩ => by
    subst ek
    match vs, ha with
    | [v], ⟨hv, _⟩ =>
      obtain rfl : v = .ref p := hv
      obtain ⟨_, _, _, o, o4, ys, eo, o5⟩ := c1.own p _ hm
      subst eo
      exact ⟨p, ys, rfl, .inl (Evl.sq_of o4), fun l hl => q _ _ _ G1 _ (c1.newOwn (cc := .lst (ds.map .d)) (o := .lst ys) hl ⟨ys, rfl, o5⟩) e1 skv ⟨l, ds, O1, rfl, rfl, pp⟩⟩
/-- tuple(xs) of data -/
theorem we_tuple (h : WA K s tr Z O fun ks O1 => ∃ ds, (ks = [.d (.list ds)] ∨ ks = [.d (.tuple ds)]) ∧ P (.d (.tuple ds)) O1) :
    WE K s (tCB (fun xs H Q => ∃ p ys, xs = [.ref p] ∧ ((SqL K H p ys ∧ ∀ l, H l = none → Q (.ref l) (upd H l (.tup ys))) ∨ (SqT K H p ys ∧ Q (.ref p) H))) tr) Z O P := fun F x σ G H c Q q =>
  h F x σ G H c _ fun vs ks O1 G1 H1 c1 e1 ha ⟨ds, ek, p⟩ => by
    rcases ek with ek | ek
    · subst ek
      match vs, ha with
      | [v], ⟨hv, _⟩ =>
        cases hv with
        | @lst a ys _ hs ha =>
          refine ⟨a, ys, rfl, .inl ⟨Evl.ex_l c1.ex hs, fun l hl => ?_⟩⟩
          obtain ⟨c2, e2⟩ := c1.new (o := .tup ys) hl
          exact q (.ref l) (.d (.tuple ds)) O1 _ _ c2 (e1.trans e2) (skd (.tup (.inl (.inl upd_same)) (dpa_mono e2 ds ys ha))) p
    · subst ek
      match vs, ha with
      | [v], ⟨hv, _⟩ =>
        cases hv with
        | @tup a ys _ hs ha => exact ⟨a, ys, rfl, .inr ⟨Evl.ex_t c1.ex hs, q (.ref a) (.d (.tuple ds)) O1 G1 H1 c1 e1 (skd (.tup hs ha)) p⟩⟩
/-- xs.clear() of an own list -/
theorem we_clear (h : WE K s ta Z O fun k O1 => ∃ p ls i, k = .v (.ref p) ∧ O1[i]? = some (p, .lst ls) ∧ P (.d .none) (O1.set i (p, .lst []))) : WE K s (tBM0 K "list" rClear ta) Z O P := fun F x σ G H c Q q =>
  h F x σ G H c _ fun v k O1 G1 H1 c1 e1 hk ⟨p, ls, i, ek, hi, pp⟩ => by
    subst ek
    obtain rfl : v = .ref p := hk
    obtain ⟨_, _, _, o, o4, ys, eo, o5⟩ := c1.own p _ (List.mem_of_getElem? hi)
    subst eo
    exact ⟨.inl ⟨rfl, ys, Evl.sq_of o4⟩, p, ys, rfl, rfl, o4, q .non (.d .none) _ G1 _ (c1.setAt hi (cd := .lst []) ⟨[], rfl, True.intro⟩) e1 (skd .non) pp⟩
/-- xs.append(e) on an own list -/
theorem we_append (h : WE K s ta Z O fun k O1 => ∃ p, k = .v (.ref p) ∧ (∃ ls, (p, .lst ls) ∈ O1) ∧ WE K s te Z O1 fun y O2 => ∃ ls i, O2[i]? = some (p, .lst ls) ∧ ls.length < 100000 ∧ P (.d .none) (O2.set i (p, .lst (ls ++ [y])))) :
    WE K s (tBM K "list" rAppend ta (tCons te tNil)) Z O P := fun F x σ G H c Q q =>
  h F x σ G H c _ fun v k O1 G1 H1 c1 e1 hk ⟨p, ek, ⟨ls0, hm⟩, hp⟩ => by
    subst ek
    obtain rfl : v = .ref p := hk
    obtain ⟨_, _, _, o, o4, ys, eo, o5⟩ := c1.own p _ hm
    subst eo
    refine ⟨.inl ⟨rfl, ys, Evl.sq_of o4⟩, hp F x σ G1 H1 c1 _ fun y ky O2 G2 H2 c2 e2 hy ⟨ls, i, hi, hl, pp⟩ => ?_⟩
    obtain ⟨_, _, _, o', q4, zs, eo, q5⟩ := c2.own p _ (List.mem_of_getElem? hi)
    subst eo
    exact ⟨p, zs, y, rfl, rfl, q4, Evl.sz_lt (by rw [q5.len]; exact hl), q .non (.d .none) _ G2 _ (c2.setAt hi (cd := .lst (ls ++ [ky])) ⟨_, rfl, q5.app ⟨hy, True.intro⟩⟩) (e1.trans e2) (skd .non) pp⟩
/-- sorted(d), the keys ints that rise -/
theorem wl_sortedD {PL : List PyData → Own → Prop} (h : WA K s tr Z O fun ks O1 => ∃ p, ∃ kvs : List (Key × Sk), ∃ ns : List Int, ks = [.v (.ref p)] ∧ (p, .dct kvs) ∈ O1 ∧ kvs.map (·.1) = ns.map Sum.inl ∧ ns.length < 64 ∧ ns.Pairwise (· ≤ ·) ∧ PL (ns.map .int) O1) :
    WL K s (tCB (fun xs H Q => ∃ (a : Addr) (kvs : List (Key × V)) (ks : List Int), xs = [.ref a] ∧ Rd H a (.dK kvs) ∧ kvs.map (·.1) = ks.map Sum.inl ∧ ks.length < 64 ∧ ∀ (ys : List Int) (p : Addr), ys.Perm ks → ys.Pairwise (· ≤ ·) → H p = none → Q (.ref p) (upd H p (.lst (ys.map V.int)))) tr) Z O PL := fun F x σ G H c Q q =>
  h F x σ G H c _ fun vs ks O1 G1 H1 c1 e1 ha ⟨p, kvs, ns, ek, hm, hk, hl, hp, pp⟩ => by
    subst ek
    match vs, ha with
    | [v], ⟨hv, _⟩ =>
      obtain rfl : v = .ref p := hv
      obtain ⟨_, _, _, o, o4, us, eo, o5⟩ := c1.own p _ hm
      subst eo
      have keys : ∀ {us : List (Key × V)} {kvs : List (Key × Sk)}, KvAll K G1 us kvs → us.map (·.1) = kvs.map (·.1) := by
        intro us
        induction us with
        | nil => intro kvs h; cases kvs with
          | nil => rfl
          | cons _ _ => exact h.elim
        | cons a r ih => intro kvs h; cases kvs with
          | nil => exact h.elim
          | cons b r' =>
            obtain ⟨h1, h2, h3⟩ := h
            rw [List.map_cons, List.map_cons, ih h3]
            exact congrArg (· :: _) h1
      refine ⟨p, us, ns, rfl, .inl o4, by rw [keys o5, hk], hl, fun ys r hperm hs hr => ?_⟩
      have e : ys = ns := List.Perm.eq_of_pairwise (le := (· ≤ ·)) (fun a b _ _ h1 h2 => Int.le_antisymm h1 h2) hs hp hperm
      subst e
      exact q _ _ _ G1 _ (c1.newOwn (cc := .lst ((ys.map PyData.int).map .d)) (o := .lst (ys.map V.int)) hr ⟨_, rfl, SkAll.data dpa_ints⟩) e1 skv ⟨r, _, O1, rfl, rfl, pp⟩
/-! ### own lists lent to a def of data that tells a scalar -/
def scalK : PyData → Bool
  | .none | .bool _ | .int _ | .str _ => true
  | _ => false
theorem dp_scal {G G' : Hp} {v : V} : ∀ {d : PyData}, scalK d = true → Dp K G v d → Dp K G' v d
  | .none, _, h => by cases h; exact .non
  | .bool _, _, h => by cases h; exact .bl _
  | .int _, _, h => by cases h; exact .int _
  | .str _, _, h => by cases h; exact .str _
  | .list _, h, _ => by cases h
  | .tuple _, h, _ => by cases h
  | .dict _, h, _ => by cases h
/-- kinds as data: own lists of data count as such -/
def asData (O : Own) : Sk → PyData → Prop
  | .d x, y => x = y
  | .v (.ref p), y => ∃ ds : List PyData, (p, .lst (ds.map .d)) ∈ O ∧ y = .list ds
  | _, _ => False
def asDatas (O : Own) : List Sk → List PyData → Prop
  | [], [] => True
  | k :: ks, d :: ds => asData O k d ∧ asDatas O ks ds
  | _, _ => False
/-- the still part with the own lists -/
theorem lend {F : Fb} {b : Option Addr} {σ : L2.St} {G H : Hp} : ∀ {O : Own}, Cfg K F b Z O σ G H → ∃ G2, Ex G G2 ∧ Ex G2 H ∧ (∀ p (ds : List PyData), (p, .lst (ds.map .d)) ∈ O → Dp K G2 (.ref p) (.list ds)) ∧ ∀ a, G2 a = none ∨ G2 a = H a
  | [], c => ⟨G, Evl.Ex.refl _, c.ex, fun p ds h => by simp at h, fun a => by
      cases q : G a with
      | none => exact .inl rfl
      | some u => exact .inr (by rw [c.ex a u q])⟩
  | (p, cc) :: O, c => by
    obtain ⟨G2, e1, e2, h1, h2⟩ := lend c.tail
    obtain ⟨_, _, _, o, o4, o5⟩ := c.own p cc (List.mem_cons_self ..)
    refine ⟨upd G2 p o, ?_, ?_, ?_, ?_⟩
    · intro a u hu
      by_cases z : a = p
      · subst z
        have := c.ex a u hu
        rw [o4] at this
        rw [upd_same]
        exact this
      · rw [upd_ne z]
        exact e1 a u hu
    · intro a u hu
      by_cases z : a = p
      · subst z
        rw [upd_same] at hu
        rw [o4]
        exact hu
      · rw [upd_ne z] at hu
        exact e2 a u hu
    · have e3 : Ex G2 (upd G2 p o) := fun a u hu => by
        by_cases z : a = p
        · subst z
          have := e2 a u hu
          rw [o4] at this
          rw [upd_same]
          exact this
        · rw [upd_ne z]
          exact hu
      have e4 : Ex G (upd G2 p o) := e1.trans e3
      intro q ds hq
      rcases List.mem_cons.mp hq with z | z
      · cases z
        obtain ⟨vs, eo, hs⟩ := o5
        subst eo
        exact .lst (.inl (.inl upd_same)) (dpa_mono e4 ds vs (SkAll.undata hs))
      · exact dp_mono e3 _ _ (h1 q ds z)
    · intro a
      by_cases z : a = p
      · subst z
        rw [upd_same]
        exact .inr o4.symm
      · rw [upd_ne z]
        exact h2 a
theorem lend_args {G G2 : Hp} (e : Ex G G2) (h : ∀ p (ds : List PyData), (p, .lst (ds.map .d)) ∈ O → Dp K G2 (.ref p) (.list ds)) : ∀ {ks : List Sk} {ds : List PyData} {vs : List V}, asDatas O ks ds → SkAll K G vs ks → DpAll K G2 vs ds
  | [], [], [], _, _ => .nil
  | k :: ks, d :: ds, v :: vs, h1, h2 => by
    refine .cons ?_ (lend_args e h h1.2 h2.2)
    match k, h1.1, h2.1 with
    | .d x, e1, hv =>
      have e1 : x = d := e1
      subst e1
      exact dp_mono e _ _ hv
    | .v (.ref p), ⟨es, hm, e1⟩, hv =>
      obtain rfl : v = .ref p := hv
      subst e1
      exact h p es hm
  | [], _ :: _, _, h1, _ => h1.elim
  | _ :: _, [], _, h1, _ => h1.elim
  | [], [], _ :: _, _, h2 => h2.elim
  | _ :: _, _ :: _, [], _, h2 => h2.elim
theorem we_callLend {R : List PyData → (PyData → Prop) → Prop} [m : MonoR R] (h : WA K s tr Z O fun ks O1 => ∃ ds, asDatas O1 ks ds ∧ R ds fun d => scalK d = true ∧ P (.d d) O1) : WE K s (tCall (spC K (ctP R)) [] E tr) Z O P := fun F x σ G H c Q q =>
  h F x σ G H c _ fun vs ks O1 G1 H1 c1 e1 ha ⟨ds, hd, hr⟩ => by
    show spC K (ctP R) (vs ++ []) H1 Q E
    rw [List.append_nil]
    obtain ⟨G2, f1, f2, f3, f4⟩ := lend c1
    refine ⟨none, G2, ds.map .d, [], f2, SkAll.data (lend_args f1 f3 hd ha), fun b z => (by cases z), fun p cc hm => (by simp at hm), List.nodup_nil, rfl, rfl, ds, rfl, m.mono _ _ _ (fun d ⟨hsc, pp⟩ v G' H' r hv => ?_) hr⟩
    have eh : Ex H1 H' := fun a o ho => r.keep a o (by simp) (by simp) ho
    exact q v (.d d) O1 G1 H' (c1.grow (Evl.Ex.refl _) (c1.ex.trans eh) eh (fun _ _ _ => rfl)) e1 (skd (dp_scal hsc hv)) pp
end
/-! ### a def of layer 1 behind the box, here -/
section
variable {P : Program} {w : World} {K : PySem.W.Frag} {mg : Str → Option Value} {base : Heap} {k : Nat} {ps : List Str} {x : Str} {R : List PyData → (PyData → Prop) → Prop}
theorem Def.upB [m : DL.MonoR R] (d : DL.Def P w K mg base x k ps (DL.spB K R)) : Def P w K mg base x k ps (spC K (ctB R)) := by
  obtain ⟨f, fd, h1, h2, h3, h4⟩ := d.ex
  refine ⟨f, fd, h1, h2, h3, (fnOk_up h4).imp fun vs H Q E h => ?_⟩
  obtain ⟨b, G, ks, O, e, hk, hb, _, _, eo, bb, ds, eb, ek, hr⟩ := h
  subst eb eo ek
  match vs, hk with
  | v :: us, ⟨hv, hk⟩ =>
    obtain rfl : v = .ref bb := hv
    refine ⟨bb, us, G, ds, rfl, e, hb bb rfl, SkAll.undata hk, m.mono _ _ _ (fun d q v G' H' e1 e2 e3 e4 hb' hd => q v G' H' ⟨e1, e2, fun a o _ nb h => e3 a o (fun z => nb (by rw [z])) h, fun a o h => ?_, fun a o _ _ h => e4 a o h, fun b2 z => (by cases z; exact hb'), fun p c z => (by simp at z), List.nodup_nil⟩ (skd hd)) hr⟩
    by_cases z : a = bb
    · subst z
      obtain ⟨_, _, _, _, _, b1, _⟩ := hb'
      exact ⟨_, b1⟩
    · exact ⟨o, e3 a o z h⟩
end
/-! ### methods, constructors -/
structure MDef (P : Program) (w : World) (K : PySem.W.Frag) (mg : Str → Option Value) (base : Heap) (C : Addr) (m : Str) (k : Nat) (ps : List Str) (sp : Sp) : Prop where
  ex : ∃ f fd, Meth K C m f ∧ Binds K fd ps [] ∧ FnOk P w K mg base (L2.CX P w) k f fd ps sp
structure KDef (P : Program) (w : World) (K : PySem.W.Frag) (mg : Str → Option Value) (base : Heap) (C : Addr) (x : Str) (k : Nat) (ps : List Str) (sp : Sp) : Prop where
  ex : ∃ f fd, Mk K C f ∧ mg x = some (.ref C) ∧ Binds K fd ps [] ∧ FnOk P w K mg base (L2.CX P w) k f fd ps sp
structure MethAt (K : PySem.W.Frag) (C : Addr) (m q : Str) (st : Stmt) (ps : List Str) : Prop where
  ex : ∃ f fd, Fun K m q st f fd ∧ Meth K C m f ∧ Binds K fd ps []
structure InitAt (K : PySem.W.Frag) (mg : Str → Option Value) (C : Addr) (x q : Str) (st : Stmt) (ps : List Str) : Prop where
  ex : ∃ f fd, Fun K "__init__" q st f fd ∧ Mk K C f ∧ mg x = some (.ref C) ∧ Binds K fd ps []
section
variable {X : Cx} {k j : Nat} {ps : List Str} {sp : Sp} {x m : Str} {C : Addr} {p apos pos : Pos} {e o : Expr} {es : List Expr} {ta : TE} {t : TA} {E : XK}
theorem pe_md {pl : Sem Bool} (D : MDef X.prog X.w X.K X.mg X.base C m k ps sp) (c : Cls X.K C) (hr : Room j X.A) (hk : k ≤ j) (hx : Passes (L2.CX X.prog X.w) X E) (ho : PE X o ta) (ha : PA X (e :: es) t)
    (hst : starEach (e :: es) X.env = (false, eval e X.env) :: starEach es X.env := by rfl) (hpl : (backTo pos (starEach es X.env)).any (·.1) = false := by rfl)
    (ht : eval (.Call (.Attribute o m apos) (e :: es) [] pos) X.env = (do
      let ov ← eval o X.env
      standAt apos.atName
      let (f, first) ← holding [ov] (getMethod ov m pl)
      callWith pos f first (backTo pos (starEach (e :: es) X.env)) (backToKw pos (keywordEach [] X.env))) := by rfl) : PE X (.Call (.Attribute o m apos) (e :: es) [] pos) (tMeth C m sp [] E ta t) := by
  obtain ⟨f, fd, h1, h2, h3⟩ := D.ex
  exact pe_meth ho c h1 h3 (hr.mono hk) h2 .nil hx ha hst hpl ht
theorem pe_md0 {pl : Sem Bool} (D : MDef X.prog X.w X.K X.mg X.base C m k ps sp) (c : Cls X.K C) (hr : Room j X.A) (hk : k ≤ j) (hx : Passes (L2.CX X.prog X.w) X E) (ho : PE X o ta)
    (ht : eval (.Call (.Attribute o m apos) [] [] pos) X.env = (do
      let ov ← eval o X.env
      standAt apos.atName
      let (f, first) ← holding [ov] (getMethod ov m pl)
      callWith pos f first (backTo pos (starEach [] X.env)) (backToKw pos (keywordEach [] X.env))) := by rfl) : PE X (.Call (.Attribute o m apos) [] [] pos) (tMeth C m sp [] E ta tNil) := by
  obtain ⟨f, fd, h1, h2, h3⟩ := D.ex
  exact pe_meth0 ho c h1 h3 (hr.mono hk) h2 .nil hx ht
theorem pe_kd (D : KDef X.prog X.w X.K X.mg X.base C x k ps sp) (hr : Room j X.A) (hk : k + 1 ≤ j) (hx : Passes (L2.CX X.prog X.w) X E) (hg : Gl X x) (ha : PA X (e :: es) t) (hdb : (x == ("__debug__" : Str)) = false := by decide)
    (he : starEach (e :: es) X.env = (false, eval e X.env) :: starEach es X.env := by rfl) (hpl : (backTo pos (starEach es X.env)).any (·.1) = false := by rfl) : PE X (.Call (.Name x p) (e :: es) [] pos) (tMake C sp [] E t) := by
  obtain ⟨f, fd, h1, h2, h3, h4⟩ := D.ex
  exact pe_make h1 h4 (hr.mono hk) hg h2 h3 .nil hx ha hdb he hpl
end
section
variable {P : Program} {w : World} {K : PySem.W.Frag} {mg : Str → Option Value} {base : Heap} {x m q : Str} {C : Addr} {st : Stmt} {N ps : List Str} {k : Nat} {R : Ct}
/-- what the body of a def is worth, whoever calls it -/
theorem ok_C {f : Addr} {fd : FuncData} {y : Str} (hf : Fun K y q st f fd) (S : FnScope N ps (defScope st)) (hl : ∀ b ks O P X, R b ks O P X → ks.length = ps.length)
    (hb : ∀ (f : Addr) (cdv : Value) (A : Around) (outer : List Env) (s : Shared) (H : Hp) (E : XK), Room k (A.deeper (envOfC q (defScope st) s.heap.objs.size f cdv)) →
      ∃ t, PSs (cxOf (L2.CX P w) P w K mg base N q (defScope st) f cdv A outer s H E) (defBody st) t ∧
        ∀ b ks O Q X, R b ks O Q X → SW K ⟨b, fun cls d _ H => E cls d H, fun cls d _ O' => ∃ O2, O'.Perm O2 ∧ ∃ O3 O4, O2 = O3 ++ O4 ∧ X cls d O3⟩ t (Z0 N ks) O { nx := fun _ O' => ∃ O3 O4, O'.Perm (O3 ++ O4) ∧ Q (.d .none) O3, rt := fun v O' => ∃ O3 O4, O'.Perm (O3 ++ O4) ∧ Q v O3 }) :
    FnOk P w K mg base (L2.CX P w) (k + 1) f fd ps (spC K R) := by
  refine hf.okX S (fun vs H Q E h => ?_) fun cdv A outer s H vs Q E hr h => ?_
  · obtain ⟨b, G, ks, O, _, hk, _, _, _, hR⟩ := h
    rw [hk.len, hl _ _ _ _ _ hR]
  · obtain ⟨b, G, ks, O, e, hk, bx, ow, nd, hR⟩ := h
    obtain ⟨t, ht, sw⟩ := hb f cdv A outer s H E hr
    have fin : ∀ (G' H' : Hp) (O' O3 O4 : Own), Cfg K ⟨fun a => a ∈ O.map (·.1) ∨ b = some a, G, H⟩ b [] O' [] G' H' → O'.Perm (O3 ++ O4) → Ret K b (O.map (·.1)) G H G' H' O3 := fun G' H' O' O3 O4 c hp => by
      have c2 := c.perm hp
      have nd2 := c2.nd
      rw [List.map_append, List.nodup_append] at nd2
      refine ⟨c2.e0, c2.ex, fun a o na nb h => c2.h0 a o (fun z => ?_) h, c2.h1, fun a o na nb h => c2.g0 a o (fun z => ?_) h, c2.box, fun p cc hp => ?_, nd2.1⟩
      · rcases z with z | z
        · exact na z
        · exact nb z
      · rcases z with z | z
        · exact na z
        · exact nb z
      · obtain ⟨o1, o2, o3, o4⟩ := c2.own p cc (List.mem_append_left _ hp)
        refine ⟨o1, o2, ?_, o4⟩
        rcases o3 with (q | q) | q
        · exact .inl q
        · exact absurd q o2
        · exact .inr q
    refine ⟨t, ht, sw b ks O _ _ hR ⟨fun a => a ∈ O.map (·.1) ∨ b = some a, G, H⟩ ?_ _ G H _ ?_ ?_⟩
    · intro cls d Z O' σ G' H' c ⟨O2, hp, O3, O4, e2, hx⟩
      subst e2
      exact hx G' H' (fin G' H' O' O3 O4 c.forget hp)
    · obtain ⟨h1, h2⟩ := sl_start (N := N) hk
      exact ⟨h1, h2, e, bx, fun bb z => .inl (.inr z), fun p cc hp => ⟨(ow p cc hp).1, (ow p cc hp).2.1, .inl (.inl (List.mem_map.mpr ⟨_, hp, rfl⟩)), (ow p cc hp).2.2⟩, nd, Evl.Ex.refl _, fun a o _ h => h, fun a o h => ⟨o, h⟩, fun _ _ _ _ => rfl⟩
    · exact ⟨fun Z O' σ G' H' c ⟨O3, O4, hp, q⟩ => q .non G' H' (fin G' H' O' O3 O4 c.forget hp) (skd .non), fun v k O' G' H' c hv ⟨O3, O4, hp, q⟩ => q v G' H' (fin G' H' O' O3 O4 c hp) hv, fun _ _ _ _ _ _ z => z.elim, fun _ _ _ _ _ _ z => z.elim⟩
/-- the same, by what is asked of the exceptions and of the own cells -/
theorem ok_N {f : Addr} {fd : FuncData} {y : Str} (hf : Fun K y q st f fd) (S : FnScope N ps (defScope st)) (hl : ∀ b ks O P X, R b ks O P X → ks.length = ps.length)
    (hb : ∀ (f : Addr) (cdv : Value) (A : Around) (outer : List Env) (s : Shared) (H : Hp) (E : XK), Room k (A.deeper (envOfC q (defScope st) s.heap.objs.size f cdv)) →
      ∃ t, PSs (cxOf (L2.CX P w) P w K mg base N q (defScope st) f cdv A outer s H E) (defBody st) t ∧
        ∀ s' ks O Q X, (∀ cls d σ H, s'.E cls d σ H → E cls d H) → (∀ c d Z O' O3 O4, O'.Perm (O3 ++ O4) → X c d O3 → s'.X c d Z O') → R s'.box ks O Q X → SW K s' t (Z0 N ks) O { nx := fun _ O' => ∃ O3 O4, O'.Perm (O3 ++ O4) ∧ Q (.d .none) O3, rt := fun v O' => ∃ O3 O4, O'.Perm (O3 ++ O4) ∧ Q v O3 }) :
    FnOk P w K mg base (L2.CX P w) (k + 1) f fd ps (spC K R) :=
  ok_C hf S hl fun f cdv A outer s H E hr => by
    obtain ⟨t, ht, sw⟩ := hb f cdv A outer s H E hr
    refine ⟨t, ht, fun b ks O Q X hR => ?_⟩
    exact sw ⟨b, fun cls d _ H => E cls d H, fun cls d _ O' => ∃ O2, O'.Perm O2 ∧ ∃ O3 O4, O2 = O3 ++ O4 ∧ X cls d O3⟩ ks O Q X (fun _ _ _ _ h => h) (fun c d Z O' O3 O4 hp h => ⟨_, hp, O3, O4, rfl, h⟩) hR
theorem perm_id {O : Own} : O.Perm (O ++ []) := by rw [List.append_nil]
end
section
variable {X : Cx} {K : PySem.W.Frag} {o : Expr} {f : Str} {ta tv : TE} {pos pos' : Pos} {value : Expr}
theorem pe_fldK (h : X.K = K) (he : PE X o ta) (hb : attributeBase o f X.env (eval o X.env) = eval o X.env) : PE X (.Attribute o f pos) (tFld K ta f) := h ▸ pe_fld he hb
theorem ps_fldK (h : X.K = K) (ha : PE X o ta) (hv : PE X value tv) (hs : swapsWith value (some (.Attribute o f pos')) pos.line X.env = pure false) : PS X (.Assign [.Attribute o f pos'] value pos) (sFld K ta tv f) := h ▸ ps_fld ha hv hs
end
end SL

/-! SLq: len of an instance whose class has its own __len__. -/
namespace SL
open PySem PySem.Spec PyProof.Rows L2
open Evl (Ex)
section
variable {prog : Program} {w : World} {A : Around} {E : Value → Shared → Prop} {s : Shared} {K : PySem.W.Frag} {x C f : Addr} {ox : Obj} {od : Option Obj}
theorem len_ins {Q : Value → Shared → Prop} (X : K.In s.heap) (I : PySem.W.InstAt s.heap x ox C od) (hs : PySem.W.findIn K (.ref C) "__len__" = some (some (.ref f))) (hf : PySem.W.isFn K (.ref f) = true)
    (h : wpAny (model prog w) A.in1 (call (.ref f) [.ref x]) (fun r s' => ∃ n u, r = .int n u ∧ 0 ≤ n ∧ n < 2 ^ 63 ∧ Q (.int n s'.toks) { s' with toks := s'.toks + 1 }) E s) :
    wpAny (model prog w) A (call (.builtin "len") [.ref x]) Q E s := by
  refine Calls.call_function_entry kind_len plain_len entry_len (args_len1 _) ?_
  unfold Builtin.«len»
  refine wpAny_bind (m := oneArg "len" _) (wpAny_pure ?_)
  refine wpAny_bind (m := callSpecial? (.ref x) (Str.ofString "__len__")) (PySem.W.special_fn X I hs (beq_iff_eq.mp hf) (wpAny_mono h (fun r s' hr => ?_) fun _ _ y => y))
  obtain ⟨n, u, rfl, h0, h1, hq⟩ := hr
  refine wpAny_bind (wpAny_holding (wpAny_pure ?_))
  refine wpAny_bind (wpAny_letGo ?_)
  show wpAny _ _ (if n < 0 then _ else _) _ _ _
  rw [if_neg (by omega)]
  show wpAny _ _ (if n ≥ 2 ^ 63 then _ else _) _ _ _
  rw [if_neg (by omega)]
  exact wpAny_bind (wpAny_mkInt (wpAny_pure ⟨_, rfl, hq⟩))
end
section
variable {X : Cx} {CX : CXT} {pins : List (Addr × Obj)} {σ : L2.St} {H : Hp} {s : Shared} {C f : Addr} {fd : FuncData} {k j : Nat} {ps : List Str} {sp : Sp} {E : XK}
/-- a def called below the running body -/
theorem run_fnA {A : Around} {Q : VK} {us : List Value} {vs : List V} (F : FnOk X.prog X.w X.K X.mg X.base CX k f fd ps sp) (hr : Room k A) (e0 : Env0 X.prog X.w X.K X.mg X.base A X.stack s H) (hb : Binds X.K fd ps []) (hx : Passes CX X E)
    (I : Inv X pins σ H s) (r : Vals vs us) (h : sp vs H Q E) : wpAny (model X.prog X.w) A (call (.ref f) us) (EP X pins σ Q) X.xe s := by
  have hl : (us ++ []).length = ps.length := by rw [List.append_nil, ← r.length]; exact F.len _ _ _ _ h
  refine wpAny_call (codeAny_mono (F.run A X.stack s H ⟨us, []⟩ (us ++ []) vs Q E hr e0 (hb s us I.kIn hl) (by rw [List.append_nil]; exact r) h) fun r s' hq => ?_)
  cases r with
  | error e => exact hx pins σ H s e s' I hq
  | ok fl =>
    cases fl with
    | ret u => exact I.after hq
    | next => exact False.elim hq
    | brk => exact False.elim hq
    | cont => exact False.elim hq
def rLenO (C : Addr) (sp : Sp) (E : XK) : List V → Hp → VK → Prop := fun xs H Q => ∃ a dx fs, xs = [V.ref a] ∧ H a = some (.ins C dx fs) ∧ sp [.ref a] H (fun z H' => ∃ i, z = .int i ∧ 0 ≤ i ∧ i < 2 ^ 62 ∧ Q z H') E
theorem call_lenO (hm : Meth X.K C "__len__" f) (F : FnOk X.prog X.w X.K X.mg X.base CX k f fd ps sp) (hr : Room (k + 1) X.A) (hb : Binds X.K fd ps []) (hx : Passes CX X E) : CallR X (.builtin "len") (rLenO C sp E) := by
  intro pins s σ H xs us Q I r h
  obtain ⟨a, dx, fs, rfl, e, q⟩ := h
  obtain ⟨u, rfl, ru⟩ := r.one
  cases (show u = Value.ref a from ru)
  obtain ⟨mA, O, _, _, _, _⟩ := ins_get I.hok e
  obtain ⟨od, J, _⟩ := O.look
  refine len_ins I.kIn J hm.at_ hm.fn (wpAny_mono (run_fnA (us := [.ref a]) (vs := [.ref a]) F (show Room k X.A.in1 from Room.in1 hr) I.env0.in1 hb hx I (.cons rfl .nil) q) (fun w s' z => ?_) fun _ _ x => x)
  obtain ⟨z', H', I', rz, i, ei, h0, h1, qz⟩ := z
  subst ei
  obtain ⟨t, e2⟩ := (show ∃ t, w = Value.int i t from rz)
  cases e2
  refine ⟨i, t, rfl, h0, by omega, .int i, H', ?_, ⟨_, rfl⟩, qz⟩
  exact I'.tok _
end
section
variable {K : PySem.W.Frag} {s : Sx} {Z : List Sk} {O : Own} {P : Sk → Own → Prop} {ta : TE} {R : Ct} {E : XK}
theorem we_lenO [mm : MonoC R] {C : Addr} (h : WE K s ta Z O fun k O1 => ∃ p dx fs, k = .v (.ref p) ∧ (p, .ins C dx fs) ∈ O1 ∧ CallN s R [.v (.ref p)] O1 (fun k O' => ∃ i : Int, k = .d (.int i) ∧ 0 ≤ i ∧ i < 2 ^ 62 ∧ P k O') fun _ _ _ => False) : WE K s (tCB (rLenO C (spC K R) E) (tCons ta tNil)) Z O P := fun F x σ G H c Q q =>
  h F x σ G H c _ fun v k O1 G1 H1 c1 e1 hk ⟨p, dx, fs, ek, hm, hc⟩ => by
    subst ek
    obtain rfl : v = .ref p := hk
    obtain ⟨_, _, _, o, o4, us, eo, o5⟩ := c1.own p _ hm
    subst eo
    refine ⟨p, dx, us, rfl, o4, ?_⟩
    refine call_run x c1 (ks := [.v (.ref p)]) (vs := [.ref p]) ⟨rfl, True.intro⟩ (fun _ _ _ z => z.elim) (fun _ _ _ ⟨_, z⟩ => z.elim) (fun v k O' G' H' c' e hk ⟨i, ek, h0, h1, pp⟩ => ?_) hc
    subst ek
    cases hk
    exact ⟨i, rfl, h0, h1, q _ (.d (.int i)) O' G' H' c' (e1.trans e) (Dp.int i) pp⟩
end
section
variable {X : Cx} {k j : Nat} {ps : List Str} {sp : Sp} {C : Addr} {p pos : Pos} {e : Expr} {ta : TA} {E : XK}
theorem pe_lenO (D : MDef X.prog X.w X.K X.mg X.base C "__len__" k ps sp) (hr : Room j X.A) (hk : k + 1 ≤ j) (hx : Passes (L2.CX X.prog X.w) X E) (hg : Gl X "len") (hm : X.mg "len" = none) (ha : PA X [e] ta)
    (he : starEach [e] X.env = (false, eval e X.env) :: starEach [] X.env := by rfl) (hpl : (backTo pos (starEach [] X.env)).any (·.1) = false := by rfl) : PE X (.Call (.Name "len" p) [e] [] pos) (tCB (rLenO C sp E) ta) := by
  obtain ⟨f, fd, h1, h2, h3⟩ := D.ex
  exact pe_callB (call_lenO h1 h3 (hr.mono hk) h2 hx) hg hm (by decide +kernel) ha (he := he) (hpl := hpl)
end
end SL
namespace SL
open PySem PySem.Spec PyProof.Rows L2
open Evl (Ex)
section
variable {K : PySem.W.Frag} {s : Sx} {Z : List Sk} {O : Own} {D : DE} {W Wout : WX}
/-- what the clauses, one after the other, make of what is raised -/
def Clauses (K : PySem.W.Frag) (s : Sx) (D : DE) (cls : Value) (d : Option Addr) (Z : List Sk) (O : Own) : List (Value × (Addr → Value → Option Addr → TS)) → Prop
  | [] => s.X cls d Z O
  | (c, ts) :: r => ∃ b, PySem.W.exmOne K cls c = some b ∧ (b = true → ∀ a, SW K s (ts a cls d) Z O D) ∧ (b = false → Clauses K s D cls d Z O r)
theorem sw_try_many {tb : WX → TS} {l : List (Value × (Addr → Value → Option Addr → TS))} (X' : Value → Option Addr → List Sk → Own → Prop) (hW : ∀ cls d σ H, s.E cls d σ H → Wout cls d σ H)
    (hb : ∀ W', SW K ⟨s.box, W', X'⟩ (tb W') Z O D) (hx : ∀ cls d Z' O', X' cls d Z' O' → Clauses K s D cls d Z' O' l) :
    SW K s (fun D σ H => tb (wMany K Wout D l) D σ H) Z O D := fun F x σ G H E cf cv => by
  refine hb (wMany K Wout E l) F ?_ σ G H E cf ⟨cv.nx, cv.rt, cv.bk, cv.ct⟩
  intro cls d Z' O' σ' G' H' c' hX
  have h := hx cls d Z' O' hX
  clear hx hX
  induction l with
  | nil => exact hW _ _ _ _ (x cls d Z' O' σ' G' H' c' h)
  | cons a r ih =>
    obtain ⟨c, ts⟩ := a
    obtain ⟨b, e, h1, h2⟩ := h
    exact ⟨b, e, fun hb a ha => h1 hb a F x _ G' H' _ c' cv, fun hb => ih c' (h2 hb)⟩
end
section
variable {X : Cx}
/-- xs + ys of lists of any kind: a new list -/
def rCatL (K : PySem.W.Frag) : R2 := fun x y H Q => ∃ l b xs zs, x = .ref l ∧ y = .ref b ∧ SqL K H l xs ∧ SqL K H b zs ∧ xs.length + zs.length ≤ sizeLine ∧ ∀ p, H p = none → Q (.ref p) (upd H p (.lst (xs ++ zs)))
theorem op_catL : OpR X (binaryOp .Add) (rCatL X.K) := by
  intro pins s σ H x y v u Q I rx ry h
  obtain ⟨l, b, xs, zs, rfl, rfl, hH, hB, hz, q⟩ := h
  cases rx
  cases ry
  obtain ⟨its, r, p1, hl⟩ := I.list hH
  obtain ⟨its2, r2, p2, hl2⟩ := I.list hB
  obtain ⟨⟨cls, dd, data, sl⟩, n, ho, hc, _, hd⟩ := p1
  obtain ⟨⟨cls2, dd2, data2, sl2⟩, n2, ho2, hc2, _, hd2⟩ := p2
  simp only at hc hd hc2 hd2
  subst hc hd hc2 hd2
  have e : its.toArray ++ its2.toArray = (its ++ its2).toArray := by simp
  refine concat_meets ⟨_, ho, rfl⟩ ⟨_, ho2, rfl⟩ noFill_list_add seq_list_add PySem.F.slot_list_add PySem.F.entry_list_add (PySem.F.args_list_add_2 _ _) (list_addW l b its.toArray its2.toArray n n2 dd dd2 sl sl2 (by rw [List.size_toArray, List.size_toArray, ← r.length, ← r2.length]; exact hz)) ⟨ho, ho2, ?_⟩
  rw [e]
  exact ⟨.ref _, _, I.lnew (t' := s.toks) (r.append r2) (by rw [List.length_append]; omega), rfl, q _ I.fresh⟩
theorem op_catLK {K : PySem.W.Frag} (h : X.K = K) : OpR X (binaryOp .Add) (rCatL K) := h ▸ op_catL
end
section
variable {K : PySem.W.Frag} {s : Sx} {Z : List Sk} {O : Own} {PD : List PyData → Own → Prop} {ta tb : TE}
theorem wl_catD (h : WE K s ta Z O fun k1 O1 => WE K s tb Z O1 fun k2 O2 => ∃ xs ys, k1 = .d (.list xs) ∧ k2 = .d (.list ys) ∧ xs.length + ys.length ≤ 100000 ∧ PD (xs ++ ys) O2) : WL K s (tOp (rCatL K) ta tb) Z O PD := fun F x σ G H c Q q =>
  h F x σ G H c _ fun v k1 O1 G1 H1 c1 e1 hx hp => hp F x σ G1 H1 c1 _ fun w k2 O2 G2 H2 c2 e2 hy ⟨ds, es, ex, ey, hl, p⟩ => by
    subst ex ey
    cases hx with
    | @lst a vs _ hs ha =>
      cases hy with
      | @lst b ws _ ht hb =>
        have ha2 := dpa_mono e2 _ _ ha
        have hs2 := Evl.ex_l e2 hs
        refine ⟨a, b, vs, ws, rfl, rfl, Evl.ex_l c2.ex hs2, Evl.ex_l c2.ex ht, Evl.sz_of (by rw [dpa_len ha, dpa_len hb]; exact hl), fun t hn => ?_⟩
        exact q (.ref t) (.v (.ref t)) _ G2 _ (c2.newOwn hn (cc := .lst ((ds ++ es).map .d)) ⟨_, rfl, SkAll.data (dpa_app ha2 hb)⟩) (e1.trans e2) rfl ⟨t, _, _, rfl, rfl, p⟩
end
/-- an own class of what is raised, without an __init__ of its own -/
structure Xe (K : PySem.W.Frag) (mg : Str → Option Value) (C : Addr) (nm : Str) (B N : String) : Prop where
  g : mg nm = some (.ref C)
  x : PySem.W.excIn K C [.type B, .type "Exception", .type "BaseException", .type "object"] N = true
  k : PySem.W.keepIn K (.ref C) = true
  b : PySem.W.subIn K (.ref C) (.type "BaseException") = some true
  t : PySem.W.typeIn K (.ref C) = some (.type "type")
end SL

/-! SLr: a tuple times a number from nought on, in layer 2; a def of layer 1 as it is. -/
namespace SL
open PySem PySem.Spec PyProof.Rows L2
open Evl (Ex)
theorem tuple_mul0 (l : Addr) (items : Array Value) (n : Nat) (dd : Option Addr) (sl : Array (Option Value)) (x : Int) (u : Tok) (c0 : (decide (x < -(2 ^ 63)) || decide (x ≥ 2 ^ 63)) = false) (c1 : (items.isEmpty || x == 1) = false) (c2 : (decide (x ≤ 0) || items.isEmpty) = true) :
    Meets (Builtin.«tuple.__mul__» ⟨[.ref l, .int x u], []⟩) (fun _ R s => s.heap.get? l = some { cls := .type "tuple", dict := dd, data := .seq items n, slots := sl } ∧
      R (.ok (.ret (Value.ref s.heap.objs.size))) { s with heap := s.heap.push { cls := Value.type "tuple", data := Data.seq #[] }, toks := s.toks }) :=
  .of_wp fun prog w A R s h => by
    obtain ⟨hp, g, d, tk, os⟩ := s
    obtain ⟨hl, h⟩ := h
    have f1 := AutoSeq1.idx_int
    wp_walk using wpAny_loadPart' hl
    repeat (first
      | (refine wpAny_ite_false (decide_eq_false (by rw [c0]; exact Bool.false_ne_true)) ?_; wp_walk using wpAny_loadPart' hl)
      | (refine wpAny_ite_false (decide_eq_false (by rw [c1]; exact Bool.false_ne_true)) ?_; wp_walk using wpAny_loadPart' hl)
      | (refine wpAny_ite_true (decide_eq_true c2) ?_; wp_walk using wpAny_loadPart' hl))
    exact ⟨_, rfl, h⟩
def rRepV (K : PySem.W.Frag) : R2 := fun x y H Q => ∃ l k xs, x = .ref l ∧ y = .int k ∧ SqT K H l xs ∧ xs ≠ [] ∧ 0 ≤ k ∧ k ≤ 1000 ∧ xs.length ≤ 1000 ∧ (k = 1 → Q (.ref l) H) ∧ (k ≠ 1 → ∀ p, H p = none → Q (.ref p) (upd H p (.tup (List.replicate k.toNat xs).flatten)))
theorem op_repV {X : Cx} : OpR X (binaryOp .Mult) (rRepV X.K) := by
  intro pins s σ H x y v u Q I rx ry h
  obtain ⟨l, k, xs, rfl, rfl, hT, hne, h1, h2, hz, q1, q2⟩ := h
  by_cases e0 : k = 0
  · subst e0
    cases rx
    obtain ⟨t, rfl⟩ := ry
    obtain ⟨its, r, ⟨⟨cls, dd, data, sl⟩, ho, hc, n, hd⟩, hs⟩ := I.tuple hT
    simp only at hc hd
    subst hc hd
    have hn : its ≠ [] := fun e => hne (by
      have hle : its.length = xs.length := r.length.symm
      rw [e] at hle
      exact List.eq_nil_of_length_eq_zero hle.symm)
    have hi : its.toArray.isEmpty = false := by
      cases its with
      | nil => exact absurd rfl hn
      | cons a b => rfl
    refine wpAny_binaryOp_repeat_ref (T := "tuple") (U := "int") (by decide) ⟨_, ho, rfl⟩ (fun s' => typeIs_int s' 0 t) noFill_tuple_mul F.fills_int_mul F.slot_int_rmul repeat_tuple F.slot_int_index.lookup
      (call_meets F.slot_int_rmul (typeIs_int s 0 t) F.entry_int_rmul (F.args_int_rmul_2 _ _) (int_rmul_tuple 0 t l its.toArray n dd sl)
        ⟨ho, rfl, ⟨_, ho, rfl⟩, call_meets F.slot_tuple_mul ⟨_, ho, rfl⟩ F.entry_tuple_mul (F.args_tuple_mul_2 _ _) (tuple_mul0 l its.toArray n dd sl 0 t (by decide) (by rw [hi]; decide) (by rw [hi]; decide)) ⟨ho, ?_⟩⟩)
    refine ⟨.ref s.heap.objs.size, _, I.laid (t' := s.toks) (o := .tup []) (fun b ob q => Heap.get?_push_of_some _ q) (Nat.le_refl _) ?_, rfl, q2 (by decide) _ (I.hok.fresh (Nat.le_refl _))⟩
    exact ⟨by simp, [], .nil, IsTup.new _ _⟩
  · exact DL.op_repU pins s σ H _ _ v u Q I rx ry ⟨l, k, xs, rfl, rfl, hT, hne, by omega, h2, hz, q1, fun h => q2 (by omega)⟩
theorem op_repVK {X : Cx} {K : PySem.W.Frag} (h : X.K = K) : OpR X (binaryOp .Mult) (rRepV K) := h ▸ op_repV
section
variable {K : PySem.W.Frag} {s : Sx} {Z : List Sk} {O : Own} {P : Sk → Own → Prop} {ta tb : TE}
theorem we_repV (h : WE K s ta Z O fun k1 O1 => WE K s tb Z O1 fun k2 O2 => ∃ ds i, k1 = .d (.tuple ds) ∧ k2 = .d (.int i) ∧ ds ≠ [] ∧ 0 ≤ i ∧ i ≤ 1000 ∧ ds.length ≤ 1000 ∧ P (.d (.tuple (List.replicate i.toNat ds).flatten)) O2) : WE K s (tOp (rRepV K) ta tb) Z O P := fun F x σ G H c Q q =>
  h F x σ G H c _ fun v k1 O1 G1 H1 c1 e1 hx hp => hp F x σ G1 H1 c1 _ fun w k2 O2 G2 H2 c2 e2 hy ⟨ds, i, ex, ey, hne, h1, h2, hl, p⟩ => by
    subst ex ey
    cases hy
    cases hx with
    | @tup a vs _ hs ha =>
      have ha2 := dpa_mono e2 _ _ ha
      have hs2 := Evl.ex_t e2 hs
      have hn : vs ≠ [] := fun z => hne (by
        subst z
        cases ha
        rfl)
      refine ⟨a, i, vs, rfl, rfl, Evl.ex_t c2.ex hs2, hn, h1, h2, by rw [dpa_len ha]; exact hl, fun e => ?_, fun _ t ht => ?_⟩
      · subst e
        have e3 : (List.replicate (Int.toNat 1) ds).flatten = ds := by simp
        rw [e3] at p
        exact q _ _ O2 G2 H2 c2 (e1.trans e2) (skd (.tup hs2 ha2)) p
      · obtain ⟨c3, e3⟩ := c2.new (o := .tup (List.replicate i.toNat vs).flatten) ht
        exact q (.ref t) _ O2 _ _ c3 ((e1.trans e2).trans e3) (skd (.tup (.inl (.inl upd_same)) (dpa_mono e3 _ _ (dpa_rep ha2 _)))) p
end
theorem Def.upX {P : Program} {w : World} {K : PySem.W.Frag} {mg : Str → Option Value} {base : Heap} {k : Nat} {ps : List Str} {sp : Sp} {x : Str} (d : DL.Def P w K mg base x k ps sp) : Def P w K mg base x k ps sp := by
  obtain ⟨f, fd, h1, h2, h3, h4⟩ := d.ex
  exact ⟨f, fd, h1, h2, h3, fnOk_up h4⟩
end SL
namespace DL
open PySem PySem.Spec PyProof.Rows L2
open Evl (Ex)
/-- xs + ys of told lists, in layer 1 -/
theorem wl_catL {K : PySem.W.Frag} {s : Option Addr} {Z : List Sk} {O : Own} {PL : List PyData → Prop} {ta tb : TE} (h : WE K s ta Z O fun x => WE K s tb Z O fun y => ∃ xs ys, x = .list xs ∧ y = .list ys ∧ xs.length + ys.length ≤ 100000 ∧ PL (xs ++ ys)) : WL K s (tOp (SL.rCatL K) ta tb) Z O PL := fun F σ G H c Q q =>
  h F σ G H c _ fun v x G1 H1 c1 e1 hx hp => hp F σ G1 H1 c1 _ fun w y G2 H2 c2 e2 hy ⟨ds, es, ex, ey, hl, p⟩ => by
    subst ex ey
    cases hx with
    | @lst a vs _ hs ha =>
      cases hy with
      | @lst b ws _ ht hb =>
        have ha2 := dpa_mono e2 _ _ ha
        have hs2 := Evl.ex_l e2 hs
        refine ⟨a, b, vs, ws, rfl, rfl, Evl.ex_l c2.ex hs2, Evl.ex_l c2.ex ht, Evl.sz_of (by rw [dpa_len ha, dpa_len hb]; exact hl), fun t hn => ?_⟩
        exact q t _ G2 _ (c2.newOwn hn (dpa_app ha2 hb)) (e1.trans e2) p
/-- a nested target within a target, in layer 1 -/
theorem gws_tupD {K : PySem.W.Frag} {s : Option Addr} {g : TG} {u : TGs} {d : PyData} {ds : List PyData} {Z : List Sk} {O : Own} {N : List Sk → Own → Prop} (h : GW K s g d Z O fun Z' O' => GWs K s u ds Z' O' N) : GWs K s (gCons g u) (d :: ds) Z O N := fun F vs σ G H c hd Q q => by
  cases hd with
  | cons h1 h2 => exact ⟨_, _, rfl, h F _ σ G H c h1 _ fun Z' O' σ' G' H' c' e hn => hn F _ σ' G' H' c' (dpa_mono e _ _ h2) Q fun Z2 O2 σ2 G2 H2 c2 e2 n => q Z2 O2 σ2 G2 H2 c2 (e.trans e2) n⟩
end DL

namespace SL
open PySem PySem.Spec PyProof.Rows L2
open Evl (Ex)
/-! ### a method of a built-in class within a try: the written part by its name -/
section
variable {X : Cx} {K : PySem.W.Frag} {ob ar : Expr} {more : List Expr} {tO : TE} {tR : TA} {nm : Str} {pA pC : Pos} {ty ident : String} {rd : V → List V → Hp → VK → Prop}
theorem pe_bmK (eK : X.K = K) (k1 : PlainAttrs ty) (k2 : Slot ty nm ident) (k3 : typeOf (.builtin ident) = pure (.type "method_descriptor"))
    (k4 : MtR X ident rd) (k5 : PE X ob tO) (k6 : PA X (ar :: more) tR)
    (q1 : attributeBase ob nm X.env (eval ob X.env) = eval ob X.env := by rfl)
    (q2 : ((backTo pC (starEach (ar :: more) X.env)).all (fun x => !x.1) && (backToKw pC (keywordEach [] X.env)).all (fun x => x.1.isSome) && decide ((ar :: more).length + ([] : List Keyword).length + (if ([] : List Keyword).isEmpty then 0 else 1) < 30)) = true := by rfl)
    (q3 : (pA.endLine == pC.line) = true := by rfl) (q4 : starEach (ar :: more) X.env = (false, eval ar X.env) :: starEach more X.env := by rfl)
    (q5 : (backTo pC (starEach more X.env)).any (·.1) = false := by rfl) : PE X (.Call (.Attribute ob nm pA) (ar :: more) [] pC) (tBM K ty rd tO tR) := by
  subst eK
  exact pe_bm k1 k2 k3 k4 k5 k6 q1 q2 q3 q4 q5
end
end SL

/-! SLx: an own class over ValueError, through own classes, whose __init__(self, x) says super().__init__(a text) and keeps x in one field. -/
namespace SL
open PySem PySem.Spec PyProof.Rows L2
open Evl (Ex)
/-- what such an __init__ does -/
def spKeep (C : Addr) (fl : Str) : Sp := fun vs H Q _ => ∃ a y, vs = [.ref a, y] ∧ H a = some (exo a C none) ∧ ∀ d, H d = none → d ≠ a → Q .non (upd (upd H d (exd d [(fl, y)])) a (exo a C (some d)))
/-- what the written part says of such a class -/
structure KeepC (P : Program) (K : PySem.W.Frag) (C : Addr) : Prop where
  ox : OexC K C
  sup : PySem.W.ks_superIn K C C "__init__" = some (some (.builtin "ValueError.__init__"))
  sub : PySem.W.mroIn K C (.ref C) = some true
  opq : PySem.W.nsIn K cStatics "thirdparty.any" = some none
  top : (P.main.scope.names.lookup ("super" : Str)).isSome = false
/-- super().__init__(a text) within the class's own __init__ -/
theorem wp_supinit {P : Program} {w : World} {K : PySem.W.Frag} {mg mb m : Str → Option Value} {C fI cc cda a tt : Addr} {env : Env} {A : Around} {E : Value → Shared → Prop} {body : List Stmt} {fd : FuncData} {oc : Value} {od : Option Addr} {osl : Array (Option Value)}
    {tx : Str} {p0 p1 p2 p3 p4 p5 : Pos} {j5 : Nat} {ccl cl : Value} {cdd cld : Option Addr} {ccs csl : Array (Option Value)} {vs0 : Array Value} {file : Str} {tf : Tok} {ar : Arg} {pl : Sem Bool} {h1 : Heap} {g : Array GenState} {d : Drawn} {t : Nat} {os : OsState} {Q : Flow → Shared → Prop}
    (T : KeepC P K C) (K1 : K.In h1) (hg : h1.Ns env.globals mg) (hb : h1.Ns env.builtins mb) (hmb : mb "super" = some (.type "super")) (msup : mg "super" = none) (hn : h1.Ns env.locals m) (hv : m ar.arg = some (.ref a)) (hoe : h1.get? a = some (PySem.HandSPX.excO C tt))
    (lk : K.lookup fI = some ⟨oc, od, .func fd, osl⟩) (hcode : K.lookup cda = some ⟨ccl, cdd, .fields vs0, ccs⟩) (hvs : vs0[2]? = some (.str file tf)) (hfile : ((P.main.file : Str) == file) = true)
    (hcell : K.lookup cc = some ⟨cl, cld, .cell (some (.ref C)), csl⟩) (ecell : env.cells.lookup ("__class__" : Str) = some cc) (ef : env.func = some fI) (ec : env.code = .ref cda)
    (hp : (fd.params.posonlyargs ++ fd.params.args).head? = some ar) (hk : env.scope.kind = .function) (hks : env.kindOf "super" = some .globalImplicit) (hkc : env.kindOf "__class__" = some .free) (hka : env.kindOf ar.arg = some .local)
    (hev : eval (.Call (.Attribute (.Call (.Name "super" p0) [] [] p1) "__init__" p2) [.Constant (.str tx) j5 p5] [] p3) env = (do
      let ov ← attributeBase (.Call (.Name "super" p0) [] [] p1) "__init__" env (eval (.Call (.Name "super" p0) [] [] p1) env)
      standAt p2.atName
      let (f, first) ← holding [ov] (getMethod ov "__init__" pl)
      callWith p3 f first (backTo p3 (starEach [.Constant (.str tx) j5 p5] env)) []))
    (hi : interactive env = false) (hw1 : swapsWith (.Call (.Attribute (.Call (.Name "super" p0) [] [] p1) "__init__" p2) [.Constant (.str tx) j5 p5] [] p3) none p4.line env = pure false)
    (hq : ∀ h4 t4 tk, (∀ b o, b ≠ a → h1.get? b = some o → h4.get? b = some o) → h4.get? a = some (PySem.HandSPX.excO C t4) → Q .next ⟨h4, g, d, tk, os⟩) :
    PySem.wpAt (model P w) A (.func body env) (exec (.Expr (.Call (.Attribute (.Call (.Name "super" p0) [] [] p1) "__init__" p2) [.Constant (.str tx) j5 p5] [] p3) p4) env) Q E ⟨h1, g, d, t, os⟩ := by
  obtain ⟨nm, qn, N, bs, bm, sn, sub, ab, col, dd, k0, k1, k2, k3, k5, hC, hbm⟩ := T.ox.cls
  have hcl : PySem.W.clsIn K C = some { name := nm, bases := bs, mro := .ref C :: bm, ns := N, qualname := qn, hasDict := true, slotNames := sn, subclasses := sub, abstract := ab, collection := col, hasDel := false } := by unfold PySem.W.clsIn; rw [hC] <;> rfl
  have hve : PySem.W.mroIn K C (.type "ValueError") = some true := by
    unfold PySem.W.mroIn
    rw [hcl, Option.bind_some]
    have e1 : (Value.ref C :: bm).contains (.type "ValueError") = true := (PySem.HandSPX.refsVE_contains "ValueError" (.ref C :: bm) hbm).trans (by decide +kernel)
    rw [if_neg (by show ¬ ((Value.ref C :: bm).isEmpty = true); exact Bool.false_ne_true)]
    exact congrArg some e1
  have aNe : a ≠ C := fun z => by
    have e := K1 _ _ hC
    rw [← z, hoe] at e
    cases e
  have hD1 : h1.get? C = some (excClassObj nm qn C N bs bm true sn sub ab col dd k0 k1 k2 k3 k5 "ValueError.__new__") := K1 _ _ hC
  refine PySem.ks_wpAt_Expr_any (PySem.ks_wpAt_MethodCall (PySem.ks_wpAt_super_base hks hkc rfl ef (K1 _ _ lk) rfl hp ec (K1 _ _ hcode) rfl hvs hfile T.top ?_) hev) hi hw1
  refine PySem.W.ks_loadName_global hk hks (Calls.loadGlobal_builtin hg msup hb hmb ⟨rfl, ?_⟩)
  refine wpAny_loadName_free hk hkc ecell ⟨_, K1 _ _ hcell, rfl⟩ ?_
  refine wpAny_loadName_local hk hka hn hv ?_
  refine PySem.ks_wpAny_isType_cls hD1 rfl ⟨rfl, ?_⟩
  refine PySem.ks_wpAny_call_super hD1 rfl hoe rfl (fun c e => by cases e) (PySem.W.looks_mroIn K1 T.sub) (fun h2 so2 kk2 => ?_)
  have K2 : K.In h2 := fun b o e => kk2 _ _ (K1 b o e)
  have I2 : PySem.W.InstAt h2 a _ C none := ⟨kk2 _ _ hoe, rfl, rfl, trivial⟩
  refine PySem.W.kxs_getMethod PySem.W.kxs_ValueError so2 (PySem.W.looks_opaque K2 T.opq) (l₀ := .ref C :: bm) ((PySem.W.looks_clsIn K2 hcl).andThen .now) rfl K2 ?_ (I2.type.andThen (PySem.W.looks_mroIn K2 hve)) aNe rfl ?_
  · have e := T.sup
    unfold PySem.W.ks_superIn at e
    rw [hcl] at e
    exact e
  show wpAny _ _ (callWith p3 (.ref h2.objs.size) [] (backTo p3 ((false, eval (.Constant (.str tx) j5 p5) env) :: starEach [] env)) []) _ _ _
  refine PySem.W.kxs_callWith (i := "ValueError.__init__") (x := a) rfl (Calls.evalArgs_plain (Calls.spliced_cons (Calls.Constant_str (k := j5) (pos := p5) (Calls.spliced_nil (show PySem.W.KxsAt _ _ _ _ ∧ _ from ⟨Heap.get?_push_at rfl rfl, ?_⟩)))))
  have hu3 : (h2.push (PySem.W.kxs_mw "ValueError.__init__" a)).get? h2.objs.size = some (PySem.W.kxs_mw "ValueError.__init__" a) := Heap.get?_push_at rfl rfl
  have ha3 : (h2.push (PySem.W.kxs_mw "ValueError.__init__" a)).get? a = some (PySem.HandSPX.excO C tt) := Heap.get?_push_of_some _ (kk2 _ _ hoe)
  have kk3 : ∀ b o, h1.get? b = some o → (h2.push (PySem.W.kxs_mw "ValueError.__init__" a)).get? b = some o := fun b o e => Heap.get?_push_of_some _ (kk2 _ _ e)
  generalize h2.push (PySem.W.kxs_mw "ValueError.__init__" a) = h3 at *
  have hC3 := kk3 _ _ hD1
  refine wpAny_call (codeAny_of_tree (show wpAny _ _ (callAny (.ref h2.objs.size) ⟨[.str tx _], []⟩) _ _ _ from ?_))
  simp only [callAny]
  refine wpAny_bind (wpAny_load hu3 (?_ : wpAny _ _ _ _ _ _))
  simp only [PySem.W.kxs_mw, show (Value.type "method-wrapper" == Value.type "method" || Value.type "method-wrapper" == Value.type "builtin_function_or_method" || Value.type "method-wrapper" == Value.type "method-wrapper") = true by decide, if_true]
  refine PySem.W.KFB.if_so (by decide) (wpAny_bind (PySem.W.check_bound_init PySem.F.excBase_ValueError.toExcCallFacts hC3 ha3 rfl (wpAny_bind (wpAny_pure (wpAny_pure ⟨PySem.plainId_quiet PySem.F.excBase_ValueError.init.plain _, codeAny_builtin PySem.F.excBase_ValueError.initEntry ?_⟩)))))
  exact PySem.W.exc_init_tree (cls := .ref C) (t0 := tt) (dv := none) (c2 := .none) (c3 := .none) (b4 := .bool false) ha3 (by rw [sizeLine_eq]; show (1 : Nat) ≤ _; decide) (fun h4 kk4 ha4 _ => hq h4 _ _ (fun b o n e => kk4 b o n (kk3 b o e)) ha4)
/-- the whole of it: a super().__init__(a text), then self.fl = r -/
theorem fnOk_keep {P : Program} {w : World} {K : PySem.W.Frag} {mg : Str → Option Value} {base : Heap} {CX : CXT} {k : Nat} {C fI cc cda : Addr} {qual : Str} {params : Arguments} {scope : Scope} {dV kV doc pm ct oc : Value} {an od : Option Addr} {osl : Array (Option Value)} {body : List Stmt}
    {tx fl r : Str} {p0 p1 p2 p3 p4 p5 q0 q1 q2 q3 : Pos} {j5 : Nat} {ccl cl : Value} {cdd cld : Option Addr} {ccs csl : Array (Option Value)} {vs0 : Array Value} {file : Str} {tf : Tok} {ar : Arg} {pl : Sem Bool}
    (lk : K.lookup fI = some ⟨oc, od, .func (PySem.W.ksFn "__init__" qual params body scope dV kV doc pm an (.ref cda) ct cc), osl⟩)
    (T : KeepC P K C) (msup : mg "super" = none)
    (hcd : PySem.W.codeIn K (.ref cda) qual = true) (hcode : K.lookup cda = some ⟨ccl, cdd, .fields vs0, ccs⟩) (hvs : vs0[2]? = some (.str file tf)) (hfile : ((P.main.file : Str) == file) = true)
    (hcell : K.lookup cc = some ⟨cl, cld, .cell (some (.ref C)), csl⟩) (hno : PySem.W.findIn K (.ref C) fl = some none)
    (ebody : body = [.Expr (.Call (.Attribute (.Call (.Name "super" p0) [] [] p1) "__init__" p2) [.Constant (.str tx) j5 p5] [] p3) p4, .Assign [.Attribute (.Name "self" q0) fl q1] (.Name r q2) q3] := by rfl)
    (hev : ∀ env : Env, eval (.Call (.Attribute (.Call (.Name "super" p0) [] [] p1) "__init__" p2) [.Constant (.str tx) j5 p5] [] p3) env = (do
      let ov ← attributeBase (.Call (.Name "super" p0) [] [] p1) "__init__" env (eval (.Call (.Name "super" p0) [] [] p1) env)
      standAt p2.atName
      let (f, first) ← holding [ov] (getMethod ov "__init__" pl)
      callWith p3 f first (backTo p3 (starEach [.Constant (.str tx) j5 p5] env)) []) := by exact fun _ => rfl)
    (hw1 : ∀ env : Env, swapsWith (.Call (.Attribute (.Call (.Name "super" p0) [] [] p1) "__init__" p2) [.Constant (.str tx) j5 p5] [] p3) none p4.line env = pure false := by exact fun _ => rfl)
    (hw2 : ∀ env : Env, swapsWith (.Name r q2) (some (.Attribute (.Name "self" q0) fl q1)) q3.line env = pure false := by exact fun _ => rfl)
    (hp : (params.posonlyargs ++ params.args).head? = some ar := by rfl) (har : ar.arg = "self" := by rfl)
    (hk : scope.kind = .function := by rfl) (hks : scope.names.lookup ("super" : Str) = some .globalImplicit := by rfl) (hkc : scope.names.lookup ("__class__" : Str) = some .free := by rfl) (hka : scope.names.lookup ("self" : Str) = some .local := by rfl)
    (hkr : scope.names.lookup r = some .local := by rfl) (hsr : ("self" : Str) ≠ r := by decide) (hrd : (r == ("__debug__" : Str)) = false := by decide) (hnc : ∀ x ∈ scope.names, x.2 ≠ .cell := by decide)
    (hco : scope.isCoroutine = false := by rfl) (hgen : scope.isGenerator = false := by rfl) :
    FnOk P w K mg base CX (k + 1) fI (PySem.W.ksFn "__init__" qual params body scope dV kV doc pm an (.ref cda) ct cc) ["self", r] (spKeep C fl) := by
  subst ebody
  refine ⟨fun vs H Q E ⟨a, y, e, _⟩ => by rw [e]; rfl, fun A outer s H args us vs Q E hr e0 hb rv hsp => ?_⟩
  obtain ⟨a, y, rfl, ea, q⟩ := hsp
  obtain ⟨ua, uy, rfl, ra, ry⟩ : ∃ ua uy, us = [ua, uy] ∧ RelV (.ref a) ua ∧ RelV y uy := by
    cases rv with
    | cons h1 h2 => cases h2 with
      | cons h3 h4 => cases h4; exact ⟨_, _, rfl, h1, h3⟩
  obtain rfl : ua = Value.ref a := ra
  obtain ⟨hp0, g0, d0, t0, os0⟩ := s
  have KX : K.In hp0 := e0.mod.kin.keeps fun b o e => (e0.bs b o e).1
  have lim : hp0.NoLimit := e0.mod.nolimit.keeps fun b o e => (e0.bs b o e).1
  obtain ⟨mb, hmb1, hmb2⟩ := e0.mod.blt
  obtain ⟨nm, qn, N, bs, bm, sn, sub, ab, col, dd, k0, k1, k2, k3, k5, hC, hbm⟩ := T.ox.cls
  have hcl : PySem.W.clsIn K C = some { name := nm, bases := bs, mro := .ref C :: bm, ns := N, qualname := qn, hasDict := true, slotNames := sn, subclasses := sub, abstract := ab, collection := col, hasDel := false } := by unfold PySem.W.clsIn; rw [hC] <;> rfl
  obtain ⟨tt, hoe⟩ := exo_at e0.hok ea
  have Lne : hp0.objs.size ≠ a := Nat.ne_of_gt (Heap.lt_size hoe)
  refine PySem.ks_codeAny_call_defAt (binds := [("self", .ref a), (r, uy)]) hr.depth (KX _ _ lk) rfl lim (PySem.W.codeRec_of KX hcd) rfl hb hnc (fun x hx => ?_) (fun h1 hns kk1 => ?_) hco hgen hk
  · rcases List.mem_cons.mp hx with rfl | hx
    · exact hka
    · rcases List.mem_cons.mp hx with rfl | hx
      · exact hkr
      · cases hx
  have bd : ∀ b o, base.get? b = some o → h1.get? b = some o := fun b o e => kk1 _ _ (e0.bs b o e).1
  have ba : ∀ b o, base.get? b = some o → b ≠ a := fun b o e z => by
    have := (e0.bs b o e).2
    rw [z, ea] at this
    cases this
  have msl : ([("self", Value.ref a), (r, uy)] : List (Str × Value)).reverse.lookup ("self" : Str) = some (Value.ref a) := by
    show List.lookup _ [(r, uy), ("self", Value.ref a)] = _
    have e1 : (("self" : Str) == r) = false := by simpa using hsr
    simp [List.lookup, e1]
  have mrl : ([("self", Value.ref a), (r, uy)] : List (Str × Value)).reverse.lookup r = some uy := by
    show List.lookup _ [(r, uy), ("self", Value.ref a)] = _
    simp [List.lookup]
  refine PySem.ks_wpAt_execs_cons ?_
  refine wp_supinit (m := fun x => ([("self", Value.ref a), (r, uy)] : List (Str × Value)).reverse.lookup x) T (e0.mod.kin.keeps bd) (e0.mod.glob.keeps bd) (hmb1.keeps bd) ((hmb2 _ (by decide)).trans (by rfl)) msup hns (by rw [har]; exact msl) (kk1 _ _ hoe) lk hcode hvs hfile hcell rfl rfl rfl hp hk hks hkc (by rw [har]; exact hka) (hev _) (by unfold interactive; show (scope.kind == .module && _) = false; rw [hk]; rfl) (hw1 _) (fun h4 t4 tk kk4 ha4 => ?_)
  have hns4 : h4.Ns hp0.objs.size _ := hns.at fun o e => kk4 _ _ Lne e
  refine PySem.ks_wpAt_execs_cons (PySem.ks_wpAt_Assign_Attr (wpAt_of_wpAny (wpAny_Name (wpAny_loadName_local hk hkr hns4 mrl (wpAny_Name (wpAny_loadName_local hk hka hns4 msl ?_) (by decide))) hrd)) (hw2 _))
  have K4 : K.In h4 := e0.mod.kin.keeps fun b o e => kk4 _ _ (ba b o e) (bd b o e)
  refine PySem.W.set_plain K4 (ox := { cls := .ref C, dict := none, data := .fields #[.ref t4, .none, .none, .none, .bool false, .none] }) (od := none) ⟨ha4, rfl, rfl, trivial⟩ T.ox.sa ?_
  refine PySem.HandSPX.exc_osa K4 ha4 hcl (show PySem.HandSPX.refsVE (.ref C :: bm) = true from hbm) rfl hno (fun h5 tk5 dx kk5 dn dne hx hn5 => ?_)
  have kk : ∀ b o, b ≠ a → hp0.get? b = some o → h5.get? b = some o := fun b o n e => kk5 b o n (kk4 b o n (kk1 b o e))
  have hle : hp0.objs.size ≤ dx := by
    obtain ⟨o, _, _, ho, _⟩ := hns4
    exact Nat.le_of_lt (Nat.lt_of_lt_of_le (Heap.lt_size ho) dn)
  have hnd : H dx = none := e0.hok.fresh hle
  have nd : ∀ {b : Addr} {o : Obj}, hp0.get? b = some o → b ≠ dx := fun {b o} q => Nat.ne_of_lt (Nat.lt_of_lt_of_le (Heap.lt_size q) hle)
  have na : ∀ {b : Addr}, H b = none → b ≠ a := fun {b} n z => by rw [z, ea] at n; cases n
  show PySem.wpAt _ _ _ (execs [] _) _ _ _
  refine wpAt_of_wpAny (wpAny_pure ?_)
  refine ⟨.non, upd (upd H dx (exd dx [(fl, y)])) a (exo a C (some dx)), rfl, e0.bare, ?_, fun b o z => ?_, rfl, q dx hnd dne⟩
  · exact {
      keep := fun b o z n _ _ => kk b o (na n) z
      slot := fun b o z n _ _ => ⟨o.slots, kk b o (na n) z⟩
      free := fun b o z n _ => by rw [upd_ne (na n), upd_ne (nd z)]; exact n
      there := fun b o z _ => by
        by_cases hb : b = a
        · subst hb; exact ⟨_, hx⟩
        · exact ⟨_, kk b o hb z⟩
      tups := fun b xs z => by rw [upd_ne (at_ne ea z exo_tup), upd_ne (ne_of_none z hnd)]; exact z
      frzs := fun b o v z => by rw [upd_ne (at_ne ea z exo_frz), upd_ne (ne_of_none z hnd)]; exact z
      tbls := fun b ps z => ⟨#[], by rw [upd_ne (at_ne ea z exo_tbl), upd_ne (ne_of_none z hnd), z]; simp⟩ }
  · by_cases hb : b = a
    · subst hb
      rw [upd_same] at z
      cases z
      exact exo_ok hx
    rw [upd_ne hb] at z
    by_cases hd : b = dx
    · subst hd
      rw [upd_same] at z
      cases z
      exact exd_ok hn5 (relO_put (fs := []) ry fun g => True.intro)
    rw [upd_ne hd] at z
    have own : ∀ {c x : Addr}, H c = some (.own x) → c ≠ a := fun {c x} hc => at_ne ea hc exo_own
    refine (e0.hok b o z).stay (fun c v hc y => kk c v ?_ y) (fun c hc => by rw [upd_ne (own hc), upd_ne (ne_of_none hc hnd)]; exact hc) (fun c xs hc => by rw [upd_ne (at_ne ea hc exo_tup), upd_ne (ne_of_none hc hnd)]; exact hc)
    rcases hc with rfl | hc
    · exact hb
    · exact own hc

/-! ### what such a class is to a law: raised, caught, its field read -/
structure Ke (P : Program) (w : World) (K : PySem.W.Frag) (mg : Str → Option Value) (base : Heap) (C : Addr) (nm fl : Str) : Prop where
  g : mg nm = some (.ref C)
  ox : OexC K C
  ini : ∃ fI fd ps, PySem.W.findIn K (.ref C) "__init__" = some (some (.ref fI)) ∧ PySem.W.typeIn K (.ref fI) = some (.type "function") ∧ FnOk P w K mg base (L2.CX P w) 1 fI fd ps (spKeep C fl) ∧ Binds K fd ps []
  xm : PySem.W.exmOne K (.ref C) (.ref C) = some true
  xf : XfC K C
  no : PySem.W.findIn K (.ref C) fl = some none
/-- such a class by what the written part says, word for word -/
theorem ke_mk {P : Program} {w : World} {K : PySem.W.Frag} {mg : Str → Option Value} {base : Heap} {C S fI : Addr} {nm fl : Str} {fd : FuncData} {ps : List Str} {n1 qn : Str} {N : Addr} {bs bmS : List Value} {sn : List Str} {sub : List Value} {ab : Bool} {col : Option Bool} {dd : Option Addr} {k0 k1 k2 k3 k5 : Option Value}
    {nS qS : Str} {NS : Addr} {bsS : List Value} {hS : Bool} {snS : List Str} {subS : List Value} {abS : Bool} {colS : Option Bool} {ddS : Option Addr} {j0 j1 j2 j3 j5 : Option Value} {nid : String}
    (g : mg nm = some (.ref C)) (kl : K.lookup C = some (excClassObj n1 qn C N bs (.ref S :: bmS) true sn sub ab col dd k0 k1 k2 k3 k5 "ValueError.__new__"))
    (kS : K.lookup S = some (excClassObj nS qS S NS bsS bmS hS snS subS abS colS ddS j0 j1 j2 j3 j5 nid)) (rv : PySem.HandSPX.refsVE bmS = true)
    (fS : PySem.W.findIn K (.ref S) "__init__" = some (some (.builtin "ValueError.__init__"))) (mC : PySem.W.mroIn K C (.ref C) = some true) (opq : PySem.W.nsIn K cStatics "thirdparty.any" = some none) (top : (P.main.scope.names.lookup ("super" : Str)).isSome = false)
    (sa : PySem.W.findIn K (.ref C) "__setattr__" = some (some (.builtin "object.__setattr__"))) (exC : PySem.W.subIn K (.ref C) (.type "BaseException") = some true) (tyC : PySem.W.typeIn K (.ref C) = some (.type "type")) (kC : PySem.W.keepIn K (.ref C) = true)
    (ga : PySem.W.findIn K (.ref C) "__getattribute__" = some (some (.builtin "BaseException.__getattribute__"))) (gg : PySem.W.findIn K (.ref C) "__getattr__" = some none) (hd : PySem.W.hasDictIn K C = true) (ss : PySem.W.subIn K (.ref C) (.ref C) = some true)
    (iC : PySem.W.findIn K (.ref C) "__init__" = some (some (.ref fI))) (tI : PySem.W.typeIn K (.ref fI) = some (.type "function")) (no : PySem.W.findIn K (.ref C) fl = some none)
    (run : KeepC P K C → FnOk P w K mg base (L2.CX P w) 1 fI fd ps (spKeep C fl)) (bd : Binds K fd ps []) : Ke P w K mg base C nm fl := by
  have ox : OexC K C := ⟨⟨_, _, _, _, _, _, _, _, _, _, _, _, _, _, _, kl, rv⟩, sa, exC, tyC, kC⟩
  have sup : PySem.W.ks_superIn K C C "__init__" = some (some (.builtin "ValueError.__init__")) := by
    unfold PySem.W.ks_superIn PySem.W.clsIn
    rw [kl]
    show PySem.W.alongIn K "__init__" (((Value.ref C :: Value.ref S :: bmS).dropWhile (· != .ref C)).drop 1) = _
    have e1 : (((Value.ref C :: Value.ref S :: bmS).dropWhile (· != .ref C)).drop 1) = Value.ref S :: bmS := by simp [List.dropWhile_cons]
    rw [e1]
    have e2 := fS
    unfold PySem.W.findIn at e2
    dsimp only at e2
    rw [kS] at e2
    exact e2
  exact ⟨g, ox, ⟨fI, fd, ps, iC, tI, run ⟨ox, sup, mC, opq, top⟩, bd⟩, PySem.W.exm_ref exC hd tyC ss, ⟨ga, gg, exC, hd⟩, no⟩
section
variable {X : Cx} {x fl : Str} {C : Addr} {j : Nat} {p pos : Pos} {e : Expr} {es : List Expr} {ta : TA}
/-- the exception made -/
theorem pmk_keep (T : Ke X.prog X.w X.K X.mg X.base C x fl) (hr : Room j X.A) (hj : 2 ≤ j) (hg : Gl X x) (ha : PA X (e :: es) ta)
    (hdb : (x == ("__debug__" : Str)) = false := by decide) (he : starEach (e :: es) X.env = (false, eval e X.env) :: starEach es X.env := by rfl) (hpl : (backTo pos (starEach es X.env)).any (·.1) = false := by rfl) :
    PMk X (.Call (.Name x p) (e :: es) [] pos) (tMkO C (spKeep C fl) [] ta) := by
  obtain ⟨fI, fd, ps, i1, i2, i3, i4⟩ := T.ini
  exact pmk_oex T.ox i1 i2 i3 (hr.mono hj) i4 .nil pass0X hg T.g ha hdb he hpl
end
section
variable {K : PySem.W.Frag} {s : Sx} {Z : List Sk} {O : Own} {P : Sk → Own → Prop} {D : DE} {ta : TA} {te : TE} {W : WX}
/-- raise C(e): what is raised has a dict of its one field -/
theorem sw_raiseK {C : Addr} {fl : Str} (hW : ∀ cls d σ H, s.E cls d σ H → W cls d σ H) (h : WA K s ta Z O fun ks O' => ∃ k, ks = [k] ∧ ∀ dx, s.X (.ref C) (some dx) Z ((dx, .xd [(fl, k)]) :: O')) :
    SW K s (fun _ σ H => tMkO C (spKeep C fl) [] ta σ H fun cls d H' => W cls d σ H') Z O D := fun F x σ G H E c cv =>
  h F x σ G H c _ fun vs ks O1 G1 H1 c1 e1 hv ⟨k, ek, hx⟩ => by
    subst ek
    match vs, hv with
    | [v], ⟨hv, _⟩ =>
      refine ⟨by simp, fun a ha => ⟨a, v, rfl, upd_same, fun d hd hda => ⟨rfl, d, [(fl, v)], upd_same, ?_, ?_, ?_⟩⟩⟩
      · rw [upd_ne hda, upd_same]
      · rw [upd_ne hda] at hd
        exact hd
      · rw [upd_ne hda] at hd
        have eh : upd (del (upd (upd (upd H1 a (exo a C none)) d (exd d [(fl, v)])) a (exo a C (some d))) a) d (.xd [(fl, v)]) = upd H1 d (.xd [(fl, v)]) := by
          funext b
          by_cases hb : b = d
          · rw [hb, upd_same, upd_same]
          · rw [upd_ne hb, upd_ne hb]
            by_cases hba : b = a
            · rw [hba, del_same, ha]
            · rw [del_ne hba, upd_ne hba, upd_ne hb, upd_ne hba]
        rw [eh]
        exact hW _ _ _ _ (x (.ref C) (some d) Z _ σ G1 _ (c1.newOwn (cc := .xd [(fl, k)]) (o := .xd [(fl, v)]) hd ⟨_, rfl, rfl, hv, True.intro⟩) (hx d))
/-- e.f of what was caught -/
theorem we_xf {a C : Addr} {cls : Value} {d : Option Addr} {fl : Str} (h : WE K s te Z O fun k O' => k = .v (.ref a) ∧ cls = .ref C ∧ ∃ dd fs kk, d = some dd ∧ (dd, Cell.xd fs) ∈ O' ∧ fs.lookup fl = some kk ∧ P kk O') : WE K s (tXf a cls d C fl te) Z O P := fun F x σ G H c Q q =>
  h F x σ G H c _ fun v k O1 G1 H1 c1 e1 hk ⟨ek, ec, dd, fs, kk, ed, hm, hl, p⟩ => by
    subst ek
    obtain rfl : v = .ref a := hk
    obtain ⟨_, _, _, o, o4, us, eo, o5⟩ := c1.own dd _ hm
    subst eo
    have go : ∀ {us : List (Str × V)} {fs : List (Str × Sk)}, KvAll K G1 us fs → fs.lookup fl = some kk → ∃ y, us.lookup fl = some y ∧ SkV K G1 kk y := by
      intro us
      induction us with
      | nil =>
        intro fs h1 h2
        cases fs with
        | nil => cases h2
        | cons b r => exact h1.elim
      | cons b r ih =>
        intro fs h1 h2
        cases fs with
        | nil => exact h1.elim
        | cons b' r' =>
          obtain ⟨n, y⟩ := b
          obtain ⟨n', k'⟩ := b'
          obtain ⟨h3, h4, h5⟩ := h1
          subst h3
          by_cases hn : fl = n
          · subst hn
            simp [List.lookup] at h2
            subst h2
            exact ⟨y, by simp [List.lookup], h4⟩
          · have e2 : (fl == n) = false := by simpa using hn
            simp [List.lookup, e2] at h2
            obtain ⟨z, z1, z2⟩ := ih h5 h2
            exact ⟨z, by simp [List.lookup, e2, z1], z2⟩
    obtain ⟨y, hy1, hy2⟩ := go o5 hl
    exact ⟨rfl, ec, dd, us, y, ed, o4, hy1, q y kk O1 G1 H1 c1 e1 hy2 p⟩
end

/-! ### keywords -/
/-- the keywords fill the last parameters -/
def KBind (K : PySem.W.Frag) (fd : FuncData) (ps ks : List Str) : Prop := ∀ (s : Shared) (us ws : List Value), K.In s.heap → us.length + ks.length = ps.length → ws.length = ks.length → BindsTo s fd ⟨us, ks.zip ws⟩ (ps.zip (us ++ ws))
structure FunAtK (K : PySem.W.Frag) (mg : Str → Option Value) (x : Str) (st : Stmt) (ps ks : List Str) : Prop where
  ex : ∃ f fd, Fun K x x st f fd ∧ mg x = some (.ref f) ∧ KBind K fd ps ks
structure DefK (P : Program) (w : World) (K : PySem.W.Frag) (mg : Str → Option Value) (base : Heap) (x : Str) (k : Nat) (ps ks : List Str) (sp : Sp) : Prop where
  ex : ∃ f fd, mg x = some (.ref f) ∧ PySem.W.keepIn K (.ref f) = true ∧ KBind K fd ps ks ∧ FnOk P w K mg base (L2.CX P w) k f fd ps sp
/-- the positional arguments, then the keywords' values -/
def tApp (n : Nat) (t u : TA) : TA := fun σ H Q => t σ H fun vs H1 => u σ H1 fun zs H2 => zs.length = n ∧ Q (vs ++ zs) H2
section
variable {X : Cx} {CX : CXT} {k j : Nat} {f : Addr} {fd : FuncData} {ps ks : List Str} {sp : Sp} {E : L2.St → XK} {x : Str} {p pos : Pos} {e : Expr} {es : List Expr} {kws : List Keyword} {t tk : TA}
theorem pe_defKS (D : DefK X.prog X.w X.K X.mg X.base x k ps ks sp) (hr : Room j X.A) (hk : k ≤ j) (hx : ∀ σ, PassesAt (L2.CX X.prog X.w) X σ (E σ)) (hg : Gl X x) (ha : PA X (e :: es) t) (hkw : PK X kws tk)
    (hall : (backToKw pos (keywordEach kws X.env)).all (·.1.isSome) = true := by rfl) (hks : (backToKw pos (keywordEach kws X.env)).filterMap (·.1) = ks := by rfl)
    (hdb : (x == ("__debug__" : Str)) = false := by decide) (he : starEach (e :: es) X.env = (false, eval e X.env) :: starEach es X.env := by rfl)
    (hpl : ((backTo pos (starEach (e :: es) X.env)).any (·.1) || (backToKw pos (keywordEach kws X.env)).any (·.1.isNone)) = false := by rfl) : PE X (.Call (.Name x p) (e :: es) kws pos) (tCallS sp E (tApp ks.length t tk)) := by
  obtain ⟨f, fd, h1, h2, h3, h4⟩ := D.ex
  refine ⟨fun pins s σ H Q I h => wpAny_Call_Name_kw (ld_glob I hg h1 (PySem.W.callWith_KW (h₀ := X.base) I.ok.mod.kin h2 hall (thn (ha.run pos pins s σ H _ I h) fun us s1 ⟨vs, H1, I1, r, q⟩ => ?_) hpl he) hdb)⟩
  refine thn (hkw.run pos pins s1 σ H1 _ I1 q) fun ws s2 ⟨zs, H2, I2, rz, hn, q2⟩ => ⟨I2.kIn, ?_⟩
  rw [hks]
  have r2 : Vals (vs ++ zs) (us ++ ws) := r.append rz
  have hl : (us ++ ws).length = ps.length := by rw [← r2.length]; exact h4.len _ _ _ _ q2
  have hw : ws.length = ks.length := by rw [← rz.length]; exact hn
  rw [List.length_append, hw] at hl
  refine wpAny_call (codeAny_mono (h4.run X.A X.stack s2 H2 ⟨us, ks.zip ws⟩ (us ++ ws) (vs ++ zs) Q (E σ) (hr.mono hk) I2.env0 (h3 s2 us ws I2.kIn hl hw) r2 q2) fun r s' hq => ?_)
  match r, hq with
  | .error er, hq => exact hx σ pins H2 s2 er s' I2 hq
  | .ok (.ret u), hq => exact I2.after hq
  | .ok .next, hq => exact False.elim hq
  | .ok .brk, hq => exact False.elim hq
  | .ok .cont, hq => exact False.elim hq
end
section
variable {K : PySem.W.Frag} {s : Sx} {Z : List Sk} {O : Own} {t u : TA} {PA' : List Sk → Own → Prop}
theorem skAll_app {G : Hp} : ∀ {vs ws : List V} {ks js : List Sk}, SkAll K G vs ks → SkAll K G ws js → SkAll K G (vs ++ ws) (ks ++ js)
  | [], _, [], _, _, h => h
  | _ :: _, _, _ :: _, _, h1, h2 => ⟨h1.1, skAll_app h1.2 h2⟩
  | [], _, _ :: _, _, h, _ => h.elim
  | _ :: _, _, [], _, h, _ => h.elim
theorem wa_app {n : Nat} (h : WA K s t Z O fun ks O1 => WA K s u Z O1 fun js O2 => js.length = n ∧ PA' (ks ++ js) O2) : WA K s (tApp n t u) Z O PA' := fun F x σ G H c Q q =>
  h F x σ G H c _ fun vs ks O1 G1 H1 c1 e1 hv h2 => h2 F x σ G1 H1 c1 _ fun ws js O2 G2 H2 c2 e2 hw ⟨hn, p⟩ => ⟨hw.len.trans hn, q (vs ++ ws) (ks ++ js) O2 G2 H2 c2 (e1.trans e2) (skAll_app (hv.mono e2) hw) p⟩
end

/-! ### texts in layer 2 -/
section
variable {K : PySem.W.Frag} {s : Sx} {Z : List Sk} {O : Own} {P : Sk → Own → Prop} {PD : List PyData → Own → Prop} {ta tb : TE}
/-- a.split(b) -/
theorem wl_split (h : WE K s ta Z O fun k O1 => ∃ a, k = .d (.str a) ∧ a.length + 2 ≤ 100000 ∧ WE K s tb Z O1 fun y O2 => ∃ b, y = .d (.str b) ∧ (b.length == 0) = false ∧ PD ((Txt.split a b).map .str) O2) :
    WL K s (tM1 (fun x xs H Q => ∃ a b, x = V.str a ∧ xs = [V.str b] ∧ (b.length == 0) = false ∧ a.length + 2 ≤ sizeLine ∧ rNewStrs (Txt.split a b) H Q) ta tb) Z O PD := fun F x σ G H c Q q =>
  h F x σ G H c _ fun v k O1 G1 H1 c1 e1 hv ⟨a, ex, hl, hp⟩ => by
    subst ex
    cases hv
    refine ⟨⟨a, rfl⟩, hp F x σ G1 H1 c1 _ fun w y O2 G2 H2 c2 e2 hy ⟨b, ey, hb, p⟩ => ?_⟩
    subst ey
    cases hy
    exact ⟨a, b, rfl, rfl, hb, Evl.sz_of hl, fun pp hp => q (.ref pp) _ _ G2 _ (c2.newOwn (cc := .lst (((Txt.split a b).map PyData.str).map .d)) (o := .lst ((Txt.split a b).map V.str)) hp ⟨_, rfl, SkAll.data DL.dpa_strs⟩) (e1.trans e2) skv ⟨pp, _, O2, rfl, rfl, p⟩⟩
/-- x in a list of data -/
theorem we_inD (h : WE K s ta Z O fun k O1 => WE K s tb Z O1 fun y O2 => ∃ d ds, k = .d d ∧ y = .d (.list ds) ∧ SeqAt.shaped d = true ∧ SeqAt.shaped (.list ds) = true ∧ P (.d (.bool (ds.any fun z => PyData.eqv z d))) O2) : WE K s (tOp (rInD K) ta tb) Z O P := fun F x σ G H c Q q =>
  h F x σ G H c _ fun v k O1 G1 H1 c1 e1 hv hp => hp F x σ G1 H1 c1 _ fun w y O2 G2 H2 c2 e2 hy ⟨d, ds, ek, ey, s1, s2, p⟩ => by
    subst ek ey
    exact ⟨d, ds, dp_mono (e2.trans c2.ex) _ _ hv, dp_mono c2.ex _ _ hy, s1, s2, q _ _ O2 G2 H2 c2 (e1.trans e2) (skd (.bl _)) p⟩
end
end SL

namespace DL
open PySem PySem.Spec PyProof.Rows L2
open Evl (Ex)
/-- a text times a number from two on -/
def rRepS : R2 := fun x y H Q => ∃ a k z, x = .str a ∧ y = .int k ∧ (decide (k < -(2 ^ 63 : Int)) || decide (k ≥ 2 ^ 63)) = false ∧ ¬ k < 1 ∧ (k == 1 || a.length == 0) = false ∧ ¬ ((a.length : Int) > (2 ^ 63 - 1) / k) ∧ Builtin.Str.tooLong (a.length * k.toNat) = false ∧
  z = (⟨(List.replicate k.toNat a.cps).foldl (· ++ ·) #[]⟩ : Str) ∧ z.length ≤ sizeLine ∧ Q (.str z) H
theorem op_repS {X : Cx} : OpR X (binaryOp .Mult) rRepS := by
  intro pins s σ H x y v u Q I rx ry h
  obtain ⟨a, k, z, rfl, rfl, h1, h2, h3, h4, h5, rfl, h6, q⟩ := h
  obtain ⟨t, rfl⟩ := rx
  obtain ⟨t', rfl⟩ := ry
  refine PySem.P.mul_str h1 (fun _ _ => h4) (fun _ _ => h5) ?_
  rw [if_neg h2, if_neg (by rw [h3]; exact Bool.false_ne_true)]
  exact ⟨h6, .str _, H, I.tok _, ⟨_, rfl⟩, q⟩
section
variable {K : PySem.W.Frag} {s : Option Addr} {Z : List Sk} {O : Own} {P : PyData → Prop} {ta tb : TE}
theorem we_repS (h : WE K s ta Z O fun x => WE K s tb Z O fun y => ∃ a k z, x = .str a ∧ y = .int k ∧ (decide (k < -(2 ^ 63 : Int)) || decide (k ≥ 2 ^ 63)) = false ∧ ¬ k < 1 ∧ (k == 1 || a.length == 0) = false ∧ ¬ ((a.length : Int) > (2 ^ 63 - 1) / k) ∧ Builtin.Str.tooLong (a.length * k.toNat) = false ∧
    z = (⟨(List.replicate k.toNat a.cps).foldl (· ++ ·) #[]⟩ : Str) ∧ z.length ≤ sizeLine ∧ P (.str z)) : WE K s (tOp rRepS ta tb) Z O P := fun F σ G H c Q q =>
  h F σ G H c _ fun v x G1 H1 c1 e1 hx hp => hp F σ G1 H1 c1 _ fun w y G2 H2 c2 e2 hy ⟨a, k, z, ex, ey, h1, h2, h3, h4, h5, h6, h7, p⟩ => by
    subst ex ey
    cases hx
    cases hy
    exact ⟨a, k, z, rfl, rfl, h1, h2, h3, h4, h5, h6, h7, q _ _ G2 H2 c2 (e1.trans e2) (.str _) p⟩
end
end DL

/-! SLy: a list comprehension whose element is a call that may raise. -/
namespace SL
open PySem PySem.Spec PyProof.Rows L2
open Evl (Ex)
/-- the context of a comprehension's block, with what is wanted of an exception within it -/
abbrev blkX (X : Cx) (s : Shared) (H : Hp) (scope : Scope) (cenv : Env) (fp : List Addr) (xe : Value → Shared → Prop) : Cx := { X.blk s H scope cenv fp with xe := xe }
theorem frs_lt {X : Cx} {pins : List (Addr × Obj)} {σ : L2.St} {H : Hp} {s : Shared} (I : Inv X pins σ H s) {b : Addr} (hb : b ∈ frs X.stack) : b < s.heap.objs.size := by
  obtain ⟨_, o, e, _⟩ := I.stack.mem hb
  exact Heap.lt_size e
/-- an exception out of the block's call is in the def's own air -/
theorem comp_air {X : Cx} {E : XK} (tk : Takes X (fun cls d _ H => E cls d H)) (hst : X.stack = X.env :: X.outer) (hfr : X.env.frame = some X.env.locals) {pins : List (Addr × Obj)} {σ : L2.St} {H3 : Hp} {s3 : Shared} (I3 : Inv X pins σ H3 s3)
    {ce : Env} (cL : ce.locals = s3.heap.objs.size) (cF : ce.frame = X.env.frame) {fp : List Addr} (f3 : ∀ b ∈ fp, FpOk X pins H3 b) {scope : Scope} {xe : Value → Shared → Prop}
    {pins' : List (Addr × Obj)} {σ' : L2.St} {H9 : Hp} {s9 : Shared} {e : Value} {s' : Shared} (I9 : Inv (blkX X s3 H3 scope ce fp xe) pins' σ' H9 s9) (c : L2.CX X.prog X.w X.stack H9 s9 E e s') :
    notedBy (model X.prog X.w) X.A ce (CompFails (model X.prog X.w) X.A X.xe ce) e s' := by
  obtain ⟨a, B, H', cls, d, rfl, fl, hok, ub, na, os, ag, hE⟩ := c
  have nC9 : H9 ce.locals = none := I9.free
  obtain ⟨m, hnC, _⟩ := I9.loc
  obtain ⟨oC, es, ep, hC, hCd, hCr⟩ : s9.heap.Ns ce.locals m := hnC
  have hCs : ce.locals ∉ frs X.stack := fun z => absurd (frs_lt I3 z) (by rw [cL]; exact Nat.lt_irrefl _)
  have hCB : B.get? ce.locals = some oC := ub.keep _ _ hC nC9 hCs
  have nC' : H' ce.locals = none := ub.free _ _ hC nC9
  have bs : Un (frs X.stack) fp H3 H9 s3.heap s9.heap := I9.base
  have ltC : ∀ {b : Addr} {o : Obj}, s3.heap.get? b = some o → b ≠ ce.locals := fun {b o} q => by rw [cL]; exact Nat.ne_of_lt (Heap.lt_size q)
  obtain ⟨B', g1, g2⟩ := restrict B fun b => decide (b ≠ ce.locals)
  have sub : ∀ b o, B'.get? b = some o → B.get? b = some o := fun b o q => by
    by_cases hb : b = ce.locals
    · rw [g2 b (by simp [hb])] at q; cases q
    · rw [g1 b (by simp [hb])] at q; exact q
  have sup : ∀ b o, b ≠ ce.locals → B.get? b = some o → B'.get? b = some o := fun b o hb q => by rw [g1 b (by simp [hb])]; exact q
  have nsub : ∀ b, B.get? b = none → B'.get? b = none := fun b q => by
    cases z : B'.get? b with
    | none => rfl
    | some o => rw [sub b o z] at q; cases q
  have neC : ∀ b o, B'.get? b = some o → b ≠ ce.locals := fun b o q z => by rw [z, g2 ce.locals (by simp)] at q; cases q
  obtain ⟨f1, f2, f3', oe, vs, T, oT, ts, he, hz, hd, h1, hnT, hTe, hT, hdT, h3⟩ := fl
  have fl2 : HandSPX.FlyingZ B' (X.env :: X.outer) a (Zc cls d) s'.heap := by
    rw [← hst]
    exact ⟨fun b o q => f1 b o (sub b o q), nsub a f2, funFrames_none f3' fun L hL => nsub L (f3'.mem hL).1, oe, vs, T, oT, ts, he, hz, hd, h1, nsub T hnT, hTe, hT, hdT, h3⟩
  have hframes : X.A.frames = some (X.env :: X.outer) := by rw [I3.ok.frames, hst]
  show wpAny _ _ (noteFrame (.ref a) ce) _ _ s'
  rw [noteFrame_env _ cF]
  refine HandSPX.looks_onZ Zc.steady hframes hfr fl2 fun h' hh up => ?_
  obtain ⟨b1, b2, b3, oe, vs, T, oT, ts, he, hz, hd, h1, hnT, hTe, hT, hdT, h3⟩ := hh
  have hCnf : ∀ vs, oC.data ≠ .fields vs := fun vs q => by rw [hCd] at q; cases q
  obtain ⟨slC, hC'⟩ := up ce.locals oC (f1 _ _ hCB) hCnf
  refine ⟨m, ⟨_, es, ep, hC', hCd, hCr⟩, fun h₂ m₂ hn₂ hs₂ => ?_⟩
  have keep2 : ∀ b o, b ≠ ce.locals → h'.get? b = some o → h₂.get? b = some o := fun b o hb q => (hs₂.2 b hb).trans q
  have aC : a ≠ ce.locals := fun z => by
    rw [z, hC'] at he
    cases he
    rw [hCd] at hd
    cases hd
  have tC : T ≠ ce.locals := fun z => by
    rw [z, hC'] at hT
    cases hT
    rw [hCd] at hdT
    cases hdT
  have held : HandSPX.HeldZ B' (X.env :: X.outer) a (Zc cls d) X.env.locals h₂ := ⟨fun b o q => keep2 b o (neC b o q) (b1 b o q), b2, Heap.FunFrames.sameBut hs₂ hn₂ b3, oe, vs, T, oT, ts, keep2 _ _ aC he, hz, hd, h1, hnT, hTe, keep2 _ _ tC hT, hdT, h3⟩
  unfold PySem.passOn
  refine wpAny_bind (wpAny_field (keep2 _ _ aC he) hd h1 ?_)
  rw [if_neg (show ¬ ((Value.ref T == Value.none) = true) from by simp), cF, hfr]
  refine wpAny_bind (HandSPX.setFlight_onZ held fun h₃ hh3 up3 => wpAny_throw (tk _ _ ?_))
  obtain ⟨G, k1, k2⟩ := restrict h₃ fun b => (B'.get? b).isSome || decide (b ∈ frs X.stack)
  have gB : ∀ b o, B'.get? b = some o → G.get? b = some o := fun b o q => by
    rw [k1 b (by simp [q])]
    exact hh3.1 b o q
  have gF : ∀ b, b ∈ frs X.stack → G.get? b = h₃.get? b := fun b hb => k1 b (by simp [hb])
  have og : ∀ b o, G.get? b = some o → h₃.get? b = some o ∧ ((B'.get? b).isSome = true ∨ b ∈ frs X.stack) := fun b o q => by
    cases z : ((B'.get? b).isSome || decide (b ∈ frs X.stack)) with
    | false => rw [k2 b z] at q; cases q
    | true =>
      rw [k1 b z] at q
      exact ⟨q, by simpa [Bool.or_eq_true] using z⟩
  have frame : ∀ b o, b ∈ frs X.stack → s3.heap.get? b = some o → b ∉ fp → ∃ sl, G.get? b = some { o with slots := sl } := fun b o hb q hx => by
    obtain ⟨_, o', q', hnf⟩ := I3.stack.mem hb
    rw [q] at q'
    cases q'
    obtain ⟨s1, e1⟩ := bs.slot b o q (I3.stkFree b hb) hb hx
    obtain ⟨s2, e2⟩ := ub.slot b _ e1 hb
    obtain ⟨s4, e4⟩ := up b _ e2 hnf
    obtain ⟨s5, e5⟩ := up3 b _ (keep2 b _ (ltC q) e4) hnf
    exact ⟨s5, by rw [gF b hb]; exact e5⟩
  refine ⟨a, B', { s3 with heap := G, gens := s'.gens, drawn := s'.drawn, toks := s'.toks }, pins, σ, H', cls, d, rfl, ?_, fun b o q hb => ?_, Heap.UpToSlots.of_keeps fun b o q => (og b o q).1, .inr (.inr (by rw [hst]; exact hh3)), na, os.trans I9.os, ag, hE⟩
  · refine I3.call' (ch := fp) rfl ⟨fun b o q n hb hx => ?_, fun b o q n hb hx => frame b o hb q hx, fun b o q n hx => ?_, fun b o q hx => ?_, fun b xs q => ub.tups b xs (bs.tups b xs q), fun b o u q => ub.frzs b o u (bs.frzs b o u q), fun b ps q => ?_⟩ ?_ ag fun b hb => ⟨(f3 b hb).2.2.2.1, (f3 b hb).2.1, (f3 b hb).2.2.2.2.1, (f3 b hb).2.2.2.2.2⟩
    · exact gB b o (sup b o (ltC q) (ub.keep b o (bs.keep b o q n hb hx) (bs.free b o q n hx) hb))
    · obtain ⟨o', q'⟩ := bs.there b o q hx
      exact ub.free b o' q' (bs.free b o q n hx)
    · by_cases hb : b ∈ frs X.stack
      · obtain ⟨sl, z⟩ := frame b o hb q hx
        exact ⟨_, z⟩
      · obtain ⟨o', q'⟩ := bs.there b o q hx
        obtain ⟨o'', q''⟩ := ub.there b o' q' hb
        exact ⟨o'', gB b o'' (sup b o'' (ltC q) q'')⟩
    · obtain ⟨m1, z1⟩ := bs.tbls b ps q
      obtain ⟨m2, z2⟩ := ub.tbls b _ z1
      exact ⟨m1 ++ m2, by rw [z2, Array.append_assoc]⟩
    · refine HOk.kept (h := B') (fun b o q => ?_) gB
      refine (hok b o q).stay (fun c v hc r => sup c v (fun z => ?_) r) (fun _ r => r) fun _ _ r => r
      rcases hc with hc | hc
      · rw [z] at hc
        rw [← hc, nC'] at q
        cases q
      · rw [z, nC'] at hc
        cases hc
  · obtain ⟨q', h⟩ := og b o q
    rcases h with h | h
    · obtain ⟨o', z⟩ := Option.isSome_iff_exists.mp h
      have y := hh3.1 b o' z
      rw [q'] at y
      cases y
      exact z
    · exact absurd h hb
/-- [elt for target in iter if ..], the element a call that may raise what the def may -/
theorem pe_lcX {X : Cx} {E : XK} {elt tg iter : Expr} {ifs : List Expr} {scope : Scope} {own : List (Str × Nat)} {pos : Pos} {wi : TI} {g : TG} {tt : TT} {te : TE} (tk : Takes X (fun cls d _ H => E cls d H)) (hst : X.stack = X.env :: X.outer) (hfr : X.env.frame = some X.env.locals)
    (hc : X.calm = true) (hN : X.N.Nodup) (hi : PI X tg iter wi) (ok : BlkOk X.N X.env.scope scope own)
    (hg : ∀ (s : Shared) (H : Hp) (C : Addr) (cl : List (Str × Addr)) (fp : List Addr) (xe : Value → Shared → Prop), PG (blkX X s H scope (compEnvC scope cl C X.env) fp xe) tg g)
    (ht : ∀ (s : Shared) (H : Hp) (C : Addr) (cl : List (Str × Addr)) (fp : List Addr) (xe : Value → Shared → Prop), PTs (blkX X s H scope (compEnvC scope cl C X.env) fp xe) ifs tt)
    (he : ∀ (s : Shared) (H : Hp) (C : Addr) (cl : List (Str × Addr)) (fp : List Addr) (xe : Value → Shared → Prop), Passes (L2.CX X.prog X.w) (blkX X s H scope (compEnvC scope cl C X.env) fp xe) E → PE (blkX X s H scope (compEnvC scope cl C X.env) fp xe) elt te)
    (hs : ∀ x, foldedSetIterable iter X.env x = pure x := by intro _; rfl) :
    PE X (.ListComp elt [⟨tg, iter, ifs, 0⟩] scope pos) (tLc wi g tt te (own.map (·.2))) := by
  refine ⟨fun pins s σ H Q I h => ?_⟩
  rw [eval_ListComp]
  have hfree : ∀ y ∈ scope.names, y.2 = .free → ∃ c, X.env.cells.lookup y.1 = some c := fun y hy e => (ok.free y hy e).elim (fun k => I.ok.has _ (.inl k)) (fun k => I.ok.has _ (.inr k))
  refine comprehension_at (use := none) rfl hs (closure_ok hfree) ok.kind (fun y hy e => by rw [ok.uniq y hy, e])
    (thn (hi.run pins s σ H _ I h) fun xv s1 hx => thn hx fun itv s2 h2 => ?_)
  obtain ⟨it, fp, tn, J, H2, e, I2, T, st2, f2, q⟩ := h2
  subst e
  refine wpAny_newObj_type (newEnv_comp ?_) (by show 0 ≤ sizeLine; decide)
  generalize hD : s2.heap.objs.size = D
  have hDn : H2 D = none := I2.hok.fresh (Nat.le_of_eq hD)
  obtain ⟨W, ⟨m0, w0⟩, turn⟩ := q D hDn
  generalize hs3 : ({ s2 with heap := s2.heap.push { cls := .type "list", data := .seq ([] : List Value).toArray } } : Shared) = s3
  have h3 : s3.heap = s2.heap.push { cls := .type "list", data := .seq ([] : List Value).toArray } := by rw [← hs3]
  have I3 : Inv X pins σ (upd H2 D (.lst [])) s3 := by
    rw [← hs3]
    exact I2.laid (t' := s2.toks) (fun b o e => Heap.get?_push_of_some _ e) (Nat.le_of_eq hD) ⟨Nat.zero_le _, [], 0, .nil, by rw [← hD]; exact Heap.get?_push_size _ rfl⟩
  have sz : ∀ b ∈ fp, b < s2.heap.objs.size := fun b hb => (T.obj _ _ st2 b hb).elim fun o z => Heap.lt_size z.1
  have f3 : ∀ b ∈ fp, FpOk X pins (upd H2 D (.lst [])) b ∧ b < s3.heap.objs.size := fun b hb => ⟨⟨by rw [upd_ne (by rw [← hD]; exact Nat.ne_of_lt (sz b hb))]; exact (f2 b hb).1, (f2 b hb).2⟩, by rw [h3, Heap.size_push]; exact Nat.lt_succ_of_lt (sz b hb)⟩
  have st3 : tn 0 s3.heap := T.keep _ _ _ st2 fun b _ o e => by rw [h3]; exact Heap.get?_push_of_some _ e
  have I4 := block_start I3 ok hN f3
  generalize hH3 : upd H2 D (.lst []) = H3 at I3 I4 w0 f3
  show codeAny _ _ (.compStart (.ListComp elt [⟨tg, iter, ifs, 0⟩] scope pos) 0 (.ref it) (.ref D) (compEnvC scope (cellsFrom (s3.heap.objs.size + 1) scope.names (cloFrom X.env.cells scope.names [])) s3.heap.objs.size X.env)) (compEnds (model X.prog X.w) X.A X.xe none (EP X pins σ Q) (.ref D) (compEnvC scope (cellsFrom (s3.heap.objs.size + 1) scope.names (cloFrom X.env.cells scope.names [])) s3.heap.objs.size X.env)) { s3 with heap := pushCells (s3.heap.push { cls := .type "dict", data := .dict #[] }) scope.names }
  have pg := hg s3 H3 s3.heap.objs.size (cellsFrom (s3.heap.objs.size + 1) scope.names (cloFrom X.env.cells scope.names [])) fp
  have pt := ht s3 H3 s3.heap.objs.size (cellsFrom (s3.heap.objs.size + 1) scope.names (cloFrom X.env.cells scope.names [])) fp
  have pe := he s3 H3 s3.heap.objs.size (cellsFrom (s3.heap.objs.size + 1) scope.names (cloFrom X.env.cells scope.names [])) fp
  generalize hce : compEnvC scope (cellsFrom (s3.heap.objs.size + 1) scope.names (cloFrom X.env.cells scope.names [])) s3.heap.objs.size X.env = ce at I4 pg pt pe ⊢
  have cL : ce.locals = s3.heap.objs.size := by subst hce; rfl
  have cF : ce.frame = X.env.frame := by subst hce; rfl
  obtain ⟨xe, hxe⟩ : ∃ xe : Value → Shared → Prop, xe = notedBy (model X.prog X.w) X.A ce (CompFails (model X.prog X.w) X.A X.xe ce) := ⟨_, rfl⟩
  have px : Passes (L2.CX X.prog X.w) (blkX X s3 H3 scope ce fp xe) E := fun pins' σ' H9 s9 e s' I9 c => by
    show xe e s'
    rw [hxe]
    exact comp_air tk hst hfr I3 cL cF (fun b hb => (f3 b hb).1) I9 c
  have pg := pg xe
  have pt := pt xe
  have pe := pe xe px
  have up : ∀ {p : List (Addr × Obj)} {σ' : L2.St} {H' : Hp} {s' : Shared}, Inv (X.blk s3 H3 scope ce fp) p σ' H' s' → Inv (blkX X s3 H3 scope ce fp xe) p σ' H' s' := fun {p σ' H' s'} I' => by
    obtain ⟨o, a2, a3, a4, a5, a6, a7, a8, a9, a10, a11⟩ := I'
    refine ⟨?_, a2, a3, a4, a5, a6, a7, a8, a9, a10, a11⟩
    cases o
    constructor <;> assumption
  have I4 := up I4
  generalize hs4 : ({ s3 with heap := pushCells (s3.heap.push { cls := .type "dict", data := .dict #[] }) scope.names } : Shared) = s4 at I4 ⊢
  have nfp : ∀ b ∈ fp, H3 b = none := fun b hb => (f3 b hb).1.1
  have st4 : tn 0 s4.heap := T.keep _ _ _ st3 fun b _ o e => by rw [← hs4]; exact pushCells_keeps _ _ _ _ (Heap.get?_push_of_some _ e)
  have stat : ∀ {σ' : L2.St} {H' : Hp} {s' : Shared}, Inv (blkX X s3 H3 scope ce fp xe) [] σ' H' s' → (∀ b ∈ fp, H' b = none) → ∀ b ∈ fp, FpOk (blkX X s3 H3 scope ce fp xe) [] H' b := fun {σ' H' s'} I' hn b hb =>
    ⟨hn b hb, (I'.ok.exf b hb).1, I'.ok.exfs b hb, .inl hb, fun x c e => (I'.ok.exf b hb).2 x c e, fun p hp => absurd (show p ∈ ([] : List (Addr × Obj)) ++ [] from hp) (by simp)⟩
  have whole : codeAny (model X.prog X.w) X.A (.compLoop (.ListComp elt [⟨tg, iter, ifs, 0⟩] scope pos) 0 (.ref it) (.ref D) ce) (compEnds (model X.prog X.w) X.A X.xe none (EP X pins σ Q) (.ref D) ce) s4 := by
    refine compLoop_any (fun n s' => ∃ i H', Inv (blkX X s3 H3 scope ce fp xe) [] (wipe σ (own.map (·.2))) H' s' ∧ tn i s'.heap ∧ (∀ b ∈ fp, H' b = none) ∧ W i n H') ?_ m0 ⟨0, H3, I4, st4, nfp, w0⟩
    have exe : (notedBy (model X.prog X.w) X.A ce fun e s' => compEnds (model X.prog X.w) X.A X.xe none (EP X pins σ Q) (.ref D) ce (.error e) s') = xe := hxe.symm
    rw [exe]
    rintro n s5 ⟨i, H5, I5, st5, n5, w5⟩
    rcases turn i n H5 w5 with ⟨stop, qq⟩ | ⟨go, Nx, hNx, step⟩
    · refine thnF (T.done (blkX X s3 H3 scope ce fp xe) rfl rfl rfl hc i [] s5 _ H5 (fun _ _ => False) I5 (stat I5 n5) st5 stop) fun r s6 ⟨hr, I6⟩ => ?_
      subst hr
      have I7 : Inv X pins σ H5 s6 := I3.call' (ch := fp) I6.os I6.base I6.hok I6.bare fun b hb => have z := (f3 b hb).1.2; ⟨z.2.2.1, z.1, z.2.2.2.1, z.2.2.2.2⟩
      have nC : H5 ce.locals = none := I6.free
      obtain ⟨m, hn, _⟩ := I6.loc
      have f : FpOk X pins H5 ce.locals := I3.fpOk (by rw [cL]; exact Nat.le_refl _) nC
      refine ⟨m, hn, fun h'' sb => ?_⟩
      obtain ⟨f0, f1, f2', f3', f4, f5⟩ := f
      exact ⟨.ref D, H5, I7.turned (t' := s6.toks) (fun b o hb e => (sb.2 b hb).trans e) f0 f1 f3' f4 f5, rfl, qq⟩
    · refine thnF (T.item (blkX X s3 H3 scope ce fp xe) rfl rfl rfl hc i [] s5 _ H5 (fun _ _ => False) I5 (stat I5 n5) st5 go) fun r s6 ⟨u, hr, h6⟩ => ?_
      subst hr
      refine thnF h6 fun _ s7 ⟨x, H7, I7, r7, y7, st7, n7⟩ => ?_
      refine thn (pg.run _ s7 _ H7 x u _ (I7.pinned (stat I7 n7) (T.obj _ _ st7)) r7 (step x H7 y7)) fun _ s8 ⟨σ8, H8, I8, hw8, q8⟩ => thn (pt.run _ s8 σ8 H8 _ I8 q8) fun b s9 ⟨H9, I9, q9⟩ => ?_
      have fin : ∀ {s' : Shared} {H' : Hp}, Inv (blkX X s3 H3 scope ce fp xe) ([] ++ pinsAt fp s7.heap) σ8 H' s' → Nx H' → ∃ m, m < n ∧ ∃ i H', Inv (blkX X s3 H3 scope ce fp xe) [] (wipe σ (own.map (·.2))) H' s' ∧ tn i s'.heap ∧ (∀ b ∈ fp, H' b = none) ∧ W i m H' := fun {s' H'} I' nx => by
        obtain ⟨m', hm, w'⟩ := hNx H' nx
        have pin' : ∀ b ∈ fp, ∀ o, s7.heap.get? b = some o → s'.heap.get? b = some o ∧ H' b = none := fun b hb o e => have z := I'.pin (b, o) (List.mem_append_right _ (List.mem_append_right _ (mem_pinsAt hb e))); ⟨z.1, z.2.1⟩
        refine ⟨m', hm, i + 1, H', (I'.unpinned (pins := [])).weak (by rw [← hw8, wipe_length]) (fun j v e => ?_), T.keep _ _ _ st7 fun b hb o e => (pin' b hb o e).1, fun b hb => (T.obj _ _ st7 b hb).elim fun o z => (pin' b hb o z.1).2, w'⟩
        rw [← hw8] at e
        exact (wipe_some e).1
      cases b with
      | false =>
        rw [if_neg Bool.false_ne_true] at q9 ⊢
        exact fin I9 q9
      | true =>
        rw [if_pos rfl] at q9 ⊢
        exact thn (pe.run _ s9 σ8 H9 _ I9 q9) fun z s10 ⟨yv, H10, I10, r10, acc, hD10, hz10, nx⟩ => app_ok (X := blkX X s3 H3 scope ce fp xe) I10 hD10 hz10 r10 fun s11 I11 => fin I11 nx
  exact codeAny_compStart_list whole (T.self X.A 0 _ _ _ st4 whole)
/-- f(.., k = v) in the element of such a comprehension -/
theorem pe_defKP {X : Cx} {k j : Nat} {ps ks : List Str} {sp : Sp} {E : XK} {x : Str} {p pos : Pos} {e : Expr} {es : List Expr} {kws : List Keyword} {t tk : TA} (D : DefK X.prog X.w X.K X.mg X.base x k ps ks sp) (hr : Room j X.A) (hk : k ≤ j) (px : Passes (L2.CX X.prog X.w) X E)
    (hg : Gl X x) (ha : PA X (e :: es) t) (hkw : PK X kws tk) (hall : (backToKw pos (keywordEach kws X.env)).all (·.1.isSome) = true := by rfl) (hks : (backToKw pos (keywordEach kws X.env)).filterMap (·.1) = ks := by rfl)
    (hdb : (x == ("__debug__" : Str)) = false := by decide) (he : starEach (e :: es) X.env = (false, eval e X.env) :: starEach es X.env := by rfl)
    (hpl : ((backTo pos (starEach (e :: es) X.env)).any (·.1) || (backToKw pos (keywordEach kws X.env)).any (·.1.isNone)) = false := by rfl) : PE X (.Call (.Name x p) (e :: es) kws pos) (tCallS sp (fun _ => E) (tApp ks.length t tk)) :=
  pe_defKS D hr hk (fun σ pins H s e s' I c => px pins σ H s e s' I c) hg ha hkw hall hks hdb he hpl
end SL

namespace DL
open PySem PySem.Spec PyProof.Rows L2
open Evl (Ex)
/-- a list or a tuple, walked -/
def iBoth (K : PySem.W.Frag) (tl : TE) : TI := fun σ H R => tl σ H fun x H1 => ∃ a, x = .ref a ∧ ((∃ xs, SqL K H1 a xs) ∧ R (Itl K a) H1 ∨ (∃ xs, SqT K H1 a xs) ∧ R (Itt K a) H1)
theorem pi_both {X : Cx} {K : PySem.W.Frag} {tg l : Expr} {tl : TE} (h : X.K = K) (hl : PE X l tl) : PI X tg l (iBoth K tl) := by
  subst h
  refine ⟨fun pins s σ H R I hh => thn (hl.run pins s σ H _ I hh) fun v s1 ⟨x, H1, I1, r1, a, e, q⟩ => ?_⟩
  subst e
  cases r1
  have own : ∀ b ∈ [s1.heap.objs.size], FpOk X pins H1 b := fun b hb => by
    rw [List.mem_singleton.mp hb]
    exact I1.fpOk (Nat.le_refl _) (I1.hok.fresh (Nat.le_refl _))
  rcases q with ⟨⟨xs, hq⟩, q⟩ | ⟨⟨xs, hq⟩, q⟩
  · obtain ⟨its, _, pp, _⟩ := I1.list hq
    exact wpAny_pyIter_list pp.isList ⟨s1.heap.objs.size, [s1.heap.objs.size], _, _, H1, rfl, I1.kept (t' := s1.toks) fun b o e => Heap.get?_push_of_some _ e, turn_list a _, ⟨_, Heap.get?_push_size _ rfl, rfl, rfl⟩, own, q⟩
  · obtain ⟨its, _, pp, _⟩ := I1.tuple hq
    exact wpAny_pyIter_tuple (show s1.heap.IsTuple a its.toArray from pp) ⟨s1.heap.objs.size, [s1.heap.objs.size], _, _, H1, rfl, I1.kept (t' := s1.toks) fun b o e => Heap.get?_push_of_some _ e, turn_tuple a _, ⟨_, Heap.get?_push_size _ rfl, rfl, rfl⟩, own, q⟩
theorem iw_both {K : PySem.W.Frag} {s : Option Addr} {Z : List Sk} {O : Own} {tl : TE} {P : Nat → (Nat → PyData → Prop) → Prop} (h : WE K s tl Z O fun x => ∃ ds, (x = .list ds ∨ x = .tuple ds) ∧ P ds.length fun i d => ds[i]? = some d) : IW K s (iBoth K tl) Z O P := fun F σ G H c R r =>
  h F σ G H c _ fun v x G1 H1 c1 e1 hx ⟨ds, ex, p⟩ => by
    rcases ex with ex | ex
    · subst ex
      cases hx with
      | @lst a vs _ hs ha =>
        refine ⟨a, rfl, .inl ⟨⟨vs, Evl.ex_l c1.ex hs⟩, r _ _ _ G1 H1 c1 e1 p fun i G2 H2 e2 e3 => ?_⟩⟩
        have hs3 := Evl.ex_l (e2.trans e3) hs
        exact ⟨fun hi => ⟨vs, vs[i]'(by rw [dpa_len ha]; exact hi), hs3, List.getElem?_eq_getElem _⟩, fun hi => ⟨vs, hs3, by rw [dpa_len ha, hi]; exact Nat.le_refl _⟩, fun x H3 hi ⟨h1, h2⟩ => (dpa_at ha (h2 vs hs3)).elim fun d q => ⟨d, q.1, .inl ⟨h1, dp_mono e2 _ _ q.2⟩⟩⟩
    · subst ex
      cases hx with
      | @tup a vs _ hs ha =>
        refine ⟨a, rfl, .inr ⟨⟨vs, Evl.ex_t c1.ex hs⟩, r _ _ _ G1 H1 c1 e1 p fun i G2 H2 e2 e3 => ?_⟩⟩
        have hs3 := Evl.ex_t (e2.trans e3) hs
        exact ⟨fun hi => ⟨vs, vs[i]'(by rw [dpa_len ha]; exact hi), hs3, List.getElem?_eq_getElem _⟩, fun hi => ⟨vs, hs3, by rw [dpa_len ha, hi]; exact Nat.le_refl _⟩, fun x H3 hi ⟨h1, h2⟩ => (dpa_at ha (h2 vs hs3)).elim fun d q => ⟨d, q.1, .inl ⟨h1, dp_mono e2 _ _ q.2⟩⟩⟩
end DL

/-! SLz: a comprehension of data whose number of turns is drawn. -/
namespace SL
open PySem PySem.Spec PyProof.Rows L2
open Evl (Ex)
theorem wl_compN {K : PySem.W.Frag} {s : Sx} {Z : List Sk} {O : Own} {wi : TI} {g : TG} {tt : TT} {te : TE} {vs : List Nat} {PL : List PyData → Own → Prop} (og : Ow g vs) (I : Nat → List PyData → Own → Prop) (C : Nat → Prop) (Yd : Nat → PyData → Prop) (hw : IW K s wi Z O fun n' Y' O' => C n' ∧ Y' = Yd ∧ I 0 [] O') (hn : ∀ n, C n → n ≤ 50000)
    (hil : ∀ i acc O', I i acc O' → acc.length ≤ i)
    (hs : ∀ n, C n → ∀ i d acc O' p, i < n → Yd i d → I i acc O' → GW K s g (.d d) (wipeZ Z vs) ((p, .lst (acc.map .d)) :: O') fun Z2 O2 => O2 = (p, .lst (acc.map .d)) :: O' ∧ WT K s tt Z2 O2 fun b O3 => if b = true then WE K s te Z2 O3 fun y O4 => ∃ w O5, y = .d w ∧ O4 = (p, .lst (acc.map .d)) :: O5 ∧ I (i + 1) (acc ++ [w]) O5 else ∃ O5, O3 = (p, .lst (acc.map .d)) :: O5 ∧ I (i + 1) acc O5)
    (hd : ∀ n, C n → ∀ acc O', I n acc O' → PL acc O') : WL K s (tLc wi g tt te vs) Z O PL := by
  refine we_compL og (fun i ks O' => ∃ acc, ks = acc.map .d ∧ I i acc O') (fun n Y L => C n ∧ Y = Yd ∧ L = fun _ => True) (iwl_up ?_) (fun n _ _ h => hn n h.1) (fun _ _ _ ⟨_, _, e⟩ _ _ _ _ _ => by rw [e]; exact True.intro) (fun i ks O' ⟨acc, e, h⟩ => by rw [e, List.length_map]; exact hil i acc O' h) ?_ (fun n _ _ ⟨hc, _⟩ ks O' p ⟨acc, e, h⟩ => ⟨p, acc, O', rfl, by rw [e], hd n hc acc O' h⟩)
  · intro F x σ G H c R r
    exact hw F x σ G H c R fun J n Yd O' G1 H1 c1 e1 ⟨e2, e3, h0⟩ hj => r J n Yd O' G1 H1 c1 e1 ⟨⟨e2, e3, rfl⟩, [], rfl, h0⟩ hj
  · rintro n Yd' L ⟨hc, rfl, _⟩ i d ks O' p hi hy ⟨acc, rfl, inv⟩
    intro F x v σ G H c hx Q q
    refine hs n hc i d acc O' p hi hy inv F x v σ G H c hx Q fun Z' O2 σ' G' H' c' e' ⟨eo, body⟩ => q Z' O2 σ' G' H' c' e' ⟨eo, ?_⟩
    refine wt_imp body fun b O3 hb => ?_
    cases b with
    | true =>
      rw [if_pos rfl] at hb ⊢
      refine we_imp hb fun y O4 ⟨w, O5, ey, eo5, h⟩ => ⟨O5, eo5, acc ++ [w], by rw [ey, List.map_append]; rfl, h⟩
    | false =>
      rw [if_neg Bool.false_ne_true] at hb ⊢
      obtain ⟨O5, eo5, h⟩ := hb
      exact ⟨O5, eo5, acc, rfl, h⟩
/-- own cells that are needed no more behind a statement -/
theorem sw_lose {K : PySem.W.Frag} {s : Sx} {Z : List Sk} {O : Own} {D : DE} {t : TS} (h : SW K s t Z O { D with nx := fun Z' _ => D.nx Z' [] }) : SW K s t Z O D :=
  fun F x σ G H E c cv => h F x σ G H E c ⟨fun Z O σ G H c q => cv.nx Z [] σ G H c.drop q, cv.rt, cv.bk, cv.ct⟩
end SL




namespace My
open PySem PySem.Spec PyProof.Rows L2 DL
open Evl (Ex)
def top (i : Nat) : Stmt := PySem.Challenge.pw_slopeyard_k07_lists_of_rows_written_and.main.body.getD i (.Pass ⟨0, 0, 0, 0⟩)
abbrev s_BadText___init__ : Stmt := inClass (top 2) 0
abbrev s_number_text : Stmt := top 7
theorem sc_number_text : FnScope ["number", "groups", "left", "group", "figures"] ["number"] (defScope s_number_text) := ⟨rfl, rfl, rfl, by decide +kernel, rfl, by decide +kernel, by decide +kernel⟩
abbrev s_read_number : Stmt := top 8
theorem sc_read_number : FnScope ["text", "figures"] ["text"] (defScope s_read_number) := ⟨rfl, rfl, rfl, by decide +kernel, rfl, by decide +kernel, by decide +kernel⟩
abbrev s_row_text : Stmt := top 13
theorem sc_row_text : FnScope ["row", "weights", "bound", "weight"] ["row"] (defScope s_row_text) := ⟨rfl, rfl, rfl, by decide +kernel, rfl, by decide +kernel, by decide +kernel⟩
abbrev s_read_row : Stmt := top 14
theorem sc_read_row : FnScope ["text", "count", "words", "numbers", "word"] ["text", "count"] (defScope s_read_row) := ⟨rfl, rfl, rfl, by decide +kernel, rfl, by decide +kernel, by decide +kernel⟩
abbrev s_rows_text : Stmt := top 15
theorem sc_rows_text : FnScope ["rows", "row"] ["rows"] (defScope s_rows_text) := ⟨rfl, rfl, rfl, by decide +kernel, rfl, by decide +kernel, by decide +kernel⟩
abbrev s_read_rows : Stmt := top 16
theorem sc_read_rows : FnScope ["text", "count", "part"] ["text", "count"] (defScope s_read_rows) := ⟨rfl, rfl, rfl, by decide +kernel, rfl, by decide +kernel, by decide +kernel⟩
abbrev s__row_texts : Stmt := top 17
theorem sc__row_texts : FnScope ["text"] ["text"] (defScope s__row_texts) := ⟨rfl, rfl, rfl, by decide +kernel, rfl, by decide +kernel, by decide +kernel⟩
abbrev s__law_box : Stmt := top 19
theorem sc__law_box : FnScope ["_law_script"] ["_law_script"] (defScope s__law_box) := ⟨rfl, rfl, rfl, by decide +kernel, rfl, by decide +kernel, by decide +kernel⟩
abbrev s__law_take : Stmt := top 20
theorem sc__law_take : FnScope ["_law_box_here", "_law_many", "_law_cell", "_law_seed", "_law_got"] ["_law_box_here", "_law_many"] (defScope s__law_take) := ⟨rfl, rfl, rfl, by decide +kernel, rfl, by decide +kernel, by decide +kernel⟩
abbrev s__law_near : Stmt := top 21
theorem sc__law_near : FnScope ["_law_box_here", "_law_far"] ["_law_box_here", "_law_far"] (defScope s__law_near) := ⟨rfl, rfl, rfl, by decide +kernel, rfl, by decide +kernel, by decide +kernel⟩
abbrev s__law_same : Stmt := top 22
theorem sc__law_same : FnScope ["_law_found", "_law_due", "_law_one", "_law_other"] ["_law_found", "_law_due"] (defScope s__law_same) := ⟨rfl, rfl, rfl, by decide +kernel, rfl, by decide +kernel, by decide +kernel⟩
abbrev s__law_weights : Stmt := top 23
theorem sc__law_weights : FnScope ["_law_box_here", "_law_my_count", "_law_far", "_law_way", "_law_at", "_law_sign", "_law_found", "_law_k"] ["_law_box_here", "_law_my_count", "_law_far"] (defScope s__law_weights) := ⟨rfl, rfl, rfl, by decide +kernel, rfl, by decide +kernel, by decide +kernel⟩
abbrev s__law_row : Stmt := top 24
theorem sc__law_row : FnScope ["_law_box_here", "_law_my_count", "_law_far"] ["_law_box_here", "_law_my_count", "_law_far"] (defScope s__law_row) := ⟨rfl, rfl, rfl, by decide +kernel, rfl, by decide +kernel, by decide +kernel⟩
abbrev s__law_number_in : Stmt := top 25
theorem sc__law_number_in : FnScope ["_law_word", "_law_figures", "_law_sign"] ["_law_word"] (defScope s__law_number_in) := ⟨rfl, rfl, rfl, by decide +kernel, rfl, by decide +kernel, by decide +kernel⟩
abbrev s__law_row_in : Stmt := top 26
theorem sc__law_row_in : FnScope ["_law_text", "_law_my_count", "_law_words", "_law_numbers", "_law_word"] ["_law_text", "_law_my_count"] (defScope s__law_row_in) := ⟨rfl, rfl, rfl, by decide +kernel, rfl, by decide +kernel, by decide +kernel⟩
abbrev s__law_row_text : Stmt := top 27
theorem sc__law_row_text : FnScope ["_law_row_here", "_law_weight"] ["_law_row_here"] (defScope s__law_row_text) := ⟨rfl, rfl, rfl, by decide +kernel, rfl, by decide +kernel, by decide +kernel⟩
abbrev s__law_bent : Stmt := top 28
theorem sc__law_bent : FnScope ["_law_box_here", "_law_text", "_law_at", "_law_sign", "_law_words", "_law_to", "_law_odd", "_law_way"] ["_law_box_here", "_law_text"] (defScope s__law_bent) := ⟨rfl, rfl, rfl, by decide +kernel, rfl, by decide +kernel, by decide +kernel⟩
abbrev s__law_rows_in : Stmt := top 29
theorem sc__law_rows_in : FnScope ["_law_text", "_law_my_count", "_law_found", "_law_piece"] ["_law_text", "_law_my_count"] (defScope s__law_rows_in) := ⟨rfl, rfl, rfl, by decide +kernel, rfl, by decide +kernel, by decide +kernel⟩
abbrev s__law_rows_text : Stmt := top 30
theorem sc__law_rows_text : FnScope ["_law_rows", "_law_row_here"] ["_law_rows"] (defScope s__law_rows_text) := ⟨rfl, rfl, rfl, by decide +kernel, rfl, by decide +kernel, by decide +kernel⟩
abbrev s__law_read : Stmt := top 31
theorem sc__law_read : FnScope ["_law_text", "_law_my_count", "e"] ["_law_text", "_law_my_count"] (defScope s__law_read) := ⟨rfl, rfl, rfl, by decide +kernel, rfl, by decide +kernel, by decide +kernel⟩
abbrev s_law : Stmt := top 32
theorem sc_law : FnScope ["_law_script", "_law_box_here", "_law_k", "_law_my_count", "_law_turn", "_law_rows", "_law_text", "_law_handed", "_law_bent_here", "_law_due", "_law_again", "_law_found", "_law_at"] ["_law_script"] (defScope s_law) := ⟨rfl, rfl, rfl, by decide +kernel, rfl, by decide +kernel, by decide +kernel⟩
structure Txt (mg : Str → Option Value) : Prop where
  all : mg "all" = none
  bool : mg "bool" = none
  int : mg "int" = none
  isinstance : mg "isinstance" = none
  len : mg "len" = none
  list : mg "list" = none
  range : mg "range" = none
  str : mg "str" = none
  tuple : mg "tuple" = none
  zip : mg "zip" = none
  c__LONG_BITS : ∃ u, mg "_LONG_BITS" = some u ∧ RelV (.int 10000) u
  c__MOST_FIGURES : ∃ u, mg "_MOST_FIGURES" = some u ∧ RelV (.int 20) u
  c__SIGN : ∃ u, mg "_SIGN" = some u ∧ RelV (.str "<=") u
  c__NONE : ∃ u, mg "_NONE" = some u ∧ RelV (.str "all") u
  c__BETWEEN : ∃ u, mg "_BETWEEN" = some u ∧ RelV (.str "; ") u
theorem ite_true_of {c : Bool} {A B : Prop} (hc : c = true) (h : A) : if c = true then A else B := by
  rw [if_pos hc]
  exact h
theorem ite_false_of {c : Bool} {A B : Prop} (hc : c = false) (h : B) : if c = true then A else B := by
  rw [hc, if_neg Bool.false_ne_true]
  exact h
theorem item_any {ds : List PyData} {r : Int} {P : PyData → Prop} (h0 : 0 ≤ r) (h1 : r < (ds.length : Int)) (h : ∀ d ∈ ds, P d) : ∃ i d, PyData.int r = .int i ∧ ItemAt (.list ds) i d ∧ P d := by
  have hl : r.toNat < ds.length := by omega
  refine ⟨r, ds[r.toNat], rfl, .lst ?_, h _ (List.getElem_mem hl)⟩
  unfold atI ixN
  rw [if_pos h0, if_pos h1]
  exact List.getElem?_eq_getElem hl

local macro_rules | `(tactic| walk_at "dn") => `(tactic| try dsimp only [cxOf, Cx.nox, Cx.wish])
local macro_rules | `(tactic| walk_at "dz") => `(tactic| try simp only [List.set_cons_succ, List.set_cons_zero])
local macro_rules | `(tactic| walk_at "dl") => `(tactic| first
  | with_reducible refine we_int ?_
  | with_reducible refine we_bl ?_
  | with_reducible refine we_non ?_
  | with_reducible refine we_str ?_
  | (with_reducible refine we_var (d := ?dd) ?hh ?_; (case hh => with_unfolding_all rfl))
  | with_reducible refine we_opI ?_
  | with_reducible refine we_opB ?_
  | with_reducible refine we_opC ?_
  | with_reducible refine we_ixV ?_
  | with_reducible refine we_ixI ?_
  | with_reducible refine we_ixC ?_
  | with_reducible refine we_eqD ?_
  | with_reducible refine we_neD ?_
  | with_reducible refine we_neg ?_
  | with_reducible refine we_tupD ?_
  | with_reducible refine we_lstD ?_
  | with_reducible refine wl_lstD ?_
  | with_reducible refine we_callP ?_
  | (with_reducible refine we_callX ?hh ?_; (case hh => with_unfolding_all rfl))
  | with_reducible refine wd_nil ?_
  | with_reducible refine wd_cons ?_
  | with_reducible refine ⟨(rfl : Nat.ble _ _ = true), ?_⟩
  | with_reducible refine we_if ?_
  | with_reducible refine we_andV ?_
  | with_reducible refine we_orV ?_
  | with_reducible refine we_notV ?_
  | with_reducible refine we_isN ?_
  | with_reducible refine we_notN ?_
  | with_reducible refine we_tuple ?_
  | with_reducible refine we_listB ?_
  | with_reducible refine we_ncall ?_
  | with_reducible refine wt_test ?_
  | with_reducible refine wt_B ?_
  | with_reducible refine wt_and ?_
  | with_reducible refine wt_or ?_
  | with_reducible refine wt_not ?_
  | with_reducible refine wa_nil ?_
  | with_reducible refine wa_ty ?_
  | (with_reducible refine wa_raw (w := ?ww) ?hh ?_; (case hh => with_unfolding_all rfl))
  | with_reducible refine wa_cons ?_
  | (with_reducible refine sw_seq ?_; (try dsimp only))
  | (with_reducible refine sw_ret ?_; (try dsimp only))
  | (with_reducible refine sw_retN ?_; (try dsimp only))
  | (with_reducible refine sw_next ?_; (try dsimp only))
  | with_reducible refine sw_if ?_
  | (with_reducible refine sw_asg ?_; (try dsimp only); (try simp only [List.set_cons_succ, List.set_cons_zero]))
  | (with_reducible refine sw_par3 ?_; (try dsimp only); (try simp only [List.set_cons_succ, List.set_cons_zero]))
  | (with_reducible refine sw_par ?_; (try dsimp only); (try simp only [List.set_cons_succ, List.set_cons_zero]))
  | with_reducible refine ⟨_, _, rfl, rfl, And.intro ?_ ?_⟩
  | with_reducible refine ⟨_, _, rfl, rfl, ?_⟩
  | with_reducible refine ⟨_, _, rfl, ItemAt.lst rfl, ?_⟩
  | with_reducible refine ⟨_, _, rfl, ItemAt.tup rfl, ?_⟩
  | with_reducible refine ⟨_, .inl rfl, ?_⟩
  | with_reducible refine ⟨_, .inr rfl, ?_⟩
  | with_reducible refine ⟨_, nc_gcd, ?_⟩
  | with_reducible refine ⟨_, nc_abs, ?_⟩
  | with_reducible refine ⟨_, nc_int, ?_⟩
  | with_reducible refine ⟨_, nc_intb, ?_⟩
  | with_reducible refine ⟨_, nc_isi (by simp), ?_⟩
  | (refine ⟨_, nc_len (by with_unfolding_all rfl), ?_⟩)
  | with_reducible refine ⟨_, rfl, ?_⟩
  | with_reducible refine ⟨rfl, rfl, ?_⟩
  | with_reducible refine iteT ?_
  | with_reducible refine iteF ?_)

local macro_rules | `(tactic| walk_at "dm") => `(tactic| ((fail_if_success (with_reducible refine sw_if ?_)); walk_at "dl"))

local macro_rules | `(tactic| walk_at "dl") => `(tactic| first
  | with_reducible refine wd_star ?_
  | with_reducible refine wl_slice ?_
  | with_reducible refine we_slTup ?_
  | with_reducible refine we_slStr ?_
  | with_reducible refine wo_no ?_
  | with_reducible refine wo_part ?_
  | with_reducible refine wl_cat ?_
  | with_reducible refine wl_rep ?_
  | with_reducible refine we_catT ?_
  | with_reducible refine we_chainI ?_
  | with_reducible refine we_of (te := tSl _ _ _ _) ?_
  | with_reducible refine we_of (te := tOp rCat _ _) ?_
  | with_reducible refine we_of (te := tOp rRep _ _) ?_)

local macro_rules | `(tactic| walk_at "dl") => `(tactic| first
  | with_reducible refine we_m0B ?_
  | with_reducible refine we_m1B ?_
  | with_reducible refine we_bits ?_
  | with_reducible refine we_addS ?_
  | with_reducible refine we_inSign ?_)

/-- sizes -/
theorem sz_mul {a b : Nat} {i j : Int} (h1 : i.natAbs < 2 ^ a) (h2 : j.natAbs < 2 ^ b) : (i * j).natAbs < 2 ^ (a + b) := wide_lt h1 h2
theorem sz_add {a : Nat} {i j : Int} (h1 : i.natAbs < 2 ^ a) (h2 : j.natAbs < 2 ^ a) : (i + j).natAbs < 2 ^ (a + 1) := by
  have e : 2 ^ (a + 1) = 2 ^ a * 2 := Nat.pow_succ ..
  omega
theorem sz_sub {a : Nat} {i j : Int} (h1 : i.natAbs < 2 ^ a) (h2 : j.natAbs < 2 ^ a) : (i - j).natAbs < 2 ^ (a + 1) := by
  have e : 2 ^ (a + 1) = 2 ^ a * 2 := Nat.pow_succ ..
  omega
theorem sz_up {a b : Nat} {i : Int} (h1 : i.natAbs < 2 ^ a) (h : a ≤ b) : i.natAbs < 2 ^ b := Nat.lt_of_lt_of_le h1 (Nat.pow_le_pow_right (by decide) h)
theorem lt_of_sz {i : Int} {a : Nat} (h : i.natAbs < 2 ^ a) : i < 2 ^ a := by
  have : ((2 ^ a : Nat) : Int) = 2 ^ a := by simp
  omega
theorem mulZ {i j : Int} {a b : Nat} (h1 : i.natAbs < 2 ^ a) (h2 : j.natAbs < 2 ^ b) (ha : a ≤ 250) (hb : b ≤ 250) : CMulW i j := mulS (sz_up h1 ha) (sz_up h2 hb)

theorem ok__law_take {P : Program} {w : World} {K : PySem.W.Frag} {mg : Str → Option Value} {base : Heap} (Fn : FunAt K mg "_law_take" s__law_take ["_law_box_here", "_law_many"]) (T : Txt mg) : Def P w K mg base "_law_take" 1 ["_law_box_here", "_law_many"] (spB K R_take) := by
  refine fn_B Fn sc__law_take (fun ds Q ⟨m, e, _⟩ => by rw [e]; rfl) fun f cdv A outer s H E hr => ⟨_, (pss_cons (ps_if (PW.pt (pw_and (pt_cmpR (op_eqDK (K := K) rfl hr.units) (pe_ix (ix_seqK (K := K) rfl) (pv 0) pe_int (fun _ _ => rfl)) pe_int (nomark _)) (pw_and1 (pt_cmpR op_lt (pe_ix (ix_seqK (K := K) rfl) (pv 0) pe_int (fun _ _ => rfl)) (pe_callB (call_lenK (K := K) rfl) (by rfl) T.len (by decide +kernel) (pa_cons (pe_ix (ix_seqK (K := K) rfl) (pv 0) pe_int (fun _ _ => rfl)) pa_nil)) (nomark _))))) (pss_cons (ps_asg (pe_ix (ix_seqK (K := K) rfl) (pe_ix (ix_seqK (K := K) rfl) (pv 0) pe_int (fun _ _ => rfl)) (pe_ix (ix_seqK (K := K) rfl) (pv 0) pe_int (fun _ _ => rfl)) (fun _ _ => rfl)) (pg_name (i := 2) sc__law_take.nd rfl (Or.inl rfl)))
      (pss_cons (ps_asg (pe_op op_add (pe_ix (ix_seqK (K := K) rfl) (pv 0) pe_int (fun _ _ => rfl)) pe_int) (pg_sub (pv 0) pe_int set_list))
      (pss_one (ps_if (pt_cmpR op_ge (pv 2) (pe_op op_pow pe_int pe_int) (nomark _)) (pss_one (ps_asg (pv 2) (pg_sub (pv 0) pe_int set_list))) (pss_cons (ps_asg (pe_op op_add (pe_op op_mulW (pe_ix (ix_seqK (K := K) rfl) (pv 0) pe_int (fun _ _ => rfl)) pe_int) (pe_op op_mod (pv 2) pe_int)) (pg_name (i := 3) sc__law_take.nd rfl (Or.inl rfl)))
      (pss_one (ps_asg (pe_op op_mod (pe_op op_add (pv 3) (pe_op op_mulW (pe_ix (ix_seqK (K := K) rfl) (pv 0) pe_int (fun _ _ => rfl)) pe_int)) pe_int) (pg_sub (pv 0) pe_int set_list)))))))) pss_nil)
      (pss_cons (ps_if (pt_cmpR op_gt (pe_ix (ix_seqK (K := K) rfl) (pv 0) pe_int (fun _ _ => rfl)) pe_int (nomark _)) (pss_cons (ps_asg (pe_op op_mod (pe_ix (ix_seqK (K := K) rfl) (pv 0) pe_int (fun _ _ => rfl)) (pv 1)) (pg_name (i := 4) sc__law_take.nd rfl (Or.inl rfl)))
      (pss_cons (ps_asg (pe_op op_fdivW (pe_ix (ix_seqK (K := K) rfl) (pv 0) pe_int (fun _ _ => rfl)) (pv 1)) (pg_sub (pv 0) pe_int set_list))
      (pss_one (ps_ret (pv 4))))) pss_nil)
      (pss_cons (ps_asg (pe_op op_add (pe_op op_mulW (pe_ix (ix_seqK (K := K) rfl) (pv 0) pe_int (fun _ _ => rfl)) (pe_ix (ix_seqK (K := K) rfl) (pv 0) pe_int (fun _ _ => rfl))) (pe_op op_mulW (pe_ix (ix_seqK (K := K) rfl) (pv 0) pe_int (fun _ _ => rfl)) pe_int)) (pg_name (i := 3) sc__law_take.nd rfl (Or.inl rfl)))
      (pss_cons (ps_asg (pe_op op_mod (pe_op op_add (pe_op op_add (pv 3) pe_int) (pe_ix (ix_seqK (K := K) rfl) (pv 0) pe_int (fun _ _ => rfl))) pe_int) (pg_sub (pv 0) pe_int set_list))
      (pss_one (ps_ret (pe_op op_mod (pe_op op_add (pe_op op_fdivW (pe_ix (ix_seqK (K := K) rfl) (pv 0) pe_int (fun _ _ => rfl)) pe_int) (pe_op op_mulW (pe_op op_mod (pe_ix (ix_seqK (K := K) rfl) (pv 0) pe_int (fun _ _ => rfl)) pe_int) pe_int)) (pv 1)))))))), fun b ds Q hR => ?_⟩
  obtain ⟨m, rfl, hm0, hm1, k⟩ := hR
  intro F σ G H E c cv
  have hz : ∃ a2 a3 a4, σ = [some (.ref b), some (.int m), a2, a3, a4] := by
    have l5 : σ.length = 5 := c.len
    match σ, l5, c with
    | [x0, x1, x2, x3, x4], _, c =>
      obtain ⟨o, h1, h2⟩ := c.sl 0 _ rfl
      obtain ⟨o', h3, v, h4, h5⟩ := c.sl 1 _ rfl
      cases h1
      cases h3
      cases h4
      cases h5
      have h2 : x0 = some (.ref b) := h2
      subst h2
      exact ⟨_, _, _, rfl⟩
  obtain ⟨a2, a3, a4, rfl⟩ := hz
  obtain ⟨cc, ns, i, x, sd, b1, b2, b3, b4, i0, i1, x0, s0, s1⟩ := c.box b rfl
  have fin : ∀ (H' : Hp) (i x sd : Int) (r : Int), H' b = some (.lst [.ref cc, .int i, .int x, .int sd]) → (∀ a o, a ≠ b → H a = some o → H' a = some o) → 0 ≤ i → i ≤ 63 → 0 ≤ x → 0 ≤ sd → sd < 2147483399 → 0 ≤ r → r < m → E.rt (.int r) H' := by
    intro H' i x sd r hb off h1 h2 h3 h4 h5 h6 h7
    refine cv.rt (.int r) (.int r) G H' (c.growB (Evl.Ex.refl _) (fun a o h => ?_) off (fun _ _ _ => rfl) ⟨cc, ns, i, x, sd, hb, b2, b3, b4, h1, h2, h3, h4, h5⟩).forget (.int r) (k r h6 h7)
    exact off a o (fun z => by rw [z, b2] at h; cases h) (c.ex a o h)
  have sqc : ∀ (H' : Hp), (∀ a o, a ≠ b → H a = some o → H' a = some o) → SqL K H' cc (ns.map V.int) := fun H' off => Evl.ex_l (H := G) (fun a o h => off a o (fun z => by rw [z, b2] at h; cases h) (c.ex a o h)) b3
  have ix : ∀ (H' : Hp) (σ' : L2.St) (v : V) (xs : List V) (j : Int), σ'[0]? = some (some (.ref b)) → H' b = some (.lst xs) → atI xs j = some v → RE (tIx K j) σ' H' v := fun H' σ' v xs j h1 h2 h3 => re_ix (re_var h1) (Evl.sq_of h2) re_c h3
  -- the first if
  refine seq_tail (fun σ' H' => ∃ a2 a3 a4 i x sd, σ' = [some (.ref b), some (.int m), a2, a3, a4] ∧ H' b = some (.lst [.ref cc, .int i, .int x, .int sd]) ∧ (∀ a o, a ≠ b → H a = some o → H' a = some o) ∧ 0 ≤ i ∧ i ≤ 63 ∧ 0 ≤ x ∧ 0 ≤ sd ∧ sd < 2147483399) ?tail (fun N hN => ?main)
  case main =>
    refine rs_if (rt_and (rt_test (re_eq (ix H _ _ _ 2 rfl b1 atI4.2.2.1) re_c)) (rt_test (re_B (ix H _ _ _ 1 rfl b1 atI4.2.1) (re_len (ix H _ _ _ 0 rfl b1 atI4.1) (sqc H (fun _ _ _ h => h)))))) (fun hc => ?_) (fun _ => hN _ _ ⟨a2, a3, a4, i, x, sd, rfl, b1, fun _ _ _ h => h, i0, i1, x0, s0, s1⟩)
    have hc2 : i < (ns.length : Int) := by
      have := (Bool.and_eq_true _ _ ▸ hc).2
      simpa using this
    have hat : ∃ z : Int, atI (ns.map V.int) i = some (.int z) := by
      have hl : i.toNat < ns.length := by omega
      refine ⟨ns[i.toNat], ?_⟩
      unfold atI ixN
      rw [if_pos i0, if_pos (by rw [List.length_map]; exact hc2)]
      show (ns.map V.int)[i.toNat]? = _
      rw [List.getElem?_map, List.getElem?_eq_getElem hl]
      rfl
    obtain ⟨z, hz⟩ := hat
    refine rs_seq (rs_asg (re_ix (ix H _ _ _ 0 rfl b1 atI4.1) (sqc H (fun _ _ _ h => h)) (ix H _ _ _ 1 rfl b1 atI4.2.1) hz) ?_)
    refine rs_seq (rs_set (re_I (ix H _ _ _ 1 rfl b1 atI4.2.1) re_c) (re_var rfl) re_c b1 rfl ?_)
    have off1 : ∀ (o1 : HO) a o, a ≠ b → H a = some o → (upd H b o1) a = some o := fun o1 a o ha h => by
      rw [upd_ne ha]
      exact h
    refine rs_if (rt_test (re_B (re_var rfl) (re_C re_c re_c ⟨by decide, by decide, by decide⟩))) (fun hge => ?_) (fun _ => ?_)
    · refine rs_set (re_var rfl) (re_var rfl) re_c upd_same rfl ?_
      have hz18 : (10 : Int) ^ (Int.toNat 18) ≤ z := by simpa using hge
      have hz0 : 0 ≤ z := Int.le_trans (by decide) hz18
      refine hN _ _ ⟨_, a3, a4, i + 1, z, sd, rfl, upd_same, fun a o ha h => ?_, by omega, by omega, hz0, s0, s1⟩
      rw [upd_ne ha]
      exact off1 _ a o ha h
    · have hmod : 0 ≤ z % 2147483563 ∧ z % 2147483563 < 2147483563 := ⟨Int.emod_nonneg _ (by decide), Int.emod_lt_of_pos _ (by decide)⟩
      refine rs_seq (rs_asg (re_I (re_C (ix _ _ _ _ 3 rfl upd_same atI4.2.2.2) re_c (mulS (by omega) (by decide))) (re_C (re_var rfl) re_c (by show (0 : Int) < 2147483563; decide))) ?_)
      refine rs_set (re_C (re_I (re_var rfl) (re_C (ix _ _ _ _ 1 rfl upd_same atI4.2.1) re_c (mulS (by omega) (by decide)))) re_c (by show (0 : Int) < 2147483399; decide)) (re_var rfl) re_c upd_same rfl ?_
      refine hN _ _ ⟨_, _, a4, i + 1, x, _, rfl, upd_same, fun a o ha h => ?_, by omega, by omega, x0, Int.emod_nonneg _ (by decide), Int.emod_lt_of_pos _ (by decide)⟩
      rw [upd_ne ha]
      exact off1 _ a o ha h
  rintro σ' H' ⟨a2, a3, a4, i, x, sd, rfl, hb, off, i0, i1, x0, s0, s1⟩
  -- the second if
  refine seq_tail (fun σ' H'' => σ' = [some (.ref b), some (.int m), a2, a3, a4] ∧ H'' = H') ?tail2 (fun N hN => ?main2)
  case main2 =>
    refine rs_if (rt_test (re_B (ix H' _ _ _ 2 rfl hb atI4.2.2.1) re_c)) (fun hx => ?_) (fun _ => hN _ _ ⟨rfl, rfl⟩)
    refine rs_seq (rs_asg (re_C (ix H' _ _ _ 2 rfl hb atI4.2.2.1) (re_var rfl) hm0) ?_)
    refine rs_seq (rs_set (re_C (ix H' _ _ _ 2 rfl hb atI4.2.2.1) (re_var rfl) (divS hm0 (by omega))) (re_var rfl) re_c hb rfl ?_)
    refine rs_ret (re_var rfl) ?_
    refine fin _ i (x / m) sd _ upd_same (fun a o ha h => ?_) i0 i1 (Int.ediv_nonneg x0 (by omega)) s0 s1 (Int.emod_nonneg _ (by omega)) (Int.emod_lt_of_pos _ hm0)
    rw [upd_ne ha]
    exact off a o ha h
  rintro _ _ ⟨rfl, rfl⟩
  refine rs_seq (rs_asg (re_I (re_C (ix _ _ _ _ 3 rfl hb atI4.2.2.2) (ix _ _ _ _ 3 rfl hb atI4.2.2.2) (mulS (by omega) (by omega))) (re_C (ix _ _ _ _ 3 rfl hb atI4.2.2.2) re_c (mulS (by omega) (by decide)))) ?_)
  have sq0 : 0 ≤ sd * sd := Int.mul_nonneg s0 s0
  refine rs_seq (rs_set (re_C (re_I (re_I (re_var rfl) re_c) (ix _ _ _ _ 1 rfl hb atI4.2.1)) re_c (by show (0 : Int) < 2147483399; decide)) (re_var rfl) re_c hb rfl ?_)
  generalize hsd : (sd * sd + sd * 40692 + 1234577 + i) % 2147483399 = sd'
  have t0 : 0 ≤ sd' := by
    rw [← hsd]
    exact Int.emod_nonneg _ (by decide)
  have t1 : sd' < 2147483399 := by
    rw [← hsd]
    exact Int.emod_lt_of_pos _ (by decide)
  refine rs_ret (re_C (re_I (re_C (ix _ _ _ _ 3 rfl upd_same atI4.2.2.2) re_c (divS (by decide) (by decide))) (re_C (re_C (ix _ _ _ _ 3 rfl upd_same atI4.2.2.2) re_c (by show (0 : Int) < 10007; decide)) re_c (mulS (by omega) (by decide)))) (re_var rfl) hm0) ?_
  refine fin _ i x sd' _ (by rw [upd_same]) (fun a o ha h => ?_) i0 i1 x0 t0 t1 (Int.emod_nonneg _ (by omega)) (Int.emod_lt_of_pos _ hm0)
  rw [upd_ne ha]
  exact off a o ha h

/-- the box is made -/
def spBox (K : PySem.W.Frag) : Sp := fun vs H Q _ => ∃ (a : Addr) (ns : List Int), vs = [.ref a] ∧ SqL K H a (ns.map V.int) ∧ ∀ p c H', H p = none → H c = none → c ≠ p → Ex H H' → (∃ i : Int, H' p = some (.lst [.ref c, .int 0, .int 0, .int i]) ∧ 0 ≤ i ∧ i < 2147483399) → H' c = some (.lst ((ns.take 63).map V.int)) → Q (.ref p) H'
theorem cut_int (ns : List Int) : cutV (ns.map V.int) none (some 63) = (ns.take 63).map V.int := by
  unfold cutV
  have h : HT.sIx (ns.map V.int).length 0 none = 0 := rfl
  rw [h, List.drop_zero, List.map_take]
  have h2 : HT.sIx (ns.map V.int).length (ns.map V.int).length (some 63) = min 63 (ns.map V.int).length := HT.sIx_nat _ _ 63
  rw [h2, Nat.sub_zero, ← List.take_take, List.take_length]
theorem ok__law_box {P : Program} {w : World} {K : PySem.W.Frag} {mg : Str → Option Value} {base : Heap} (Fn : FunAt K mg "_law_box" s__law_box ["_law_script"]) (T : Txt mg) : Def P w K mg base "_law_box" 1 ["_law_script"] (spBox K) := by
  obtain ⟨f, fd, hf, hm, hbd⟩ := Fn.ex
  refine ⟨f, fd, hm, hf.kp, hbd, hf.ok sc__law_box (fun vs H Q E h => ?_) fun cdv A outer s H vs Q E hr h => ?_⟩
  · obtain ⟨a, ns, e, _⟩ := h
    rw [e]
    rfl
  obtain ⟨a, ns, rfl, hs, k⟩ := h
  refine ⟨_, (pss_one (ps_ret (pe_lst (pa_cons (pe_callTy (call_list_ofK (K := K) rfl) (by rfl) T.list (by decide +kernel) (pa_cons (pe_slice (sl_listK (K := K) rfl) (pv 0) po_none (po_some pe_int)) pa_nil)) (pa_cons pe_int (pa_cons pe_int (pa_cons (pe_op op_add pe_int (pe_op op_mulW pe_int (pe_callB (call_lenK (K := K) rfl) (by rfl) T.len (by decide +kernel) (pa_cons (pe_slice (sl_listK (K := K) rfl) (pv 0) po_none (po_some pe_int)) pa_nil)))) pa_nil))))))), ?_⟩
  refine ⟨.ref a, rfl, 63, rfl, a, _, rfl, hs, fun p1 n1 => ?_⟩
  refine ⟨p1, _, rfl, .inl (Evl.sq_of upd_same), fun p2 n2 => ?_⟩
  refine ⟨.ref a, rfl, 63, rfl, a, ns.map V.int, rfl, Evl.ex_l ((Evl.Ex.new n1).trans (Evl.Ex.new n2)) hs, fun p3 n3 => ?_⟩
  have hlen : (cutV (ns.map V.int) none (some 63)).length ≤ 63 := by
    rw [cut_int, List.length_map, List.length_take]
    omega
  refine ⟨.ref p3, _, rfl, .inl ⟨_, Evl.sq_of upd_same, rfl⟩, ⟨31, _, rfl, rfl, mulS (by decide) (by omega), ⟨1009, _, rfl, rfl, (by decide : (4 : Nat) ≤ sizeLine), fun p4 n4 => ?_⟩⟩⟩
  have n23 : p2 ≠ p3 := fun z => by
    rw [← z, upd_same] at n3
    cases n3
  have n24 : p2 ≠ p4 := fun z => by
    rw [upd_ne (by rw [← z]; exact n23), ← z, upd_same] at n4
    cases n4
  refine k p4 p2 _ ?_ ?_ n24 (((Evl.Ex.new n1).trans (Evl.Ex.new n2)).trans ((Evl.Ex.new n3).trans (Evl.Ex.new n4))) ⟨_, upd_same, by omega, by omega⟩ ?_
  · exact Evl.fresh_back (((Evl.Ex.new n1).trans (Evl.Ex.new n2)).trans (Evl.Ex.new n3)) n4
  · exact Evl.fresh_back (Evl.Ex.new n1) n2
  · rw [upd_ne n24, upd_ne n23, upd_same, cut_int]
/-- box = _law_box(script): the state's box from here on -/
theorem sw_box {K : PySem.W.Frag} {Z : List Sk} {O : Own} {D : DE} {u : TS} {i : Nat} {ns : List Int} {E : XK} (h0 : Z[0]? = some (.d (.list (ns.map .int)))) (h : ∀ b, SW K (some b) u (Z.set i (.v (.ref b))) O D) :
    SW K none (tSeq (tAsg (tCall (spBox K) [] E (tCons (tVar 0) tNil)) (gName i)) u) Z O D := fun F σ G H En c cv => by
  obtain ⟨o, h1, v, h2, h3⟩ := c.sl 0 _ h0
  subst h2
  cases h3 with
  | @lst a vs _ hs ha =>
    have ev := dpa_ints_inv ha
    subst ev
    refine ⟨.ref a, h1, a, ns, rfl, Evl.ex_l c.ex hs, fun p cc H' n1 n2 hne e ⟨i0, hp, i1, i2⟩ hc => ?_⟩
    have g1 : G cc = none := c.gnone n2
    have c1 := c.grow (G' := upd G cc (.lst ((ns.take 63).map V.int))) (H' := H') (Evl.Ex.new g1) (fun a u hu => by
      by_cases z : a = cc
      · subst z
        rw [upd_same] at hu
        cases hu
        exact hc
      · rw [upd_ne z] at hu
        exact e a u (c.ex a u hu)) e (fun a o ha => upd_ne (ne_of_none ha n2))
    have bx : BoxOk K p (upd G cc (.lst ((ns.take 63).map V.int))) H' := ⟨cc, ns.take 63, 0, 0, i0, hp, by rw [upd_ne (fun z => hne z.symm)]; exact c.gnone n1, Evl.sq_of upd_same, by rw [List.length_take]; omega, by decide, by decide, by decide, i1, i2⟩
    have c2 : Cfg K F (some p) Z O σ (upd G cc (.lst ((ns.take 63).map V.int))) H' := ⟨c1.len, c1.sl, c1.ex, fun b hb => (by cases hb; exact bx), fun b hb => (by cases hb; exact .inr (c.hnone n1)), fun q ds hq => (by
      obtain ⟨o1, o2, o3, vs, o4, o5⟩ := c1.own q ds hq
      refine ⟨o1, fun z => ?_, o3, vs, o4, o5⟩
      obtain ⟨_, _, _, us, o4', _⟩ := c.own q ds hq
      rw [← Option.some.inj z, n1] at o4'
      cases o4'), c1.nd, c1.e0, c1.h0, c1.h1, c1.g0⟩
    refine h p F _ _ H' En (c2.set (k := .v (.ref p)) rfl) ?_
    have down : ∀ {Z O σ G H}, Cfg K F (some p) Z O σ G H → Cfg K F none Z O σ G H := fun c => ⟨c.len, c.sl, c.ex, fun b hb => (by cases hb), fun b hb => (by cases hb), fun q ds hq => (by
      obtain ⟨o1, o2, o3, o4⟩ := c.own q ds hq
      exact ⟨o1, fun z => (by cases z), o3, o4⟩), c.nd, c.e0, c.h0, c.h1, c.g0⟩
    exact ⟨fun Z O σ G H c q => cv.nx Z O σ G H (down c) q, fun v d G H c hd q => cv.rt v d G H (down c) hd q, fun Z O σ G H c q => cv.bk Z O σ G H (down c) q, fun Z O σ G H c q => cv.ct Z O σ G H (down c) q⟩
/-- what the law promises -/
def spLaw (K : PySem.W.Frag) : Sp := fun vs H Q _ => ∃ (a : Addr) (ns : List Int), vs = [.ref a] ∧ SqL K H a (ns.map V.int) ∧ ns.length ≤ 63 ∧ ∀ H', Q (.bl true) H'
/-- the law by its body -/
theorem fn_L {P : Program} {w : World} {K : PySem.W.Frag} {mg : Str → Option Value} {base : Heap} {st : Stmt} {N : List Str} {k : Nat} {f : Addr} {fd : FuncData} (F : Fun K "law" "law" st f fd) (S : FnScope N ["_law_script"] (defScope st))
    (hb : ∀ (f : Addr) (cdv : Value) (A : Around) (outer : List Env) (s : Shared) (H : Hp) (E : XK), Room k (A.deeper (envOfC "law" (defScope st) s.heap.objs.size f cdv)) →
      ∃ t, PSs (cxOf CX0 P w K mg base N "law" (defScope st) f cdv A outer s H E).nox (defBody st) t ∧ ∀ ns : List Int, SW K none t (Z0 N [.d (.list (ns.map .int))]) [] { nx := fun _ _ => False, rt := fun d => d = .bool true }) :
    FnOk P w K mg base CX0 (k + 1) f fd ["_law_script"] (spLaw K) := by
  refine F.ok S (fun vs H Q E h => ?_) fun cdv A outer s H vs Q E hr h => ?_
  · obtain ⟨a, ns, e, _⟩ := h
    rw [e]
    rfl
  obtain ⟨a, ns, rfl, hs, hl, k⟩ := h
  obtain ⟨t, ht, sw⟩ := hb f cdv A outer s H E hr
  refine ⟨t, ht, sw ns ⟨fun _ => False, H, H⟩ _ H H _ ?_ ?_⟩
  · obtain ⟨h1, h2⟩ := sl_start (K := K) (G := H) (N := N) (ks := [.d (.list (ns.map .int))]) (vs := [.ref a]) ⟨⟨_, rfl, .lst hs dpa_ints⟩, True.intro⟩
    exact ⟨h1, h2, Evl.Ex.refl _, fun b z => (by cases z), fun b z => (by cases z), fun p ds z => (by simp at z), List.nodup_nil, Evl.Ex.refl _, fun a o _ h => h, fun a o h => ⟨o, h⟩, fun _ _ _ => rfl⟩
  · exact ⟨fun Z O σ G' H' c q => q.elim, fun v d G' H' c hv q => (by
      subst q
      cases hv
      exact k H'), fun _ _ _ _ _ _ z => z.elim, fun _ _ _ _ _ _ z => z.elim⟩

def R_near (ds : List PyData) (P : PyData → Prop) : Prop := ∃ m : Int, ds = [.int m] ∧ 0 ≤ m ∧ m < 2 ^ 200 ∧ ∀ r : Int, -m ≤ r → r ≤ m → P (.int r)
instance : MonoR R_near := ⟨fun _ _ _ h ⟨m, e, h1, h2, k⟩ => ⟨m, e, h1, h2, fun r a b => h _ (k r a b)⟩⟩
theorem ok__law_near {P : Program} {w : World} {K : PySem.W.Frag} {mg : Str → Option Value} {base : Heap} (Fn : FunAt K mg "_law_near" s__law_near ["_law_box_here", "_law_far"]) (T : Txt mg) (d__law_take : Def P w K mg base "_law_take" 1 ["_law_box_here", "_law_many"] (spB K R_take)) : Def P w K mg base "_law_near" 2 ["_law_box_here", "_law_far"] (spB K R_near) := by
  refine fn_B Fn sc__law_near (fun ds Q ⟨m, e, _⟩ => by rw [e]; rfl) fun f cdv A outer s H E hr => ⟨_, (pss_one (ps_ret (pe_op op_sub (pe_def d__law_take hr (by first | decide | omega) (by rfl) (pa_cons (pv 0) (pa_cons (pe_op op_add (pe_op op_mulW pe_int (pv 1)) pe_int) pa_nil))) (pv 1)))), fun b ds Q hR => ?_⟩
  obtain ⟨m, rfl, hm0, hm1, k⟩ := hR
  show SW _ _ _ [.v (.ref b), .d (.int m)] _ _
  walk_at "dn"
  repeat' walk_at "dl"
  · exact mulS (by decide) (by omega)
  · refine ⟨_, rfl, by omega, by omega, fun r h1 h2 => ?_⟩
    repeat' walk_at "dl"
    exact k _ (by omega) (by omega)

/-- data that _law_same goes through: no dict, so deep at most, so long at most -/
def fit : Nat → PyData → Bool
  | _, .none | _, .bool _ | _, .int _ => true
  | _, .str x => PyData.canLay0 (.str x)
  | n + 1, .list ds => Nat.ble ds.length 50000 && ds.all (fit n)
  | n + 1, .tuple ds => Nat.ble ds.length 50000 && ds.all (fit n)
  | 0, .list _ => false
  | 0, .tuple _ => false
  | _, .dict _ => false
def R_same (n : Nat) (ds : List PyData) (P : PyData → Prop) : Prop := ∃ d, ds = [d, d] ∧ fit n d = true ∧ P (.bool true)
instance {n : Nat} : MonoR (R_same n) := ⟨fun ds P Q h ⟨d, e, f, k⟩ => ⟨d, e, f, h _ k⟩⟩
def R_prev : Nat → List PyData → (PyData → Prop) → Prop
  | 0 => fun _ _ => False
  | n + 1 => R_same n
instance {n : Nat} : MonoR (R_prev n) := ⟨fun ds P Q h k => match n, k with
  | 0, k => k.elim
  | n + 1, k => MonoR.mono (R := R_same n) ds P Q h k⟩
theorem eqv_bb {a : Bool} : PyData.eqv (.bool a) (.bool a) = true := by simp [PyData.eqv]
def scalD : PyData → Bool
  | .none | .bool _ | .int _ | .str _ => true
  | _ => false
theorem scal_ok {n : Nat} {d : PyData} (h : scalD d = true) (f : fit n d = true) : PyData.eqv d d = true ∧ SeqAt.shaped d = true := by
  cases d with
  | none => exact ⟨rfl, rfl⟩
  | bool b => exact ⟨by simp [PyData.eqv], rfl⟩
  | int b => exact ⟨by simp [PyData.eqv], rfl⟩
  | str b =>
    have f : PyData.canLay0 (.str b) = true := by cases n <;> exact f
    refine ⟨by simp [PyData.eqv], ?_⟩
    unfold SeqAt.shaped
    rw [f]
    rfl
  | list _ => cases h
  | tuple _ => cases h
  | dict _ => cases h
theorem ty_ll {ds : List PyData} : isD (.list ds) "list" = true := (show isTy "list" "list" = true by decide +kernel)
theorem ty_tl {ds : List PyData} : isD (.tuple ds) "list" = false := (show isTy "tuple" "list" = false by decide +kernel)
theorem ty_tt {ds : List PyData} : isD (.tuple ds) "tuple" = true := (show isTy "tuple" "tuple" = true by decide +kernel)
theorem ty_n1 : isD .none "list" = false := (show isTy "NoneType" "list" = false by decide +kernel)
theorem ty_n2 {b : Bool} : isD (.bool b) "list" = false := (show isTy "bool" "list" = false by decide +kernel)
theorem ty_n3 {b : Int} : isD (.int b) "list" = false := (show isTy "int" "list" = false by decide +kernel)
theorem ty_n4 {b : Str} : isD (.str b) "list" = false := (show isTy "str" "list" = false by decide +kernel)
theorem ty_m1 : isD .none "tuple" = false := (show isTy "NoneType" "tuple" = false by decide +kernel)
theorem ty_m2 {b : Bool} : isD (.bool b) "tuple" = false := (show isTy "bool" "tuple" = false by decide +kernel)
theorem ty_m3 {b : Int} : isD (.int b) "tuple" = false := (show isTy "int" "tuple" = false by decide +kernel)
theorem ty_m4 {b : Str} : isD (.str b) "tuple" = false := (show isTy "str" "tuple" = false by decide +kernel)
theorem ok__law_same_step {P : Program} {w : World} {K : PySem.W.Frag} {mg : Str → Option Value} {base : Heap} {n : Nat} (Fn : FunAt K mg "_law_same" s__law_same ["_law_found", "_law_due"]) (T : Txt mg) (d__law_same : Def P w K mg base "_law_same" n ["_law_found", "_law_due"] (spP K (R_prev n))) :
    Def P w K mg base "_law_same" (n + 1) ["_law_found", "_law_due"] (spP K (R_same n)) := by
  refine fn_P Fn sc__law_same (fun ds Q ⟨d, e, _⟩ => by rw [e]; rfl) fun f cdv A outer s H E hr => ⟨_, (pss_cons (ps_if (pt_cmp (pc_isN (pv 1)) rfl) (pss_one (ps_ret (pe_cmp (pc_isN (pv 0)) rfl))) pss_nil)
      (pss_cons (ps_if (PW.pt (pw_or (pt_val (pe_callB (call_isiKK (K := K) rfl) (by rfl) T.isinstance (by decide +kernel) (pa_cons (pv 1) (pa_cons (pe_bltn (v := .ty "list") (by rfl) T.list (by decide +kernel) rfl) pa_nil)))) (pw_or1 (pt_val (pe_callB (call_isiKK (K := K) rfl) (by rfl) T.isinstance (by decide +kernel) (pa_cons (pv 1) (pa_cons (pe_bltn (v := .ty "tuple") (by rfl) T.tuple (by decide +kernel) rfl) pa_nil))))))) (pss_cons (ps_if (PW.pt (pw_or (pt_cmpR (op_neDK (K := K) rfl hr.units) (pe_callB (call_isiKK (K := K) rfl) (by rfl) T.isinstance (by decide +kernel) (pa_cons (pv 0) (pa_cons (pe_bltn (v := .ty "list") (by rfl) T.list (by decide +kernel) rfl) pa_nil))) (pe_callB (call_isiKK (K := K) rfl) (by rfl) T.isinstance (by decide +kernel) (pa_cons (pv 1) (pa_cons (pe_bltn (v := .ty "list") (by rfl) T.list (by decide +kernel) rfl) pa_nil))) (nomark _)) (pw_or1 (pt_cmpR (op_neDK (K := K) rfl hr.units) (pe_callB (call_isiKK (K := K) rfl) (by rfl) T.isinstance (by decide +kernel) (pa_cons (pv 0) (pa_cons (pe_bltn (v := .ty "tuple") (by rfl) T.tuple (by decide +kernel) rfl) pa_nil))) (pe_callB (call_isiKK (K := K) rfl) (by rfl) T.isinstance (by decide +kernel) (pa_cons (pv 1) (pa_cons (pe_bltn (v := .ty "tuple") (by rfl) T.tuple (by decide +kernel) rfl) pa_nil))) (nomark _))))) (pss_one (ps_ret pe_bl)) pss_nil)
      (pss_one (ps_ret (pe_and (pe_cmpR (op_eqDK (K := K) rfl hr.units) (pe_callB (call_lenK (K := K) rfl) (by rfl) T.len (by decide +kernel) (pa_cons (pv 0) pa_nil)) (pe_callB (call_lenK (K := K) rfl) (by rfl) T.len (by decide +kernel) (pa_cons (pv 1) pa_nil)) (nomark _)) (pe_one (pe_callB (cr_allK (K := K) rfl rfl) (by rfl) T.all (by decide +kernel) (pa_cons (pe_lc (own := [("_law_one", 2), ("_law_other", 3)]) (g := (gTup K 2 (gCons (gName 2) (gCons (gName 3) gNil)))) rfl sc__law_same.nd (RZ.pi_zipA (by rfl) T.zip (pa_cons (pv 0) (pa_cons (pv 1) pa_nil))) (blkOk_by (own := [("_law_one", 2), ("_law_other", 3)]) (N := ["_law_found", "_law_due", "_law_one", "_law_other"]) (sc := defScope s__law_same) (by decide +kernel)) (fun _ _ _ _ _ => (pg_tup (n := 2) rfl (pgs_cons (pg_name (i := 2) sc__law_same.nd rfl (Or.inl rfl) (hf := Or.inr rfl)) (pgs_cons (pg_name (i := 3) sc__law_same.nd rfl (Or.inl rfl) (hf := Or.inr rfl)) pgs_nil)))) (fun _ _ _ _ _ => pts_nil) (fun _ _ _ _ _ => (pe_def d__law_same hr (by first | decide | omega) (by rfl) (pa_cons (pv 2) (pa_cons (pv 3) pa_nil))))) pa_nil))))))) pss_nil)
      (pss_cons (ps_if (PW.pt (pw_or (pt_cmpR (op_neDK (K := K) rfl hr.units) (pe_callB (call_isiKK (K := K) rfl) (by rfl) T.isinstance (by decide +kernel) (pa_cons (pv 1) (pa_cons (pe_bltn (v := .ty "bool") (by rfl) T.bool (by decide +kernel) rfl) pa_nil))) (pe_callB (call_isiKK (K := K) rfl) (by rfl) T.isinstance (by decide +kernel) (pa_cons (pv 0) (pa_cons (pe_bltn (v := .ty "bool") (by rfl) T.bool (by decide +kernel) rfl) pa_nil))) (nomark _)) (pw_or1 (pt_cmpR (op_neDK (K := K) rfl hr.units) (pe_callB (call_isiKK (K := K) rfl) (by rfl) T.isinstance (by decide +kernel) (pa_cons (pv 1) (pa_cons (pe_bltn (v := .ty "int") (by rfl) T.int (by decide +kernel) rfl) pa_nil))) (pe_callB (call_isiKK (K := K) rfl) (by rfl) T.isinstance (by decide +kernel) (pa_cons (pv 0) (pa_cons (pe_bltn (v := .ty "int") (by rfl) T.int (by decide +kernel) rfl) pa_nil))) (nomark _))))) (pss_one (ps_ret pe_bl)) pss_nil)
      (pss_one (ps_ret (pe_and (pe_cmpR (op_eqDK (K := K) rfl hr.units) (pe_callB (call_isiKK (K := K) rfl) (by rfl) T.isinstance (by decide +kernel) (pa_cons (pv 0) (pa_cons (pe_bltn (v := .ty "str") (by rfl) T.str (by decide +kernel) rfl) pa_nil))) (pe_callB (call_isiKK (K := K) rfl) (by rfl) T.isinstance (by decide +kernel) (pa_cons (pv 1) (pa_cons (pe_bltn (v := .ty "str") (by rfl) T.str (by decide +kernel) rfl) pa_nil))) (nomark _)) (pe_one (pe_cmpR (op_eqDK (K := K) rfl hr.units) (pv 0) (pv 1) (nomark _))))))))), fun ds Q hR => ?_⟩
  obtain ⟨d, rfl, hf, k⟩ := hR
  show SW _ _ _ [.d d, .d d, .no, .no] _ _
  walk_at "dn"
  -- a list or a tuple: each with itself
  have many : ∀ (ds : List PyData), (d = .list ds ∨ d = .tuple ds) → ds.length ≤ 50000 → (∀ x ∈ ds, R_prev n [x, x] fun y => y = .bool true) →
      WL K none (tLc (RZ.iZipA K (tCons (tVar 0) (tCons (tVar 1) tNil))) (gTup K 2 (gCons (gName 2) (gCons (gName 3) gNil))) tYes (tCall (spP K (R_prev n)) [] E0 (tCons (tVar 2) (tCons (tVar 3) tNil))) [2, 3]) [.d d, .d d, .no, .no] [] fun out => out = (List.replicate ds.length true).map .bool := by
    intro ds hd hl hall
    refine wl_map (ow_tup (ows_cons (ow_name (by decide)) (ows_cons (ow_name (by decide)) ows_nil))) (min ds.length ds.length) (fun i d => ∃ x y, ds[i]? = some x ∧ ds[i]? = some y ∧ d = .tuple [x, y]) ((List.replicate ds.length true).map .bool) ?_ (by omega) (by simp) ?_ rfl
    · refine iw_zipA ?_
      repeat' walk_at "dl"
      refine ⟨ds, ds, ?_, rfl, rfl⟩
      rcases hd with e | e <;> subst e
      · exact .inl rfl
      · exact .inr rfl
    · intro i dd y p acc hi ⟨x, x', hx, hx', ed⟩ ho
      rw [hx] at hx'
      cases hx'
      subst ed
      refine gw_tup rfl (gws_name (gws_name (gws_nil ⟨rfl, ?_⟩)))
      have hy : y = .bool true := by
        simp only [List.map_replicate] at ho
        exact (List.mem_replicate.mp (List.mem_of_getElem? ho)).2
      show WE K none _ [.d d, .d d, .d x, .d x] _ _
      repeat' walk_at "dl"
      rw [hy]
      exact hall x (List.mem_of_getElem? hx)
  have split : (∃ ds, (d = .list ds ∨ d = .tuple ds) ∧ ds.length ≤ 50000 ∧ ∀ x ∈ ds, R_prev n [x, x] fun y => y = .bool true) ∨ scalD d = true := by
    have go : ∀ ds : List PyData, (d = .list ds ∨ d = .tuple ds) → ds.length ≤ 50000 ∧ ∀ x ∈ ds, R_prev n [x, x] fun y => y = .bool true := by
      intro ds hd
      cases n with
      | zero => rcases hd with e | e <;> subst e <;> cases hf
      | succ m =>
        have h2 : (Nat.ble ds.length 50000 && ds.all (fit m)) = true := by rcases hd with e | e <;> subst e <;> exact hf
        have h3 := (Bool.and_eq_true _ _).mp h2
        exact ⟨Nat.le_of_ble_eq_true h3.1, fun x hx => ⟨x, rfl, List.all_eq_true.mp h3.2 x hx, rfl⟩⟩
    cases d with
    | list ds => exact .inl ⟨ds, .inl rfl, go ds (.inl rfl)⟩
    | tuple ds => exact .inl ⟨ds, .inr rfl, go ds (.inr rfl)⟩
    | dict _ => cases n <;> cases hf
    | none => exact .inr rfl
    | bool _ => exact .inr rfl
    | int _ => exact .inr rfl
    | str _ => exact .inr rfl
  have i0 : ∀ a : Bool, PyData.eqv (.bool a) (.bool a) = true := fun a => eqv_bb
  rcases split with ⟨ds, hd, hl, hall⟩ | hs
  · have ml := many ds hd hl hall
    have i1 : isNone d = false := by rcases hd with e | e <;> subst e <;> rfl
    have i2 : isD d "list" = true ∨ (isD d "list" = false ∧ isD d "tuple" = true) := by
      rcases hd with e | e <;> subst e
      · exact .inl ty_ll
      · exact .inr ⟨ty_tl, ty_tt⟩
    have i3 : lenD d = some ds.length := by rcases hd with e | e <;> subst e <;> rfl
    walk_at "dl"
    walk_at "dl"
    refine wt_false (by
      repeat' walk_at "dl"
      exact i1) (iteF ?_)
    walk_at "dl"
    walk_at "dl"
    walk_at "dl"
    refine wt_true (by
      repeat' walk_at "dl"
      rcases i2 with i2 | ⟨i2, i3⟩
      · exact ite_true_of i2 rfl
      · refine ite_false_of i2 ?_
        repeat' walk_at "dl"
        exact i3) (iteT ?_)
    walk_at "dl"
    walk_at "dl"
    refine wt_false (by
      repeat' walk_at "dl"
      refine ite_false_of (by rw [i0]; rfl) ?_
      repeat' walk_at "dl"
      rw [i0]
      rfl) (iteF ?_)
    repeat' walk_at "dl"
    refine ⟨_, nc_len i3, ?_⟩
    repeat' walk_at "dl"
    refine ⟨_, nc_len i3, ?_⟩
    refine ⟨rfl, rfl, _, rfl, ite_true_of (by simp [PyData.eqv]) ?_⟩
    repeat' walk_at "dl"
    refine we_of (wl_imp ml fun out e => ?_)
    subst e
    repeat' walk_at "dl"
    refine ⟨_, nc_all, ?_⟩
    have e2 : (List.replicate ds.length true).all id = true := by simp
    rw [e2]
    exact k
  · cases hn : isNone d with
    | true =>
      walk_at "dl"
      walk_at "dl"
      refine wt_true (by
        repeat' walk_at "dl"
        exact hn) (iteT ?_)
      repeat' walk_at "dl"
      rw [hn]
      exact k
    | false =>
      have n1 : isD d "list" = false := by cases d <;> first | (cases hs; done) | exact ty_n1 | exact ty_n2 | exact ty_n3 | exact ty_n4
      have n2 : isD d "tuple" = false := by cases d <;> first | (cases hs; done) | exact ty_m1 | exact ty_m2 | exact ty_m3 | exact ty_m4
      obtain ⟨q1, q2⟩ := scal_ok hs hf
      walk_at "dl"
      walk_at "dl"
      refine wt_false (by
        repeat' walk_at "dl"
        exact hn) (iteF ?_)
      walk_at "dl"
      walk_at "dl"
      walk_at "dl"
      refine wt_false (by
        repeat' walk_at "dl"
        refine ite_false_of n1 ?_
        repeat' walk_at "dl"
        exact n2) (iteF ?_)
      walk_at "dl"
      walk_at "dl"
      walk_at "dl"
      refine wt_false (by
        repeat' walk_at "dl"
        refine ite_false_of (by rw [i0]; rfl) ?_
        repeat' walk_at "dl"
        rw [i0]
        rfl) (iteF ?_)
      repeat' walk_at "dl"
      refine ite_true_of (i0 _) ?_
      repeat' walk_at "dl"
      refine ⟨q2, q2, ?_⟩
      rw [q1]
      exact k
theorem ok__law_same {P : Program} {w : World} {K : PySem.W.Frag} {mg : Str → Option Value} {base : Heap} (Fn : FunAt K mg "_law_same" s__law_same ["_law_found", "_law_due"]) (T : Txt mg) : ∀ n, Def P w K mg base "_law_same" (n + 1) ["_law_found", "_law_due"] (spP K (R_same n))
  | 0 => ok__law_same_step Fn T (by
    obtain ⟨f, fd, hf, hm, hb⟩ := Fn.ex
    exact ⟨f, fd, hm, hf.kp, hb, ⟨fun vs H Q E h => (by obtain ⟨_, _, _, _, h⟩ := h; exact h.elim), fun A outer s H args us vs Q E _ _ _ _ h => (by obtain ⟨_, _, _, _, h⟩ := h; exact h.elim)⟩⟩)
  | n + 1 => ok__law_same_step (n := n + 1) Fn T (ok__law_same Fn T n)

theorem sw_mid {K : PySem.W.Frag} {s : Option Addr} {Z : List Sk} {O : Own} {D : DE} {t u : TS} (M : List Sk → Own → Prop) (h : SW K s t Z O { D with nx := M }) (k : ∀ Z' O', M Z' O' → SW K s u Z' O' D) : SW K s (tSeq t u) Z O D := sw_cut M h k
/-- the figures of a word: behind its sign -/
def figs (a : List Nat) : List Nat := if a.head? = some 45 then a.drop 1 else a
def AllFig (f : List Nat) : Prop := ∀ c ∈ f, 48 ≤ c ∧ c ≤ 57
instance {f : List Nat} : Decidable (AllFig f) := inferInstanceAs (Decidable (∀ c ∈ f, 48 ≤ c ∧ c ≤ 57))
def okFigs (a : List Nat) : Bool := decide (figs a ≠ [] ∧ AllFig (figs a) ∧ (figs a).length ≤ 20)
def badNought (a : List Nat) : Bool := decide ((figs a).head? = some 48 ∧ a ≠ [48])
def valI (a : List Nat) : Int := if a.head? = some 45 then -((PySem.NumText.digitsVal (figs a) : Nat) : Int) else ((PySem.NumText.digitsVal (figs a) : Nat) : Int)
def readI (a : List Nat) : Option Int := if okFigs a = true ∧ badNought a = false then some (valI a) else none
def optD : Option Int → PyData
  | none => .none
  | some n => .int n
theorem starts1 (a : List Nat) (c : Nat) : Txt.startswith (SX.S a) (SX.S [c]) = decide (a.head? = some c) := by
  have h := PySem.StrLaws.subAt_one (SX.S a) c 0
  unfold Txt.startswith
  rw [Bool.eq_iff_iff]
  simp only [Bool.and_eq_true, decide_eq_true_eq]
  have h2 : (SX.S a).cps.toList[0]? = a.head? := by
    show (a.toArray.toList)[0]? = _
    simp [List.head?_eq_getElem?]
  rw [h2] at h
  exact h
theorem isdig (f : List Nat) : (Txt.isascii (SX.S f) && Txt.isdigit (SX.S f)) = decide (f ≠ [] ∧ AllFig f) := by
  have e1 : Txt.isascii (SX.S f) = f.all (· < 128) := by unfold Txt.isascii; simp
  have e2 : Txt.isdigit (SX.S f) = (decide (f ≠ []) && f.all Unicode.isDigit) := by
    unfold Txt.isdigit
    congr 1
    · rw [SX.S_len]
      cases f <;> simp
    · simp
  rw [e1, e2, Bool.eq_iff_iff]
  simp only [Bool.and_eq_true, decide_eq_true_eq, List.all_eq_true]
  have cls : ∀ c, c < 128 → (Unicode.isDigit c = true ↔ 48 ≤ c ∧ c ≤ 57) := by decide +kernel
  constructor
  · rintro ⟨h1, h2, h3⟩
    exact ⟨h2, fun c hc => (cls c (h1 c hc)).mp (h3 c hc)⟩
  · rintro ⟨h1, h2⟩
    exact ⟨fun c hc => by have := h2 c hc; omega, h1, fun c hc => (cls c (by have := h2 c hc; omega)).mpr (h2 c hc)⟩
theorem int_val {a : List Nat} (h : okFigs a = true) (hl : a.length ≤ 600) : PySem.intText? (SX.S a) = some (valI a) := by
  have h := of_decide_eq_true h
  obtain ⟨h1, h2, _⟩ := h
  unfold valI
  by_cases hs : a.head? = some 45
  · rw [if_pos hs]
    unfold figs at *
    rw [if_pos hs] at *
    have ea : a = 45 :: a.drop 1 := by
      cases a with
      | nil => cases hs
      | cons x xs =>
        simp at hs
        subst hs
        rfl
    exact PySem.intText_neg (x := SX.S a) (cs := a.drop 1) ea h2 h1 (by rw [SX.S_len]; omega)
  · rw [if_neg hs]
    unfold figs at *
    rw [if_neg hs] at *
    exact PySem.intText_digits (x := SX.S a) h2 h1 (by rw [SX.S_len]; omega)
theorem cut1 (a : List Nat) : cutS (SX.S a) (some 1) none = SX.S (a.drop 1) := by
  rw [C8.cutS_slice, SX.slice_from (by decide)]
  rfl
theorem cutTo1 (a : List Nat) : cutS (SX.S a) none (some 1) = SX.S (a.take 1) := by
  rw [C8.cutS_slice, SX.slice_to (by decide)]
  rfl
theorem eqv_str (a b : Str) : PyData.eqv (.str a) (.str b) = decide (a = b) := by
  show (a == b) = _
  rw [Bool.eq_iff_iff]
  simp
theorem S_eq (a b : List Nat) : decide (SX.S a = SX.S b) = decide (a = b) := decide_eq_decide.mpr ⟨SX.S_inj, fun h => by rw [h]⟩

/-- a number's text -/
def R_ntext (ds : List PyData) (P : PyData → Prop) : Prop := ∃ n : Int, ds = [.int n] ∧ n.natAbs < 2 ^ 200 ∧ P (.str (toString n))
instance : MonoR R_ntext := ⟨fun _ _ _ h ⟨n, e, a, k⟩ => ⟨n, e, a, h _ k⟩⟩
theorem log2_lt {n k : Nat} (h : n < 2 ^ k) : n.log2 < k + 1 := by
  by_cases h0 : n = 0
  · subst h0
    have h1 : Nat.log2 0 = 0 := by decide
    omega
  · have := (Nat.log2_lt h0).mpr h
    omega
theorem ok_number_text {P : Program} {w : World} {K : PySem.W.Frag} {mg : Str → Option Value} {base : Heap} (Fn : FunAt K mg "number_text" s_number_text ["number"]) (T : Txt mg) : Def P w K mg base "number_text" 1 ["number"] (spP K R_ntext) := by
  refine fn_P Fn sc_number_text (fun ds Q ⟨m, e, _⟩ => by rw [e]; rfl) fun f cdv A outer s H E hr => ⟨_, (pss_cons (ps_if (pt_cmpR op_lt (pe_bits (pv 0)) (C8.pe_gc (by rfl) T.c__LONG_BITS) (nomark _)) (pss_one (ps_ret (pe_callTy call_str_int (by rfl) T.str (by decide +kernel) (pa_cons (pv 0) pa_nil)))) pss_nil)
      pss_never), fun ds Q hR => ?_⟩
  obtain ⟨n, rfl, hn, k⟩ := hR
  show SW _ _ _ [.d (.int n), .no, .no, .no, .no] _ _
  walk_at "dn"
  have hl := log2_lt hn
  have hb : Builtin.Int.intBits n < 10000 := by
    unfold Builtin.Int.intBits
    split <;> omega
  repeat' walk_at "dl"
  refine ite_true_of (decide_eq_true (by omega)) ?_
  repeat' walk_at "dl"
  exact ⟨_, nc_str (by omega), k⟩
theorem lenS {y : Str} (h : y.length ≤ 100000) : lenD (.str y) = some y.length := if_pos (Evl.sz_of h)
def Asc (a : List Nat) : Prop := ∀ c ∈ a, c < 128
theorem shaped_S {a : List Nat} (h : Asc a) : SeqAt.shaped (.str (SX.S a)) = true := by
  unfold SeqAt.shaped
  have e1 : PyData.canLay0 (.str (SX.S a)) = true := by
    show (SX.S a).cps.all (· < 0x110000) = true
    simp only [SX.S, List.all_toArray, List.all_eq_true, decide_eq_true_eq]
    intro c hc
    have := h c hc
    omega
  rw [e1]
  rfl
def R_read (ds : List PyData) (P : PyData → Prop) : Prop := ∃ a : List Nat, ds = [.str (SX.S a)] ∧ a.length ≤ 600 ∧ Asc a ∧ P (optD (readI a))
instance : MonoR R_read := ⟨fun _ _ _ h ⟨n, e, a, b, k⟩ => ⟨n, e, a, b, h _ k⟩⟩
theorem ok_read_number {P : Program} {w : World} {K : PySem.W.Frag} {mg : Str → Option Value} {base : Heap} (Fn : FunAt K mg "read_number" s_read_number ["text"]) (T : Txt mg) : Def P w K mg base "read_number" 1 ["text"] (spP K R_read) := by
  refine fn_P Fn sc_read_number (fun ds Q ⟨m, e, _⟩ => by rw [e]; rfl) fun f cdv A outer s H E hr => ⟨_, (pss_cons (ps_asg (pe_ifExp (pt_val (pe_m1 PySem.F.slot_str_startswith PySem.F.type_str_startswith mt_startswith (pv 0) pe_str)) (pe_slice sl_str (pv 0) (po_some pe_int) po_none) (pv 0)) (pg_name (i := 1) sc_read_number.nd rfl (Or.inl rfl)))
      (pss_cons (ps_if (PW.pt (pw_or (pt_not (PW.pt (pw_and (pt_val (DL.pe_ascii (pv 1))) (pw_and1 (pt_val (pe_m0 PySem.F.slot_str_isdigit PySem.F.type_str_isdigit mt_isdigit (pv 1))))))) (pw_or1 (pt_cmpR op_gt (pe_callB (call_lenK (K := K) rfl) (by rfl) T.len (by decide +kernel) (pa_cons (pv 1) pa_nil)) (C8.pe_gc (by rfl) T.c__MOST_FIGURES) (nomark _))))) (pss_one (ps_ret pe_non)) pss_nil)
      (pss_cons (ps_if (PW.pt (pw_and (pt_val (pe_m1 PySem.F.slot_str_startswith PySem.F.type_str_startswith mt_startswith (pv 1) pe_str)) (pw_and1 (pt_cmpR (op_neDK (K := K) rfl hr.units) (pv 0) pe_str (nomark _))))) (pss_one (ps_ret pe_non)) pss_nil)
      (pss_one (ps_ret (pe_callTy call_int_str (by rfl) T.int (by decide +kernel) (pa_cons (pv 0) pa_nil))))))), fun ds Q hR => ?_⟩
  obtain ⟨a, rfl, hl, hasc, k⟩ := hR
  show SW _ _ _ [.d (.str (SX.S a)), .no] _ _
  walk_at "dn"
  have e45 : Str.ofString "-" = SX.S [45] := rfl
  have e48 : Str.ofString "0" = SX.S [48] := rfl
  refine sw_mid (fun Z O => Z = [.d (.str (SX.S a)), .d (.str (SX.S (figs a)))] ∧ O = []) ?_ ?_
  · repeat' walk_at "dl"
    rw [e45, starts1]
    unfold figs
    by_cases hs : a.head? = some 45
    · refine ite_true_of (decide_eq_true hs) ?_
      rw [if_pos hs]
      walk_at "dl"
      walk_at "dl"
      refine ⟨_, rfl, by rw [SX.S_len]; omega, ?_⟩
      repeat' walk_at "dl"
      rw [cut1]
      exact ⟨rfl, by trivial⟩
    · refine ite_false_of (decide_eq_false hs) ?_
      rw [if_neg hs]
      repeat' walk_at "dl"
      exact ⟨rfl, by trivial⟩
  · rintro _ _ ⟨rfl, rfl⟩
    have hfl : (figs a).length ≤ a.length := by
      unfold figs
      split
      · simp
      · omega
    walk_at "dl"
    walk_at "dl"
    have t1 : WT K none (tOr (tNot (tAnd (tB (tM0 (fun x xs H Q => ∃ a, x = V.str a ∧ xs = [] ∧ True ∧ Q (V.bl (Txt.isascii a)) H) (tVar 1))) (tB (tM0 (fun x xs H Q => ∃ a, x = V.str a ∧ xs = [] ∧ True ∧ Q (V.bl (Txt.isdigit a)) H) (tVar 1)))))
        (tTest (tOp (rI0 fun i j => V.bl (decide (j < i))) (tCB (fun xs H Q => ∃ x n, xs = [x] ∧ LenV K x H n ∧ Q (V.int (n : Nat)) H) (tCons (tVar 1) tNil)) (tC (V.int 20))))) [.d (.str (SX.S a)), .d (.str (SX.S (figs a)))] [] fun b => b = !(okFigs a) := by
      have hd := isdig (figs a)
      repeat' walk_at "dl"
      have no : ¬ (figs a ≠ [] ∧ AllFig (figs a)) → okFigs a = false := fun z => decide_eq_false fun y => z ⟨y.1, y.2.1⟩
      cases ha : Txt.isascii (SX.S (figs a)) with
      | true =>
        refine ite_true_of rfl ?_
        repeat' walk_at "dl"
        cases hdg : Txt.isdigit (SX.S (figs a)) with
        | true =>
          rw [ha, hdg] at hd
          have hd2 := of_decide_eq_true hd.symm
          refine ite_false_of rfl ?_
          repeat' walk_at "dl"
          refine ⟨_, nc_len (lenS (by rw [SX.S_len]; omega)), ?_⟩
          repeat' walk_at "dl"
          rw [SX.S_len]
          unfold okFigs
          by_cases h20 : (figs a).length ≤ 20
          · rw [decide_eq_false (by omega), decide_eq_true ⟨hd2.1, hd2.2, h20⟩]
            rfl
          · rw [decide_eq_true (by omega), decide_eq_false (fun y => h20 y.2.2)]
            rfl
        | false =>
          rw [ha, hdg] at hd
          refine ite_true_of rfl ?_
          rw [no (of_decide_eq_false hd.symm)]
          rfl
      | false =>
        rw [ha] at hd
        refine ite_false_of rfl (ite_true_of rfl ?_)
        rw [no (of_decide_eq_false hd.symm)]
        rfl
    refine wt_is t1 ?_
    cases hok : okFigs a with
    | false =>
      refine ite_true_of rfl ?_
      have hr2 : readI a = none := by
        unfold readI
        rw [hok]
        rfl
      rw [hr2] at k
      repeat' walk_at "dl"
      exact k
    | true =>
      refine ite_false_of rfl ?_
      walk_at "dl"
      walk_at "dl"
      walk_at "dl"
      have t2 : WT K none (tAnd (tB (tM1 (fun x xs H Q => ∃ a b, x = V.str a ∧ xs = [V.str b] ∧ Q (V.bl (Txt.startswith a b)) H) (tVar 1) (tC (V.str (Str.ofString "0"))))) (tTest (tOp (rNeD K) (tVar 0) (tC (V.str (Str.ofString "0"))))))
          [.d (.str (SX.S a)), .d (.str (SX.S (figs a)))] [] fun b => b = badNought a := by
        repeat' walk_at "dl"
        rw [e48, starts1]
        by_cases h0 : (figs a).head? = some 48
        · refine ite_true_of (decide_eq_true h0) ?_
          repeat' walk_at "dl"
          refine ⟨shaped_S hasc, shaped_S (fun c hc => by simp at hc; omega), ?_⟩
          rw [eqv_str, S_eq]
          unfold badNought
          by_cases h1 : a = [48]
          · rw [decide_eq_true h1, decide_eq_false (fun y => y.2 h1)]
            exact ⟨_, rfl, rfl⟩
          · rw [decide_eq_false h1, decide_eq_true ⟨h0, h1⟩]
            exact ⟨_, rfl, rfl⟩
        · refine ite_false_of (decide_eq_false h0) ?_
          unfold badNought
          rw [decide_eq_false (fun y => h0 y.1)]
      refine wt_is t2 ?_
      cases hbn : badNought a with
      | true =>
        refine ite_true_of rfl ?_
        have hr2 : readI a = none := by
          unfold readI
          rw [hok, hbn]
          rfl
        rw [hr2] at k
        repeat' walk_at "dl"
        exact k
      | false =>
        refine ite_false_of rfl ?_
        have hr2 : readI a = some (valI a) := by
          unfold readI
          rw [hok, hbn]
          rfl
        rw [hr2] at k
        repeat' walk_at "dl"
        exact ⟨_, nc_intS (int_val hok hl) (by rw [SX.S_len]; omega), k⟩

theorem figs_asc {a : List Nat} (h : Asc a) : Asc (figs a) := fun c hc => by
  unfold figs at hc
  split at hc
  · exact h c (List.mem_of_mem_drop hc)
  · exact h c hc
theorem ok__law_number_in {P : Program} {w : World} {K : PySem.W.Frag} {mg : Str → Option Value} {base : Heap} (Fn : FunAt K mg "_law_number_in" s__law_number_in ["_law_word"]) (T : Txt mg) : Def P w K mg base "_law_number_in" 1 ["_law_word"] (spP K R_read) := by
  refine fn_P Fn sc__law_number_in (fun ds Q ⟨m, e, _⟩ => by rw [e]; rfl) fun f cdv A outer s H E hr => ⟨_, (pss_cons (ps_asg (pe_ifExp (pt_cmpR (op_eqDK (K := K) rfl hr.units) (pe_slice sl_str (pv 0) po_none (po_some pe_int)) pe_str (nomark _)) (pe_slice sl_str (pv 0) (po_some pe_int) po_none) (pv 0)) (pg_name (i := 1) sc__law_number_in.nd rfl (Or.inl rfl)))
      (pss_cons (ps_if (PW.pt (pw_or (pt_not (pt_chain op_le op_le pe_int (pe_callB (call_lenK (K := K) rfl) (by rfl) T.len (by decide +kernel) (pa_cons (pv 1) pa_nil)) pe_int)) (pw_or1 (pt_not (pt_val (pe_callB (cr_allK (K := K) rfl rfl) (by rfl) T.all (by decide +kernel) (pa_cons (pe_lc (own := [("_law_sign", 2)]) (g := (gName 2)) rfl sc__law_number_in.nd (pi_str (pv 1)) (blkOk_by (own := [("_law_sign", 2)]) (N := ["_law_word", "_law_figures", "_law_sign"]) (sc := defScope s__law_number_in) (by decide +kernel)) (fun _ _ _ _ _ => (pg_name (i := 2) sc__law_number_in.nd rfl (Or.inl rfl) (hf := Or.inr rfl))) (fun _ _ _ _ _ => pts_nil) (fun _ _ _ _ _ => (pe_cmpR op_in_sign (pv 2) pe_str (by rfl)))) pa_nil))))))) (pss_one (ps_ret pe_non)) pss_nil)
      (pss_one (ps_ret (pe_ifExp (PW.pt (pw_and (pt_cmpR (op_eqDK (K := K) rfl hr.units) (pe_ix (ix_seqK (K := K) rfl) (pv 1) pe_int (fun _ _ => rfl)) pe_str (nomark _)) (pw_and1 (pt_cmpR (op_neDK (K := K) rfl hr.units) (pv 0) pe_str (nomark _))))) pe_non (pe_callTy call_int_str (by rfl) T.int (by decide +kernel) (pa_cons (pv 0) pa_nil))))))), fun ds Q hR => ?_⟩
  obtain ⟨a, rfl, hl, hasc, k⟩ := hR
  show SW _ _ _ [.d (.str (SX.S a)), .no, .no] _ _
  walk_at "dn"
  have e45 : Str.ofString "-" = SX.S [45] := rfl
  have e48 : Str.ofString "0" = SX.S [48] := rfl
  refine sw_mid (fun Z O => Z = [.d (.str (SX.S a)), .d (.str (SX.S (figs a))), .no] ∧ O = []) ?_ ?_
  · iterate 6 walk_at "dl"
    refine ⟨_, rfl, by rw [SX.S_len]; omega, ?_⟩
    repeat' walk_at "dl"
    rw [cutTo1]
    have ht : ∀ x, (a.take 1 = [x]) ↔ a.head? = some x := fun x => by
      cases a <;> simp
    refine ⟨shaped_S (fun c hc => hasc c (List.mem_of_mem_take hc)), (by rw [e45]; exact shaped_S (fun c hc => by simp at hc; omega)), ?_⟩
    rw [e45, eqv_str, S_eq]
    refine ⟨_, rfl, ?_⟩
    unfold figs
    by_cases hs : a.head? = some 45
    · refine ite_true_of (decide_eq_true ((ht 45).mpr hs)) ?_
      rw [if_pos hs]
      walk_at "dl"
      walk_at "dl"
      refine ⟨_, rfl, by rw [SX.S_len]; omega, ?_⟩
      repeat' walk_at "dl"
      rw [cut1]
      exact ⟨rfl, by trivial⟩
    · refine ite_false_of (decide_eq_false fun y => hs ((ht 45).mp y)) ?_
      rw [if_neg hs]
      repeat' walk_at "dl"
      exact ⟨rfl, by trivial⟩
  · rintro _ _ ⟨rfl, rfl⟩
    have hfl : (figs a).length ≤ a.length := by
      unfold figs
      split
      · simp
      · omega
    walk_at "dl"
    walk_at "dl"
    refine wt_is (c := !(okFigs a)) ?_ ?_
    · repeat' walk_at "dl"
      refine ⟨_, nc_len (lenS (by rw [SX.S_len]; omega)), ?_⟩
      refine ⟨_, _, rfl, rfl, ?_⟩
      rw [SX.S_len]
      unfold okFigs
      by_cases h1 : figs a = []
      · rw [h1]
        refine ite_false_of rfl ?_
        refine ⟨_, rfl, ite_true_of rfl ?_⟩
        rw [decide_eq_false (fun y => y.1 rfl)]
        rfl
      have hl1 : 0 < (figs a).length := List.length_pos_iff.mpr h1
      refine ite_true_of (decide_eq_true (by omega)) ?_
      walk_at "dl"
      refine ⟨_, rfl, _, rfl, ?_⟩
      by_cases h20 : (figs a).length ≤ 20
      · refine ite_false_of (by rw [decide_eq_true (by omega)]; rfl) ?_
        repeat' walk_at "dl"
        refine we_of (wl_map (ow_name (by decide)) (figs a).length (fun i d => ∃ c, (SX.S (figs a)).cps[i]? = some c ∧ d = .str ⟨#[c]⟩) (((figs a).map fun c => decide (48 ≤ c ∧ c ≤ 57)).map .bool) ?_ (by omega) (by simp) ?_ ?_)
        · refine iw_str ?_
          repeat' walk_at "dl"
          exact ⟨by simp, rfl⟩
        · rintro i _ y p acc hi ⟨c, hc, rfl⟩ hy
          have hc2 : (figs a)[i]? = some c := by simpa using hc
          rw [List.getElem?_map, List.getElem?_map, hc2] at hy
          cases hy
          refine gw_name ⟨rfl, ?_⟩
          show WE _ _ _ [.d (.str (SX.S a)), .d (.str (SX.S (figs a))), .d (.str ⟨#[c]⟩)] _ _
          repeat' walk_at "dl"
          have : (c ∈ (Str.ofString "0123456789").cps.toList) ↔ (48 ≤ c ∧ c ≤ 57) := by
            have e : (Str.ofString "0123456789").cps.toList = [48, 49, 50, 51, 52, 53, 54, 55, 56, 57] := rfl
            rw [e]
            simp
            omega
          exact congrArg _ (decide_eq_decide.mpr this)
        · repeat' walk_at "dl"
          refine ⟨_, nc_all, ?_⟩
          have e : ((figs a).map fun c => decide (48 ≤ c ∧ c ≤ 57)).all id = decide (figs a ≠ [] ∧ AllFig (figs a) ∧ (figs a).length ≤ 20) := by
            rw [Bool.eq_iff_iff]
            simp only [List.all_eq_true, List.mem_map, decide_eq_true_eq, id]
            constructor
            · intro h
              exact ⟨h1, fun c hc => of_decide_eq_true (h _ ⟨c, hc, rfl⟩), h20⟩
            · rintro ⟨_, h, _⟩ _ ⟨c, hc, rfl⟩
              exact decide_eq_true (h c hc)
          rw [e]
          exact ⟨_, rfl, rfl⟩
      · refine ite_true_of (by rw [decide_eq_false (by omega)]; rfl) ?_
        rw [decide_eq_false (fun y => h20 y.2.2)]
        rfl
    cases hok : okFigs a with
    | false =>
      refine ite_true_of rfl ?_
      have hr2 : readI a = none := by
        unfold readI
        rw [hok]
        rfl
      rw [hr2] at k
      repeat' walk_at "dl"
      exact k
    | true =>
      refine ite_false_of rfl ?_
      obtain ⟨h1, h2, h3⟩ := of_decide_eq_true hok
      walk_at "dl"
      walk_at "dl"
      walk_at "dl"
      refine wt_is (c := badNought a) ?_ ?_
      · repeat' walk_at "dl"
        obtain ⟨c0, rest, hf⟩ : ∃ c0 rest, figs a = c0 :: rest := by
          cases hf : figs a with
          | nil => exact absurd hf h1
          | cons x xs => exact ⟨x, xs, rfl⟩
        have c0b := h2 c0 (by rw [hf]; exact List.mem_cons_self ..)
        refine ⟨0, .str ⟨#[c0]⟩, rfl, .str (Evl.sz_of (by rw [SX.S_len]; omega)) (by rw [hf]; unfold atI ixN; simp), ?_⟩
        walk_at "dl"
        refine ⟨shaped_S (a := [c0]) (fun c hc => by simp at hc; omega), by rw [e48]; exact shaped_S (fun c hc => by simp at hc; omega), _, rfl, ?_⟩
        rw [e48, eqv_str]
        have e1 : decide ((⟨#[c0]⟩ : Str) = SX.S [48]) = decide (c0 = 48) := decide_eq_decide.mpr ⟨fun h => by
          have h2 := SX.S_inj (a := [c0]) (b := [48]) h
          simpa using h2, fun h => by rw [h]⟩
        rw [e1]
        unfold badNought
        rw [hf]
        by_cases h48 : c0 = 48
        · refine ite_true_of (decide_eq_true h48) ?_
          repeat' walk_at "dl"
          refine ⟨shaped_S hasc, shaped_S (fun c hc => by simp at hc; omega), ?_⟩
          rw [eqv_str, S_eq]
          by_cases h10 : a = [48]
          · rw [decide_eq_true h10, decide_eq_false (fun y => y.2 h10)]
            exact ⟨_, rfl, rfl⟩
          · rw [decide_eq_false h10, decide_eq_true ⟨by rw [h48]; rfl, h10⟩]
            exact ⟨_, rfl, rfl⟩
        · refine ite_false_of (decide_eq_false h48) ?_
          rw [decide_eq_false (fun y => h48 (by simpa using y.1))]
      cases hbn : badNought a with
      | true =>
        refine ite_true_of rfl ?_
        have hr2 : readI a = none := by
          unfold readI
          rw [hok, hbn]
          rfl
        rw [hr2] at k
        repeat' walk_at "dl"
        exact k
      | false =>
        refine ite_false_of rfl ?_
        have hr2 : readI a = some (valI a) := by
          unfold readI
          rw [hok, hbn]
          rfl
        rw [hr2] at k
        repeat' walk_at "dl"
        exact ⟨_, nc_intS (int_val hok hl) (by rw [SX.S_len]; omega), k⟩

end My
namespace My
open PySem PySem.Spec PyProof.Rows L2 DL
open Evl (Ex)
local macro_rules | `(tactic| walk_at "dn") => `(tactic| try dsimp only [cxOf, Cx.nox, Cx.wish])
local macro_rules | `(tactic| walk_at "dz") => `(tactic| try simp only [List.set_cons_succ, List.set_cons_zero])
local macro_rules | `(tactic| walk_at "dl") => `(tactic| first
  | with_reducible refine we_int ?_
  | with_reducible refine we_bl ?_
  | with_reducible refine we_non ?_
  | with_reducible refine we_str ?_
  | (with_reducible refine we_var (d := ?dd) ?hh ?_; (case hh => with_unfolding_all rfl))
  | with_reducible refine we_opI ?_
  | with_reducible refine we_opB ?_
  | with_reducible refine we_opC ?_
  | with_reducible refine we_ixV ?_
  | with_reducible refine we_ixI ?_
  | with_reducible refine we_ixC ?_
  | with_reducible refine we_eqD ?_
  | with_reducible refine we_neD ?_
  | with_reducible refine we_neg ?_
  | with_reducible refine we_tupD ?_
  | with_reducible refine we_lstD ?_
  | with_reducible refine wl_lstD ?_
  | with_reducible refine we_callP ?_
  | (with_reducible refine we_callX ?hh ?_; (case hh => with_unfolding_all rfl))
  | with_reducible refine wd_nil ?_
  | with_reducible refine wd_cons ?_
  | with_reducible refine ⟨(rfl : Nat.ble _ _ = true), ?_⟩
  | with_reducible refine we_if ?_
  | with_reducible refine we_andV ?_
  | with_reducible refine we_orV ?_
  | with_reducible refine we_notV ?_
  | with_reducible refine we_isN ?_
  | with_reducible refine we_notN ?_
  | with_reducible refine we_tuple ?_
  | with_reducible refine we_listB ?_
  | with_reducible refine we_ncall ?_
  | with_reducible refine wt_test ?_
  | with_reducible refine wt_B ?_
  | with_reducible refine wt_and ?_
  | with_reducible refine wt_or ?_
  | with_reducible refine wt_not ?_
  | with_reducible refine wa_nil ?_
  | with_reducible refine wa_ty ?_
  | (with_reducible refine wa_raw (w := ?ww) ?hh ?_; (case hh => with_unfolding_all rfl))
  | with_reducible refine wa_cons ?_
  | (with_reducible refine sw_seq ?_; (try dsimp only))
  | (with_reducible refine sw_ret ?_; (try dsimp only))
  | (with_reducible refine sw_retN ?_; (try dsimp only))
  | (with_reducible refine sw_next ?_; (try dsimp only))
  | with_reducible refine sw_if ?_
  | (with_reducible refine sw_asg ?_; (try dsimp only); (try simp only [List.set_cons_succ, List.set_cons_zero]))
  | (with_reducible refine sw_par3 ?_; (try dsimp only); (try simp only [List.set_cons_succ, List.set_cons_zero]))
  | (with_reducible refine sw_par ?_; (try dsimp only); (try simp only [List.set_cons_succ, List.set_cons_zero]))
  | with_reducible refine ⟨_, _, rfl, rfl, And.intro ?_ ?_⟩
  | with_reducible refine ⟨_, _, rfl, rfl, ?_⟩
  | with_reducible refine ⟨_, _, rfl, ItemAt.lst rfl, ?_⟩
  | with_reducible refine ⟨_, _, rfl, ItemAt.tup rfl, ?_⟩
  | with_reducible refine ⟨_, .inl rfl, ?_⟩
  | with_reducible refine ⟨_, .inr rfl, ?_⟩
  | with_reducible refine ⟨_, nc_gcd, ?_⟩
  | with_reducible refine ⟨_, nc_abs, ?_⟩
  | with_reducible refine ⟨_, nc_int, ?_⟩
  | with_reducible refine ⟨_, nc_intb, ?_⟩
  | with_reducible refine ⟨_, nc_isi (by simp), ?_⟩
  | (refine ⟨_, nc_len (by with_unfolding_all rfl), ?_⟩)
  | with_reducible refine ⟨_, rfl, ?_⟩
  | with_reducible refine ⟨rfl, rfl, ?_⟩
  | with_reducible refine iteT ?_
  | with_reducible refine iteF ?_)

local macro_rules | `(tactic| walk_at "dm") => `(tactic| ((fail_if_success (with_reducible refine sw_if ?_)); walk_at "dl"))

local macro_rules | `(tactic| walk_at "dl") => `(tactic| first
  | with_reducible refine wd_star ?_
  | with_reducible refine wl_slice ?_
  | with_reducible refine we_slTup ?_
  | with_reducible refine we_slStr ?_
  | with_reducible refine wo_no ?_
  | with_reducible refine wo_part ?_
  | with_reducible refine wl_cat ?_
  | with_reducible refine wl_rep ?_
  | with_reducible refine we_catT ?_
  | with_reducible refine we_chainI ?_
  | with_reducible refine we_of (te := tSl _ _ _ _) ?_
  | with_reducible refine we_of (te := tOp rCat _ _) ?_
  | with_reducible refine we_of (te := tOp rRep _ _) ?_)

local macro_rules | `(tactic| walk_at "dl") => `(tactic| first
  | with_reducible refine we_m0B ?_
  | with_reducible refine we_m1B ?_
  | with_reducible refine we_bits ?_
  | with_reducible refine we_addS ?_
  | with_reducible refine we_inSign ?_)

theorem ofS_app (a b : String) : Str.ofString (a ++ b) = Str.ofString a ++ Str.ofString b := by
  rw [Str.ofString_eq_toList, Str.ofString_eq_toList, Str.ofString_eq_toList]
  refine TL.ext_tl ?_
  rw [TL.tl_append]
  simp [TL.tl]
/-- a whole number's signs -/
def chI (n : Int) : List Nat := if n < 0 then 45 :: TL.numL n.natAbs else TL.numL n.natAbs
theorem num_I (n : Int) : Str.ofString (toString n) = SX.S (chI n) := by
  unfold chI
  split
  · rename_i h
    obtain ⟨m, rfl⟩ : ∃ m : Nat, n = -((m + 1 : Nat) : Int) := ⟨n.natAbs - 1, by omega⟩
    have e1 : toString (-((m + 1 : Nat) : Int)) = "-" ++ toString ((m + 1 : Nat) : Int) := rfl
    have e2 : (-((m + 1 : Nat) : Int)).natAbs = m + 1 := by omega
    rw [e1, e2]
    have e3 : Str.ofString ("-" ++ toString ((m + 1 : Nat) : Int)) = Str.ofString "-" ++ Str.ofString (toString ((m + 1 : Nat) : Int)) := ofS_app _ _
    rw [e3, SX.num_S]
    exact SX.S_cat [45] (TL.numL (m + 1))
  · rename_i h
    obtain ⟨m, rfl⟩ : ∃ m : Nat, n = (m : Int) := ⟨n.natAbs, by omega⟩
    rw [SX.num_S, Int.natAbs_natCast]
theorem chI_asc (n : Int) : Asc (chI n) := fun c hc => by
  unfold chI at hc
  have hd := TL.numL_digits n.natAbs
  split at hc
  · rcases List.mem_cons.mp hc with e | h
    · omega
    · have := hd c h; omega
  · have := hd c hc; omega
theorem chI_free (n : Int) : 32 ∉ chI n := fun hc => by
  unfold chI at hc
  split at hc
  · rcases List.mem_cons.mp hc with e | h
    · omega
    · exact TL.numL_free (.inl (by decide)) h
  · exact TL.numL_free (.inl (by decide)) hc
theorem chI_len {n : Int} {k : Nat} (hk : 0 < k) (h : n.natAbs < 10 ^ k) : (chI n).length ≤ k + 1 := by
  have := TL.numL_len hk h
  unfold chI
  split
  · rw [List.length_cons]; omega
  · omega
theorem joinL_snoc (s : List Nat) : ∀ (xs : List (List Nat)) (p : List Nat), xs ≠ [] → TL.joinL s (xs ++ [p]) = TL.joinL s xs ++ (s ++ p)
  | [], _, h => absurd rfl h
  | [x], p, _ => rfl
  | x :: y :: xs, p, _ => by
    have ih := joinL_snoc s (y :: xs) p (List.cons_ne_nil _ _)
    show x ++ (s ++ TL.joinL s ((y :: xs) ++ [p])) = (x ++ (s ++ TL.joinL s (y :: xs))) ++ (s ++ p)
    rw [ih]
    simp
/-- a row's text -/
def rowL (ws : List Int) (b : Int) : List Nat := TL.joinL [32] (ws.map chI ++ [[60, 61], chI b])
theorem rowL_eq {ws : List Int} {b : Int} (h : ws ≠ []) : rowL ws b = (TL.joinL [32] (ws.map chI) ++ [32, 60, 61, 32]) ++ chI b := by
  unfold rowL
  have e : ws.map chI ++ [[60, 61], chI b] = (ws.map chI ++ [[60, 61]]) ++ [chI b] := by simp
  rw [e, joinL_snoc _ _ _ (by simp), joinL_snoc _ _ _ (by simpa using h)]
  simp
def Big (ws : List Int) (b : Int) : Prop := ws ≠ [] ∧ ws.length ≤ 9 ∧ (∀ w ∈ ws, w.natAbs < 2 ^ 60) ∧ b.natAbs < 2 ^ 60
def R_rowtext (ds : List PyData) (P : PyData → Prop) : Prop := ∃ (ws : List Int) (b : Int), ds = [.tuple [.tuple (ws.map .int), .int b]] ∧ Big ws b ∧ P (.str (SX.S (rowL ws b)))
instance : MonoR R_rowtext := ⟨fun _ _ _ h ⟨ws, b, e, a, k⟩ => ⟨ws, b, e, a, h _ k⟩⟩
theorem big_ten {n : Int} (h : n.natAbs < 2 ^ 60) : n.natAbs < 10 ^ 19 := by
  have : (2 : Nat) ^ 60 < 10 ^ 19 := by decide
  omega
theorem sum_le {m : Nat} : ∀ (xs : List Nat), (∀ x ∈ xs, x ≤ m) → xs.sum ≤ xs.length * m
  | [], _ => by simp
  | x :: xs, h => by
    have h1 := h x (List.mem_cons_self ..)
    have h2 := sum_le xs fun y hy => h y (List.mem_cons_of_mem _ hy)
    rw [List.sum_cons, List.length_cons]
    have : (xs.length + 1) * m = xs.length * m + m := by rw [Nat.add_mul, Nat.one_mul]
    omega
theorem strs_of {ws : List Int} : (ws.map fun w => PyData.str (Str.ofString (toString w))) = (((ws.map chI).map SX.S).map .str) := by
  rw [List.map_map, List.map_map]
  refine List.map_congr_left fun w _ => ?_
  show PyData.str _ = PyData.str (SX.S (chI w))
  rw [num_I]
theorem lens_le {ws : List Int} (h : ∀ w ∈ ws, w.natAbs < 2 ^ 60) : ∀ x ∈ ((ws.map chI).map SX.S).map (·.length), x ≤ 20 := fun x hx => by
  obtain ⟨y, hy, e⟩ := List.mem_map.mp hx
  obtain ⟨z, hz, e2⟩ := List.mem_map.mp hy
  obtain ⟨w, hw, e3⟩ := List.mem_map.mp hz
  subst e e2 e3
  rw [SX.S_len]
  exact chI_len (k := 19) (by decide) (big_ten (h w hw))
theorem ok_row_text {P : Program} {w : World} {K : PySem.W.Frag} {mg : Str → Option Value} {base : Heap} (Fn : FunAt K mg "row_text" s_row_text ["row"]) (T : Txt mg) (d_number_text : Def P w K mg base "number_text" 1 ["number"] (spP K R_ntext)) : Def P w K mg base "row_text" 2 ["row"] (spP K R_rowtext) := by
  refine fn_P Fn sc_row_text (fun ds Q ⟨m, _, e, _⟩ => by rw [e]; rfl) fun f cdv A outer s H E hr => ⟨_, (pss_cons (ps_asg (pv 0) (pg_tup (n := 2) rfl (pgs_cons (pg_name (i := 1) sc_row_text.nd rfl (Or.inl rfl)) (pgs_cons (pg_name (i := 2) sc_row_text.nd rfl (Or.inl rfl)) pgs_nil))))
      (pss_one (ps_ret (DL.pe_joinK (K := K) rfl pe_str (pe_op op_cat (pe_lc (own := [("weight", 3)]) (g := (gName 3)) rfl sc_row_text.nd (pi_tupK (K := K) rfl (pv 1)) (blkOk_by (own := [("weight", 3)]) (N := ["row", "weights", "bound", "weight"]) (sc := defScope s_row_text) (by decide +kernel)) (fun _ _ _ _ _ => (pg_name (i := 3) sc_row_text.nd rfl (Or.inl rfl) (hf := Or.inr rfl))) (fun _ _ _ _ _ => pts_nil) (fun _ _ _ _ _ => (pe_def d_number_text hr (by first | decide | omega) (by rfl) (pa_cons (pv 3) pa_nil)))) (pe_lst (pa_cons (C8.pe_gc (by rfl) T.c__SIGN) (pa_cons (pe_def d_number_text hr (by first | decide | omega) (by rfl) (pa_cons (pv 2) pa_nil)) pa_nil)))))))), fun ds Q hR => ?_⟩
  obtain ⟨ws, b, rfl, ⟨hne, hl, hw, hb⟩, k⟩ := hR
  show SW _ _ _ [.d (.tuple [.tuple (ws.map .int), .int b]), .no, .no, .no] _ _
  walk_at "dn"
  walk_at "dl"
  refine sw_asgG ?_
  repeat' walk_at "dl"
  refine gw_tup rfl (gws_name (gws_name (gws_nil ?_)))
  walk_at "dz"
  walk_at "dl"
  have e32 : Str.ofString " " = SX.S [32] := rfl
  have e60 : Str.ofString "<=" = SX.S [60, 61] := rfl
  refine we_join ?_
  walk_at "dl"
  refine ⟨_, rfl, ?_⟩
  refine we_of (wl_cat (wl_map (ow_name (by decide)) ws.length (fun i d => (ws.map PyData.int)[i]? = some d) (ws.map fun w => PyData.str (Str.ofString (toString w))) ?_ (by omega) (by simp) ?_ ?_))
  · refine iw_tup ?_
    repeat' walk_at "dl"
    exact ⟨by simp, rfl⟩
  · intro i d y p acc hi hd hy
    have hn : ws[i]? = some ws[i] := List.getElem?_eq_getElem hi
    rw [List.getElem?_map, hn] at hd
    cases hd
    rw [List.getElem?_map, hn] at hy
    cases hy
    refine gw_name ⟨rfl, ?_⟩
    show WE _ _ _ [.d (.tuple [.tuple (ws.map .int), .int b]), .d (.tuple (ws.map .int)), .d (.int b), .d (.int ws[i])] _ _
    repeat' walk_at "dl"
    exact ⟨_, rfl, sz_up (hw _ (List.getElem_mem _)) (by decide), rfl⟩
  · intro p
    repeat' walk_at "dl"
    refine ⟨_, rfl, sz_up hb (by decide), ?_⟩
    repeat' walk_at "dl"
    refine ⟨by simp; omega, ?_⟩
    refine ⟨((ws.map chI ++ [[60, 61], chI b]).map SX.S), ?_, ?_, ?_⟩
    · rw [strs_of, e60, num_I]
      simp
    · rw [List.map_append, List.map_append, List.sum_append]
      have := sum_le _ (lens_le hw)
      have h2 := chI_len (k := 19) (by decide) (big_ten hb)
      rw [List.length_map, List.length_map, List.length_map] at this
      rw [e32]
      simp only [List.map_cons, List.map_nil, List.sum_cons, List.sum_nil, SX.S_len, List.length_append, List.length_map, List.length_cons, List.length_nil]
      omega
    · rw [e32, SX.join_S]
      exact k

theorem ok__law_row_text {P : Program} {w : World} {K : PySem.W.Frag} {mg : Str → Option Value} {base : Heap} (Fn : FunAt K mg "_law_row_text" s__law_row_text ["_law_row_here"]) (T : Txt mg) : Def P w K mg base "_law_row_text" 1 ["_law_row_here"] (spP K R_rowtext) := by
  refine fn_P Fn sc__law_row_text (fun ds Q ⟨m, _, e, _⟩ => by rw [e]; rfl) fun f cdv A outer s H E hr => ⟨_, (pss_one (ps_ret (pe_op op_add_str (pe_op op_add_str (DL.pe_joinK (K := K) rfl pe_str (pe_lc (own := [("_law_weight", 1)]) (g := (gName 1)) rfl sc__law_row_text.nd (pi_tupK (K := K) rfl (pe_ix (ix_seqK (K := K) rfl) (pv 0) pe_int (fun _ _ => rfl))) (blkOk_by (own := [("_law_weight", 1)]) (N := ["_law_row_here", "_law_weight"]) (sc := defScope s__law_row_text) (by decide +kernel)) (fun _ _ _ _ _ => (pg_name (i := 1) sc__law_row_text.nd rfl (Or.inl rfl) (hf := Or.inr rfl))) (fun _ _ _ _ _ => pts_nil) (fun _ _ _ _ _ => (pe_callTy call_str_int (by rfl) T.str (by decide +kernel) (pa_cons (pv 1) pa_nil))))) pe_str) (pe_callTy call_str_int (by rfl) T.str (by decide +kernel) (pa_cons (pe_ix (ix_seqK (K := K) rfl) (pv 0) pe_int (fun _ _ => rfl)) pa_nil))))), fun ds Q hR => ?_⟩
  obtain ⟨ws, b, rfl, ⟨hne, hl, hw, hb⟩, k⟩ := hR
  show SW _ _ _ [.d (.tuple [.tuple (ws.map .int), .int b]), .no] _ _
  walk_at "dn"
  have e32 : Str.ofString " " = SX.S [32] := rfl
  have e60 : Str.ofString " <= " = SX.S [32, 60, 61, 32] := rfl
  have hlog : ∀ n : Int, n.natAbs < 2 ^ 60 → n.natAbs.log2 < 1920 := fun n h => by
    have := log2_lt h
    omega
  walk_at "dl"
  walk_at "dl"
  walk_at "dl"
  refine we_join ?_
  walk_at "dl"
  refine ⟨_, rfl, ?_⟩
  refine we_of (wl_map (ow_name (by decide)) ws.length (fun i d => (ws.map PyData.int)[i]? = some d) (ws.map fun w => PyData.str (Str.ofString (toString w))) ?_ (by omega) (by simp) ?_ ?_)
  · refine iw_tup ?_
    repeat' walk_at "dl"
    exact ⟨by simp, rfl⟩
  · intro i d y p acc hi hd hy
    have hn : ws[i]? = some ws[i] := List.getElem?_eq_getElem hi
    rw [List.getElem?_map, hn] at hd
    cases hd
    rw [List.getElem?_map, hn] at hy
    cases hy
    refine gw_name ⟨rfl, ?_⟩
    show WE _ _ _ [.d (.tuple [.tuple (ws.map .int), .int b]), .d (.int ws[i])] _ _
    repeat' walk_at "dl"
    exact ⟨_, nc_str (hlog _ (hw _ (List.getElem_mem _))), rfl⟩
  · have hs := sum_le _ (lens_le hw)
    rw [List.length_map, List.length_map, List.length_map] at hs
    have h2 := chI_len (k := 19) (by decide) (big_ten hb)
    have hj : (TL.joinL [32] (ws.map chI)).length ≤ 1000 := by
      have : ∀ (xs : List (List Nat)), (TL.joinL [32] xs).length ≤ (xs.map (·.length)).sum + xs.length := by
        intro xs
        induction xs with
        | nil => simp [TL.joinL]
        | cons x xs ih =>
          cases xs with
          | nil => simp [TL.joinL]
          | cons y ys =>
            show (x ++ ([32] ++ TL.joinL [32] (y :: ys))).length ≤ _
            simp only [List.length_append, List.map_cons, List.sum_cons, List.length_cons, List.length_nil] at *
            omega
      have h3 := this (ws.map chI)
      have e : ((ws.map chI).map SX.S).map (·.length) = (ws.map chI).map (·.length) := by
        rw [List.map_map]
        exact List.map_congr_left fun x _ => SX.S_len x
      rw [e] at hs
      rw [List.length_map] at h3
      omega
    refine ⟨(ws.map chI).map SX.S, congrArg PyData.list strs_of, ?_, ?_⟩
    · rw [e32, SX.S_len]
      simp only [List.length_map, List.length_cons, List.length_nil] at *
      omega
    rw [e32, SX.join_S]
    walk_at "dl"
    refine ⟨_, _, rfl, rfl, ?_, ?_⟩
    · rw [e60, SX.S_len, SX.S_len]
      simp only [List.length_cons, List.length_nil]
      omega
    rw [e60, SX.S_cat]
    repeat' walk_at "dl"
    refine ⟨_, nc_str (hlog _ hb), ?_⟩
    refine ⟨_, _, rfl, rfl, ?_, ?_⟩
    · rw [num_I, SX.S_len, SX.S_len, List.length_append]
      simp only [List.length_cons, List.length_nil]
      omega
    rw [num_I, SX.S_cat, ← rowL_eq hne]
    exact k

/-- the words of a text -/
def wordsL (a : List Nat) : List (List Nat) := TL.spl [32] 0 [] a
theorem spl_facts : ∀ (a : List Nat) (k : Nat) (acc : List Nat), (∀ w ∈ TL.spl [32] k acc a, w.length ≤ acc.length + a.length ∧ ∀ c ∈ w, c ∈ acc ∨ c ∈ a) ∧ (TL.spl [32] k acc a).length ≤ a.length + 1
  | [], k, acc => by
    rw [TL.spl_nil]
    exact ⟨fun w hw => by
      simp at hw
      subst hw
      exact ⟨by simp, fun c hc => .inl hc⟩, by simp⟩
  | x :: r, 0, acc => by
    show (∀ w ∈ (if TL.pre [32] (x :: r) = true then acc :: TL.spl [32] 0 [] r else TL.spl [32] 0 (acc ++ [x]) r), _) ∧ (if TL.pre [32] (x :: r) = true then acc :: TL.spl [32] 0 [] r else TL.spl [32] 0 (acc ++ [x]) r).length ≤ _
    split
    · obtain ⟨h1, h2⟩ := spl_facts r 0 []
      refine ⟨fun w hw => ?_, by rw [List.length_cons, List.length_cons]; omega⟩
      rcases List.mem_cons.mp hw with e | hw
      · subst e
        exact ⟨by omega, fun c hc => .inl hc⟩
      · obtain ⟨h3, h4⟩ := h1 w hw
        refine ⟨by simp at h3 ⊢; omega, fun c hc => ?_⟩
        rcases h4 c hc with z | z
        · cases z
        · exact .inr (List.mem_cons_of_mem _ z)
    · obtain ⟨h1, h2⟩ := spl_facts r 0 (acc ++ [x])
      refine ⟨fun w hw => ?_, by rw [List.length_cons]; omega⟩
      obtain ⟨h3, h4⟩ := h1 w hw
      refine ⟨by simp at h3 ⊢; omega, fun c hc => ?_⟩
      rcases h4 c hc with z | z
      · rcases List.mem_append.mp z with z | z
        · exact .inl z
        · simp at z
          subst z
          exact .inr (List.mem_cons_self ..)
      · exact .inr (List.mem_cons_of_mem _ z)
  | x :: r, k + 1, acc => by
    obtain ⟨h1, h2⟩ := spl_facts r k acc
    refine ⟨fun w hw => ?_, by show (TL.spl [32] k acc r).length ≤ _; rw [List.length_cons]; omega⟩
    obtain ⟨h3, h4⟩ := h1 w hw
    refine ⟨by rw [List.length_cons]; omega, fun c hc => ?_⟩
    rcases h4 c hc with z | z
    · exact .inl z
    · exact .inr (List.mem_cons_of_mem _ z)
theorem words_len {a : List Nat} : (wordsL a).length ≤ a.length + 1 := (spl_facts a 0 []).2
theorem words_ok {a w : List Nat} (h : w ∈ wordsL a) : w.length ≤ a.length ∧ (Asc a → Asc w) := by
  obtain ⟨h1, h2⟩ := (spl_facts a 0 []).1 w h
  refine ⟨by simpa using h1, fun ha c hc => ?_⟩
  rcases h2 c hc with z | z
  · cases z
  · exact ha c z
theorem split_words (a : List Nat) : Txt.split (SX.S a) (SX.S [32]) = (wordsL a).map SX.S := SX.split_S (by simp) (by decide)
/-- what a row's text says, of so many weights -/
def numsIn (a : List Nat) (c : Nat) : List (Option Int) := ((wordsL a).take c ++ (wordsL a).drop (c + 1)).map readI
def rowIn (a : List Nat) (c : Nat) : PyData :=
  if (wordsL a).length = c + 2 ∧ (wordsL a)[c]? = some [60, 61] ∧ (numsIn a c).all Option.isSome = true then .tuple [.tuple (((numsIn a c).take c).map optD), optD ((numsIn a c)[c]?.getD none)] else .none

theorem numL_head : ∀ (k m : Nat), m ≤ k → 0 < m → (TL.numL m).head? ≠ some 48
  | 0, m, h, h0 => by omega
  | k + 1, m, h, h0 => by
    by_cases h10 : m < 10
    · rw [TL.numL_lt h10]
      simp
      omega
    · rw [TL.numL_step (by omega)]
      have ih := numL_head k (m / 10) (by omega) (by omega)
      have hne := TL.numL_ne (m / 10)
      cases hq : TL.numL (m / 10) with
      | nil => exact absurd hq hne
      | cons x xs =>
        rw [hq] at ih
        simpa using ih
theorem numL_zero : TL.numL 0 = [48] := TL.numL_lt (by decide)
theorem numL_h45 (m : Nat) : (TL.numL m).head? ≠ some 45 := fun h => by
  have hd := TL.numL_digits m
  cases hq : TL.numL m with
  | nil => rw [hq] at h; cases h
  | cons x xs =>
    rw [hq] at h
    have e : x = 45 := by simpa using h
    have := hd x (by rw [hq]; exact List.mem_cons_self ..)
    omega
theorem read_ch {n : Int} (h : n.natAbs < 10 ^ 19) : readI (chI n) = some n := by
  have hlen := TL.numL_len (by decide) h
  have hne := TL.numL_ne n.natAbs
  have hdg : AllFig (TL.numL n.natAbs) := fun c hc => TL.numL_digits _ c hc
  have hfig : figs (chI n) = TL.numL n.natAbs := by
    unfold figs chI
    split
    · rfl
    · exact if_neg (numL_h45 _)
  have hok : okFigs (chI n) = true := by
    unfold okFigs
    rw [hfig]
    exact decide_eq_true ⟨hne, hdg, by omega⟩
  have hbad : badNought (chI n) = false := by
    unfold badNought
    rw [hfig]
    refine decide_eq_false fun ⟨y1, y2⟩ => ?_
    by_cases h0 : n.natAbs = 0
    · have e : n = 0 := by omega
      subst e
      exact y2 numL_zero
    · exact numL_head _ _ (Nat.le_refl _) (by omega) y1
  unfold readI
  rw [if_pos ⟨hok, hbad⟩]
  unfold valI
  rw [hfig, TL.numL_val]
  unfold chI
  by_cases hn : n < 0
  · rw [if_pos hn, if_pos (show (45 :: TL.numL n.natAbs).head? = some 45 from rfl)]
    congr 1
    omega
  · rw [if_neg hn, if_neg (numL_h45 _)]
    congr 1
    omega
theorem row_back {ws : List Int} {b : Int} (h : Big ws b) : rowIn (rowL ws b) ws.length = .tuple [.tuple (ws.map .int), .int b] := by
  obtain ⟨hne, hl, hw, hb⟩ := h
  have hwords : wordsL (rowL ws b) = ws.map chI ++ [[60, 61], chI b] := by
    unfold wordsL rowL
    refine TL.spl_join (by simp) fun p hp => ?_
    rcases List.mem_append.mp hp with z | z
    · obtain ⟨w, _, e⟩ := List.mem_map.mp z
      subst e
      exact chI_free w
    · simp only [List.mem_cons, List.mem_nil_iff, or_false] at z
      rcases z with e | e
      · subst e; decide
      · subst e; exact chI_free b
  have hmap : (ws.map chI).map readI = ws.map some := by
    rw [List.map_map]
    exact List.map_congr_left fun w hw' => read_ch (big_ten (hw w hw'))
  have hnums : numsIn (rowL ws b) ws.length = ws.map some ++ [some b] := by
    unfold numsIn
    rw [hwords, List.take_append_of_le_length (by simp), List.take_of_length_le (by simp)]
    have e2 : (ws.map chI ++ [[60, 61], chI b]).drop (ws.length + 1) = [chI b] := by
      rw [List.drop_append, List.drop_eq_nil_of_le (by simp)]
      simp
    rw [e2, List.map_append, hmap, List.map_cons, List.map_nil, read_ch (big_ten hb)]
  have hc : (wordsL (rowL ws b))[ws.length]? = some [60, 61] := by
    rw [hwords, List.getElem?_append_right (by simp)]
    simp
  unfold rowIn
  rw [if_pos ⟨by rw [hwords]; simp, hc, by rw [hnums]; simp⟩, hnums]
  have e3 : (ws.map some ++ [some b]).take ws.length = ws.map some := by
    rw [List.take_append_of_le_length (by simp), List.take_of_length_le (by simp)]
  have e4 : (ws.map some ++ [some b])[ws.length]? = some (some b) := by
    rw [List.getElem?_append_right (by simp)]
    simp
  rw [e3, e4, List.map_map]
  rfl

def R_rowin (ds : List PyData) (P : PyData → Prop) : Prop := ∃ (a : List Nat) (c : Nat), ds = [.str (SX.S a), .int (c : Int)] ∧ a.length ≤ 500 ∧ Asc a ∧ 1 ≤ c ∧ c ≤ 9 ∧ P (rowIn a c)
instance : MonoR R_rowin := ⟨fun _ _ _ h ⟨a, c, e, h1, h2, h3, h4, k⟩ => ⟨a, c, e, h1, h2, h3, h4, h _ k⟩⟩
def wD (W : List (List Nat)) : List PyData := (W.map SX.S).map .str
theorem wD_at {W : List (List Nat)} {i : Nat} {w : List Nat} (h : W[i]? = some w) : (wD W)[i]? = some (.str (SX.S w)) := by
  unfold wD
  rw [List.getElem?_map, List.getElem?_map, h]
  rfl
theorem wD_app (X Y : List (List Nat)) : wD X ++ wD Y = wD (X ++ Y) := by simp [wD]
theorem slice_two {W : List (List Nat)} {c : Nat} (h : W.length = c + 2) : sliceD (wD W) none (some (-2)) ++ sliceD (wD W) (some (-1)) none = wD (W.take c ++ W.drop (c + 1)) := by
  have hl : (wD W).length = c + 2 := by simp [wD, h]
  have s1 : HT.sIx (c + 2) (c + 2) (some (-2)) = c := by
    show (if (-2 : Int) < 0 then ((-2 : Int) + ((c + 2 : Nat) : Int)).toNat else min (-2 : Int).toNat (c + 2)) = c
    rw [if_pos (by decide)]
    omega
  have s2 : HT.sIx (c + 2) 0 (some (-1)) = c + 1 := by
    show (if (-1 : Int) < 0 then ((-1 : Int) + ((c + 2 : Nat) : Int)).toNat else min (-1 : Int).toNat (c + 2)) = c + 1
    rw [if_pos (by decide)]
    omega
  unfold sliceD
  rw [hl, s1, s2]
  show ((wD W).drop 0).take (c - 0) ++ ((wD W).drop (c + 1)).take (c + 2 - (c + 1)) = _
  rw [List.drop_zero, Nat.sub_zero, List.take_of_length_le (l := (wD W).drop (c + 1)) (by rw [List.length_drop, hl]; omega)]
  simp [wD, List.map_take, List.map_drop]
theorem slice_most {ds : List PyData} {c : Nat} (h : ds.length = c + 1) : sliceD ds none (some (-1)) = ds.take c := by
  have s2 : HT.sIx (c + 1) (c + 1) (some (-1)) = c := by
    show (if (-1 : Int) < 0 then ((-1 : Int) + ((c + 1 : Nat) : Int)).toNat else min (-1 : Int).toNat (c + 1)) = c
    rw [if_pos (by decide)]
    omega
  unfold sliceD
  rw [h, s2]
  show (ds.drop 0).take (c - 0) = _
  rw [List.drop_zero, Nat.sub_zero]
theorem shaped_opts (ns : List (Option Int)) : SeqAt.shaped (.list (ns.map optD)) = true := by
  have h1 : ∀ ns : List (Option Int), PyData.canLayAll0 (ns.map optD) = true ∧ PyData.depthAll (ns.map optD) ≤ 1 := by
    intro ns
    induction ns with
    | nil => exact ⟨rfl, Nat.zero_le _⟩
    | cons n ns ih =>
      have d1 : (optD n).depth ≤ 1 := by cases n <;> first | exact Nat.zero_le _ | exact Nat.le_refl _
      have c1 : (optD n).canLay0 = true := by cases n <;> rfl
      refine ⟨?_, ?_⟩
      · show ((optD n).canLay0 && PyData.canLayAll0 (ns.map optD)) = true
        rw [c1, ih.1]
        rfl
      · show max (optD n).depth (PyData.depthAll (ns.map optD)) ≤ 1
        have := ih.2
        omega
  obtain ⟨h2, h3⟩ := h1 ns
  unfold SeqAt.shaped
  show (PyData.canLayAll0 (ns.map optD) && decide (PyData.depthAll (ns.map optD) + 1 ≤ 64)) = true
  rw [h2, decide_eq_true (by omega)]
  rfl
theorem any_none (ns : List (Option Int)) : ((ns.map optD).any fun z => PyData.eqv z .none) = !(ns.all Option.isSome) := by
  induction ns with
  | nil => rfl
  | cons n ns ih =>
    rw [List.map_cons, List.any_cons, ih, List.all_cons]
    cases n <;> simp [optD, PyData.eqv]
theorem ok__law_row_in {P : Program} {w : World} {K : PySem.W.Frag} {mg : Str → Option Value} {base : Heap} (Fn : FunAt K mg "_law_row_in" s__law_row_in ["_law_text", "_law_my_count"]) (T : Txt mg) (d__law_number_in : Def P w K mg base "_law_number_in" 1 ["_law_word"] (spP K R_read)) : Def P w K mg base "_law_row_in" 2 ["_law_text", "_law_my_count"] (spP K R_rowin) := by
  refine fn_P Fn sc__law_row_in (fun ds Q ⟨m, _, e, _⟩ => by rw [e]; rfl) fun f cdv A outer s H E hr => ⟨_, (pss_cons (ps_asg (pe_split (pv 0) pe_str) (pg_name (i := 2) sc__law_row_in.nd rfl (Or.inl rfl)))
      (pss_cons (ps_if (PW.pt (pw_or (pt_cmpR (op_neDK (K := K) rfl hr.units) (pe_callB (call_lenK (K := K) rfl) (by rfl) T.len (by decide +kernel) (pa_cons (pv 2) pa_nil)) (pe_op op_add (pv 1) pe_int) (nomark _)) (pw_or1 (pt_cmpR (op_neDK (K := K) rfl hr.units) (pe_ix (ix_seqK (K := K) rfl) (pv 2) (pe_un un_neg pe_int) (fun _ _ => rfl)) pe_str (nomark _))))) (pss_one (ps_ret pe_non)) pss_nil)
      (pss_cons (ps_setLc (i := 3) (own := [("_law_word", 4)]) (g := (gName 4)) rfl sc__law_row_in.nd rfl rfl (sw_true rfl rfl rfl (by decide +kernel)) (pi_listK (K := K) rfl (pe_op op_cat (pe_slice (sl_listK (K := K) rfl) (pv 2) po_none (po_some (pe_un un_neg pe_int))) (pe_slice (sl_listK (K := K) rfl) (pv 2) (po_some (pe_un un_neg pe_int)) po_none))) (blkOk_by (own := [("_law_word", 4)]) (N := ["_law_text", "_law_my_count", "_law_words", "_law_numbers", "_law_word"]) (sc := defScope s__law_row_in) (by decide +kernel)) (fun _ _ _ _ _ => (pg_name (i := 4) sc__law_row_in.nd rfl (Or.inl rfl) (hf := Or.inr rfl))) (fun _ _ _ _ _ => pts_nil) (fun _ _ _ _ _ => (pe_def d__law_number_in hr (by first | decide | omega) (by rfl) (pa_cons (pv 4) pa_nil))))
      (pss_one (ps_ret (pe_ifExp (pt_cmpR (op_inDK (K := K) rfl (units65 hr)) pe_non (pv 3) (by rfl)) pe_non (pe_tup (pa_cons (pe_callTy (call_tuple_ofK (K := K) rfl) (by rfl) T.tuple (by decide +kernel) (pa_cons (pe_slice (sl_listK (K := K) rfl) (pv 3) po_none (po_some (pe_un un_neg pe_int))) pa_nil)) (pa_cons (pe_ix (ix_seqK (K := K) rfl) (pv 3) (pe_un un_neg pe_int) (fun _ _ => rfl)) pa_nil))))))))), fun ds Q hR => ?_⟩
  obtain ⟨a, c, rfl, hl, hasc, hc1, hc9, k⟩ := hR
  show SW _ _ _ [.d (.str (SX.S a)), .d (.int (c : Int)), .no, .no, .no] _ _
  walk_at "dn"
  have e32 : Str.ofString " " = SX.S [32] := rfl
  have e60 : Str.ofString "<=" = SX.S [60, 61] := rfl
  have hwl := words_len (a := a)
  refine sw_seq (sw_asg (we_of (wl_split ?_)))
  walk_at "dl"
  refine ⟨_, rfl, by rw [SX.S_len]; omega, ?_⟩
  walk_at "dl"
  refine ⟨_, rfl, rfl, ?_⟩
  rw [e32, split_words]
  try dsimp only
  walk_at "dz"
  show SW _ _ _ [.d (.str (SX.S a)), .d (.int (c : Int)), .d (.list (wD (wordsL a))), .no, .no] _ _
  have hdl : (wD (wordsL a)).length = (wordsL a).length := by simp [wD]
  walk_at "dl"
  walk_at "dl"
  refine wt_is (c := !(decide ((wordsL a).length = c + 2 ∧ (wordsL a)[c]? = some [60, 61]))) ?_ ?_
  · repeat' walk_at "dl"
    · rfl
    refine ⟨rfl, _, rfl, ?_⟩
    rw [hdl]
    have e1 : PyData.eqv (.int ((wordsL a).length : Nat)) (.int ((c : Int) + 2)) = decide ((wordsL a).length = c + 2) := by
      show (((wordsL a).length : Int) == (c : Int) + 2) = _
      rw [Bool.eq_iff_iff]
      simp
      omega
    rw [e1]
    by_cases hlen : (wordsL a).length = c + 2
    · refine ite_false_of (by rw [decide_eq_true hlen]; rfl) ?_
      have hw : (wordsL a)[c]? = some ((wordsL a)[c]'(by omega)) := List.getElem?_eq_getElem (by omega)
      generalize hwd : (wordsL a)[c]'(by omega) = wd at hw
      have hmem : wd ∈ wordsL a := List.mem_of_getElem? hw
      walk_at "dl"
      walk_at "dl"
      walk_at "dl"
      walk_at "dl"
      walk_at "dl"
      walk_at "dl"
      refine ⟨_, rfl, ?_⟩
      refine ⟨-2, .str (SX.S wd), rfl, .lst ?_, ?_⟩
      · have hat := wD_at hw
        unfold atI ixN
        rw [hdl, if_neg (by decide), if_pos (by omega)]
        show (wD (wordsL a))[((-2 : Int) + ((wordsL a).length : Int)).toNat]? = _
        have e2 : ((-2 : Int) + ((wordsL a).length : Int)).toNat = c := by omega
        rw [e2]
        exact hat
      walk_at "dl"
      refine ⟨shaped_S ((words_ok hmem).2 hasc), by rw [e60]; exact shaped_S (fun x hx => by simp at hx; omega), _, rfl, ?_⟩
      rw [e60, eqv_str, S_eq, hw]
      by_cases h60 : wd = [60, 61]
      · rw [decide_eq_true h60, decide_eq_true ⟨hlen, by rw [h60]⟩]
      · rw [decide_eq_false h60, decide_eq_false (fun y => h60 (by simpa using y.2))]
    · refine ite_true_of (by rw [decide_eq_false hlen]; rfl) ?_
      rw [decide_eq_false (fun y => hlen y.1)]
      rfl
  by_cases hok : (wordsL a).length = c + 2 ∧ (wordsL a)[c]? = some [60, 61]
  · refine ite_false_of (by rw [decide_eq_true hok]; rfl) ?_
    obtain ⟨hlen, h60⟩ := hok
    walk_at "dl"
    have hnl : (numsIn a c).length = c + 1 := by simp [numsIn]; omega
    refine sw_seq (sw_asg (we_of (wl_map (ow_name (by decide)) (c + 1) (fun i d => (wD ((wordsL a).take c ++ (wordsL a).drop (c + 1)))[i]? = some d) ((numsIn a c).map optD) ?_ (by omega) (by simp [hnl]) ?_ ?_)))
    · refine iw_list ?_
      repeat' walk_at "dl"
      intro p
      repeat' walk_at "dl"
      have e := slice_two hlen
      have el : (wD ((wordsL a).take c ++ (wordsL a).drop (c + 1))).length = c + 1 := by
        simp [wD]
        omega
      refine ⟨?_, _, rfl, ?_, ?_⟩
      · have := congrArg List.length e
        rw [List.length_append, el] at this
        rw [this]
        omega
      · rw [e, el]
      · rw [e]
    · intro i d y p acc hi hd hy
      unfold wD at hd
      rw [List.getElem?_map, List.getElem?_map] at hd
      unfold numsIn at hy
      rw [List.getElem?_map, List.getElem?_map] at hy
      cases hw : ((wordsL a).take c ++ (wordsL a).drop (c + 1))[i]? with
      | none =>
        rw [hw] at hd
        cases hd
      | some wd =>
        rw [hw] at hd hy
        cases hd
        cases hy
        have hmem : wd ∈ wordsL a := by
          rcases List.mem_append.mp (List.mem_of_getElem? hw) with h | h
          · exact List.mem_of_mem_take h
          · exact List.mem_of_mem_drop h
        obtain ⟨q1, q2⟩ := words_ok hmem
        refine gw_name ⟨rfl, ?_⟩
        show WE _ _ _ [.d (.str (SX.S a)), .d (.int (c : Int)), .d (.list (wD (wordsL a))), .no, .d (.str (SX.S wd))] _ _
        repeat' walk_at "dl"
        exact ⟨wd, rfl, by omega, q2 hasc, rfl⟩
    walk_at "dz"
    refine sw_ret (we_if (wt_test (we_inD ?_)))
    walk_at "dl"
    walk_at "dl"
    refine ⟨_, rfl, rfl, shaped_opts _, _, rfl, ?_⟩
    rw [any_none]
    cases hall : (numsIn a c).all Option.isSome with
    | false =>
      refine ite_true_of rfl ?_
      have hr2 : rowIn a c = .none := by
        unfold rowIn
        rw [if_neg (fun y => by rw [y.2.2] at hall; cases hall)]
      rw [hr2] at k
      repeat' walk_at "dl"
      exact k
    | true =>
      refine ite_false_of rfl ?_
      have hr2 : rowIn a c = .tuple [.tuple (((numsIn a c).take c).map optD), optD ((numsIn a c)[c]?.getD none)] := by
        unfold rowIn
        rw [if_pos ⟨hlen, h60, hall⟩]
      rw [hr2] at k
      repeat' walk_at "dl"
      have hc : (numsIn a c)[c]? = some ((numsIn a c)[c]'(by omega)) := List.getElem?_eq_getElem (by omega)
      generalize (numsIn a c)[c]'(by omega) = last at hc
      rw [hc] at k
      refine ⟨-1, optD last, rfl, .lst ?_, ?_⟩
      · unfold atI ixN
        rw [List.length_map, hnl, if_neg (by decide), if_pos (by omega)]
        show ((numsIn a c).map optD)[((-1 : Int) + ((c + 1 : Nat) : Int)).toNat]? = _
        have e2 : ((-1 : Int) + ((c + 1 : Nat) : Int)).toNat = c := by omega
        rw [e2, List.getElem?_map, hc]
        rfl
      repeat' walk_at "dl"
      rw [slice_most (c := c) (by rw [List.length_map]; exact hnl), ← List.map_take]
      exact k
  · refine ite_true_of (by rw [decide_eq_false hok]; rfl) ?_
    have hr2 : rowIn a c = .none := by
      unfold rowIn
      rw [if_neg (fun y => hok ⟨y.1, y.2.1⟩)]
    rw [hr2] at k
    repeat' walk_at "dl"
    exact k

def wsD (ws : List Int) : PyData := .tuple (ws.map .int)
def Wts (ws : List Int) : Prop := ws.length ≤ 9 ∧ ∀ w ∈ ws, w.natAbs < 2 ^ 60
/-- drawn weights -/
def R_weights (ds : List PyData) (P : PyData → Prop) : Prop := ∃ c m : Int, ds = [.int c, .int m] ∧ 0 < c ∧ c ≤ 8 ∧ 0 ≤ m ∧ m < 2 ^ 45 ∧ ∀ ws, Wts ws → (ws.length : Int) = c → P (wsD ws)
instance : MonoR R_weights := ⟨fun _ _ _ h ⟨n, m, e, a, b, c, d, k⟩ => ⟨n, m, e, a, b, c, d, fun x p q => h _ (k x p q)⟩⟩
theorem wts_of {ds : List PyData} {n : Nat} (hl : ds.length = n) (hn : n ≤ 9) (h : ∀ d ∈ ds, ∃ n : Int, d = .int n ∧ n.natAbs < 2 ^ 60) : ∃ ws : List Int, ds = ws.map .int ∧ Wts ws ∧ ws.length = n := by
  have go : ∀ ds : List PyData, (∀ d ∈ ds, ∃ n : Int, d = .int n ∧ n.natAbs < 2 ^ 60) → ∃ ns : List Int, ds = ns.map .int ∧ (∀ n ∈ ns, n.natAbs < 2 ^ 60) ∧ ns.length = ds.length := by
    intro ds
    induction ds with
    | nil => intro _; exact ⟨[], rfl, fun n h => (by cases h), rfl⟩
    | cons d ds ih =>
      intro h
      obtain ⟨n, rfl, hn⟩ := h d (List.mem_cons_self ..)
      obtain ⟨ns, e, h2, h3⟩ := ih fun d hd => h d (List.mem_cons_of_mem _ hd)
      refine ⟨n :: ns, by rw [e]; rfl, fun m hm => ?_, by simp [h3]⟩
      rcases List.mem_cons.mp hm with e | hm
      · rw [e]; exact hn
      · exact h2 m hm
  obtain ⟨ns, e, h1, h2⟩ := go ds h
  exact ⟨ns, e, ⟨by omega, h1⟩, by omega⟩
theorem set_ok {acc : List PyData} {j : Nat} {n : Nat} {d : PyData} (h : acc.length = n ∧ ∀ x ∈ acc, ∃ n : Int, x = .int n ∧ n.natAbs < 2 ^ 60) (hd : ∃ n : Int, d = .int n ∧ n.natAbs < 2 ^ 60) : (acc.set j d).length = n ∧ ∀ x ∈ acc.set j d, ∃ n : Int, x = .int n ∧ n.natAbs < 2 ^ 60 := by
  refine ⟨by rw [List.length_set]; exact h.1, fun x hx => ?_⟩
  rcases List.mem_or_eq_of_mem_set hx with hx | hx
  · exact h.2 x hx
  · rw [hx]; exact hd
theorem snoc_ok {acc : List PyData} {n : Nat} {d : PyData} (h : acc.length = n ∧ ∀ x ∈ acc, ∃ n : Int, x = .int n ∧ n.natAbs < 2 ^ 60) (hd : ∃ n : Int, d = .int n ∧ n.natAbs < 2 ^ 60) : (acc ++ [d]).length = n + 1 ∧ ∀ x ∈ acc ++ [d], ∃ n : Int, x = .int n ∧ n.natAbs < 2 ^ 60 := by
  refine ⟨by simp [h.1], fun x hx => ?_⟩
  rcases List.mem_append.mp hx with hx | hx
  · exact h.2 x hx
  · simp only [List.mem_singleton] at hx
    rw [hx]; exact hd
theorem ok__law_weights {P : Program} {w : World} {K : PySem.W.Frag} {mg : Str → Option Value} {base : Heap} (Fn : FunAt K mg "_law_weights" s__law_weights ["_law_box_here", "_law_my_count", "_law_far"]) (T : Txt mg) (d__law_take : Def P w K mg base "_law_take" 1 ["_law_box_here", "_law_many"] (spB K R_take)) (d__law_near : Def P w K mg base "_law_near" 2 ["_law_box_here", "_law_far"] (spB K R_near)) :
    Def P w K mg base "_law_weights" 3 ["_law_box_here", "_law_my_count", "_law_far"] (spB K R_weights) := by
  refine fn_B Fn sc__law_weights (fun ds Q ⟨m, n, e, _⟩ => by rw [e]; rfl) fun f cdv A outer s H E hr => ⟨_, (pss_cons (ps_asg (pe_def d__law_take hr (by first | decide | omega) (by rfl) (pa_cons (pv 0) (pa_cons pe_int pa_nil))) (pg_name (i := 3) sc__law_weights.nd rfl (Or.inl rfl)))
      (pss_cons (ps_if (pt_cmpR (op_eqDK (K := K) rfl hr.units) (pv 3) pe_int (nomark _)) (pss_cons (ps_asg (pe_def d__law_take hr (by first | decide | omega) (by rfl) (pa_cons (pv 0) (pa_cons (pv 1) pa_nil))) (pg_name (i := 4) sc__law_weights.nd rfl (Or.inr rfl)))
      (pss_cons (ps_asg (pe_ix (ix_seqK (K := K) rfl) (pe_lst (pa_cons pe_int (pa_cons (pe_un un_neg pe_int) pa_nil))) (pe_def d__law_take hr (by first | decide | omega) (by rfl) (pa_cons (pv 0) (pa_cons pe_int pa_nil))) (fun _ _ => rfl)) (pg_name (i := 5) sc__law_weights.nd rfl (Or.inr rfl)))
      (pss_one (ps_ret (pe_callTy (call_tuple_ofK (K := K) rfl) (by rfl) T.tuple (by decide +kernel) (pa_cons (pe_lc (own := [("_law_k", 7)]) (g := (gName 7)) rfl sc__law_weights.nd (pi_range1 rfl T.range (pa_cons (pv 1) pa_nil)) (blkOk_by (own := [("_law_k", 7)]) (N := ["_law_box_here", "_law_my_count", "_law_far", "_law_way", "_law_at", "_law_sign", "_law_found", "_law_k"]) (sc := defScope s__law_weights) (by decide +kernel)) (fun _ _ _ _ _ => (pg_name (i := 7) sc__law_weights.nd rfl (Or.inl rfl) (hf := Or.inr rfl))) (fun _ _ _ _ _ => pts_nil) (fun _ _ _ _ _ => (pe_op op_mulW (pv 5) (pe_callTy call_int1 (by rfl) T.int (by decide +kernel) (pa_cons (pe_cmpR (op_eqDK (K := K) rfl hr.units) (pv 7) (pv 4) (nomark _)) pa_nil))))) pa_nil)))))) pss_nil)
      (pss_cons (ps_setLc (i := 6) (own := [("_law_k", 7)]) (g := (gName 7)) rfl sc__law_weights.nd rfl rfl (sw_true rfl rfl rfl (by decide +kernel)) (pi_range1 rfl T.range (pa_cons (pv 1) pa_nil)) (blkOk_by (own := [("_law_k", 7)]) (N := ["_law_box_here", "_law_my_count", "_law_far", "_law_way", "_law_at", "_law_sign", "_law_found", "_law_k"]) (sc := defScope s__law_weights) (by decide +kernel)) (fun _ _ _ _ _ => (pg_name (i := 7) sc__law_weights.nd rfl (Or.inl rfl) (hf := Or.inr rfl))) (fun _ _ _ _ _ => pts_nil) (fun _ _ _ _ _ => (pe_def d__law_near hr (by first | decide | omega) (by rfl) (pa_cons (pv 0) (pa_cons (pv 2) pa_nil)))))
      (pss_cons (ps_if (PW.pt (pw_and (pt_cmpR (op_eqDK (K := K) rfl hr.units) (pv 3) pe_int (nomark _)) (pw_and1 (pt_cmpR op_gt (pv 1) pe_int (nomark _))))) (pss_one (ps_asg pe_int (pg_sub (pv 6) (pe_def d__law_take hr (by first | decide | omega) (by rfl) (pa_cons (pv 0) (pa_cons (pv 1) pa_nil))) set_list))) pss_nil)
      (pss_one (ps_ret (pe_callTy (call_tuple_ofK (K := K) rfl) (by rfl) T.tuple (by decide +kernel) (pa_cons (pv 6) pa_nil)))))))), fun b ds Q hR => ?_⟩
  obtain ⟨c, m, rfl, hc0, hc8, hm0, hm1, k⟩ := hR
  show SW _ _ _ [.v (.ref b), .d (.int c), .d (.int m), .no, .no, .no, .no, .no] _ _
  walk_at "dn"
  repeat' walk_at "dl"
  refine ⟨_, rfl, by decide, by decide, fun way h1 h2 => ?_⟩
  repeat' walk_at "dl"
  refine ite2 (fun hw => ?_) (fun hw => ?_)
  · repeat' walk_at "dl"
    refine ⟨_, rfl, hc0, by omega, fun at' h3 h4 => ?_⟩
    repeat' walk_at "dl"
    refine we_pick (fun x => ∃ n : Int, x = .int n ∧ n.natAbs < 2) ?_ ?_
    · repeat' walk_at "dl"
      refine ⟨_, rfl, by decide, by decide, fun r4 h7 h8 => ?_⟩
      refine item_any h7 h8 fun x hx => ?_
      simp only [List.mem_cons, List.mem_nil_iff, or_false] at hx
      rcases hx with rfl | rfl
      · exact ⟨_, rfl, by decide⟩
      · exact ⟨_, rfl, by decide⟩
    rintro _ ⟨sg, rfl, hsg⟩
    repeat' walk_at "dl"
    refine we_of (wl_comp (ow_name (by decide)) (fun i acc => acc.length = i ∧ ∀ x ∈ acc, ∃ n : Int, x = .int n ∧ n.natAbs < 2 ^ 60) c.toNat (fun i d => d = .int (i : Nat)) ?_ ⟨rfl, fun x hx => by cases hx⟩ (by omega) (fun i acc h => Nat.le_of_eq h.1) ?_ ?_)
    · refine iw_rng1 ?_
      repeat' walk_at "dl"
      exact ⟨⟨by omega, by omega⟩, rfl, rfl⟩
    · rintro j _ acc p hj rfl hacc
      refine gw_name ⟨rfl, wt_yes (iteT ?_)⟩
      show WE _ _ _ [.v (.ref b), .d (.int c), .d (.int m), .d (.int way), .d (.int at'), .d (.int sg), .no, .d (.int (j : Nat))] _ _
      repeat' walk_at "dl"
      · exact mulS (by omega) (by split <;> decide)
      refine snoc_ok hacc ⟨_, rfl, ?_⟩
      split <;> simp <;> omega
    · intro acc hacc
      obtain ⟨ws, e, g1, g2⟩ := wts_of hacc.1 (by omega) hacc.2
      subst e
      repeat' walk_at "dl"
      exact k ws g1 (by omega)
  · walk_at "dl"
    refine sw_seq (sw_asgL (wl_comp (ow_name (by decide)) (fun i acc => acc.length = i ∧ ∀ x ∈ acc, ∃ n : Int, x = .int n ∧ n.natAbs < 2 ^ 60) c.toNat (fun i d => d = .int (i : Nat)) ?_ ⟨rfl, fun x hx => by cases hx⟩ (by omega) (fun i acc h => Nat.le_of_eq h.1) ?_ ?_))
    · refine iw_rng1 ?_
      repeat' walk_at "dl"
      exact ⟨⟨by omega, by omega⟩, rfl, rfl⟩
    · rintro j _ acc p hj rfl hacc
      refine gw_name ⟨rfl, wt_yes (iteT ?_)⟩
      show WE _ _ _ [.v (.ref b), .d (.int c), .d (.int m), .d (.int way), .no, .no, .no, .d (.int (j : Nat))] _ _
      repeat' walk_at "dl"
      refine ⟨m, rfl, hm0, by omega, fun n h3 h4 => ?_⟩
      exact snoc_ok hacc ⟨_, rfl, by omega⟩
    · intro acc hacc p
      walk_at "dz"
      refine sw_cut (fun Z O => ∃ acc, (acc.length = c.toNat ∧ ∀ x ∈ acc, ∃ n : Int, x = .int n ∧ n.natAbs < 2 ^ 60) ∧ Z = [.v (.ref b), .d (.int c), .d (.int m), .d (.int way), .no, .no, .v (.ref p), .no] ∧ O = [(p, acc)]) (sw_if ?_) ?_
      · have both : ∀ b' : Bool, if b' = true then SW K (some b) (tAsg (tC (.int 0)) (gSub (tVar 6) (tCall (spB K R_take) [] E0 (tCons (tVar 0) (tCons (tVar 1) tNil))) rSetL)) [.v (.ref b), .d (.int c), .d (.int m), .d (.int way), .no, .no, .v (.ref p), .no] [(p, acc)] { nx := fun Z O => ∃ acc, (acc.length = c.toNat ∧ ∀ x ∈ acc, ∃ n : Int, x = .int n ∧ n.natAbs < 2 ^ 60) ∧ Z = [.v (.ref b), .d (.int c), .d (.int m), .d (.int way), .no, .no, .v (.ref p), .no] ∧ O = [(p, acc)], rt := Q } else SW K (some b) tNext [.v (.ref b), .d (.int c), .d (.int m), .d (.int way), .no, .no, .v (.ref p), .no] [(p, acc)] { nx := fun Z O => ∃ acc, (acc.length = c.toNat ∧ ∀ x ∈ acc, ∃ n : Int, x = .int n ∧ n.natAbs < 2 ^ 60) ∧ Z = [.v (.ref b), .d (.int c), .d (.int m), .d (.int way), .no, .no, .v (.ref p), .no] ∧ O = [(p, acc)], rt := Q } := by
          intro b'
          refine ite2 (fun _ => ?_) (fun _ => ?_)
          · refine sw_setL rfl ?_
            repeat' walk_at "dl"
            refine ⟨_, rfl, hc0, by omega, fun r h3 h4 => ?_⟩
            refine ⟨r, r.toNat, rfl, ?_, _, set_ok hacc ⟨0, rfl, by decide⟩, rfl, rfl⟩
            unfold ixN
            rw [if_pos h3, if_pos (by rw [hacc.1]; omega)]
          · exact sw_next ⟨acc, hacc, rfl, rfl⟩
        repeat' walk_at "dl"
        refine ite2 (fun _ => ?_) (fun _ => ?_)
        · repeat' walk_at "dl"
          exact both _
        · exact both _
      · rintro _ _ ⟨acc, hacc, rfl, rfl⟩
        obtain ⟨ws, e, g1, g2⟩ := wts_of hacc.1 (by omega) hacc.2
        subst e
        refine sw_freeze (i := 6) rfl ?_
        walk_at "dz"
        repeat' walk_at "dl"
        exact k ws g1 (by omega)
/-- a drawn row -/
def R_lrow (ds : List PyData) (P : PyData → Prop) : Prop := ∃ c m : Int, ds = [.int c, .int m] ∧ 0 < c ∧ c ≤ 8 ∧ 0 ≤ m ∧ m < 2 ^ 45 ∧ ∀ ws b, Big ws b → (ws.length : Int) = c → P (.tuple [.tuple (ws.map .int), .int b])
instance : MonoR R_lrow := ⟨fun _ _ _ h ⟨n, m, e, a, b, c, d, k⟩ => ⟨n, m, e, a, b, c, d, fun x y p q => h _ (k x y p q)⟩⟩
theorem ok__law_row {P : Program} {w : World} {K : PySem.W.Frag} {mg : Str → Option Value} {base : Heap} (Fn : FunAt K mg "_law_row" s__law_row ["_law_box_here", "_law_my_count", "_law_far"]) (T : Txt mg) (d__law_near : Def P w K mg base "_law_near" 2 ["_law_box_here", "_law_far"] (spB K R_near)) (d__law_weights : Def P w K mg base "_law_weights" 3 ["_law_box_here", "_law_my_count", "_law_far"] (spB K R_weights)) :
    Def P w K mg base "_law_row" 4 ["_law_box_here", "_law_my_count", "_law_far"] (spB K R_lrow) := by
  refine fn_B Fn sc__law_row (fun ds Q ⟨m, n, e, _⟩ => by rw [e]; rfl) fun f cdv A outer s H E hr => ⟨_, (pss_one (ps_ret (pe_tup (pa_cons (pe_def d__law_weights hr (by first | decide | omega) (by rfl) (pa_cons (pv 0) (pa_cons (pv 1) (pa_cons (pv 2) pa_nil)))) (pa_cons (pe_def d__law_near hr (by first | decide | omega) (by rfl) (pa_cons (pv 0) (pa_cons (pe_op op_mulW pe_int (pv 2)) pa_nil))) pa_nil))))), fun b ds Q hR => ?_⟩
  obtain ⟨c, m, rfl, hc0, hc8, hm0, hm1, k⟩ := hR
  show SW _ _ _ [.v (.ref b), .d (.int c), .d (.int m)] _ _
  walk_at "dn"
  repeat' walk_at "dl"
  refine ⟨c, m, rfl, hc0, hc8, hm0, hm1, fun ws hw hl => ?_⟩
  repeat' walk_at "dl"
  · exact mulS (by decide) (by omega)
  refine ⟨_, rfl, by omega, by omega, fun n h1 h2 => ?_⟩
  repeat' walk_at "dl"
  refine k ws n ⟨fun z => ?_, hw.1, hw.2, by omega⟩ hl
  rw [z] at hl
  simp at hl
  omega

end My
namespace My
open PySem PySem.Spec PyProof.Rows L2 DL
open Evl (Ex)
local macro_rules | `(tactic| walk_at "dn") => `(tactic| try dsimp only [cxOf, Cx.nox, Cx.wish])
local macro_rules | `(tactic| walk_at "dz") => `(tactic| try simp only [List.set_cons_succ, List.set_cons_zero])
local macro_rules | `(tactic| walk_at "dl") => `(tactic| first
  | with_reducible refine we_int ?_
  | with_reducible refine we_bl ?_
  | with_reducible refine we_non ?_
  | with_reducible refine we_str ?_
  | (with_reducible refine we_var (d := ?dd) ?hh ?_; (case hh => with_unfolding_all rfl))
  | with_reducible refine we_opI ?_
  | with_reducible refine we_opB ?_
  | with_reducible refine we_opC ?_
  | with_reducible refine we_ixV ?_
  | with_reducible refine we_ixI ?_
  | with_reducible refine we_ixC ?_
  | with_reducible refine we_eqD ?_
  | with_reducible refine we_neD ?_
  | with_reducible refine we_neg ?_
  | with_reducible refine we_tupD ?_
  | with_reducible refine we_lstD ?_
  | with_reducible refine wl_lstD ?_
  | with_reducible refine we_callP ?_
  | (with_reducible refine we_callX ?hh ?_; (case hh => with_unfolding_all rfl))
  | with_reducible refine wd_nil ?_
  | with_reducible refine wd_cons ?_
  | with_reducible refine ⟨(rfl : Nat.ble _ _ = true), ?_⟩
  | with_reducible refine we_if ?_
  | with_reducible refine we_andV ?_
  | with_reducible refine we_orV ?_
  | with_reducible refine we_notV ?_
  | with_reducible refine we_isN ?_
  | with_reducible refine we_notN ?_
  | with_reducible refine we_tuple ?_
  | with_reducible refine we_listB ?_
  | with_reducible refine we_ncall ?_
  | with_reducible refine wt_test ?_
  | with_reducible refine wt_B ?_
  | with_reducible refine wt_and ?_
  | with_reducible refine wt_or ?_
  | with_reducible refine wt_not ?_
  | with_reducible refine wa_nil ?_
  | with_reducible refine wa_ty ?_
  | (with_reducible refine wa_raw (w := ?ww) ?hh ?_; (case hh => with_unfolding_all rfl))
  | with_reducible refine wa_cons ?_
  | (with_reducible refine sw_seq ?_; (try dsimp only))
  | (with_reducible refine sw_ret ?_; (try dsimp only))
  | (with_reducible refine sw_retN ?_; (try dsimp only))
  | (with_reducible refine sw_next ?_; (try dsimp only))
  | with_reducible refine sw_if ?_
  | (with_reducible refine sw_asg ?_; (try dsimp only); (try simp only [List.set_cons_succ, List.set_cons_zero]))
  | (with_reducible refine sw_par3 ?_; (try dsimp only); (try simp only [List.set_cons_succ, List.set_cons_zero]))
  | (with_reducible refine sw_par ?_; (try dsimp only); (try simp only [List.set_cons_succ, List.set_cons_zero]))
  | with_reducible refine ⟨_, _, rfl, rfl, And.intro ?_ ?_⟩
  | with_reducible refine ⟨_, _, rfl, rfl, ?_⟩
  | with_reducible refine ⟨_, _, rfl, ItemAt.lst rfl, ?_⟩
  | with_reducible refine ⟨_, _, rfl, ItemAt.tup rfl, ?_⟩
  | with_reducible refine ⟨_, .inl rfl, ?_⟩
  | with_reducible refine ⟨_, .inr rfl, ?_⟩
  | with_reducible refine ⟨_, nc_gcd, ?_⟩
  | with_reducible refine ⟨_, nc_abs, ?_⟩
  | with_reducible refine ⟨_, nc_int, ?_⟩
  | with_reducible refine ⟨_, nc_intb, ?_⟩
  | with_reducible refine ⟨_, nc_isi (by simp), ?_⟩
  | (refine ⟨_, nc_len (by with_unfolding_all rfl), ?_⟩)
  | with_reducible refine ⟨_, rfl, ?_⟩
  | with_reducible refine ⟨rfl, rfl, ?_⟩
  | with_reducible refine iteT ?_
  | with_reducible refine iteF ?_)

local macro_rules | `(tactic| walk_at "dm") => `(tactic| ((fail_if_success (with_reducible refine sw_if ?_)); walk_at "dl"))

local macro_rules | `(tactic| walk_at "dl") => `(tactic| first
  | with_reducible refine wd_star ?_
  | with_reducible refine wl_slice ?_
  | with_reducible refine we_slTup ?_
  | with_reducible refine we_slStr ?_
  | with_reducible refine wo_no ?_
  | with_reducible refine wo_part ?_
  | with_reducible refine wl_cat ?_
  | with_reducible refine wl_rep ?_
  | with_reducible refine we_catT ?_
  | with_reducible refine we_chainI ?_
  | with_reducible refine we_of (te := tSl _ _ _ _) ?_
  | with_reducible refine we_of (te := tOp rCat _ _) ?_
  | with_reducible refine we_of (te := tOp rRep _ _) ?_)

local macro_rules | `(tactic| walk_at "dl") => `(tactic| first
  | with_reducible refine we_m0B ?_
  | with_reducible refine we_m1B ?_
  | with_reducible refine we_bits ?_
  | with_reducible refine we_addS ?_
  | with_reducible refine we_inSign ?_)

local macro_rules | `(tactic| walk_at "sn") => `(tactic| try dsimp only [cxOf, Cx.nox, Cx.wish])
local macro_rules | `(tactic| walk_at "mem") => `(tactic| first
  | exact List.mem_cons_self ..
  | exact List.mem_cons_of_mem _ (List.mem_cons_self ..)
  | exact List.mem_cons_of_mem _ (List.mem_cons_of_mem _ (List.mem_cons_self ..))
  | exact List.mem_cons_of_mem _ (List.mem_cons_of_mem _ (List.mem_cons_of_mem _ (List.mem_cons_self ..)))
  | exact List.mem_cons_of_mem _ (List.mem_cons_of_mem _ (List.mem_cons_of_mem _ (List.mem_cons_of_mem _ (List.mem_cons_self ..))))
  | exact List.mem_cons_of_mem _ (List.mem_cons_of_mem _ (List.mem_cons_of_mem _ (List.mem_cons_of_mem _ (List.mem_cons_of_mem _ (List.mem_cons_self ..)))))
  | exact List.mem_cons_of_mem _ (List.mem_cons_of_mem _ (List.mem_cons_of_mem _ (List.mem_cons_of_mem _ (List.mem_cons_of_mem _ (List.mem_cons_of_mem _ (List.mem_cons_self ..))))))
  | exact List.mem_cons_of_mem _ (List.mem_cons_of_mem _ (List.mem_cons_of_mem _ (List.mem_cons_of_mem _ (List.mem_cons_of_mem _ (List.mem_cons_of_mem _ (List.mem_cons_of_mem _ (List.mem_cons_self ..))))))))
local macro_rules | `(tactic| walk_at "sl") => `(tactic| first
  | with_reducible refine SL.we_int ?_
  | with_reducible refine SL.we_bl ?_
  | with_reducible refine SL.we_non ?_
  | with_reducible refine SL.we_str ?_
  | (with_reducible refine SL.we_varD (y := ?dd) ?hh ?_; (case hh => with_unfolding_all rfl))
  | (with_reducible refine SL.we_varV (w := ?dd) ?hh ?_; (case hh => with_unfolding_all rfl))
  | with_reducible refine SL.we_opI ?_
  | with_reducible refine SL.we_opB ?_
  | with_reducible refine SL.we_opC ?_
  | with_reducible refine SL.we_fld ?_
  | with_reducible refine SL.we_meth ?_
  | with_reducible refine SL.we_make ?_
  | with_reducible refine SL.we_dget ?_
  | with_reducible refine SL.we_din ?_
  | with_reducible refine SL.we_dnotin ?_
  | with_reducible refine SL.we_dnew ?_
  | with_reducible refine SL.we_dlen ?_
  | with_reducible refine SL.we_append ?_
  | with_reducible refine SL.we_ixV ?_
  | with_reducible refine SL.we_ixI ?_
  | with_reducible refine SL.we_eqD ?_
  | with_reducible refine SL.we_neD ?_
  | with_reducible refine SL.we_neg ?_
  | with_reducible refine SL.we_if ?_
  | with_reducible refine SL.we_andV ?_
  | with_reducible refine SL.we_orV ?_
  | with_reducible refine SL.we_notV ?_
  | with_reducible refine SL.we_isN ?_
  | with_reducible refine SL.we_notN ?_
  | with_reducible refine SL.wt_test ?_
  | with_reducible refine SL.wt_B ?_
  | with_reducible refine SL.wt_and ?_
  | with_reducible refine SL.wt_or ?_
  | with_reducible refine SL.wt_not ?_
  | with_reducible refine SL.we_callP ?_
  | with_reducible refine SL.wd_nil ?_
  | (with_reducible refine SL.wd_cons ?_)
  | with_reducible refine SL.wa_nil ?_
  | with_reducible refine SL.wa_cons ?_
  | with_reducible refine SL.we_chainI ?_
  | (with_reducible refine SL.sw_seq ?_; (try dsimp only))
  | (with_reducible refine SL.sw_ret ?_; (try dsimp only))
  | (with_reducible refine SL.sw_retN ?_; (try dsimp only))
  | (with_reducible refine SL.sw_next ?_; (try dsimp only))
  | (with_reducible refine SL.sw_drop ?_; (try dsimp only))
  | with_reducible refine SL.sw_if ?_
  | with_reducible refine SL.sw_fld ?_
  | with_reducible refine SL.sw_dput ?_
  | (with_reducible refine SL.sw_asg ?_; (try dsimp only); (try simp only [List.set_cons_succ, List.set_cons_zero]))
  | (with_reducible refine ⟨_, ?z1, ?z2, ?z3, ?z4, rfl, ?fm, ?fa, ?fb, ?fc, ?fd⟩; (case fm => walk_at "mem"); (case fa => assumption); (case fb => assumption); (case fc => first | exact f_count | exact f_rooms | exact f_doors | exact f_begins | exact f_coming))
  | with_reducible refine ⟨_, rfl, ?_⟩
  | with_reducible refine ⟨_, _, rfl, rfl, ?_⟩
  | with_reducible refine ⟨_, _, _, rfl, rfl, SL.ItemAt.lst rfl, ?_⟩
  | with_reducible refine ⟨_, _, _, rfl, rfl, SL.ItemAt.tup rfl, ?_⟩
  | with_reducible refine iteT ?_
  | with_reducible refine iteF ?_)
local macro_rules | `(tactic| walk_at "sm") => `(tactic| ((fail_if_success (with_reducible refine SL.sw_if ?_)); walk_at "sl"))

theorem run_BadText {P : Program} {w : World} {K : PySem.W.Frag} {mg : Str → Option Value} {base : Heap} {C fI cc cda : Addr} {dV kV doc pm ct oc : Value} {an od : Option Addr} {osl : Array (Option Value)} {ccl cl : Value} {cdd cld : Option Addr} {ccs csl : Array (Option Value)} {vs0 : Array Value} {file : Str} {tf : Tok}
    (lk : K.lookup fI = some ⟨oc, od, .func (PySem.W.ksFn "__init__" "BadText.__init__" (defArgs s_BadText___init__) (defBody s_BadText___init__) (defScope s_BadText___init__) dV kV doc pm an (.ref cda) ct cc), osl⟩)
    (T : SL.KeepC P K C) (msup : mg "super" = none) (hcd : PySem.W.codeIn K (.ref cda) "BadText.__init__" = true) (hcode : K.lookup cda = some ⟨ccl, cdd, .fields vs0, ccs⟩) (hvs : vs0[2]? = some (.str file tf)) (hfile : ((P.main.file : Str) == file) = true)
    (hcell : K.lookup cc = some ⟨cl, cld, .cell (some (.ref C)), csl⟩) (hno : PySem.W.findIn K (.ref C) "row" = some none) :
    FnOk P w K mg base (L2.CX P w) 1 fI (PySem.W.ksFn "__init__" "BadText.__init__" (defArgs s_BadText___init__) (defBody s_BadText___init__) (defScope s_BadText___init__) dV kV doc pm an (.ref cda) ct cc) ["self", "row"] (SL.spKeep C "row") :=
  SL.fnOk_keep (k := 0) (r := "row") lk T msup hcd hcode hvs hfile hcell hno

theorem slice_front {ds : List PyData} {j : Nat} : SL.sliceD ds none (some (j : Int)) = ds.take j := by
  show sliceD ds none (some (j : Int)) = _
  unfold sliceD
  have h1 : HT.sIx ds.length 0 none = 0 := rfl
  have h2 : HT.sIx ds.length ds.length (some (j : Int)) = min j ds.length := by
    show (if (j : Int) < 0 then ((j : Int) + (ds.length : Int)).toNat else min (j : Int).toNat ds.length) = _
    rw [if_neg (by omega)]
    rfl
  rw [h1, h2]
  simp
theorem slice_back {ds : List PyData} {j : Nat} (h : j ≤ ds.length) : SL.sliceD ds (some (j : Int)) none = ds.drop j := by
  show sliceD ds (some (j : Int)) none = _
  unfold sliceD
  have h1 : HT.sIx ds.length ds.length none = ds.length := rfl
  have h2 : HT.sIx ds.length 0 (some (j : Int)) = min j ds.length := by
    show (if (j : Int) < 0 then ((j : Int) + (ds.length : Int)).toNat else min (j : Int).toNat ds.length) = _
    rw [if_neg (by omega)]
    rfl
  rw [h1, h2, Nat.min_eq_left h]
  exact List.take_of_length_le (by rw [List.length_drop]; exact Nat.le_refl _)
/-- a row read by the program: what rowIn says, or BadText(0) -/
def R_readrow (C : Addr) : SL.Ct := fun b ks O P X => b = none ∧ O = [] ∧ ∃ (a : List Nat) (c : Nat), ks = [.d (.str (SX.S a)), .d (.int (c : Int))] ∧ a.length ≤ 500 ∧ Asc a ∧ 1 ≤ c ∧ c ≤ 9 ∧
  (rowIn a c ≠ .none → P (.d (rowIn a c)) []) ∧ (rowIn a c = .none → ∀ dx, X (.ref C) (some dx) [(dx, .xd [("row", .d (.int 0))])])
instance {C : Addr} : SL.MonoC (R_readrow C) := ⟨fun _ _ _ _ _ _ _ h g ⟨eb, eo, a, c, e, h1, h2, h3, h4, k1, k2⟩ => ⟨eb, eo, a, c, e, h1, h2, h3, h4, fun z => h _ _ (k1 z), fun z dx => g _ _ _ (k2 z dx)⟩⟩
theorem ok_read_row {P : Program} {w : World} {K : PySem.W.Frag} {mg : Str → Option Value} {base : Heap} {C_BadText : Addr} (Fn : SL.FunAtK K mg "read_row" s_read_row ["text", "count"] ["count"]) (T : Txt mg) (KX_BadText : SL.Ke P w K mg base C_BadText "BadText" "row")
    (d_read_number : Def P w K mg base "read_number" 1 ["text"] (spP K R_read)) : SL.DefK P w K mg base "read_row" 3 ["text", "count"] ["count"] (SL.spC K (R_readrow C_BadText)) := by
  obtain ⟨f, fd, hf, hm, hb⟩ := Fn.ex
  refine ⟨f, fd, hm, hf.kp, hb, SL.ok_N hf sc_read_row (fun b ks O P X ⟨_, _, _, _, e, _⟩ => by rw [e]; rfl) fun f cdv A outer s H E hr => ⟨_, (pss_cons (ps_asg (pe_split (pv 0) pe_str) (pg_name (i := 2) sc_read_row.nd rfl (Or.inl rfl)))
      (pss_cons (ps_if (PW.pt (pw_or (pt_cmpR (op_neDK (K := K) rfl hr.units) (pe_callB (call_lenK (K := K) rfl) (by rfl) T.len (by decide +kernel) (pa_cons (pv 2) pa_nil)) (pe_op op_add (pv 1) pe_int) (nomark _)) (pw_or1 (pt_cmpR (op_neDK (K := K) rfl hr.units) (pe_ix (ix_seqK (K := K) rfl) (pv 2) (pv 1) (fun _ _ => rfl)) (C8.pe_gc (by rfl) T.c__SIGN) (nomark _))))) (pss_one (ps_raise rfl (takes_of rfl rfl rfl rfl) (SL.pmk_keep KX_BadText hr (by first | decide | omega) (by rfl) (pa_cons pe_int pa_nil)))) pss_nil)
      (pss_cons (ps_setLc (i := 3) (own := [("word", 4)]) (g := (gName 4)) rfl sc_read_row.nd rfl rfl (sw_true rfl rfl rfl (by decide +kernel)) (pi_listK (K := K) rfl (pe_op (SL.op_catLK (K := K) rfl) (pe_slice (sl_listK (K := K) rfl) (pv 2) po_none (po_some (pv 1))) (pe_slice (sl_listK (K := K) rfl) (pv 2) (po_some (pe_op op_add (pv 1) pe_int)) po_none))) (blkOk_by (own := [("word", 4)]) (N := ["text", "count", "words", "numbers", "word"]) (sc := defScope s_read_row) (by decide +kernel)) (fun _ _ _ _ _ => (pg_name (i := 4) sc_read_row.nd rfl (Or.inl rfl) (hf := Or.inr rfl))) (fun _ _ _ _ _ => pts_nil) (fun _ _ _ _ _ => (SL.pe_def (SL.Def.up d_read_number) hr (by first | decide | omega) SL.pass0X (by rfl) (pa_cons (pv 4) pa_nil))))
      (pss_cons (ps_if (pt_cmpR (op_inDK (K := K) rfl (units65 hr)) pe_non (pv 3) (by rfl)) (pss_one (ps_raise rfl (takes_of rfl rfl rfl rfl) (SL.pmk_keep KX_BadText hr (by first | decide | omega) (by rfl) (pa_cons pe_int pa_nil)))) pss_nil)
      (pss_one (ps_ret (pe_tup (pa_cons (pe_callTy (call_tuple_ofK (K := K) rfl) (by rfl) T.tuple (by decide +kernel) (pa_cons (pe_slice (sl_listK (K := K) rfl) (pv 3) po_none (po_some (pv 1))) pa_nil)) (pa_cons (pe_ix (ix_seqK (K := K) rfl) (pv 3) (pv 1) (fun _ _ => rfl)) pa_nil))))))))), fun s' ks O Q X hE hX hR => ?_⟩⟩
  obtain ⟨eb, rfl, a, c, rfl, hl, hasc, hc1, hc9, k1, k2⟩ := hR
  show SL.SW _ _ _ [.d (.str (SX.S a)), .d (.int (c : Int)), .no, .no, .no] _ _
  walk_at "sn"
  have e32 : Str.ofString " " = SX.S [32] := rfl
  have e60 : Str.ofString "<=" = SX.S [60, 61] := rfl
  have hwl := words_len (a := a)
  refine SL.sw_seq (SL.sw_asg (SL.we_of (SL.wl_split (SL.we_varD rfl ⟨_, rfl, by rw [SX.S_len]; omega, SL.we_str ⟨_, rfl, rfl, ?_⟩⟩))))
  rw [e32, split_words]
  show SL.SW _ _ _ [.d (.str (SX.S a)), .d (.int (c : Int)), .d (.list (wD (wordsL a))), .no, .no] _ _
  have hdl : (wD (wordsL a)).length = (wordsL a).length := by simp [wD]
  have lenW : lenD (.list (wD (wordsL a))) = some (wordsL a).length := by show some (List.length _) = _; rw [hdl]
  have bad : ∀ {Z : List SL.Sk} {D : SL.DE}, rowIn a c = .none → SL.SW K s' (fun _ σ H => tMkO C_BadText (SL.spKeep C_BadText "row") [] (tCons (tC (V.int 0)) tNil) σ H fun cls d H' => E cls d H') Z [] D := fun {Z D} hr2 =>
    SL.sw_raiseK (W := fun cls d _ H => E cls d H) hE (SL.wa_cons (SL.we_int (SL.wa_nil ⟨_, rfl, fun dx => hX _ _ _ _ [(dx, _)] [] SL.perm_id (k2 hr2 dx)⟩)))
  have e1 : PyData.eqv (.int ((wordsL a).length : Nat)) (.int ((c : Int) + 2)) = decide ((wordsL a).length = c + 2) := by
    show (((wordsL a).length : Int) == (c : Int) + 2) = _
    rw [Bool.eq_iff_iff]
    simp
    omega
  by_cases hlen : (wordsL a).length = c + 2
  rotate_left
  · refine SL.sw_seq (SL.sw_if (SL.wt_or (SL.wt_test (SL.we_neD (SL.we_ncall (SL.wa_cons (SL.we_varD rfl (SL.wa_nil ⟨_, DL.nc_len lenW, SL.we_opI (SL.we_varD rfl (SL.we_int ⟨_, _, rfl, rfl, _, _, rfl, rfl, rfl, rfl, _, rfl, ?_⟩))⟩))))))))
    refine ite_true_of (by rw [e1, decide_eq_false hlen]; rfl) (ite_true_of rfl (bad ?_))
    unfold rowIn
    rw [if_neg (fun y => hlen y.1)]
  have hw : (wordsL a)[c]? = some ((wordsL a)[c]'(by omega)) := List.getElem?_eq_getElem (by omega)
  generalize hwd : (wordsL a)[c]'(by omega) = wd at hw
  have hmem : wd ∈ wordsL a := List.mem_of_getElem? hw
  refine SL.sw_seq (SL.sw_if (SL.wt_or (SL.wt_test (SL.we_neD (SL.we_ncall (SL.wa_cons (SL.we_varD rfl (SL.wa_nil ⟨_, DL.nc_len lenW, SL.we_opI (SL.we_varD rfl (SL.we_int ⟨_, _, rfl, rfl, _, _, rfl, rfl, rfl, rfl, _, rfl, ?_⟩))⟩))))))))
  refine ite_false_of (by rw [e1, decide_eq_true hlen]; rfl) ?_
  refine SL.wt_test (SL.we_neD (SL.we_ix (SL.we_varD rfl (SL.we_varD rfl ⟨_, _, .str (SX.S wd), rfl, rfl, .lst ?_, SL.we_str ⟨_, _, rfl, rfl, shaped_S ((words_ok hmem).2 hasc), by rw [e60]; exact shaped_S (fun x hx => by simp at hx; omega), _, rfl, ?_⟩⟩))))
  · have hat := wD_at hw
    unfold atI ixN
    rw [hdl, if_pos (by omega), if_pos (by omega)]
    exact hat
  rw [e60, eqv_str, S_eq]
  by_cases h60 : wd = [60, 61]
  rotate_left
  · refine ite_true_of (by rw [decide_eq_false h60]; rfl) (bad ?_)
    unfold rowIn
    rw [if_neg (fun y => h60 (by have := y.2.1; rw [hw] at this; exact Option.some.inj this))]
  refine ite_false_of (by rw [decide_eq_true h60]; rfl) (SL.sw_next ?_)
  have hnl : (numsIn a c).length = c + 1 := by simp [numsIn]; omega
  refine SL.sw_seq (SL.sw_asg (SL.we_of (SL.wl_map (SL.ow_name (by decide)) (c + 1) (fun i d => (wD ((wordsL a).take c ++ (wordsL a).drop (c + 1)))[i]? = some d) ((numsIn a c).map optD) ?_ (by omega) (by simp [hnl]) ?_ ?_)))
  · refine SL.iw_list (SL.we_of (SL.wl_catD (SL.we_of (SL.wl_slice (SL.we_varD rfl ⟨_, rfl, SL.wo_no (SL.wo_part (SL.we_varD rfl ⟨_, rfl, ?_⟩))⟩)))))
    rw [slice_front]
    refine SL.we_of (SL.wl_slice (SL.we_varD rfl ⟨_, rfl, SL.wo_part (SL.we_opI (SL.we_varD rfl (SL.we_int ⟨_, _, rfl, rfl, _, rfl, SL.wo_no ?_⟩)))⟩))
    rw [show (c : Int) + 1 = ((c + 1 : Nat) : Int) by omega, slice_back (by rw [hdl]; omega)]
    have ec : (wD (wordsL a)).take c ++ (wD (wordsL a)).drop (c + 1) = wD ((wordsL a).take c ++ (wordsL a).drop (c + 1)) := by simp [wD, List.map_take, List.map_drop]
    refine ⟨_, _, rfl, rfl, by rw [← List.length_append, ec]; simp [wD]; omega, _, rfl, ?_⟩
    rw [ec]
    exact ⟨by simp [wD]; omega, rfl, rfl⟩
  · intro i d y p acc hi hd hy
    unfold wD at hd
    rw [List.getElem?_map, List.getElem?_map] at hd
    unfold numsIn at hy
    rw [List.getElem?_map, List.getElem?_map] at hy
    cases hq : ((wordsL a).take c ++ (wordsL a).drop (c + 1))[i]? with
    | none => rw [hq] at hd; cases hd
    | some w1 =>
      rw [hq] at hd hy
      cases hd
      cases hy
      have hm1 : w1 ∈ wordsL a := by
        rcases List.mem_append.mp (List.mem_of_getElem? hq) with h | h
        · exact List.mem_of_mem_take h
        · exact List.mem_of_mem_drop h
      obtain ⟨q1, q2⟩ := words_ok hm1
      exact SL.gw_name ⟨rfl, SL.we_callP (SL.wd_cons (SL.we_varD rfl ⟨_, rfl, SL.wd_nil ⟨w1, rfl, by omega, q2 hasc, rfl, rfl⟩⟩))⟩
  simp only [List.set_cons_succ, List.set_cons_zero]
  refine SL.sw_seq (SL.sw_if (SL.wt_test (SL.we_inD (SL.we_non (SL.we_varD rfl ⟨_, _, rfl, rfl, rfl, shaped_opts _, _, rfl, ?_⟩)))))
  rw [any_none]
  cases hall : (numsIn a c).all Option.isSome with
  | false =>
    refine ite_true_of rfl (bad ?_)
    unfold rowIn
    rw [if_neg (fun y => by rw [y.2.2] at hall; cases hall)]
  | true =>
    have hr2 : rowIn a c = .tuple [.tuple (((numsIn a c).take c).map optD), optD ((numsIn a c)[c]?.getD none)] := by
      unfold rowIn
      rw [if_pos ⟨hlen, by rw [hw, h60], hall⟩]
    refine ite_false_of rfl (SL.sw_next ?_)
    have hc : (numsIn a c)[c]? = some ((numsIn a c)[c]'(by omega)) := List.getElem?_eq_getElem (by omega)
    generalize (numsIn a c)[c]'(by omega) = last at hc
    refine SL.sw_ret (SL.we_tupD (SL.wd_cons (SL.we_tuple (SL.wa_cons (SL.we_of (SL.wl_slice (SL.we_varD rfl ⟨_, rfl, SL.wo_no (SL.wo_part (SL.we_varD rfl ⟨_, rfl, SL.wa_nil ⟨_, .inl rfl, _, rfl, ?_⟩⟩))⟩)))))))
    refine SL.wd_cons (SL.we_ix (SL.we_varD rfl (SL.we_varD rfl ⟨_, _, optD last, rfl, rfl, .lst ?_, _, rfl, SL.wd_nil ⟨rfl, ?_⟩⟩)))
    · unfold atI ixN
      rw [List.length_map, hnl, if_pos (by omega), if_pos (by omega)]
      show ((numsIn a c).map optD)[((c : Nat) : Int).toNat]? = _
      rw [Int.toNat_natCast, List.getElem?_map, hc]
      rfl
    rw [slice_front, ← List.map_take]
    have k3 := k1 (by rw [hr2]; exact fun z => by cases z)
    rw [hr2, hc] at k3
    exact ⟨[], [], .refl _, k3⟩

end My
namespace My
open PySem PySem.Spec PyProof.Rows L2 DL
open Evl (Ex)
local macro_rules | `(tactic| walk_at "dn") => `(tactic| try dsimp only [cxOf, Cx.nox, Cx.wish])
local macro_rules | `(tactic| walk_at "dz") => `(tactic| try simp only [List.set_cons_succ, List.set_cons_zero])
local macro_rules | `(tactic| walk_at "dl") => `(tactic| first
  | with_reducible refine we_int ?_
  | with_reducible refine we_bl ?_
  | with_reducible refine we_non ?_
  | with_reducible refine we_str ?_
  | (with_reducible refine we_var (d := ?dd) ?hh ?_; (case hh => with_unfolding_all rfl))
  | with_reducible refine we_opI ?_
  | with_reducible refine we_opB ?_
  | with_reducible refine we_opC ?_
  | with_reducible refine we_ixV ?_
  | with_reducible refine we_ixI ?_
  | with_reducible refine we_ixC ?_
  | with_reducible refine we_eqD ?_
  | with_reducible refine we_neD ?_
  | with_reducible refine we_neg ?_
  | with_reducible refine we_tupD ?_
  | with_reducible refine we_lstD ?_
  | with_reducible refine wl_lstD ?_
  | with_reducible refine we_callP ?_
  | (with_reducible refine we_callX ?hh ?_; (case hh => with_unfolding_all rfl))
  | with_reducible refine wd_nil ?_
  | with_reducible refine wd_cons ?_
  | with_reducible refine ⟨(rfl : Nat.ble _ _ = true), ?_⟩
  | with_reducible refine we_if ?_
  | with_reducible refine we_andV ?_
  | with_reducible refine we_orV ?_
  | with_reducible refine we_notV ?_
  | with_reducible refine we_isN ?_
  | with_reducible refine we_notN ?_
  | with_reducible refine we_tuple ?_
  | with_reducible refine we_listB ?_
  | with_reducible refine we_ncall ?_
  | with_reducible refine wt_test ?_
  | with_reducible refine wt_B ?_
  | with_reducible refine wt_and ?_
  | with_reducible refine wt_or ?_
  | with_reducible refine wt_not ?_
  | with_reducible refine wa_nil ?_
  | with_reducible refine wa_ty ?_
  | (with_reducible refine wa_raw (w := ?ww) ?hh ?_; (case hh => with_unfolding_all rfl))
  | with_reducible refine wa_cons ?_
  | (with_reducible refine sw_seq ?_; (try dsimp only))
  | (with_reducible refine sw_ret ?_; (try dsimp only))
  | (with_reducible refine sw_retN ?_; (try dsimp only))
  | (with_reducible refine sw_next ?_; (try dsimp only))
  | with_reducible refine sw_if ?_
  | (with_reducible refine sw_asg ?_; (try dsimp only); (try simp only [List.set_cons_succ, List.set_cons_zero]))
  | (with_reducible refine sw_par3 ?_; (try dsimp only); (try simp only [List.set_cons_succ, List.set_cons_zero]))
  | (with_reducible refine sw_par ?_; (try dsimp only); (try simp only [List.set_cons_succ, List.set_cons_zero]))
  | with_reducible refine ⟨_, _, rfl, rfl, And.intro ?_ ?_⟩
  | with_reducible refine ⟨_, _, rfl, rfl, ?_⟩
  | with_reducible refine ⟨_, _, rfl, ItemAt.lst rfl, ?_⟩
  | with_reducible refine ⟨_, _, rfl, ItemAt.tup rfl, ?_⟩
  | with_reducible refine ⟨_, .inl rfl, ?_⟩
  | with_reducible refine ⟨_, .inr rfl, ?_⟩
  | with_reducible refine ⟨_, nc_gcd, ?_⟩
  | with_reducible refine ⟨_, nc_abs, ?_⟩
  | with_reducible refine ⟨_, nc_int, ?_⟩
  | with_reducible refine ⟨_, nc_intb, ?_⟩
  | with_reducible refine ⟨_, nc_isi (by simp), ?_⟩
  | (refine ⟨_, nc_len (by with_unfolding_all rfl), ?_⟩)
  | with_reducible refine ⟨_, rfl, ?_⟩
  | with_reducible refine ⟨rfl, rfl, ?_⟩
  | with_reducible refine iteT ?_
  | with_reducible refine iteF ?_)

local macro_rules | `(tactic| walk_at "dm") => `(tactic| ((fail_if_success (with_reducible refine sw_if ?_)); walk_at "dl"))

local macro_rules | `(tactic| walk_at "dl") => `(tactic| first
  | with_reducible refine wd_star ?_
  | with_reducible refine wl_slice ?_
  | with_reducible refine we_slTup ?_
  | with_reducible refine we_slStr ?_
  | with_reducible refine wo_no ?_
  | with_reducible refine wo_part ?_
  | with_reducible refine wl_cat ?_
  | with_reducible refine wl_rep ?_
  | with_reducible refine we_catT ?_
  | with_reducible refine we_chainI ?_
  | with_reducible refine we_of (te := tSl _ _ _ _) ?_
  | with_reducible refine we_of (te := tOp rCat _ _) ?_
  | with_reducible refine we_of (te := tOp rRep _ _) ?_)

local macro_rules | `(tactic| walk_at "dl") => `(tactic| first
  | with_reducible refine we_m0B ?_
  | with_reducible refine we_m1B ?_
  | with_reducible refine we_bits ?_
  | with_reducible refine we_addS ?_
  | with_reducible refine we_inSign ?_)

/-- how much a list of words takes -/
def lenSum (W : List (List Nat)) : Nat := (W.map List.length).sum + W.length
theorem lenSum_app (V W : List (List Nat)) : lenSum (V ++ W) = lenSum V + lenSum W := by unfold lenSum; simp; omega
theorem lenSum_cut (W : List (List Nat)) (i : Nat) : lenSum (W.take i) + lenSum (W.drop i) = lenSum W := by rw [← lenSum_app, List.take_append_drop]
theorem lenSum_next (W : List (List Nat)) (i : Nat) : lenSum (W.drop (i + 1)) ≤ lenSum (W.drop i) := by
  have e : W.drop (i + 1) = (W.drop i).drop 1 := by rw [List.drop_drop]
  rw [e]
  generalize W.drop i = V
  cases V with
  | nil => simp
  | cons x r => unfold lenSum; simp; omega
theorem joinL_len : ∀ (W : List (List Nat)), (TL.joinL [32] W).length ≤ lenSum W
  | [] => Nat.zero_le _
  | [x] => by show x.length ≤ _; unfold lenSum; simp
  | x :: y :: W => by
    have ih := joinL_len (y :: W)
    show (x ++ ([32] ++ TL.joinL [32] (y :: W))).length ≤ _
    unfold lenSum at ih ⊢
    simp at ih ⊢
    omega
theorem joinL_asc : ∀ {W : List (List Nat)}, (∀ w ∈ W, Asc w) → Asc (TL.joinL [32] W)
  | [], _ => fun c hc => by cases hc
  | [x], h => h x (List.mem_cons_self ..)
  | x :: y :: W, h => fun c hc => by
    have ih := joinL_asc (W := y :: W) fun w hw => h w (List.mem_cons_of_mem _ hw)
    have hc : c ∈ x ++ ([32] ++ TL.joinL [32] (y :: W)) := hc
    rcases List.mem_append.mp hc with z | z
    · exact h x (List.mem_cons_self ..) c z
    · rcases List.mem_append.mp z with z | z
      · simp at z; omega
      · exact ih c z
theorem spl_sum : ∀ (a : List Nat) (k : Nat) (acc : List Nat), lenSum (TL.spl [32] k acc a) ≤ acc.length + a.length + 1 ∧ 1 ≤ (TL.spl [32] k acc a).length
  | [], k, acc => by
    rw [TL.spl_nil]
    exact ⟨by simp [lenSum], by simp⟩
  | x :: r, 0, acc => by
    show lenSum (if TL.pre [32] (x :: r) = true then acc :: TL.spl [32] 0 [] r else TL.spl [32] 0 (acc ++ [x]) r) ≤ _ ∧ 1 ≤ (if TL.pre [32] (x :: r) = true then acc :: TL.spl [32] 0 [] r else TL.spl [32] 0 (acc ++ [x]) r).length
    split
    · have h := (spl_sum r 0 []).1
      unfold lenSum at h ⊢
      simp at h ⊢
      omega
    · have h := spl_sum r 0 (acc ++ [x])
      simp at h ⊢
      omega
  | x :: r, k + 1, acc => by
    have h := spl_sum r k acc
    show lenSum (TL.spl [32] k acc r) ≤ _ ∧ 1 ≤ (TL.spl [32] k acc r).length
    simp at h ⊢
    omega
theorem sl_front {ds : List PyData} {j : Nat} : sliceD ds none (some (j : Int)) = ds.take j := slice_front
theorem sl_back {ds : List PyData} {j : Nat} (h : j ≤ ds.length) : sliceD ds (some (j : Int)) none = ds.drop j := slice_back h
theorem cut_to (a : List Nat) (i : Nat) : cutS (SX.S a) none (some (i : Int)) = SX.S (a.take i) := by
  rw [C8.cutS_slice, SX.slice_to (by omega), Int.toNat_natCast]
theorem cut_from (a : List Nat) (i : Nat) : cutS (SX.S a) (some (i : Int)) none = SX.S (a.drop i) := by
  rw [C8.cutS_slice, SX.slice_from (by omega), Int.toNat_natCast]
theorem asc_take {a : List Nat} (h : Asc a) (i : Nat) : Asc (a.take i) := fun c hc => h c (List.mem_of_mem_take hc)
theorem asc_drop {a : List Nat} (h : Asc a) (i : Nat) : Asc (a.drop i) := fun c hc => h c (List.mem_of_mem_drop hc)
theorem asc_app {a b : List Nat} (h : Asc a) (k : Asc b) : Asc (a ++ b) := fun c hc => by
  rcases List.mem_append.mp hc with z | z
  · exact h c z
  · exact k c z
def R_bent (ds : List PyData) (P : PyData → Prop) : Prop := ∃ a : List Nat, ds = [.str (SX.S a)] ∧ a.length ≤ 450 ∧ Asc a ∧ ∀ a' : List Nat, a'.length ≤ 500 → Asc a' → P (.str (SX.S a'))
instance : MonoR R_bent := ⟨fun _ _ _ h ⟨a, e, h1, h2, k⟩ => ⟨a, e, h1, h2, fun b p q => h _ (k b p q)⟩⟩
theorem ok__law_bent {P : Program} {w : World} {K : PySem.W.Frag} {mg : Str → Option Value} {base : Heap} (Fn : FunAt K mg "_law_bent" s__law_bent ["_law_box_here", "_law_text"]) (T : Txt mg) (d__law_take : Def P w K mg base "_law_take" 1 ["_law_box_here", "_law_many"] (spB K R_take)) : Def P w K mg base "_law_bent" 2 ["_law_box_here", "_law_text"] (spB K R_bent) := by
  refine fn_B Fn sc__law_bent (fun ds Q ⟨_, e, _⟩ => by rw [e]; rfl) fun f cdv A outer s H E hr => ⟨_, (pss_cons (ps_asg (pe_def d__law_take hr (by first | decide | omega) (by rfl) (pa_cons (pv 0) (pa_cons (pe_op op_add (pe_callB (call_lenK (K := K) rfl) (by rfl) T.len (by decide +kernel) (pa_cons (pv 1) pa_nil)) pe_int) pa_nil))) (pg_name (i := 2) sc__law_bent.nd rfl (Or.inl rfl)))
      (pss_cons (ps_asg (pe_ix (ix_seqK (K := K) rfl) pe_str (pe_def d__law_take hr (by first | decide | omega) (by rfl) (pa_cons (pv 0) (pa_cons pe_int pa_nil))) (fun _ _ => rfl)) (pg_name (i := 3) sc__law_bent.nd rfl (Or.inl rfl)))
      (pss_cons (ps_asg (pe_split (pv 1) pe_str) (pg_name (i := 4) sc__law_bent.nd rfl (Or.inl rfl)))
      (pss_cons (ps_asg (pe_def d__law_take hr (by first | decide | omega) (by rfl) (pa_cons (pv 0) (pa_cons (pe_callB (call_lenK (K := K) rfl) (by rfl) T.len (by decide +kernel) (pa_cons (pv 4) pa_nil)) pa_nil))) (pg_name (i := 5) sc__law_bent.nd rfl (Or.inl rfl)))
      (pss_cons (ps_asg (pe_ix (ix_seqK (K := K) rfl) (pe_lst (pa_cons pe_str (pa_cons pe_str (pa_cons pe_str (pa_cons pe_str (pa_cons pe_str (pa_cons pe_str (pa_cons pe_str (pa_cons (pe_op op_repS pe_str pe_int) (pa_cons (pe_op op_repS pe_str pe_int) (pa_cons pe_str pa_nil))))))))))) (pe_def d__law_take hr (by first | decide | omega) (by rfl) (pa_cons (pv 0) (pa_cons pe_int pa_nil))) (fun _ _ => rfl)) (pg_name (i := 6) sc__law_bent.nd rfl (Or.inl rfl)))
      (pss_cons (ps_asg (pe_def d__law_take hr (by first | decide | omega) (by rfl) (pa_cons (pv 0) (pa_cons pe_int pa_nil))) (pg_name (i := 7) sc__law_bent.nd rfl (Or.inl rfl)))
      (pss_cons (ps_if (pt_cmpR (op_eqDK (K := K) rfl hr.units) (pv 7) pe_int (nomark _)) (pss_one (ps_ret (pe_op op_add_str (pe_op op_add_str (pe_slice sl_str (pv 1) po_none (po_some (pv 2))) (pv 3)) (pe_slice sl_str (pv 1) (po_some (pv 2)) po_none)))) pss_nil)
      (pss_cons (ps_if (pt_cmpR (op_eqDK (K := K) rfl hr.units) (pv 7) pe_int (nomark _)) (pss_one (ps_ret (pe_op op_add_str (pe_slice sl_str (pv 1) po_none (po_some (pv 2))) (pe_slice sl_str (pv 1) (po_some (pe_op op_add (pv 2) pe_int)) po_none)))) pss_nil)
      (pss_cons (ps_if (pt_cmpR (op_eqDK (K := K) rfl hr.units) (pv 7) pe_int (nomark _)) (pss_one (ps_ret (pe_op op_add_str (pe_op op_add_str (pe_slice sl_str (pv 1) po_none (po_some (pv 2))) (pv 3)) (pe_slice sl_str (pv 1) (po_some (pe_op op_add (pv 2) pe_int)) po_none)))) pss_nil)
      (pss_cons (ps_if (pt_cmpR (op_eqDK (K := K) rfl hr.units) (pv 7) pe_int (nomark _)) (pss_one (ps_ret (DL.pe_joinK (K := K) rfl pe_str (pe_op op_cat (pe_slice (sl_listK (K := K) rfl) (pv 4) po_none (po_some (pv 5))) (pe_slice (sl_listK (K := K) rfl) (pv 4) (po_some (pe_op op_add (pv 5) pe_int)) po_none))))) pss_nil)
      (pss_cons (ps_if (pt_cmpR (op_eqDK (K := K) rfl hr.units) (pv 7) pe_int (nomark _)) (pss_one (ps_ret (DL.pe_joinK (K := K) rfl pe_str (pe_op op_cat (pe_op op_cat (pe_slice (sl_listK (K := K) rfl) (pv 4) po_none (po_some (pv 5))) (pe_lst (pa_cons (pv 6) pa_nil))) (pe_slice (sl_listK (K := K) rfl) (pv 4) (po_some (pv 5)) po_none))))) pss_nil)
      (pss_one (ps_ret (pe_ifExp (pt_cmpR (op_eqDK (K := K) rfl hr.units) (pv 7) pe_int (nomark _)) (DL.pe_joinK (K := K) rfl pe_str (pe_op op_cat (pe_op op_cat (pe_slice (sl_listK (K := K) rfl) (pv 4) po_none (po_some (pv 5))) (pe_lst (pa_cons (pv 6) pa_nil))) (pe_slice (sl_listK (K := K) rfl) (pv 4) (po_some (pe_op op_add (pv 5) pe_int)) po_none))) (pv 1))))))))))))))), fun b ds Q hR => ?_⟩
  obtain ⟨a, rfl, hl, hasc, k⟩ := hR
  show SW _ _ _ [.v (.ref b), .d (.str (SX.S a)), .no, .no, .no, .no, .no, .no] _ _
  walk_at "dn"
  have e32 : Str.ofString " " = SX.S [32] := rfl
  refine sw_seq (sw_asg ?_)
  repeat' walk_at "dl"
  refine ⟨_, nc_len (lenS (by rw [SX.S_len]; omega)), ?_⟩
  repeat' walk_at "dl"
  rw [SX.S_len]
  refine ⟨_, rfl, by omega, by omega, fun r h1 h2 => ?_⟩
  obtain ⟨i, rfl⟩ : ∃ i : Nat, r = i := ⟨r.toNat, by omega⟩
  have hi : i ≤ a.length := by omega
  clear h1 h2
  walk_at "dz"
  refine sw_seq (sw_asg (we_ix ?_))
  repeat' walk_at "dl"
  refine ⟨_, rfl, by decide, by decide, fun r h1 h2 => ?_⟩
  have pk : ∀ r : Int, 0 ≤ r → r < 17 → ∃ c : Nat, c < 128 ∧ ItemAt (.str (Str.ofString " -0123456789<=;+a")) r (.str (SX.S [c])) := fun r h1 h2 => by
    have e : (Str.ofString " -0123456789<=;+a").cps.toList = [32, 45, 48, 49, 50, 51, 52, 53, 54, 55, 56, 57, 60, 61, 59, 43, 97] := rfl
    have hj : r.toNat < [32, 45, 48, 49, 50, 51, 52, 53, 54, 55, 56, 57, 60, 61, 59, 43, 97].length := by show r.toNat < 17; omega
    have hc := List.getElem?_eq_getElem hj
    refine ⟨_, ?_, .str (by rw [sizeLine_eq]; decide) (c := [32, 45, 48, 49, 50, 51, 52, 53, 54, 55, 56, 57, 60, 61, 59, 43, 97][r.toNat]) ?_⟩
    · have : ∀ x ∈ [32, 45, 48, 49, 50, 51, 52, 53, 54, 55, 56, 57, 60, 61, 59, 43, 97], x < 128 := by decide
      exact this _ (List.getElem_mem hj)
    · rw [e]
      unfold atI ixN
      rw [if_pos (by omega), if_pos (by show r < 17; omega)]
      exact hc
  obtain ⟨sg, hsg, hit⟩ := pk r h1 h2
  refine ⟨r, .str (SX.S [sg]), rfl, hit, ?_⟩
  have asg : Asc [sg] := fun c hc => by simp at hc; omega
  clear h1 h2 hit pk
  walk_at "dz"
  have hwl := words_len (a := a)
  have hws := spl_sum a 0 []
  refine sw_seq (sw_asg (we_of (wl_split ?_)))
  walk_at "dl"
  refine ⟨_, rfl, by rw [SX.S_len]; omega, ?_⟩
  walk_at "dl"
  refine ⟨_, rfl, rfl, ?_⟩
  rw [e32, split_words]
  try dsimp only
  walk_at "dz"
  show SW _ _ _ [.v (.ref b), .d (.str (SX.S a)), .d (.int (i : Nat)), .d (.str (SX.S [sg])), .d (.list (wD (wordsL a))), .no, .no, .no] _ _
  have hdl : (wD (wordsL a)).length = (wordsL a).length := by simp [wD]
  have hwa : ∀ w ∈ wordsL a, Asc w := fun w hw => (words_ok hw).2 hasc
  have hws : lenSum (wordsL a) ≤ 451 ∧ 1 ≤ (wordsL a).length := ⟨by have := hws.1; simp at this; unfold wordsL; omega, hws.2⟩
  generalize wordsL a = W at *
  refine sw_seq (sw_asg ?_)
  repeat' walk_at "dl"
  rw [hdl]
  refine ⟨_, rfl, by omega, by omega, fun r h1 h2 => ?_⟩
  obtain ⟨j, rfl⟩ : ∃ j : Nat, r = j := ⟨r.toNat, by omega⟩
  have hj : j < W.length := by omega
  clear h1 h2
  walk_at "dz"
  have e20 : (⟨(List.replicate (20 : Int).toNat (Str.ofString "1").cps).foldl (· ++ ·) #[]⟩ : Str) = SX.S (List.replicate 20 49) := by decide +kernel
  have e21 : (⟨(List.replicate (21 : Int).toNat (Str.ofString "9").cps).foldl (· ++ ·) #[]⟩ : Str) = SX.S (List.replicate 21 57) := by decide +kernel
  refine sw_seq (sw_asg (we_pick (fun x => ∃ o : List Nat, x = .str (SX.S o) ∧ o.length ≤ 21 ∧ Asc o) ?_ ?_))
  · repeat' walk_at "dl"
    refine we_repS ?_
    repeat' walk_at "dl"
    refine ⟨_, _, SX.S (List.replicate 20 49), rfl, rfl, by decide, by decide, by decide, by decide, by decide +kernel, e20.symm, by decide +kernel, ?_⟩
    repeat' walk_at "dl"
    refine we_repS ?_
    repeat' walk_at "dl"
    refine ⟨_, _, SX.S (List.replicate 21 57), rfl, rfl, by decide, by decide, by decide, by decide, by decide +kernel, e21.symm, by decide +kernel, ?_⟩
    repeat' walk_at "dl"
    refine ⟨_, rfl, by decide, by decide, fun r h1 h2 => ?_⟩
    refine item_any h1 h2 fun x hx => ?_
    simp only [List.mem_cons, List.mem_nil_iff, or_false] at hx
    have asc : ∀ o : List Nat, (∀ c ∈ o, c < 128) → Asc o := fun o h => h
    rcases hx with rfl | rfl | rfl | rfl | rfl | rfl | rfl | rfl | rfl | rfl
    · exact ⟨[], rfl, by decide, asc _ (by decide)⟩
    · exact ⟨[45], rfl, by decide, asc _ (by decide)⟩
    · exact ⟨[48], rfl, by decide, asc _ (by decide)⟩
    · exact ⟨[45, 48], rfl, by decide, asc _ (by decide)⟩
    · exact ⟨[48, 49], rfl, by decide, asc _ (by decide)⟩
    · exact ⟨[60, 61], rfl, by decide, asc _ (by decide)⟩
    · exact ⟨[60], rfl, by decide, asc _ (by decide)⟩
    · exact ⟨_, rfl, by decide, asc _ (by decide)⟩
    · exact ⟨_, rfl, by decide, asc _ (by decide)⟩
    · exact ⟨[45, 53], rfl, by decide, asc _ (by decide)⟩
  rintro _ ⟨o, rfl, hol, hoa⟩
  walk_at "dz"
  refine sw_seq (sw_asg ?_)
  repeat' walk_at "dl"
  refine ⟨_, rfl, by decide, by decide, fun way _ _ => ?_⟩
  walk_at "dz"
  show SW _ _ _ [.v (.ref b), .d (.str (SX.S a)), .d (.int (i : Nat)), .d (.str (SX.S [sg])), .d (.list (wD W)), .d (.int (j : Nat)), .d (.str (SX.S o)), .d (.int way)] _ _
  have sz : ∀ {x y : List Nat}, SX.S x ++ SX.S y = SX.S (x ++ y) := fun {x y} => SX.S_cat x y
  have lt : (a.take i).length ≤ 450 := by rw [List.length_take]; omega
  have ld : ∀ n, (a.drop n).length ≤ 450 := fun n => by rw [List.length_drop]; omega
  -- joined words
  have jn : ∀ {V : List (List Nat)} {P : PyData → Prop}, lenSum V ≤ 500 → (∀ w ∈ V, Asc w) → (∀ a' : List Nat, a'.length ≤ 500 → Asc a' → P (.str (SX.S a'))) → ∃ ys : List Str, PyData.list (wD V) = .list (ys.map .str) ∧ (ys.map (·.length)).sum + ys.length * (SX.S [32]).length ≤ 16777216 ∧ P (.str (Txt.join (SX.S [32]) ys)) := fun {V P} h1 h2 h3 => by
    refine ⟨V.map SX.S, rfl, ?_, ?_⟩
    · have e : ((V.map SX.S).map (·.length)) = V.map List.length := by
        rw [List.map_map]
        exact List.map_congr_left fun w _ => SX.S_len w
      rw [e, List.length_map, SX.S_len]
      unfold lenSum at h1
      simp
      omega
    · rw [SX.join_S]
      exact h3 _ (by have := joinL_len V; omega) (joinL_asc h2)
  have wtake : (wD W).take j = wD (W.take j) := by simp [wD, List.map_take]
  have wdrop : ∀ n, (wD W).drop n = wD (W.drop n) := fun n => by simp [wD, List.map_drop]
  have hcut := lenSum_cut W j
  have hnext := lenSum_next W j
  have ato : ∀ w ∈ W.take j, Asc w := fun w hw => hwa w (List.mem_of_mem_take hw)
  have afr : ∀ n, ∀ w ∈ W.drop n, Asc w := fun n w hw => hwa w (List.mem_of_mem_drop hw)
  refine sw_seq (sw_if ?_)
  repeat' walk_at "dl"
  refine ite2 (fun hw => ?_) (fun hw => sw_next ?_)
  · refine sw_ret (we_addS (we_addS (we_slStr (we_var rfl ⟨_, rfl, by rw [SX.S_len]; omega, wo_no (wo_part (we_var rfl ⟨_, rfl, we_var rfl ?_⟩))⟩))))
    rw [cut_to]
    refine ⟨_, _, rfl, rfl, by rw [SX.S_len, SX.S_len]; simp; omega, ?_⟩
    rw [sz]
    refine we_slStr (we_var rfl ⟨_, rfl, by rw [SX.S_len]; omega, wo_part (we_var rfl ⟨_, rfl, wo_no ?_⟩)⟩)
    rw [cut_from]
    refine ⟨_, _, rfl, rfl, by rw [SX.S_len, SX.S_len]; have := ld i; simp at this ⊢; omega, ?_⟩
    rw [sz]
    exact k _ (by have := ld i; simp at this ⊢; omega) (asc_app (asc_app (asc_take hasc i) asg) (asc_drop hasc i))
  refine sw_seq (sw_if ?_)
  repeat' walk_at "dl"
  refine ite2 (fun hw => ?_) (fun hw => sw_next ?_)
  · refine sw_ret (we_addS (we_slStr (we_var rfl ⟨_, rfl, by rw [SX.S_len]; omega, wo_no (wo_part (we_var rfl ⟨_, rfl, ?_⟩))⟩)))
    rw [cut_to]
    refine we_slStr (we_var rfl ⟨_, rfl, by rw [SX.S_len]; omega, wo_part ?_⟩)
    repeat' walk_at "dl"
    all_goals rw [show (i : Int) + 1 = ((i + 1 : Nat) : Int) by omega, cut_from]
    · show _ ≤ 100000
      rw [SX.S_len, SX.S_len]; have := ld (i + 1); simp at this ⊢; omega
    rw [sz]
    exact k _ (by have := ld (i + 1); simp at this ⊢; omega) (asc_app (asc_take hasc i) (asc_drop hasc _))
  refine sw_seq (sw_if ?_)
  repeat' walk_at "dl"
  refine ite2 (fun hw => ?_) (fun hw => sw_next ?_)
  · refine sw_ret (we_addS (we_addS (we_slStr (we_var rfl ⟨_, rfl, by rw [SX.S_len]; omega, wo_no (wo_part (we_var rfl ⟨_, rfl, we_var rfl ?_⟩))⟩))))
    rw [cut_to]
    refine ⟨_, _, rfl, rfl, by rw [SX.S_len, SX.S_len]; simp; omega, ?_⟩
    rw [sz]
    refine we_slStr (we_var rfl ⟨_, rfl, by rw [SX.S_len]; omega, wo_part ?_⟩)
    repeat' walk_at "dl"
    all_goals rw [show (i : Int) + 1 = ((i + 1 : Nat) : Int) by omega, cut_from]
    · show _ ≤ 100000
      rw [SX.S_len, SX.S_len]; have := ld (i + 1); simp at this ⊢; omega
    rw [sz]
    exact k _ (by have := ld (i + 1); simp at this ⊢; omega) (asc_app (asc_app (asc_take hasc i) asg) (asc_drop hasc _))
  refine sw_seq (sw_if ?_)
  repeat' walk_at "dl"
  refine ite2 (fun hw => ?_) (fun hw => sw_next ?_)
  · refine sw_ret (we_join (we_str ⟨_, rfl, we_of (wl_cat (wl_slice (we_var rfl ⟨_, rfl, wo_no (wo_part (we_var rfl ⟨_, rfl, fun p => ?_⟩))⟩)))⟩))
    rw [sl_front, wtake]
    refine wl_slice (we_var rfl ⟨_, rfl, wo_part ?_⟩)
    repeat' walk_at "dl"
    rw [show (j : Int) + 1 = ((j + 1 : Nat) : Int) by omega, sl_back (by rw [hdl]; omega), wdrop]
    refine ⟨by simp [wD]; omega, ?_⟩
    rw [wD_app]
    exact jn (by rw [lenSum_app]; omega) (fun w hw => by rcases List.mem_append.mp hw with z | z; exact ato w z; exact afr _ w z) k
  refine sw_seq (sw_if ?_)
  repeat' walk_at "dl"
  refine ite2 (fun hw => ?_) (fun hw => sw_next ?_)
  · refine sw_ret (we_join (we_str ⟨_, rfl, we_of (wl_cat (wl_cat (wl_slice (we_var rfl ⟨_, rfl, wo_no (wo_part (we_var rfl ⟨_, rfl, fun p => wl_lstD (wd_cons (we_var rfl (wd_nil ⟨rfl, ?_⟩)))⟩))⟩))))⟩))
    rw [sl_front, wtake]
    refine ⟨by simp [wD]; omega, fun p2 => wl_slice (we_var rfl ⟨_, rfl, wo_part (we_var rfl ⟨_, rfl, wo_no ?_⟩)⟩)⟩
    rw [sl_back (by rw [hdl]; omega), wdrop]
    refine ⟨by simp [wD]; omega, ?_⟩
    rw [show [PyData.str (SX.S o)] = wD [o] from rfl, wD_app, wD_app]
    have ho : lenSum [o] ≤ 22 := by unfold lenSum; simp; omega
    have ha : ∀ w ∈ W.take j ++ [o] ++ (W.drop j), Asc w := fun w hw => by
      rcases List.mem_append.mp hw with z | z
      · rcases List.mem_append.mp z with z | z
        · exact ato w z
        · simp at z; rw [z]; exact hoa
      · exact afr _ w z
    exact jn (by rw [lenSum_app, lenSum_app]; omega) ha k
  refine sw_ret (we_if ?_)
  repeat' walk_at "dl"
  refine ite2 (fun hw => ?_) (fun hw => we_var rfl (k _ (by omega) hasc))
  · refine we_join (we_str ⟨_, rfl, we_of (wl_cat (wl_cat (wl_slice (we_var rfl ⟨_, rfl, wo_no (wo_part (we_var rfl ⟨_, rfl, fun p => wl_lstD (wd_cons (we_var rfl (wd_nil ⟨rfl, ?_⟩)))⟩))⟩))))⟩)
    rw [sl_front, wtake]
    refine ⟨by simp [wD]; omega, fun p2 => wl_slice (we_var rfl ⟨_, rfl, wo_part ?_⟩)⟩
    repeat' walk_at "dl"
    rw [show (j : Int) + 1 = ((j + 1 : Nat) : Int) by omega, sl_back (by rw [hdl]; omega), wdrop]
    refine ⟨by simp [wD]; omega, ?_⟩
    rw [show [PyData.str (SX.S o)] = wD [o] from rfl, wD_app, wD_app]
    have ho : lenSum [o] ≤ 22 := by unfold lenSum; simp; omega
    have ha : ∀ w ∈ W.take j ++ [o] ++ (W.drop (j + 1)), Asc w := fun w hw => by
      rcases List.mem_append.mp hw with z | z
      · rcases List.mem_append.mp z with z | z
        · exact ato w z
        · simp at z; rw [z]; exact hoa
      · exact afr _ w z
    exact jn (by rw [lenSum_app, lenSum_app]; omega) ha k

end My
namespace My
open PySem PySem.Spec PyProof.Rows L2 DL
open Evl (Ex)
local macro_rules | `(tactic| walk_at "dn") => `(tactic| try dsimp only [cxOf, Cx.nox, Cx.wish])
local macro_rules | `(tactic| walk_at "dz") => `(tactic| try simp only [List.set_cons_succ, List.set_cons_zero])
local macro_rules | `(tactic| walk_at "dl") => `(tactic| first
  | with_reducible refine we_int ?_
  | with_reducible refine we_bl ?_
  | with_reducible refine we_non ?_
  | with_reducible refine we_str ?_
  | (with_reducible refine we_var (d := ?dd) ?hh ?_; (case hh => with_unfolding_all rfl))
  | with_reducible refine we_opI ?_
  | with_reducible refine we_opB ?_
  | with_reducible refine we_opC ?_
  | with_reducible refine we_ixV ?_
  | with_reducible refine we_ixI ?_
  | with_reducible refine we_ixC ?_
  | with_reducible refine we_eqD ?_
  | with_reducible refine we_neD ?_
  | with_reducible refine we_neg ?_
  | with_reducible refine we_tupD ?_
  | with_reducible refine we_lstD ?_
  | with_reducible refine wl_lstD ?_
  | with_reducible refine we_callP ?_
  | (with_reducible refine we_callX ?hh ?_; (case hh => with_unfolding_all rfl))
  | with_reducible refine wd_nil ?_
  | with_reducible refine wd_cons ?_
  | with_reducible refine ⟨(rfl : Nat.ble _ _ = true), ?_⟩
  | with_reducible refine we_if ?_
  | with_reducible refine we_andV ?_
  | with_reducible refine we_orV ?_
  | with_reducible refine we_notV ?_
  | with_reducible refine we_isN ?_
  | with_reducible refine we_notN ?_
  | with_reducible refine we_tuple ?_
  | with_reducible refine we_listB ?_
  | with_reducible refine we_ncall ?_
  | with_reducible refine wt_test ?_
  | with_reducible refine wt_B ?_
  | with_reducible refine wt_and ?_
  | with_reducible refine wt_or ?_
  | with_reducible refine wt_not ?_
  | with_reducible refine wa_nil ?_
  | with_reducible refine wa_ty ?_
  | (with_reducible refine wa_raw (w := ?ww) ?hh ?_; (case hh => with_unfolding_all rfl))
  | with_reducible refine wa_cons ?_
  | (with_reducible refine sw_seq ?_; (try dsimp only))
  | (with_reducible refine sw_ret ?_; (try dsimp only))
  | (with_reducible refine sw_retN ?_; (try dsimp only))
  | (with_reducible refine sw_next ?_; (try dsimp only))
  | with_reducible refine sw_if ?_
  | (with_reducible refine sw_asg ?_; (try dsimp only); (try simp only [List.set_cons_succ, List.set_cons_zero]))
  | (with_reducible refine sw_par3 ?_; (try dsimp only); (try simp only [List.set_cons_succ, List.set_cons_zero]))
  | (with_reducible refine sw_par ?_; (try dsimp only); (try simp only [List.set_cons_succ, List.set_cons_zero]))
  | with_reducible refine ⟨_, _, rfl, rfl, And.intro ?_ ?_⟩
  | with_reducible refine ⟨_, _, rfl, rfl, ?_⟩
  | with_reducible refine ⟨_, _, rfl, ItemAt.lst rfl, ?_⟩
  | with_reducible refine ⟨_, _, rfl, ItemAt.tup rfl, ?_⟩
  | with_reducible refine ⟨_, .inl rfl, ?_⟩
  | with_reducible refine ⟨_, .inr rfl, ?_⟩
  | with_reducible refine ⟨_, nc_gcd, ?_⟩
  | with_reducible refine ⟨_, nc_abs, ?_⟩
  | with_reducible refine ⟨_, nc_int, ?_⟩
  | with_reducible refine ⟨_, nc_intb, ?_⟩
  | with_reducible refine ⟨_, nc_isi (by simp), ?_⟩
  | (refine ⟨_, nc_len (by with_unfolding_all rfl), ?_⟩)
  | with_reducible refine ⟨_, rfl, ?_⟩
  | with_reducible refine ⟨rfl, rfl, ?_⟩
  | with_reducible refine iteT ?_
  | with_reducible refine iteF ?_)

local macro_rules | `(tactic| walk_at "dm") => `(tactic| ((fail_if_success (with_reducible refine sw_if ?_)); walk_at "dl"))

local macro_rules | `(tactic| walk_at "dl") => `(tactic| first
  | with_reducible refine wd_star ?_
  | with_reducible refine wl_slice ?_
  | with_reducible refine we_slTup ?_
  | with_reducible refine we_slStr ?_
  | with_reducible refine wo_no ?_
  | with_reducible refine wo_part ?_
  | with_reducible refine wl_cat ?_
  | with_reducible refine wl_rep ?_
  | with_reducible refine we_catT ?_
  | with_reducible refine we_chainI ?_
  | with_reducible refine we_of (te := tSl _ _ _ _) ?_
  | with_reducible refine we_of (te := tOp rCat _ _) ?_
  | with_reducible refine we_of (te := tOp rRep _ _) ?_)

local macro_rules | `(tactic| walk_at "dl") => `(tactic| first
  | with_reducible refine we_m0B ?_
  | with_reducible refine we_m1B ?_
  | with_reducible refine we_bits ?_
  | with_reducible refine we_addS ?_
  | with_reducible refine we_inSign ?_)

instance (d : PyData) : Decidable (d = .none) := match d with
  | .none => isTrue rfl
  | .bool _ | .int _ | .str _ | .list _ | .tuple _ | .dict _ => isFalse (fun z => by cases z)
/-- a row by its weights and its bound -/
def rwD (r : List Int × Int) : PyData := .tuple [.tuple (r.1.map .int), .int r.2]
def partsL (a : List Nat) : List (List Nat) := if a = [97, 108, 108] then [] else TL.spl [59, 32] 0 [] a
theorem spl2_facts : ∀ (a : List Nat) (k : Nat) (acc : List Nat), (∀ w ∈ TL.spl [59, 32] k acc a, w.length ≤ acc.length + a.length ∧ ∀ c ∈ w, c ∈ acc ∨ c ∈ a) ∧ (TL.spl [59, 32] k acc a).length ≤ a.length + 1
  | [], k, acc => by
    rw [TL.spl_nil]
    exact ⟨fun w hw => by
      simp at hw
      subst hw
      exact ⟨by simp, fun c hc => .inl hc⟩, by simp⟩
  | x :: r, 0, acc => by
    show (∀ w ∈ (if TL.pre [59, 32] (x :: r) = true then acc :: TL.spl [59, 32] 1 [] r else TL.spl [59, 32] 0 (acc ++ [x]) r), _) ∧ (if TL.pre [59, 32] (x :: r) = true then acc :: TL.spl [59, 32] 1 [] r else TL.spl [59, 32] 0 (acc ++ [x]) r).length ≤ _
    split
    · obtain ⟨h1, h2⟩ := spl2_facts r 1 []
      refine ⟨fun w hw => ?_, by rw [List.length_cons, List.length_cons]; omega⟩
      rcases List.mem_cons.mp hw with e | hw
      · subst e
        exact ⟨by omega, fun c hc => .inl hc⟩
      · obtain ⟨h3, h4⟩ := h1 w hw
        exact ⟨by simp at h3 ⊢; omega, fun c hc => (h4 c hc).elim (fun z => nomatch z) fun z => .inr (List.mem_cons_of_mem _ z)⟩
    · obtain ⟨h1, h2⟩ := spl2_facts r 0 (acc ++ [x])
      refine ⟨fun w hw => ?_, by rw [List.length_cons]; omega⟩
      obtain ⟨h3, h4⟩ := h1 w hw
      refine ⟨by simp at h3 ⊢; omega, fun c hc => ?_⟩
      rcases h4 c hc with z | z
      · rcases List.mem_append.mp z with z | z
        · exact .inl z
        · simp at z
          subst z
          exact .inr (List.mem_cons_self ..)
      · exact .inr (List.mem_cons_of_mem _ z)
  | x :: r, k + 1, acc => by
    obtain ⟨h1, h2⟩ := spl2_facts r k acc
    refine ⟨fun w hw => ?_, by show (TL.spl [59, 32] k acc r).length ≤ _; rw [List.length_cons]; omega⟩
    obtain ⟨h3, h4⟩ := h1 w hw
    exact ⟨by rw [List.length_cons]; omega, fun c hc => (h4 c hc).elim .inl fun z => .inr (List.mem_cons_of_mem _ z)⟩
theorem parts_len {a : List Nat} : (partsL a).length ≤ a.length + 1 := by
  unfold partsL
  split
  · simp
  · exact (spl2_facts a 0 []).2
theorem parts_ok {a w : List Nat} (h : w ∈ partsL a) : w.length ≤ a.length ∧ (Asc a → Asc w) := by
  unfold partsL at h
  split at h
  · cases h
  · obtain ⟨h1, h2⟩ := (spl2_facts a 0 []).1 w h
    exact ⟨by simpa using h1, fun ha c hc => (h2 c hc).elim (fun z => nomatch z) (ha c)⟩
theorem split_parts (a : List Nat) : Txt.split (SX.S a) (SX.S [59, 32]) = (TL.spl [59, 32] 0 [] a).map SX.S := SX.split_S (by simp) (by decide)
def R_parts (ds : List PyData) (P : PyData → Prop) : Prop := ∃ a : List Nat, ds = [.str (SX.S a)] ∧ a.length ≤ 500 ∧ Asc a ∧ P (.list (wD (partsL a)))
instance : MonoR R_parts := ⟨fun _ _ _ h ⟨a, e, h1, h2, k⟩ => ⟨a, e, h1, h2, h _ k⟩⟩
theorem ok__row_texts {P : Program} {w : World} {K : PySem.W.Frag} {mg : Str → Option Value} {base : Heap} (Fn : FunAt K mg "_row_texts" s__row_texts ["text"]) (T : Txt mg) : Def P w K mg base "_row_texts" 1 ["text"] (spP K R_parts) := by
  refine fn_P Fn sc__row_texts (fun ds Q ⟨_, e, _⟩ => by rw [e]; rfl) fun f cdv A outer s H E hr => ⟨_, (pss_one (ps_ret (pe_ifExp (pt_cmpR (op_eqDK (K := K) rfl hr.units) (pv 0) (C8.pe_gc (by rfl) T.c__NONE) (nomark _)) (pe_lst pa_nil) (pe_split (pv 0) (C8.pe_gc (by rfl) T.c__BETWEEN))))), fun ds Q hR => ?_⟩
  obtain ⟨a, rfl, hl, hasc, k⟩ := hR
  show SW _ _ _ [.d (.str (SX.S a))] _ _
  walk_at "dn"
  have eall : Str.ofString "all" = SX.S [97, 108, 108] := rfl
  have ebet : Str.ofString "; " = SX.S [59, 32] := rfl
  refine sw_ret (we_if ?_)
  repeat' walk_at "dl"
  refine ⟨shaped_S hasc, by rw [eall]; exact shaped_S (fun c hc => by simp at hc; omega), _, rfl, ?_⟩
  rw [eall, eqv_str, S_eq]
  by_cases h : a = [97, 108, 108]
  · refine ite_true_of (decide_eq_true h) (we_of (wl_lstD (wd_nil ⟨rfl, ?_⟩)))
    have e : partsL a = [] := by unfold partsL; rw [if_pos h]
    rw [e] at k
    exact k
  · refine ite_false_of (decide_eq_false h) (we_of (wl_split (we_var rfl ⟨_, rfl, by rw [SX.S_len]; omega, we_str ⟨_, rfl, rfl, ?_⟩⟩)))
    have e : partsL a = TL.spl [59, 32] 0 [] a := by unfold partsL; rw [if_neg h]
    rw [ebet, split_parts, ← e]
    exact k
def rowsT (rs : List (List Int × Int)) : List Nat := if rs = [] then [97, 108, 108] else TL.joinL [59, 32] (rs.map fun r => rowL r.1 r.2)
def RowsB (rs : List (List Int × Int)) : Prop := rs.length ≤ 5 ∧ ∀ r ∈ rs, Big r.1 r.2 ∧ r.1.length ≤ 3
def R_rowstext (ds : List PyData) (P : PyData → Prop) : Prop := ∃ rs, (ds = [.list (rs.map rwD)] ∨ ds = [.tuple (rs.map rwD)]) ∧ RowsB rs ∧ P (.str (SX.S (rowsT rs)))
instance : MonoR R_rowstext := ⟨fun _ _ _ h ⟨a, e, h1, k⟩ => ⟨a, e, h1, h _ k⟩⟩
def R_rowslist (ds : List PyData) (P : PyData → Prop) : Prop := ∃ rs, ds = [.list (rs.map rwD)] ∧ RowsB rs ∧ P (.str (SX.S (rowsT rs)))
instance : MonoR R_rowslist := ⟨fun _ _ _ h ⟨a, e, h1, k⟩ => ⟨a, e, h1, h _ k⟩⟩
theorem rowL_three {ws : List Int} {b : Int} (h : Big ws b) (h3 : ws.length ≤ 3) : (rowL ws b).length ≤ 87 ∧ Asc (rowL ws b) := by
  obtain ⟨_, _, h4, h5⟩ := h
  constructor
  · refine Nat.le_trans (joinL_len _) ?_
    rw [lenSum_app]
    have e1 : lenSum (ws.map chI) ≤ 63 := by
      unfold lenSum
      have := sum_le (m := 20) ((ws.map chI).map List.length) fun x hx => by
        obtain ⟨y, hy, rfl⟩ := List.mem_map.mp hx
        obtain ⟨z, hz, rfl⟩ := List.mem_map.mp hy
        exact chI_len (k := 19) (by decide) (big_ten (h4 z hz))
      simp at this ⊢
      omega
    have e2 : lenSum [[60, 61], chI b] ≤ 24 := by
      have := chI_len (k := 19) (by decide) (big_ten h5)
      unfold lenSum
      simp
      omega
    omega
  · refine joinL_asc fun w hw => ?_
    rcases List.mem_append.mp hw with z | z
    · obtain ⟨x, _, rfl⟩ := List.mem_map.mp z
      exact chI_asc x
    · simp only [List.mem_cons, List.mem_nil_iff, or_false] at z
      rcases z with rfl | rfl
      · exact fun c hc => by simp at hc; omega
      · exact chI_asc b
theorem joinB_len : ∀ (W : List (List Nat)), (TL.joinL [59, 32] W).length ≤ lenSum W + W.length
  | [] => Nat.zero_le _
  | [x] => by show x.length ≤ _; unfold lenSum; simp; omega
  | x :: y :: W => by
    have ih := joinB_len (y :: W)
    show (x ++ ([59, 32] ++ TL.joinL [59, 32] (y :: W))).length ≤ _
    unfold lenSum at ih ⊢
    simp at ih ⊢
    omega
theorem joinB_asc : ∀ {W : List (List Nat)}, (∀ w ∈ W, Asc w) → Asc (TL.joinL [59, 32] W)
  | [], _ => fun c hc => by cases hc
  | [x], h => h x (List.mem_cons_self ..)
  | x :: y :: W, h => fun c hc => by
    have ih := joinB_asc (W := y :: W) fun w hw => h w (List.mem_cons_of_mem _ hw)
    have hc : c ∈ x ++ ([59, 32] ++ TL.joinL [59, 32] (y :: W)) := hc
    rcases List.mem_append.mp hc with z | z
    · exact h x (List.mem_cons_self ..) c z
    · rcases List.mem_append.mp z with z | z
      · simp at z; omega
      · exact ih c z
theorem rowsT_fits {rs : List (List Int × Int)} (h : RowsB rs) : (rowsT rs).length ≤ 450 ∧ Asc (rowsT rs) := by
  obtain ⟨h1, h2⟩ := h
  unfold rowsT
  split
  · exact ⟨by decide, fun c hc => by simp at hc; omega⟩
  · constructor
    · refine Nat.le_trans (joinB_len _) ?_
      have := sum_le (m := 87) ((rs.map fun r => rowL r.1 r.2).map List.length) fun x hx => by
        obtain ⟨y, hy, rfl⟩ := List.mem_map.mp hx
        obtain ⟨z, hz, rfl⟩ := List.mem_map.mp hy
        exact (rowL_three (h2 z hz).1 (h2 z hz).2).1
      unfold lenSum
      simp at this ⊢
      omega
    · refine joinB_asc fun w hw => ?_
      obtain ⟨z, hz, rfl⟩ := List.mem_map.mp hw
      exact (rowL_three (h2 z hz).1 (h2 z hz).2).2
theorem lens_rows {rs : List (List Int × Int)} (h : RowsB rs) : (((rs.map fun r => rowL r.1 r.2).map SX.S).map (·.length)).sum + ((rs.map fun r => rowL r.1 r.2).map SX.S).length * (SX.S [59, 32]).length ≤ 16777216 := by
  obtain ⟨h1, h2⟩ := h
  have := sum_le (m := 87) (((rs.map fun r => rowL r.1 r.2).map SX.S).map (·.length)) fun x hx => by
    obtain ⟨y, hy, rfl⟩ := List.mem_map.mp hx
    obtain ⟨u, hu, rfl⟩ := List.mem_map.mp hy
    obtain ⟨z, hz, rfl⟩ := List.mem_map.mp hu
    rw [SX.S_len]
    exact (rowL_three (h2 z hz).1 (h2 z hz).2).1
  rw [SX.S_len]
  simp at this ⊢
  omega
theorem rwD_fit {rs : List (List Int × Int)} (h : rs.length ≤ 50000) (k : ∀ r ∈ rs, r.1.length ≤ 50000) : SeqAt.shaped (PyData.list (rs.map rwD)) = true := by
  have h0 : ∀ ns : List Int, PyData.canLayAll0 (ns.map .int) = true ∧ PyData.depthAll (ns.map .int) ≤ 0 := by
    intro ns
    induction ns with
    | nil => exact ⟨rfl, Nat.le_refl _⟩
    | cons n ns ih => exact ⟨by show (true && PyData.canLayAll0 (ns.map .int)) = true; rw [ih.1]; rfl, by show max 0 (PyData.depthAll (ns.map .int)) ≤ 0; have := ih.2; omega⟩
  have h1 : ∀ rs : List (List Int × Int), PyData.canLayAll0 (rs.map rwD) = true ∧ PyData.depthAll (rs.map rwD) ≤ 2 := by
    intro rs
    induction rs with
    | nil => exact ⟨rfl, Nat.zero_le _⟩
    | cons r rs ih =>
      obtain ⟨a1, a2⟩ := h0 r.1
      constructor
      · show ((PyData.canLayAll0 (r.1.map .int) && (true && true)) && PyData.canLayAll0 (rs.map rwD)) = true
        rw [a1, ih.1]
        rfl
      · show max ((max (PyData.depthAll (r.1.map .int) + 1) (max 0 0)) + 1) (PyData.depthAll (rs.map rwD)) ≤ 2
        have := ih.2
        omega
  obtain ⟨h2, h3⟩ := h1 rs
  unfold SeqAt.shaped
  show (PyData.canLayAll0 (rs.map rwD) && decide (PyData.depthAll (rs.map rwD) + 1 ≤ 64)) = true
  rw [h2, decide_eq_true (by omega)]
  rfl
theorem ok_rows_text {P : Program} {w : World} {K : PySem.W.Frag} {mg : Str → Option Value} {base : Heap} (Fn : FunAt K mg "rows_text" s_rows_text ["rows"]) (T : Txt mg) (d_row_text : Def P w K mg base "row_text" 2 ["row"] (spP K R_rowtext)) : Def P w K mg base "rows_text" 3 ["rows"] (spP K R_rowstext) := by
  refine fn_P Fn sc_rows_text (fun ds Q ⟨_, e, _⟩ => by rcases e with e | e <;> rw [e] <;> rfl) fun f cdv A outer s H E hr => ⟨_, (pss_cons (ps_if (pt_not (DL.pt_truthK (K := K) rfl (pv 0) (by intro _; rfl))) (pss_one (ps_ret (C8.pe_gc (by rfl) T.c__NONE))) pss_nil)
      (pss_one (ps_ret (DL.pe_joinK (K := K) rfl (C8.pe_gc (by rfl) T.c__BETWEEN) (pe_lc (own := [("row", 1)]) (g := (gName 1)) rfl sc_rows_text.nd (DL.pi_both (K := K) rfl (pv 0)) (blkOk_by (own := [("row", 1)]) (N := ["rows", "row"]) (sc := defScope s_rows_text) (by decide +kernel)) (fun _ _ _ _ _ => (pg_name (i := 1) sc_rows_text.nd rfl (Or.inl rfl) (hf := Or.inr rfl))) (fun _ _ _ _ _ => pts_nil) (fun _ _ _ _ _ => (pe_def d_row_text hr (by first | decide | omega) (by rfl) (pa_cons (pv 1) pa_nil)))))))), fun ds Q hR => ?_⟩
  obtain ⟨rs, hd, hB, k⟩ := hR
  obtain ⟨x, rfl, hx, hln⟩ : ∃ x, ds = [x] ∧ (x = .list (rs.map rwD) ∨ x = .tuple (rs.map rwD)) ∧ lenD x = some rs.length := by
    rcases hd with rfl | rfl
    · exact ⟨_, rfl, .inl rfl, by show some (List.length _) = _; rw [List.length_map]⟩
    · exact ⟨_, rfl, .inr rfl, by show some (List.length _) = _; rw [List.length_map]⟩
  show SW _ _ _ [.d x, .no] _ _
  walk_at "dn"
  have eall : Str.ofString "all" = SX.S [97, 108, 108] := rfl
  have ebet : Str.ofString "; " = SX.S [59, 32] := rfl
  have htr : truD x = some (!rs.isEmpty) := by
    rcases hx with rfl | rfl <;> cases rs <;> rfl
  refine sw_seq (sw_if (wt_not (wt_truth (we_var rfl ⟨_, htr, ?_⟩))))
  cases rs with
  | nil =>
    refine ite_true_of rfl (sw_ret ?_)
    repeat' walk_at "dl"
    exact k
  | cons r0 rs0 =>
    refine ite_false_of rfl (sw_next ?_)
    generalize hrs : r0 :: rs0 = rs at *
    have hne : rs ≠ [] := by rw [← hrs]; exact List.cons_ne_nil _ _
    refine sw_ret (we_join (we_str ⟨_, rfl, we_of (wl_map (ow_name (by decide)) rs.length (fun i d => (rs.map rwD)[i]? = some d) (((rs.map fun r => rowL r.1 r.2).map SX.S).map .str) ?_ (by have := hB.1; omega) (by simp) ?_ ?_)⟩))
    · refine iw_both (we_var rfl ⟨rs.map rwD, hx, by simp, rfl⟩)
    · intro i d y p acc hi hd hy
      have hn : rs[i]? = some rs[i] := List.getElem?_eq_getElem hi
      have hm := List.getElem_mem hi
      rw [List.getElem?_map, hn] at hd
      cases hd
      rw [List.getElem?_map, List.getElem?_map, List.getElem?_map, hn] at hy
      cases hy
      generalize rs[i] = r at *
      exact gw_name ⟨rfl, we_callP (wd_cons (we_var rfl (wd_nil ⟨r.1, r.2, rfl, (hB.2 r hm).1, rfl⟩)))⟩
    · rw [ebet]
      refine ⟨_, rfl, lens_rows hB, ?_⟩
      rw [SX.join_S]
      unfold rowsT at k
      rw [if_neg hne] at k
      exact k
theorem ok__law_rows_text {P : Program} {w : World} {K : PySem.W.Frag} {mg : Str → Option Value} {base : Heap} (Fn : FunAt K mg "_law_rows_text" s__law_rows_text ["_law_rows"]) (T : Txt mg) (d__law_row_text : Def P w K mg base "_law_row_text" 1 ["_law_row_here"] (spP K R_rowtext)) : Def P w K mg base "_law_rows_text" 2 ["_law_rows"] (spP K R_rowslist) := by
  refine fn_P Fn sc__law_rows_text (fun ds Q ⟨_, e, _⟩ => by rw [e]; rfl) fun f cdv A outer s H E hr => ⟨_, (pss_one (ps_ret (pe_ifExp (pt_cmpR (op_neDK (K := K) rfl hr.units) (pv 0) (pe_lst pa_nil) (nomark _)) (DL.pe_joinK (K := K) rfl pe_str (pe_lc (own := [("_law_row_here", 1)]) (g := (gName 1)) rfl sc__law_rows_text.nd (pi_listK (K := K) rfl (pv 0)) (blkOk_by (own := [("_law_row_here", 1)]) (N := ["_law_rows", "_law_row_here"]) (sc := defScope s__law_rows_text) (by decide +kernel)) (fun _ _ _ _ _ => (pg_name (i := 1) sc__law_rows_text.nd rfl (Or.inl rfl) (hf := Or.inr rfl))) (fun _ _ _ _ _ => pts_nil) (fun _ _ _ _ _ => (pe_def d__law_row_text hr (by first | decide | omega) (by rfl) (pa_cons (pv 1) pa_nil))))) pe_str))), fun ds Q hR => ?_⟩
  obtain ⟨rs, rfl, hB, k⟩ := hR
  show SW _ _ _ [.d (.list (rs.map rwD)), .no] _ _
  walk_at "dn"
  have eall : Str.ofString "all" = SX.S [97, 108, 108] := rfl
  have ebet : Str.ofString "; " = SX.S [59, 32] := rfl
  refine sw_ret (we_if ?_)
  repeat' walk_at "dl"
  have shp : SeqAt.shaped (PyData.list (rs.map rwD)) = true := by
    have := rwD_fit (rs := rs) (by have := hB.1; omega) (fun r hr => by have := (hB.2 r hr).2; omega)
    exact this
  refine ⟨shp, rfl, _, rfl, ?_⟩
  cases rs with
  | nil =>
    refine ite_false_of (by rw [List.map_nil]; rfl) ?_
    repeat' walk_at "dl"
    exact k
  | cons r0 rs0 =>
    refine ite_true_of (by rw [List.map_cons]; simp [PyData.eqv, PyData.eqvAll]) ?_
    generalize hrs : r0 :: rs0 = rs at *
    have hne : rs ≠ [] := by rw [← hrs]; exact List.cons_ne_nil _ _
    refine we_join (we_str ⟨_, rfl, we_of (wl_map (ow_name (by decide)) rs.length (fun i d => (rs.map rwD)[i]? = some d) (((rs.map fun r => rowL r.1 r.2).map SX.S).map .str) ?_ (by have := hB.1; omega) (by simp) ?_ ?_)⟩)
    · refine iw_list (we_var rfl ⟨_, rfl, by simp, rfl⟩)
    · intro i d y p acc hi hd hy
      have hn : rs[i]? = some rs[i] := List.getElem?_eq_getElem hi
      have hm := List.getElem_mem hi
      rw [List.getElem?_map, hn] at hd
      cases hd
      rw [List.getElem?_map, List.getElem?_map, List.getElem?_map, hn] at hy
      cases hy
      generalize rs[i] = r at *
      exact gw_name ⟨rfl, we_callP (wd_cons (we_var rfl (wd_nil ⟨r.1, r.2, rfl, (hB.2 r hm).1, rfl⟩)))⟩
    · rw [ebet]
      refine ⟨_, rfl, lens_rows hB, ?_⟩
      rw [SX.join_S]
      unfold rowsT at k
      rw [if_neg hne] at k
      exact k
/-- the rows that a text says, or nothing -/
def rowsD (a : List Nat) (c : Nat) : PyData := if ∀ p ∈ partsL a, rowIn p c ≠ .none then .list ((partsL a).map fun p => rowIn p c) else .none
def R_rowsin (ds : List PyData) (P : PyData → Prop) : Prop := ∃ (a : List Nat) (c : Nat), ds = [.str (SX.S a), .int (c : Int)] ∧ a.length ≤ 500 ∧ Asc a ∧ 1 ≤ c ∧ c ≤ 9 ∧ P (rowsD a c)
instance : MonoR R_rowsin := ⟨fun _ _ _ h ⟨a, c, e, h1, h2, h3, h4, k⟩ => ⟨a, c, e, h1, h2, h3, h4, h _ k⟩⟩
theorem rowIn_lay {p : List Nat} {c : Nat} : (rowIn p c).canLay0 = true ∧ (rowIn p c).depth ≤ 2 := by
  have h0 : ∀ ns : List (Option Int), PyData.canLayAll0 (ns.map optD) = true ∧ PyData.depthAll (ns.map optD) ≤ 0 := by
    intro ns
    induction ns with
    | nil => exact ⟨rfl, Nat.le_refl _⟩
    | cons n ns ih =>
      have c1 : (optD n).canLay0 = true := by cases n <;> rfl
      have d1 : (optD n).depth ≤ 0 := by cases n <;> exact Nat.le_refl _
      exact ⟨by show ((optD n).canLay0 && PyData.canLayAll0 (ns.map optD)) = true; rw [c1, ih.1]; rfl, by show max (optD n).depth (PyData.depthAll (ns.map optD)) ≤ 0; have := ih.2; omega⟩
  unfold rowIn
  split
  · obtain ⟨a1, a2⟩ := h0 ((numsIn p c).take c)
    have c1 : (optD ((numsIn p c)[c]?.getD none)).canLay0 = true := by cases (numsIn p c)[c]?.getD none <;> rfl
    have d1 : (optD ((numsIn p c)[c]?.getD none)).depth ≤ 0 := by cases (numsIn p c)[c]?.getD none <;> exact Nat.le_refl _
    constructor
    · show (PyData.canLayAll0 (((numsIn p c).take c).map optD) && ((optD ((numsIn p c)[c]?.getD none)).canLay0 && true)) = true
      rw [a1, c1]
      rfl
    · show max (PyData.depthAll (((numsIn p c).take c).map optD) + 1) (max (optD ((numsIn p c)[c]?.getD none)).depth 0) + 1 ≤ 2
      omega
  · exact ⟨rfl, Nat.zero_le _⟩
theorem rowsIn_shaped {c : Nat} (hc : c ≤ 9) (W : List (List Nat)) : SeqAt.shaped (.list (W.map fun p => rowIn p c)) = true := by
  have h1 : ∀ W : List (List Nat), PyData.canLayAll0 (W.map fun p => rowIn p c) = true ∧ PyData.depthAll (W.map fun p => rowIn p c) ≤ 2 := by
    intro W
    induction W with
    | nil => exact ⟨rfl, Nat.zero_le _⟩
    | cons p W ih =>
      obtain ⟨a1, a2⟩ := rowIn_lay (p := p) (c := c)
      exact ⟨by show ((rowIn p c).canLay0 && PyData.canLayAll0 (W.map fun p => rowIn p c)) = true; rw [a1, ih.1]; rfl, by show max (rowIn p c).depth (PyData.depthAll (W.map fun p => rowIn p c)) ≤ 2; have := ih.2; omega⟩
  obtain ⟨h2, h3⟩ := h1 W
  unfold SeqAt.shaped
  show (PyData.canLayAll0 (W.map fun p => rowIn p c) && decide (PyData.depthAll (W.map fun p => rowIn p c) + 1 ≤ 64)) = true
  rw [h2, decide_eq_true (by omega)]
  rfl
theorem ok__law_rows_in {P : Program} {w : World} {K : PySem.W.Frag} {mg : Str → Option Value} {base : Heap} (Fn : FunAt K mg "_law_rows_in" s__law_rows_in ["_law_text", "_law_my_count"]) (T : Txt mg) (d__law_row_in : Def P w K mg base "_law_row_in" 2 ["_law_text", "_law_my_count"] (spP K R_rowin)) : Def P w K mg base "_law_rows_in" 3 ["_law_text", "_law_my_count"] (spP K R_rowsin) := by
  refine fn_P Fn sc__law_rows_in (fun ds Q ⟨_, _, e, _⟩ => by rw [e]; rfl) fun f cdv A outer s H E hr => ⟨_, (pss_cons (ps_if (pt_cmpR (op_eqDK (K := K) rfl hr.units) (pv 0) pe_str (nomark _)) (pss_one (ps_ret (pe_lst pa_nil))) pss_nil)
      (pss_cons (ps_setLc (i := 2) (own := [("_law_piece", 3)]) (g := (gName 3)) rfl sc__law_rows_in.nd rfl rfl (sw_true rfl rfl rfl (by decide +kernel)) (pi_listK (K := K) rfl (pe_split (pv 0) pe_str)) (blkOk_by (own := [("_law_piece", 3)]) (N := ["_law_text", "_law_my_count", "_law_found", "_law_piece"]) (sc := defScope s__law_rows_in) (by decide +kernel)) (fun _ _ _ _ _ => (pg_name (i := 3) sc__law_rows_in.nd rfl (Or.inl rfl) (hf := Or.inr rfl))) (fun _ _ _ _ _ => pts_nil) (fun _ _ _ _ _ => (pe_def d__law_row_in hr (by first | decide | omega) (by rfl) (pa_cons (pv 3) (pa_cons (pv 1) pa_nil)))))
      (pss_one (ps_ret (pe_ifExp (pt_cmpR (op_inDK (K := K) rfl (units65 hr)) pe_non (pv 2) (by rfl)) pe_non (pv 2)))))), fun ds Q hR => ?_⟩
  obtain ⟨a, c, rfl, hl, hasc, hc1, hc9, k⟩ := hR
  show SW _ _ _ [.d (.str (SX.S a)), .d (.int (c : Int)), .no, .no] _ _
  walk_at "dn"
  have eall : Str.ofString "all" = SX.S [97, 108, 108] := rfl
  have ebet : Str.ofString "; " = SX.S [59, 32] := rfl
  refine sw_seq (sw_if ?_)
  repeat' walk_at "dl"
  refine ⟨shaped_S hasc, by rw [eall]; exact shaped_S (fun c hc => by simp at hc; omega), _, rfl, ?_⟩
  rw [eall, eqv_str, S_eq]
  by_cases h : a = [97, 108, 108]
  · refine ite_true_of (decide_eq_true h) (sw_ret (we_of (wl_lstD (wd_nil ⟨rfl, ?_⟩))))
    have e : partsL a = [] := by unfold partsL; rw [if_pos h]
    unfold rowsD at k
    rw [e, if_pos (fun p hp => by cases hp)] at k
    exact k
  refine ite_false_of (decide_eq_false h) (sw_next ?_)
  have e : partsL a = TL.spl [59, 32] 0 [] a := by unfold partsL; rw [if_neg h]
  have hpl := parts_len (a := a)
  have hdl : (wD (partsL a)).length = (partsL a).length := by simp [wD]
  refine sw_seq (sw_asg (we_of (wl_map (ow_name (by decide)) (partsL a).length (fun i d => (wD (partsL a))[i]? = some d) ((partsL a).map fun p => rowIn p c) ?_ (by omega) (by simp) ?_ ?_)))
  · refine iw_list (we_of (wl_split (we_var rfl ⟨_, rfl, by rw [SX.S_len]; omega, we_str ⟨_, rfl, rfl, ?_⟩⟩)))
    rw [ebet, split_parts, ← e]
    exact ⟨_, rfl, hdl, rfl⟩
  · intro i d y p acc hi hd hy
    have hn : (partsL a)[i]? = some (partsL a)[i] := List.getElem?_eq_getElem hi
    have hm := List.getElem_mem hi
    rw [show (wD (partsL a))[i]? = some (.str (SX.S (partsL a)[i])) from wD_at hn] at hd
    cases hd
    rw [List.getElem?_map, hn] at hy
    cases hy
    generalize (partsL a)[i] = w1 at *
    obtain ⟨q1, q2⟩ := parts_ok hm
    exact gw_name ⟨rfl, we_callP (wd_cons (we_var rfl (wd_cons (we_var rfl (wd_nil ⟨w1, c, rfl, by omega, q2 hasc, hc1, hc9, rfl⟩)))))⟩
  walk_at "dz"
  refine sw_ret (we_if (wt_test (we_inD ?_)))
  walk_at "dl"
  walk_at "dl"
  refine ⟨_, rfl, rfl, rowsIn_shaped hc9 _, _, rfl, ?_⟩
  have e2 : (((partsL a).map fun p => rowIn p c).any fun z => PyData.eqv z .none) = !(decide (∀ p ∈ partsL a, rowIn p c ≠ .none)) := by
    rw [Bool.eq_iff_iff]
    simp only [List.any_eq_true, List.mem_map, Bool.not_eq_true', decide_eq_false_iff_not]
    constructor
    · rintro ⟨z, ⟨p, hp, rfl⟩, hz⟩ hall
      refine hall p hp ?_
      cases hr : rowIn p c <;> rw [hr] at hz <;> first | rfl | (exact absurd hz (by simp [PyData.eqv]))
    · intro hall
      obtain ⟨p, hp⟩ := Classical.not_forall.mp hall
      obtain ⟨hp, hr⟩ := Classical.not_imp.mp hp
      have hr := Classical.not_not.mp hr
      exact ⟨_, ⟨p, hp, rfl⟩, by rw [hr]; rfl⟩
  rw [e2]
  unfold rowsD at k
  by_cases hall : ∀ p ∈ partsL a, rowIn p c ≠ .none
  · rw [if_pos hall] at k
    refine ite_false_of (by rw [decide_eq_true hall]; rfl) ?_
    repeat' walk_at "dl"
    exact k
  · rw [if_neg hall] at k
    refine ite_true_of (by rw [decide_eq_false hall]; rfl) ?_
    repeat' walk_at "dl"
    exact k

end My
namespace My
open PySem PySem.Spec PyProof.Rows L2 DL
open Evl (Ex)
local macro_rules | `(tactic| walk_at "dn") => `(tactic| try dsimp only [cxOf, Cx.nox, Cx.wish])
local macro_rules | `(tactic| walk_at "dz") => `(tactic| try simp only [List.set_cons_succ, List.set_cons_zero])
local macro_rules | `(tactic| walk_at "dl") => `(tactic| first
  | with_reducible refine we_int ?_
  | with_reducible refine we_bl ?_
  | with_reducible refine we_non ?_
  | with_reducible refine we_str ?_
  | (with_reducible refine we_var (d := ?dd) ?hh ?_; (case hh => with_unfolding_all rfl))
  | with_reducible refine we_opI ?_
  | with_reducible refine we_opB ?_
  | with_reducible refine we_opC ?_
  | with_reducible refine we_ixV ?_
  | with_reducible refine we_ixI ?_
  | with_reducible refine we_ixC ?_
  | with_reducible refine we_eqD ?_
  | with_reducible refine we_neD ?_
  | with_reducible refine we_neg ?_
  | with_reducible refine we_tupD ?_
  | with_reducible refine we_lstD ?_
  | with_reducible refine wl_lstD ?_
  | with_reducible refine we_callP ?_
  | (with_reducible refine we_callX ?hh ?_; (case hh => with_unfolding_all rfl))
  | with_reducible refine wd_nil ?_
  | with_reducible refine wd_cons ?_
  | with_reducible refine ⟨(rfl : Nat.ble _ _ = true), ?_⟩
  | with_reducible refine we_if ?_
  | with_reducible refine we_andV ?_
  | with_reducible refine we_orV ?_
  | with_reducible refine we_notV ?_
  | with_reducible refine we_isN ?_
  | with_reducible refine we_notN ?_
  | with_reducible refine we_tuple ?_
  | with_reducible refine we_listB ?_
  | with_reducible refine we_ncall ?_
  | with_reducible refine wt_test ?_
  | with_reducible refine wt_B ?_
  | with_reducible refine wt_and ?_
  | with_reducible refine wt_or ?_
  | with_reducible refine wt_not ?_
  | with_reducible refine wa_nil ?_
  | with_reducible refine wa_ty ?_
  | (with_reducible refine wa_raw (w := ?ww) ?hh ?_; (case hh => with_unfolding_all rfl))
  | with_reducible refine wa_cons ?_
  | (with_reducible refine sw_seq ?_; (try dsimp only))
  | (with_reducible refine sw_ret ?_; (try dsimp only))
  | (with_reducible refine sw_retN ?_; (try dsimp only))
  | (with_reducible refine sw_next ?_; (try dsimp only))
  | with_reducible refine sw_if ?_
  | (with_reducible refine sw_asg ?_; (try dsimp only); (try simp only [List.set_cons_succ, List.set_cons_zero]))
  | (with_reducible refine sw_par3 ?_; (try dsimp only); (try simp only [List.set_cons_succ, List.set_cons_zero]))
  | (with_reducible refine sw_par ?_; (try dsimp only); (try simp only [List.set_cons_succ, List.set_cons_zero]))
  | with_reducible refine ⟨_, _, rfl, rfl, And.intro ?_ ?_⟩
  | with_reducible refine ⟨_, _, rfl, rfl, ?_⟩
  | with_reducible refine ⟨_, _, rfl, ItemAt.lst rfl, ?_⟩
  | with_reducible refine ⟨_, _, rfl, ItemAt.tup rfl, ?_⟩
  | with_reducible refine ⟨_, .inl rfl, ?_⟩
  | with_reducible refine ⟨_, .inr rfl, ?_⟩
  | with_reducible refine ⟨_, nc_gcd, ?_⟩
  | with_reducible refine ⟨_, nc_abs, ?_⟩
  | with_reducible refine ⟨_, nc_int, ?_⟩
  | with_reducible refine ⟨_, nc_intb, ?_⟩
  | with_reducible refine ⟨_, nc_isi (by simp), ?_⟩
  | (refine ⟨_, nc_len (by with_unfolding_all rfl), ?_⟩)
  | with_reducible refine ⟨_, rfl, ?_⟩
  | with_reducible refine ⟨rfl, rfl, ?_⟩
  | with_reducible refine iteT ?_
  | with_reducible refine iteF ?_)

local macro_rules | `(tactic| walk_at "dm") => `(tactic| ((fail_if_success (with_reducible refine sw_if ?_)); walk_at "dl"))

local macro_rules | `(tactic| walk_at "dl") => `(tactic| first
  | with_reducible refine wd_star ?_
  | with_reducible refine wl_slice ?_
  | with_reducible refine we_slTup ?_
  | with_reducible refine we_slStr ?_
  | with_reducible refine wo_no ?_
  | with_reducible refine wo_part ?_
  | with_reducible refine wl_cat ?_
  | with_reducible refine wl_rep ?_
  | with_reducible refine we_catT ?_
  | with_reducible refine we_chainI ?_
  | with_reducible refine we_of (te := tSl _ _ _ _) ?_
  | with_reducible refine we_of (te := tOp rCat _ _) ?_
  | with_reducible refine we_of (te := tOp rRep _ _) ?_)

local macro_rules | `(tactic| walk_at "dl") => `(tactic| first
  | with_reducible refine we_m0B ?_
  | with_reducible refine we_m1B ?_
  | with_reducible refine we_bits ?_
  | with_reducible refine we_addS ?_
  | with_reducible refine we_inSign ?_)

local macro_rules | `(tactic| walk_at "sn") => `(tactic| try dsimp only [cxOf, Cx.nox, Cx.wish])
local macro_rules | `(tactic| walk_at "mem") => `(tactic| first
  | exact List.mem_cons_self ..
  | exact List.mem_cons_of_mem _ (List.mem_cons_self ..)
  | exact List.mem_cons_of_mem _ (List.mem_cons_of_mem _ (List.mem_cons_self ..))
  | exact List.mem_cons_of_mem _ (List.mem_cons_of_mem _ (List.mem_cons_of_mem _ (List.mem_cons_self ..)))
  | exact List.mem_cons_of_mem _ (List.mem_cons_of_mem _ (List.mem_cons_of_mem _ (List.mem_cons_of_mem _ (List.mem_cons_self ..))))
  | exact List.mem_cons_of_mem _ (List.mem_cons_of_mem _ (List.mem_cons_of_mem _ (List.mem_cons_of_mem _ (List.mem_cons_of_mem _ (List.mem_cons_self ..)))))
  | exact List.mem_cons_of_mem _ (List.mem_cons_of_mem _ (List.mem_cons_of_mem _ (List.mem_cons_of_mem _ (List.mem_cons_of_mem _ (List.mem_cons_of_mem _ (List.mem_cons_self ..))))))
  | exact List.mem_cons_of_mem _ (List.mem_cons_of_mem _ (List.mem_cons_of_mem _ (List.mem_cons_of_mem _ (List.mem_cons_of_mem _ (List.mem_cons_of_mem _ (List.mem_cons_of_mem _ (List.mem_cons_self ..))))))))
local macro_rules | `(tactic| walk_at "sl") => `(tactic| first
  | with_reducible refine SL.we_int ?_
  | with_reducible refine SL.we_bl ?_
  | with_reducible refine SL.we_non ?_
  | with_reducible refine SL.we_str ?_
  | (with_reducible refine SL.we_varD (y := ?dd) ?hh ?_; (case hh => with_unfolding_all rfl))
  | (with_reducible refine SL.we_varV (w := ?dd) ?hh ?_; (case hh => with_unfolding_all rfl))
  | with_reducible refine SL.we_opI ?_
  | with_reducible refine SL.we_opB ?_
  | with_reducible refine SL.we_opC ?_
  | with_reducible refine SL.we_fld ?_
  | with_reducible refine SL.we_meth ?_
  | with_reducible refine SL.we_make ?_
  | with_reducible refine SL.we_dget ?_
  | with_reducible refine SL.we_din ?_
  | with_reducible refine SL.we_dnotin ?_
  | with_reducible refine SL.we_dnew ?_
  | with_reducible refine SL.we_dlen ?_
  | with_reducible refine SL.we_append ?_
  | with_reducible refine SL.we_ixV ?_
  | with_reducible refine SL.we_ixI ?_
  | with_reducible refine SL.we_eqD ?_
  | with_reducible refine SL.we_neD ?_
  | with_reducible refine SL.we_neg ?_
  | with_reducible refine SL.we_if ?_
  | with_reducible refine SL.we_andV ?_
  | with_reducible refine SL.we_orV ?_
  | with_reducible refine SL.we_notV ?_
  | with_reducible refine SL.we_isN ?_
  | with_reducible refine SL.we_notN ?_
  | with_reducible refine SL.wt_test ?_
  | with_reducible refine SL.wt_B ?_
  | with_reducible refine SL.wt_and ?_
  | with_reducible refine SL.wt_or ?_
  | with_reducible refine SL.wt_not ?_
  | with_reducible refine SL.we_callP ?_
  | with_reducible refine SL.wd_nil ?_
  | (with_reducible refine SL.wd_cons ?_)
  | with_reducible refine SL.wa_nil ?_
  | with_reducible refine SL.wa_cons ?_
  | with_reducible refine SL.we_chainI ?_
  | (with_reducible refine SL.sw_seq ?_; (try dsimp only))
  | (with_reducible refine SL.sw_ret ?_; (try dsimp only))
  | (with_reducible refine SL.sw_retN ?_; (try dsimp only))
  | (with_reducible refine SL.sw_next ?_; (try dsimp only))
  | (with_reducible refine SL.sw_drop ?_; (try dsimp only))
  | with_reducible refine SL.sw_if ?_
  | with_reducible refine SL.sw_fld ?_
  | with_reducible refine SL.sw_dput ?_
  | (with_reducible refine SL.sw_asg ?_; (try dsimp only); (try simp only [List.set_cons_succ, List.set_cons_zero]))
  | (with_reducible refine ⟨_, ?z1, ?z2, ?z3, ?z4, rfl, ?fm, ?fa, ?fb, ?fc, ?fd⟩; (case fm => walk_at "mem"); (case fa => assumption); (case fb => assumption); (case fc => first | exact f_count | exact f_rooms | exact f_doors | exact f_begins | exact f_coming))
  | with_reducible refine ⟨_, rfl, ?_⟩
  | with_reducible refine ⟨_, _, rfl, rfl, ?_⟩
  | with_reducible refine ⟨_, _, _, rfl, rfl, SL.ItemAt.lst rfl, ?_⟩
  | with_reducible refine ⟨_, _, _, rfl, rfl, SL.ItemAt.tup rfl, ?_⟩
  | with_reducible refine iteT ?_
  | with_reducible refine iteF ?_)
local macro_rules | `(tactic| walk_at "sm") => `(tactic| ((fail_if_success (with_reducible refine SL.sw_if ?_)); walk_at "sl"))

/-- rows read by the program: an own list of them, or BadText(0) -/
def R_readrows (C : Addr) : SL.Ct := fun b ks O P X => b = none ∧ O = [] ∧ ∃ (a : List Nat) (c : Nat), ks = [.d (.str (SX.S a)), .d (.int (c : Int))] ∧ a.length ≤ 500 ∧ Asc a ∧ 1 ≤ c ∧ c ≤ 9 ∧
  ((∀ p ∈ partsL a, rowIn p c ≠ .none) → ∀ q, P (.v (.ref q)) [(q, .lst (((partsL a).map fun p => rowIn p c).map .d))]) ∧ ((¬ ∀ p ∈ partsL a, rowIn p c ≠ .none) → ∀ dx, X (.ref C) (some dx) [(dx, .xd [("row", .d (.int 0))])])
instance {C : Addr} : SL.MonoC (R_readrows C) := ⟨fun _ _ _ _ _ _ _ h g ⟨eb, eo, a, c, e, h1, h2, h3, h4, k1, k2⟩ => ⟨eb, eo, a, c, e, h1, h2, h3, h4, fun z q => h _ _ (k1 z q), fun z dx => g _ _ _ (k2 z dx)⟩⟩
theorem ok_read_rows {P : Program} {w : World} {K : PySem.W.Frag} {mg : Str → Option Value} {base : Heap} {C_BadText : Addr} (Fn : SL.FunAtK K mg "read_rows" s_read_rows ["text", "count"] ["count"]) (T : Txt mg) (KX_BadText : SL.Ke P w K mg base C_BadText "BadText" "row")
    (d__row_texts : Def P w K mg base "_row_texts" 1 ["text"] (spP K R_parts)) (d_read_row : SL.DefK P w K mg base "read_row" 3 ["text", "count"] ["count"] (SL.spC K (R_readrow C_BadText))) :
    SL.DefK P w K mg base "read_rows" 4 ["text", "count"] ["count"] (SL.spC K (R_readrows C_BadText)) := by
  obtain ⟨f, fd, hf, hm, hb⟩ := Fn.ex
  refine ⟨f, fd, hm, hf.kp, hb, SL.ok_N hf sc_read_rows (fun b ks O P X ⟨_, _, _, _, e, _⟩ => by rw [e]; rfl) fun f cdv A outer s H E hr => ⟨_, (pss_one (ps_ret (SL.pe_lcX (own := [("part", 2)]) (g := (gName 2)) (takes_of rfl rfl rfl rfl) rfl rfl rfl sc_read_rows.nd (pi_listK (K := K) rfl (SL.pe_def (SL.Def.up d__row_texts) hr (by first | decide | omega) SL.pass0X (by rfl) (pa_cons (pv 0) pa_nil))) (blkOk_by (own := [("part", 2)]) (N := ["text", "count", "part"]) (sc := defScope s_read_rows) (by decide +kernel)) (fun _ _ _ _ _ _ => (pg_name (i := 2) sc_read_rows.nd rfl (Or.inl rfl) (hf := Or.inr rfl))) (fun _ _ _ _ _ _ => pts_nil) (fun _ _ _ _ _ _ px => (SL.pe_defKP d_read_row hr (by first | decide | omega) px (by rfl) (pa_cons (pv 2) pa_nil) (pk_cons (pv 1) pk_nil)))))), fun s' ks O Q X hE hX hR => ?_⟩⟩
  obtain ⟨eb, rfl, a, c, rfl, hl, hasc, hc1, hc9, k1, k2⟩ := hR
  show SL.SW _ _ _ [.d (.str (SX.S a)), .d (.int (c : Int)), .no] _ _
  walk_at "sn"
  have hdl : (wD (partsL a)).length = (partsL a).length := by simp [wD]
  have hpl := parts_len (a := a)
  refine SL.sw_ret (SL.wl_own (SL.wl_comp (SL.ow_name (by decide)) (fun i acc O' => acc = ((partsL a).take i).map (fun p => rowIn p c) ∧ O' = [] ∧ ∀ p ∈ (partsL a).take i, rowIn p c ≠ .none) (partsL a).length (fun i d => (wD (partsL a))[i]? = some d) ?_ (by omega) (fun i acc O' h => by rw [h.1, List.length_map, List.length_take]; omega) ?_ ?_))
  · exact SL.iw_list (SL.we_callP (SL.wd_cons (SL.we_varD rfl ⟨_, rfl, SL.wd_nil ⟨a, rfl, hl, hasc, _, rfl, hdl, rfl, by simp, rfl, fun p hp => by simp at hp⟩⟩)))
  · rintro i d acc O' p hi hd ⟨rfl, rfl, hok⟩
    have hn : (partsL a)[i]? = some (partsL a)[i] := List.getElem?_eq_getElem hi
    have hm : (partsL a)[i] ∈ partsL a := List.getElem_mem hi
    rw [show (wD (partsL a))[i]? = some (.str (SX.S (partsL a)[i])) from wD_at hn] at hd
    cases hd
    have ht : (partsL a).take (i + 1) = (partsL a).take i ++ [(partsL a)[i]] := by rw [List.take_succ, hn]; rfl
    rw [ht]
    generalize (partsL a)[i] = w1 at *
    obtain ⟨q1, q2⟩ := parts_ok hm
    refine SL.gw_name ⟨rfl, SL.wt_yes (iteT ?_)⟩
    by_cases hr : rowIn w1 c = .none
    · exact SL.we_callS hE (SL.wa_app (SL.wa_cons (SL.we_varD rfl (SL.wa_nil (SL.wa_cons (SL.we_varD rfl (SL.wa_nil ⟨rfl, [], [_], .refl _, .inl ⟨rfl, rfl, w1, c, rfl, by omega, q2 hasc, hc1, hc9, fun z => (z hr).elim, fun _ dx => hX _ _ _ _ [(dx, _)] _ (.refl _) (k2 (fun z => z w1 hm hr) dx)⟩⟩)))))))
    · refine SL.we_callS hE (SL.wa_app (SL.wa_cons (SL.we_varD rfl (SL.wa_nil (SL.wa_cons (SL.we_varD rfl (SL.wa_nil ⟨rfl, [], [_], .refl _, .inl ⟨rfl, rfl, w1, c, rfl, by omega, q2 hasc, hc1, hc9, fun _ => ?_, fun z => (hr z).elim⟩⟩)))))))
      refine ⟨_, _, rfl, rfl, by simp, rfl, fun p hp => ?_⟩
      rcases List.mem_append.mp hp with z | z
      · exact hok p z
      · simp at z
        rw [z]
        exact hr
  · rintro acc O' ⟨rfl, rfl, hok⟩ q
    rw [List.take_length] at hok ⊢
    exact ⟨_, [], SL.perm_id, k1 hok q⟩
/-- what is told of a reading: an own pair of the own list and None, or (None, 0) -/
def R_lawreads : SL.Ct := fun b ks O P _ => b = none ∧ O = [] ∧ ∃ (a : List Nat) (c : Nat), ks = [.d (.str (SX.S a)), .d (.int (c : Int))] ∧ a.length ≤ 500 ∧ Asc a ∧ 1 ≤ c ∧ c ≤ 9 ∧
  ((∀ p ∈ partsL a, rowIn p c ≠ .none) → ∀ q t, P (.v (.ref t)) [(t, .tup [.v (.ref q), .d .none]), (q, .lst (((partsL a).map fun p => rowIn p c).map .d))]) ∧ ((¬ ∀ p ∈ partsL a, rowIn p c ≠ .none) → P (.d (.tuple [.none, .int 0])) [])
instance : SL.MonoC R_lawreads := ⟨fun _ _ _ _ _ _ _ h _ ⟨eb, eo, a, c, e, h1, h2, h3, h4, k1, k2⟩ => ⟨eb, eo, a, c, e, h1, h2, h3, h4, fun z q t => h _ _ (k1 z q t), fun z => h _ _ (k2 z)⟩⟩
theorem ok__law_read {P : Program} {w : World} {K : PySem.W.Frag} {mg : Str → Option Value} {base : Heap} {C_BadText : Addr} (Fn : FunAt K mg "_law_read" s__law_read ["_law_text", "_law_my_count"]) (T : Txt mg) (KX_BadText : SL.Ke P w K mg base C_BadText "BadText" "row")
    (d_read_rows : SL.DefK P w K mg base "read_rows" 4 ["text", "count"] ["count"] (SL.spC K (R_readrows C_BadText))) : SL.Def P w K mg base "_law_read" 5 ["_law_text", "_law_my_count"] (SL.spC K R_lawreads) := by
  obtain ⟨f, fd, hf, hm, hb⟩ := Fn.ex
  refine ⟨f, fd, hm, hf.kp, hb, SL.ok_N hf sc__law_read (fun b ks O P X ⟨_, _, _, _, e, _⟩ => by rw [e]; rfl) fun f cdv A outer s H E hr => ⟨_, (pss_one (ps_try_as (i := 2) rfl rfl sc__law_read.nd rfl rfl ⟨rfl, by decide, .inl KX_BadText.g⟩ (takes_of rfl rfl rfl rfl) (fun W pn xe tk _ => (pss_one (ps_ret (pe_tup (pa_cons (SL.pe_defKS d_read_rows hr (by first | decide | omega) (fun σ => passAt tk σ) (by rfl) (pa_cons (pv 0) pa_nil) (pk_cons (pv 1) pk_nil)) (pa_cons pe_non pa_nil)))))) (fun a oe cls d pn hz hf => (pss_one (ps_ret (pe_tup (pa_cons pe_non (pa_cons (pe_xf KX_BadText.xf KX_BadText.no hz hf (pv 2) rfl) pa_nil)))))))), fun s' ks O Q X hE hX hR => ?_⟩⟩
  obtain ⟨eb, rfl, a, c, rfl, hl, hasc, hc1, hc9, k1, k2⟩ := hR
  show SL.SW _ _ _ [.d (.str (SX.S a)), .d (.int (c : Int)), .no] _ _
  walk_at "sn"
  refine SL.sw_try_as (tb := fun W => tRet (tTup (tCons (tCallS (SL.spC K (R_readrows C_BadText)) (L2.WE W) (SL.tApp [Str.ofString "count"].length (tCons (tVar 0) tNil) (tCons (tVar 1) tNil))) (tCons (tC .non) tNil)))) (fun cls d Z O => cls = .ref C_BadText ∧ (¬ ∀ p ∈ partsL a, rowIn p c ≠ .none) ∧ Z = [.d (.str (SX.S a)), .d (.int (c : Int)), .no] ∧ ∃ dx, d = some dx ∧ O = [(dx, SL.Cell.xd [("row", .d (.int 0))])]) hE (fun W' => ?_) ?_
  · refine SL.sw_ret (SL.we_tupO (SL.wa_cons (SL.we_callS (fun _ _ _ _ h => h) (SL.wa_app (SL.wa_cons (SL.we_varD rfl (SL.wa_nil (SL.wa_cons (SL.we_varD rfl (SL.wa_nil ⟨rfl, [], [], .refl _, .inl ⟨rfl, rfl, a, c, rfl, hl, hasc, hc1, hc9, fun z q => ?_, fun z dx => ⟨rfl, z, rfl, dx, rfl, rfl⟩⟩⟩))))))))))
    exact SL.wa_cons (SL.we_non (SL.wa_nil ⟨rfl, fun t => ⟨_, [], SL.perm_id, k1 z q t⟩⟩))
  · rintro cls d Z' O' ⟨rfl, hn, rfl, dx, rfl, rfl⟩
    refine ⟨true, KX_BadText.xm, fun _ e => ?_, fun z => (nomatch z)⟩
    simp only [List.set_cons_succ, List.set_cons_zero]
    exact SL.sw_ret (SL.we_tupD (SL.wd_cons (SL.we_non ⟨_, rfl, SL.wd_cons (SL.we_xf (SL.we_varV rfl ⟨rfl, rfl, dx, _, .d (.int 0), rfl, List.mem_cons_self .., by simp [List.lookup], _, rfl, SL.wd_nil ⟨rfl, [], _, .refl _, k2 hn⟩⟩))⟩)))

end My
namespace My
open PySem PySem.Spec PyProof.Rows L2 DL
open Evl (Ex)
local macro_rules | `(tactic| walk_at "dn") => `(tactic| try dsimp only [cxOf, Cx.nox, Cx.wish])
local macro_rules | `(tactic| walk_at "dz") => `(tactic| try simp only [List.set_cons_succ, List.set_cons_zero])
local macro_rules | `(tactic| walk_at "dl") => `(tactic| first
  | with_reducible refine we_int ?_
  | with_reducible refine we_bl ?_
  | with_reducible refine we_non ?_
  | with_reducible refine we_str ?_
  | (with_reducible refine we_var (d := ?dd) ?hh ?_; (case hh => with_unfolding_all rfl))
  | with_reducible refine we_opI ?_
  | with_reducible refine we_opB ?_
  | with_reducible refine we_opC ?_
  | with_reducible refine we_ixV ?_
  | with_reducible refine we_ixI ?_
  | with_reducible refine we_ixC ?_
  | with_reducible refine we_eqD ?_
  | with_reducible refine we_neD ?_
  | with_reducible refine we_neg ?_
  | with_reducible refine we_tupD ?_
  | with_reducible refine we_lstD ?_
  | with_reducible refine wl_lstD ?_
  | with_reducible refine we_callP ?_
  | (with_reducible refine we_callX ?hh ?_; (case hh => with_unfolding_all rfl))
  | with_reducible refine wd_nil ?_
  | with_reducible refine wd_cons ?_
  | with_reducible refine ⟨(rfl : Nat.ble _ _ = true), ?_⟩
  | with_reducible refine we_if ?_
  | with_reducible refine we_andV ?_
  | with_reducible refine we_orV ?_
  | with_reducible refine we_notV ?_
  | with_reducible refine we_isN ?_
  | with_reducible refine we_notN ?_
  | with_reducible refine we_tuple ?_
  | with_reducible refine we_listB ?_
  | with_reducible refine we_ncall ?_
  | with_reducible refine wt_test ?_
  | with_reducible refine wt_B ?_
  | with_reducible refine wt_and ?_
  | with_reducible refine wt_or ?_
  | with_reducible refine wt_not ?_
  | with_reducible refine wa_nil ?_
  | with_reducible refine wa_ty ?_
  | (with_reducible refine wa_raw (w := ?ww) ?hh ?_; (case hh => with_unfolding_all rfl))
  | with_reducible refine wa_cons ?_
  | (with_reducible refine sw_seq ?_; (try dsimp only))
  | (with_reducible refine sw_ret ?_; (try dsimp only))
  | (with_reducible refine sw_retN ?_; (try dsimp only))
  | (with_reducible refine sw_next ?_; (try dsimp only))
  | with_reducible refine sw_if ?_
  | (with_reducible refine sw_asg ?_; (try dsimp only); (try simp only [List.set_cons_succ, List.set_cons_zero]))
  | (with_reducible refine sw_par3 ?_; (try dsimp only); (try simp only [List.set_cons_succ, List.set_cons_zero]))
  | (with_reducible refine sw_par ?_; (try dsimp only); (try simp only [List.set_cons_succ, List.set_cons_zero]))
  | with_reducible refine ⟨_, _, rfl, rfl, And.intro ?_ ?_⟩
  | with_reducible refine ⟨_, _, rfl, rfl, ?_⟩
  | with_reducible refine ⟨_, _, rfl, ItemAt.lst rfl, ?_⟩
  | with_reducible refine ⟨_, _, rfl, ItemAt.tup rfl, ?_⟩
  | with_reducible refine ⟨_, .inl rfl, ?_⟩
  | with_reducible refine ⟨_, .inr rfl, ?_⟩
  | with_reducible refine ⟨_, nc_gcd, ?_⟩
  | with_reducible refine ⟨_, nc_abs, ?_⟩
  | with_reducible refine ⟨_, nc_int, ?_⟩
  | with_reducible refine ⟨_, nc_intb, ?_⟩
  | with_reducible refine ⟨_, nc_isi (by simp), ?_⟩
  | (refine ⟨_, nc_len (by with_unfolding_all rfl), ?_⟩)
  | with_reducible refine ⟨_, rfl, ?_⟩
  | with_reducible refine ⟨rfl, rfl, ?_⟩
  | with_reducible refine iteT ?_
  | with_reducible refine iteF ?_)

local macro_rules | `(tactic| walk_at "dm") => `(tactic| ((fail_if_success (with_reducible refine sw_if ?_)); walk_at "dl"))

local macro_rules | `(tactic| walk_at "dl") => `(tactic| first
  | with_reducible refine wd_star ?_
  | with_reducible refine wl_slice ?_
  | with_reducible refine we_slTup ?_
  | with_reducible refine we_slStr ?_
  | with_reducible refine wo_no ?_
  | with_reducible refine wo_part ?_
  | with_reducible refine wl_cat ?_
  | with_reducible refine wl_rep ?_
  | with_reducible refine we_catT ?_
  | with_reducible refine we_chainI ?_
  | with_reducible refine we_of (te := tSl _ _ _ _) ?_
  | with_reducible refine we_of (te := tOp rCat _ _) ?_
  | with_reducible refine we_of (te := tOp rRep _ _) ?_)

local macro_rules | `(tactic| walk_at "dl") => `(tactic| first
  | with_reducible refine we_m0B ?_
  | with_reducible refine we_m1B ?_
  | with_reducible refine we_bits ?_
  | with_reducible refine we_addS ?_
  | with_reducible refine we_inSign ?_)

local macro_rules | `(tactic| walk_at "sn") => `(tactic| try dsimp only [cxOf, Cx.nox, Cx.wish])
local macro_rules | `(tactic| walk_at "mem") => `(tactic| first
  | exact List.mem_cons_self ..
  | exact List.mem_cons_of_mem _ (List.mem_cons_self ..)
  | exact List.mem_cons_of_mem _ (List.mem_cons_of_mem _ (List.mem_cons_self ..))
  | exact List.mem_cons_of_mem _ (List.mem_cons_of_mem _ (List.mem_cons_of_mem _ (List.mem_cons_self ..)))
  | exact List.mem_cons_of_mem _ (List.mem_cons_of_mem _ (List.mem_cons_of_mem _ (List.mem_cons_of_mem _ (List.mem_cons_self ..))))
  | exact List.mem_cons_of_mem _ (List.mem_cons_of_mem _ (List.mem_cons_of_mem _ (List.mem_cons_of_mem _ (List.mem_cons_of_mem _ (List.mem_cons_self ..)))))
  | exact List.mem_cons_of_mem _ (List.mem_cons_of_mem _ (List.mem_cons_of_mem _ (List.mem_cons_of_mem _ (List.mem_cons_of_mem _ (List.mem_cons_of_mem _ (List.mem_cons_self ..))))))
  | exact List.mem_cons_of_mem _ (List.mem_cons_of_mem _ (List.mem_cons_of_mem _ (List.mem_cons_of_mem _ (List.mem_cons_of_mem _ (List.mem_cons_of_mem _ (List.mem_cons_of_mem _ (List.mem_cons_self ..))))))))
local macro_rules | `(tactic| walk_at "sl") => `(tactic| first
  | with_reducible refine SL.we_int ?_
  | with_reducible refine SL.we_bl ?_
  | with_reducible refine SL.we_non ?_
  | with_reducible refine SL.we_str ?_
  | (with_reducible refine SL.we_varD (y := ?dd) ?hh ?_; (case hh => with_unfolding_all rfl))
  | (with_reducible refine SL.we_varV (w := ?dd) ?hh ?_; (case hh => with_unfolding_all rfl))
  | with_reducible refine SL.we_opI ?_
  | with_reducible refine SL.we_opB ?_
  | with_reducible refine SL.we_opC ?_
  | with_reducible refine SL.we_fld ?_
  | with_reducible refine SL.we_meth ?_
  | with_reducible refine SL.we_make ?_
  | with_reducible refine SL.we_dget ?_
  | with_reducible refine SL.we_din ?_
  | with_reducible refine SL.we_dnotin ?_
  | with_reducible refine SL.we_dnew ?_
  | with_reducible refine SL.we_dlen ?_
  | with_reducible refine SL.we_append ?_
  | with_reducible refine SL.we_ixV ?_
  | with_reducible refine SL.we_ixI ?_
  | with_reducible refine SL.we_eqD ?_
  | with_reducible refine SL.we_neD ?_
  | with_reducible refine SL.we_neg ?_
  | with_reducible refine SL.we_if ?_
  | with_reducible refine SL.we_andV ?_
  | with_reducible refine SL.we_orV ?_
  | with_reducible refine SL.we_notV ?_
  | with_reducible refine SL.we_isN ?_
  | with_reducible refine SL.we_notN ?_
  | with_reducible refine SL.wt_test ?_
  | with_reducible refine SL.wt_B ?_
  | with_reducible refine SL.wt_and ?_
  | with_reducible refine SL.wt_or ?_
  | with_reducible refine SL.wt_not ?_
  | with_reducible refine SL.we_callP ?_
  | with_reducible refine SL.wd_nil ?_
  | (with_reducible refine SL.wd_cons ?_)
  | with_reducible refine SL.wa_nil ?_
  | with_reducible refine SL.wa_cons ?_
  | with_reducible refine SL.we_chainI ?_
  | (with_reducible refine SL.sw_seq ?_; (try dsimp only))
  | (with_reducible refine SL.sw_ret ?_; (try dsimp only))
  | (with_reducible refine SL.sw_retN ?_; (try dsimp only))
  | (with_reducible refine SL.sw_next ?_; (try dsimp only))
  | (with_reducible refine SL.sw_drop ?_; (try dsimp only))
  | with_reducible refine SL.sw_if ?_
  | with_reducible refine SL.sw_fld ?_
  | with_reducible refine SL.sw_dput ?_
  | (with_reducible refine SL.sw_asg ?_; (try dsimp only); (try simp only [List.set_cons_succ, List.set_cons_zero]))
  | (with_reducible refine ⟨_, ?z1, ?z2, ?z3, ?z4, rfl, ?fm, ?fa, ?fb, ?fc, ?fd⟩; (case fm => walk_at "mem"); (case fa => assumption); (case fb => assumption); (case fc => first | exact f_count | exact f_rooms | exact f_doors | exact f_begins | exact f_coming))
  | with_reducible refine ⟨_, rfl, ?_⟩
  | with_reducible refine ⟨_, _, rfl, rfl, ?_⟩
  | with_reducible refine ⟨_, _, _, rfl, rfl, SL.ItemAt.lst rfl, ?_⟩
  | with_reducible refine ⟨_, _, _, rfl, rfl, SL.ItemAt.tup rfl, ?_⟩
  | with_reducible refine iteT ?_
  | with_reducible refine iteF ?_)
local macro_rules | `(tactic| walk_at "sm") => `(tactic| ((fail_if_success (with_reducible refine SL.sw_if ?_)); walk_at "sl"))

/-- box = _law_box(script), in layer 2: the state's box from here on -/
theorem sw_boxS {K : PySem.W.Frag} {W : Value → Option Addr → L2.St → Hp → Prop} {Z : List SL.Sk} {O : SL.Own} {D : SL.DE} {u : TS} {i : Nat} {ns : List Int} {E : XK} (h0 : Z[0]? = some (.d (.list (ns.map .int)))) (h : ∀ b, SL.SW K ⟨some b, W, fun _ _ _ _ => False⟩ u (Z.set i (.v (.ref b))) O D) :
    SL.SW K ⟨none, W, fun _ _ _ _ => False⟩ (tSeq (tAsg (tCall (spBox K) [] E (tCons (tVar 0) tNil)) (gName i)) u) Z O D := fun F x σ G H En c cv => by
  obtain ⟨o, h1, v, h2, h3⟩ := c.sl 0 _ h0
  subst h2
  cases h3 with
  | @lst a vs _ hs ha =>
    have ev := SL.dpa_ints_inv ha
    subst ev
    refine ⟨.ref a, h1, a, ns, rfl, Evl.ex_l c.ex hs, fun p cc H' n1 n2 hne e ⟨i0, hp, i1, i2⟩ hc => ?_⟩
    have g1 : G cc = none := c.gnone n2
    have c1 := c.grow (G' := upd G cc (.lst ((ns.take 63).map V.int))) (H' := H') (Evl.Ex.new g1) (fun a u hu => by
      by_cases z : a = cc
      · subst z
        rw [upd_same] at hu
        cases hu
        exact hc
      · rw [upd_ne z] at hu
        exact e a u (c.ex a u hu)) e (fun a o ha => upd_ne (fun z => by rw [z, n2] at ha; cases ha))
    have bx : SL.BoxOk K p (upd G cc (.lst ((ns.take 63).map V.int))) H' := ⟨cc, ns.take 63, 0, 0, i0, hp, by rw [upd_ne (fun z => hne z.symm)]; exact c.gnone n1, Evl.sq_of upd_same, by rw [List.length_take]; omega, by decide, by decide, by decide, i1, i2⟩
    have c2 : SL.Cfg K F (some p) Z O σ (upd G cc (.lst ((ns.take 63).map V.int))) H' := ⟨c1.len, c1.sl, c1.ex, fun b hb => (by cases hb; exact bx), fun b hb => (by cases hb; exact .inr (c.hnone n1)), fun q ds hq => (by
      obtain ⟨o1, o2, o3, vs, o4, o5⟩ := c1.own q ds hq
      refine ⟨o1, fun z => ?_, o3, vs, o4, o5⟩
      obtain ⟨_, _, _, us, o4', _⟩ := c.own q ds hq
      rw [← Option.some.inj z, n1] at o4'
      cases o4'), c1.nd, c1.e0, c1.h0, c1.h1, c1.g0⟩
    refine h p F (fun _ _ _ _ _ _ _ _ z => z.elim) _ _ H' En (c2.set (k := .v (.ref p)) rfl) ?_
    have down : ∀ {Z O σ G H}, SL.Cfg K F (some p) Z O σ G H → SL.Cfg K F none Z O σ G H := fun c => ⟨c.len, c.sl, c.ex, fun b hb => (by cases hb), fun b hb => (by cases hb), fun q ds hq => (by
      obtain ⟨o1, o2, o3, o4⟩ := c.own q ds hq
      exact ⟨o1, fun z => (by cases z), o3, o4⟩), c.nd, c.e0, c.h0, c.h1, c.g0⟩
    exact ⟨fun Z O σ G H c q => cv.nx Z O σ G H (down c) q, fun v k O G H c hd q => cv.rt v k O G H (down c) hd q, fun Z O σ G H c q => cv.bk Z O σ G H (down c) q, fun Z O σ G H c q => cv.ct Z O σ G H (down c) q⟩
/-- the law by its body, in layer 2 -/
theorem fn_LS {P : Program} {w : World} {K : PySem.W.Frag} {mg : Str → Option Value} {base : Heap} {st : Stmt} {N : List Str} {k : Nat} {f : Addr} {fd : FuncData} (F : Fun K "law" "law" st f fd) (S : FnScope N ["_law_script"] (defScope st))
    (hb : ∀ (f : Addr) (cdv : Value) (A : Around) (outer : List Env) (s : Shared) (H : Hp) (E : XK), Room k (A.deeper (envOfC "law" (defScope st) s.heap.objs.size f cdv)) →
      ∃ t, PSs (cxOf (L2.CX P w) P w K mg base N "law" (defScope st) f cdv A outer s H E) (defBody st) t ∧ ∀ ns : List Int, SL.SW K ⟨none, fun cls d _ H => E cls d H, fun _ _ _ _ => False⟩ t (SL.Z0 N [.d (.list (ns.map .int))]) [] { nx := fun _ _ => False, rt := fun v _ => v = .d (.bool true) }) :
    FnOk P w K mg base CX0 (k + 1) f fd ["_law_script"] (spLaw K) := by
  refine SL.fnOk_down (F.okX S (fun vs H Q E h => ?_) fun cdv A outer s H vs Q E hr h => ?_) (fun _ _ _ _ h => h)
  · obtain ⟨a, ns, e, _⟩ := h
    rw [e]
    rfl
  obtain ⟨a, ns, rfl, hs, hl, k⟩ := h
  obtain ⟨t, ht, sw⟩ := hb f cdv A outer s H E hr
  refine ⟨t, ht, sw ns ⟨fun _ => False, H, H⟩ (fun _ _ _ _ _ _ _ _ z => z.elim) _ H H _ ?_ ?_⟩
  · obtain ⟨h1, h2⟩ := SL.sl_start (K := K) (G := H) (N := N) (ks := [.d (.list (ns.map .int))]) (vs := [.ref a]) ⟨.lst hs SL.dpa_ints, True.intro⟩
    exact ⟨h1, h2, Evl.Ex.refl _, fun b z => (by cases z), fun b z => (by cases z), fun p ds z => (by simp at z), List.nodup_nil, Evl.Ex.refl _, fun a o _ h => h, fun a o h => ⟨o, h⟩, fun _ _ _ _ => rfl⟩
  · exact ⟨fun Z O σ G' H' c q => q.elim, fun v u O G' H' c hv q => (by
      subst q
      cases hv
      exact k H'), fun _ _ _ _ _ _ z => z.elim, fun _ _ _ _ _ _ z => z.elim⟩

theorem fitStr {n : Nat} {a : List Nat} (h : Asc a) : fit n (.str (SX.S a)) = true := by
  have e : PyData.strOk (SX.S a) = true := by
    unfold PyData.strOk
    rw [Array.all_eq_true]
    intro i hi
    have hi2 : i < a.length := by simpa [SX.S] using hi
    have := h a[i] (List.getElem_mem hi2)
    simp [SX.S]
    omega
  have : PyData.canLay0 (.str (SX.S a)) = true := by simp [PyData.canLay0, e]
  cases n <;> exact this
theorem fitTup {n : Nat} {ds : List PyData} (h : ds.length ≤ 50000) (k : ∀ d ∈ ds, fit n d = true) : fit (n + 1) (.tuple ds) = true := by
  unfold fit
  rw [Bool.and_eq_true]
  exact ⟨Nat.ble_eq.mpr h, List.all_eq_true.mpr k⟩
theorem fitNone {n : Nat} : fit n .none = true := by cases n <;> rfl
theorem fitInt {n : Nat} {i : Int} : fit n (.int i) = true := by cases n <;> rfl
theorem fitOpt {n : Nat} : ∀ o : Option Int, fit n (optD o) = true
  | none => fitNone
  | some _ => fitInt
theorem fit_rowIn {a : List Nat} {c n : Nat} (hc : c ≤ 9) : fit (n + 2) (rowIn a c) = true := by
  unfold rowIn
  split
  · refine fitTup (by simp) fun d hd => ?_
    simp only [List.mem_cons, List.mem_nil_iff, or_false] at hd
    rcases hd with rfl | rfl
    · refine fitTup (by simp; omega) fun d hd => ?_
      obtain ⟨x, _, rfl⟩ := List.mem_map.mp hd
      exact fitOpt x
    · exact fitOpt _
  · exact fitNone

theorem ok_law {P : Program} {w : World} {K : PySem.W.Frag} {mg : Str → Option Value} {base : Heap} {C_BadText : Addr} {f : Addr} {fd : FuncData} (FL : Fun K "law" "law" s_law f fd) (T : Txt mg) (KX_BadText : SL.Ke P w K mg base C_BadText "BadText" "row")
    (d__law_box : Def P w K mg base "_law_box" 1 ["_law_script"] (spBox K)) (d__law_take : Def P w K mg base "_law_take" 1 ["_law_box_here", "_law_many"] (spB K R_take))
    (d__law_row : Def P w K mg base "_law_row" 4 ["_law_box_here", "_law_my_count", "_law_far"] (spB K R_lrow)) (d__law_rows_text : Def P w K mg base "_law_rows_text" 2 ["_law_rows"] (spP K R_rowslist))
    (d_rows_text : Def P w K mg base "rows_text" 3 ["rows"] (spP K R_rowstext)) (d__law_same : Def P w K mg base "_law_same" 6 ["_law_found", "_law_due"] (spP K (R_same 5)))
    (d__law_read : SL.Def P w K mg base "_law_read" 5 ["_law_text", "_law_my_count"] (SL.spC K R_lawreads)) (d__law_bent : Def P w K mg base "_law_bent" 2 ["_law_box_here", "_law_text"] (spB K R_bent))
    (d__law_rows_in : Def P w K mg base "_law_rows_in" 3 ["_law_text", "_law_my_count"] (spP K R_rowsin)) :
    FnOk P w K mg base CX0 7 f fd ["_law_script"] (spLaw K) := by
  refine fn_LS FL sc_law fun f cdv A outer s H E hr => ⟨_, (pss_cons (ps_asg (SL.pe_def (SL.Def.upX d__law_box) hr (by first | decide | omega) SL.pass0X (by rfl) (pa_cons (pv 0) pa_nil)) (pg_name (i := 1) sc_law.nd rfl (Or.inr rfl)))
      (pss_cons (ps_for (passes_of rfl) rfl (pi_range1 rfl T.range (pa_cons pe_int pa_nil)) (pg_name (i := 2) sc_law.nd rfl (Or.inl rfl))
      (pss_cons (ps_asg (pe_op op_add pe_int (SL.pe_def (SL.Def.upB d__law_take) hr (by first | decide | omega) SL.pass0X (by rfl) (pa_cons (pv 1) (pa_cons pe_int pa_nil)))) (pg_name (i := 3) sc_law.nd rfl (Or.inr rfl)))
      (pss_cons (ps_setLc (i := 5) (own := [("_law_turn", 4)]) (g := (gName 4)) rfl sc_law.nd rfl rfl (sw_true rfl rfl rfl (by decide +kernel)) (pi_range1 rfl T.range (pa_cons (SL.pe_def (SL.Def.upB d__law_take) hr (by first | decide | omega) SL.pass0X (by rfl) (pa_cons (pv 1) (pa_cons pe_int pa_nil))) pa_nil)) (blkOk_by (own := [("_law_turn", 4)]) (N := ["_law_script", "_law_box_here", "_law_k", "_law_my_count", "_law_turn", "_law_rows", "_law_text", "_law_handed", "_law_bent_here", "_law_due", "_law_again", "_law_found", "_law_at"]) (sc := defScope s_law) (by decide +kernel)) (fun _ _ _ _ _ => (pg_name (i := 4) sc_law.nd rfl (Or.inl rfl) (hf := Or.inr rfl))) (fun _ _ _ _ _ => pts_nil) (fun _ _ _ _ _ => (SL.pe_def (SL.Def.upB d__law_row) hr (by first | decide | omega) SL.pass0X (by rfl) (pa_cons (pv 1) (pa_cons (pv 3) (pa_cons pe_int pa_nil))))))
      (pss_cons (ps_asg (SL.pe_def (SL.Def.up d__law_rows_text) hr (by first | decide | omega) SL.pass0X (by rfl) (pa_cons (pv 5) pa_nil)) (pg_name (i := 6) sc_law.nd rfl (Or.inl rfl)))
      (pss_cons (ps_asg (pe_callTy (call_list_ofK (K := K) rfl) (by rfl) T.list (by decide +kernel) (pa_cons (pv 5) pa_nil)) (pg_name (i := 7) sc_law.nd rfl (Or.inl rfl)))
      (pss_cons (ps_if (PW.pt (pw_or (pt_not (pt_val (SL.pe_def (SL.Def.up d__law_same) hr (by first | decide | omega) SL.pass0X (by rfl) (pa_cons (pe_lst (pa_cons (SL.pe_def (SL.Def.up d_rows_text) hr (by first | decide | omega) SL.pass0X (by rfl) (pa_cons (pv 7) pa_nil)) (pa_cons (SL.pe_def (SL.Def.up d_rows_text) hr (by first | decide | omega) SL.pass0X (by rfl) (pa_cons (pe_callTy (call_tuple_ofK (K := K) rfl) (by rfl) T.tuple (by decide +kernel) (pa_cons (pv 5) pa_nil)) pa_nil)) pa_nil))) (pa_cons (pe_lst (pa_cons (pv 6) (pa_cons (pv 6) pa_nil))) pa_nil))))) (pw_or1 (pt_cmpR (op_neDK (K := K) rfl hr.units) (pv 7) (pv 5) (nomark _))))) (pss_one (ps_ret pe_bl)) pss_nil)
      (pss_one (ps_for (passes_of rfl) rfl (pi_range1 rfl T.range (pa_cons pe_int pa_nil)) (pg_name (i := 4) sc_law.nd rfl (Or.inl rfl))
      (pss_cons (ps_asg (pe_ifExp (pt_cmpR op_gt (pv 4) pe_int (nomark _)) (SL.pe_def (SL.Def.upB d__law_bent) hr (by first | decide | omega) SL.pass0X (by rfl) (pa_cons (pv 1) (pa_cons (pv 6) pa_nil))) (pv 6)) (pg_name (i := 8) sc_law.nd rfl (Or.inl rfl)))
      (pss_cons (ps_asg (pe_ifExp (pt_cmpR (op_eqDK (K := K) rfl hr.units) (SL.pe_def (SL.Def.upB d__law_take) hr (by first | decide | omega) SL.pass0X (by rfl) (pa_cons (pv 1) (pa_cons pe_int pa_nil))) pe_int (nomark _)) (pe_ix (ix_seqK (K := K) rfl) (pe_lst (pa_cons pe_str (pa_cons pe_str (pa_cons pe_str (pa_cons pe_str (pa_cons pe_str pa_nil)))))) (SL.pe_def (SL.Def.upB d__law_take) hr (by first | decide | omega) SL.pass0X (by rfl) (pa_cons (pv 1) (pa_cons pe_int pa_nil))) (fun _ _ => rfl)) (pv 8)) (pg_name (i := 8) sc_law.nd rfl (Or.inl rfl)))
      (pss_cons (ps_asg (SL.pe_def (SL.Def.up d__law_rows_in) hr (by first | decide | omega) SL.pass0X (by rfl) (pa_cons (pv 8) (pa_cons (pv 3) pa_nil))) (pg_name (i := 9) sc_law.nd rfl (Or.inl rfl)))
      (pss_one (ps_for (passes_of rfl) rfl (pi_range1 rfl T.range (pa_cons pe_int pa_nil)) (pg_name (i := 10) sc_law.nd rfl (Or.inl rfl))
      (pss_cons (ps_asg (SL.pe_def d__law_read hr (by first | decide | omega) SL.pass0X (by rfl) (pa_cons (pv 8) (pa_cons (pv 3) pa_nil))) (pg_tup (n := 2) rfl (pgs_cons (pg_name (i := 11) sc_law.nd rfl (Or.inl rfl)) (pgs_cons (pg_name (i := 12) sc_law.nd rfl (Or.inl rfl)) pgs_nil))))
      (pss_cons (ps_if (PW.pt (pw_or (pt_not (pt_val (SL.pe_def (SL.Def.up d__law_same) hr (by first | decide | omega) SL.pass0X (by rfl) (pa_cons (pv 11) (pa_cons (pv 9) pa_nil))))) (pw_or1 (pt_not (pt_val (SL.pe_def (SL.Def.up d__law_same) hr (by first | decide | omega) SL.pass0X (by rfl) (pa_cons (pv 12) (pa_cons (pe_ifExp (pt_cmp (pc_notN (pv 9)) rfl) pe_non pe_int) pa_nil)))))))) (pss_one (ps_ret pe_bl)) pss_nil)
      (pss_one (ps_if (pt_cmp (pc_notN (pv 11)) rfl) (pss_one (ps_expr (pe_bm PySem.F.plainAttrs_list PySem.F.slot_list_append PySem.F.type_list_append mt_append (pv 11) (pa_cons (pe_tup (pa_cons (pe_op (SL.op_repVK (K := K) rfl) (pe_tup (pa_cons pe_int pa_nil)) (pv 3)) (pa_cons pe_int pa_nil))) pa_nil)))) pss_nil)))))))))))))))))
      (pss_one (ps_ret pe_bl)))), fun ns => ?_⟩
  show SL.SW _ _ _ [.d (.list (ns.map .int)), .no, .no, .no, .no, .no, .no, .no, .no, .no, .no, .no, .no] _ _
  walk_at "sn"
  refine sw_boxS rfl fun bx => ?_
  simp only [List.set_cons_succ, List.set_cons_zero]
  refine SL.sw_seq (SL.sw_for (fun i Z O => ∃ z2 z3 z4 z5 z6 z7 z8 z9 z10 z11 z12 : SL.Sk, Z = [.d (.list (ns.map .int)), .v (.ref bx), z2, z3, z4, z5, z6, z7, z8, z9, z10, z11, z12] ∧ O = []) 3 (fun i d => d = .int (i : Nat)) ?_ ?_ ?_)
  · exact SL.iw_rng1 (SL.wa_cons (SL.we_int (SL.wa_nil ⟨_, rfl, ⟨by decide, by decide⟩, rfl, rfl, _, _, _, _, _, _, _, _, _, _, _, rfl, rfl⟩)))
  · rintro i d _ _ hi rfl ⟨z2, z3, z4, z5, z6, z7, z8, z9, z10, z11, z12, rfl, rfl⟩
    refine SL.gw_name ?_
    simp only [List.set_cons_succ, List.set_cons_zero]
    refine SL.sw_seq (SL.sw_asg (SL.we_opI (SL.we_int (SL.we_callB rfl rfl (SL.wd_cons (SL.we_int ⟨_, rfl, SL.wd_nil ⟨_, rfl, by decide, by decide, fun r h1 h2 => ⟨_, _, rfl, rfl, ?_⟩⟩⟩))))))
    obtain ⟨c, hc⟩ : ∃ c : Nat, 1 + r = (c : Int) := ⟨(1 + r).toNat, by omega⟩
    rw [hc]
    have hc1 : 1 ≤ c := by omega
    have hc4 : c ≤ 3 := by omega
    clear hc h1 h2
    simp only [List.set_cons_succ, List.set_cons_zero]
    refine SL.sw_seq (SL.sw_asg (SL.we_of (SL.wl_compN (SL.ow_name (by decide)) (fun j acc O' => ∃ rs : List (List Int × Int), acc = rs.map rwD ∧ rs.length = j ∧ (∀ r ∈ rs, Big r.1 r.2 ∧ r.1.length ≤ 3) ∧ O' = []) (fun n => n ≤ 5) (fun i d => d = .int (i : Nat)) ?_ (fun n h => by omega) (fun j acc O' ⟨rs, e, h, _⟩ => by rw [e, List.length_map]; omega) ?_ ?_)))
    · exact SL.iw_rng1 (SL.wa_cons (SL.we_callB rfl rfl (SL.wd_cons (SL.we_int ⟨_, rfl, SL.wd_nil ⟨_, rfl, by decide, by decide, fun r h1 h2 => SL.wa_nil ⟨r, rfl, ⟨by omega, by omega⟩, by omega, rfl, [], rfl, rfl, (fun r hr => by cases hr), rfl⟩⟩⟩))))
    · rintro n hn j d acc O' p hj rfl ⟨rs, rfl, hrl, hrs, rfl⟩
      refine SL.gw_name ⟨rfl, SL.wt_yes (iteT ?_)⟩
      refine SL.we_callB rfl rfl (SL.wd_cons (SL.we_varD rfl ⟨_, rfl, SL.wd_cons (SL.we_int ⟨_, rfl, SL.wd_nil ⟨c, 9, rfl, by omega, by omega, by decide, by decide, fun ws b hB hl => ⟨_, [], rfl, rfl, rs ++ [(ws, b)], by rw [List.map_append]; rfl, by simp [hrl], fun r hr => ?_, rfl⟩⟩⟩)⟩))
      rcases List.mem_append.mp hr with z | z
      · exact hrs r z
      · simp at z
        rw [z]
        exact ⟨hB, by show ws.length ≤ 3; omega⟩
    rintro n hn acc O' ⟨rs, rfl, hrl, hrs, rfl⟩
    have hB : RowsB rs := ⟨by omega, hrs⟩
    clear hrs
    obtain ⟨tl, ta⟩ := rowsT_fits hB
    have hsh : SeqAt.shaped (PyData.list (rs.map rwD)) = true := rwD_fit (by have := hB.1; omega) fun r hr => by have := (hB.2 r hr).2; omega
    simp only [List.set_cons_succ, List.set_cons_zero]
    refine SL.sw_seq (SL.sw_asg (SL.we_callP (SL.wd_cons (SL.we_varD rfl ⟨_, rfl, SL.wd_nil ⟨rs, rfl, hB, ?_⟩⟩))))
    simp only [List.set_cons_succ, List.set_cons_zero]
    refine SL.sw_seq (SL.sw_asg (SL.we_of (SL.wl_list (SL.wa_cons (SL.we_varD rfl (SL.wa_nil ⟨_, .inl rfl, ?_⟩))))))
    simp only [List.set_cons_succ, List.set_cons_zero]
    refine SL.sw_seq (SL.sw_if (SL.wt_or (SL.wt_not (SL.wt_B (SL.we_callP (SL.wd_cons (SL.we_lstD (SL.wd_cons (SL.we_callP (SL.wd_cons (SL.we_varD rfl ⟨_, rfl, SL.wd_nil ⟨rs, .inl rfl, hB, _, rfl, ?_⟩⟩)))))))))))
    refine SL.wd_cons (SL.we_callP (SL.wd_cons (SL.we_tuple (SL.wa_cons (SL.we_varD rfl (SL.wa_nil ⟨_, .inl rfl, _, rfl, SL.wd_nil ⟨rs, .inr rfl, hB, _, rfl, SL.wd_nil ⟨rfl, _, rfl, ?_⟩⟩⟩))))))
    have f1 : fit 5 (.list [.str (SX.S (rowsT rs)), .str (SX.S (rowsT rs))]) = true := by
      unfold fit
      simp only [List.all_cons, fitStr ta]
      rfl
    refine SL.wd_cons (SL.we_lstD (SL.wd_cons (SL.we_varD rfl ⟨_, rfl, SL.wd_cons (SL.we_varD rfl ⟨_, rfl, SL.wd_nil ⟨rfl, _, rfl, SL.wd_nil ⟨_, rfl, f1, _, rfl, ite_false_of rfl ?_⟩⟩⟩)⟩)))
    refine SL.wt_test (SL.we_neD (SL.we_varD rfl (SL.we_varD rfl ⟨_, _, rfl, rfl, hsh, hsh, _, rfl, ite_false_of (by rw [PySem.SeqAt.eqv_refl _ (by have := hsh; unfold SeqAt.shaped at this; exact (Bool.and_eq_true _ _ ▸ this).1)]; rfl) (SL.sw_next ?_)⟩)))
    refine SL.sw_for (fun _ Z O => ∃ z4 z8 z9 z10 z11 z12 : SL.Sk, Z = [.d (.list (ns.map .int)), .v (.ref bx), .d (.int (i : Nat)), .d (.int (c : Nat)), z4, .d (.list (rs.map rwD)), .d (.str (SX.S (rowsT rs))), .d (.list (rs.map rwD)), z8, z9, z10, z11, z12] ∧ O = []) 3 (fun i d => d = .int (i : Nat)) ?_ ?_ ?_
    · exact SL.iw_rng1 (SL.wa_cons (SL.we_int (SL.wa_nil ⟨_, rfl, ⟨by decide, by decide⟩, rfl, rfl, _, _, _, _, _, _, rfl, rfl⟩)))
    · rintro t d _ _ ht rfl ⟨z4, z8, z9, z10, z11, z12, rfl, rfl⟩
      refine SL.gw_name ?_
      simp only [List.set_cons_succ, List.set_cons_zero]
      refine SL.sw_cut (fun Z O => ∃ a : List Nat, a.length ≤ 500 ∧ Asc a ∧ Z = [.d (.list (ns.map .int)), .v (.ref bx), .d (.int (i : Nat)), .d (.int (c : Nat)), .d (.int (t : Nat)), .d (.list (rs.map rwD)), .d (.str (SX.S (rowsT rs))), .d (.list (rs.map rwD)), .d (.str (SX.S a)), z9, z10, z11, z12] ∧ O = []) ?_ ?_
      · refine SL.sw_asg (SL.we_if (SL.wt_test (SL.we_opB (SL.we_varD rfl (SL.we_int ⟨_, _, rfl, rfl, _, rfl, ite2 (fun _ => ?_) (fun _ => ?_)⟩)))))
        · refine SL.we_callB rfl rfl (SL.wd_cons (SL.we_varD rfl ⟨_, rfl, SL.wd_nil ⟨_, rfl, tl, ta, fun a' h1 h2 => ⟨a', h1, h2, ?_, rfl⟩⟩⟩))
          simp only [List.set_cons_succ, List.set_cons_zero]
        · refine SL.we_varD rfl ⟨_, by omega, ta, ?_, rfl⟩
          simp only [List.set_cons_succ, List.set_cons_zero]
      rintro _ _ ⟨a0, ha0, hc0, rfl, rfl⟩
      refine SL.sw_cut (fun Z O => ∃ a : List Nat, a.length ≤ 500 ∧ Asc a ∧ Z = [.d (.list (ns.map .int)), .v (.ref bx), .d (.int (i : Nat)), .d (.int (c : Nat)), .d (.int (t : Nat)), .d (.list (rs.map rwD)), .d (.str (SX.S (rowsT rs))), .d (.list (rs.map rwD)), .d (.str (SX.S a)), z9, z10, z11, z12] ∧ O = []) ?_ ?_
      · refine SL.sw_asg (SL.we_if (SL.wt_test (SL.we_eqD (SL.we_callB rfl rfl (SL.wd_cons (SL.we_int ⟨_, rfl, SL.wd_nil ⟨_, rfl, by decide, by decide, fun r h1 h2 => SL.we_int ⟨_, _, rfl, rfl, rfl, rfl, _, rfl, ite2 (fun _ => ?_) (fun _ => ?_)⟩⟩⟩))))))
        · refine SL.we_pick (fun x => ∃ a : List Nat, x = .str (SX.S a) ∧ a.length ≤ 500 ∧ Asc a) ?_ ?_
          · refine SL.we_lstD (SL.wd_cons (SL.we_str ⟨_, rfl, SL.wd_cons (SL.we_str ⟨_, rfl, SL.wd_cons (SL.we_str ⟨_, rfl, SL.wd_cons (SL.we_str ⟨_, rfl, SL.wd_cons (SL.we_str ⟨_, rfl, SL.wd_nil ⟨rfl, ?_⟩⟩)⟩)⟩)⟩)⟩))
            refine SL.we_callB rfl rfl (SL.wd_cons (SL.we_int ⟨_, rfl, SL.wd_nil ⟨_, rfl, by decide, by decide, fun r h1 h2 => ?_⟩⟩))
            have asc : ∀ w ∈ [[], [97, 108, 108], [97, 108, 108, 59, 32, 49, 32, 60, 61, 32, 50], [59, 32], [32, 97, 108, 108]], Asc w ∧ w.length ≤ 500 := fun w hw => by
              simp only [List.mem_cons, List.mem_nil_iff, or_false] at hw
              rcases hw with rfl | rfl | rfl | rfl | rfl <;> refine ⟨fun c hc => ?_, by decide⟩ <;> simp at hc <;> omega
            rcases (show r = 0 ∨ r = 1 ∨ r = 2 ∨ r = 3 ∨ r = 4 by omega) with rfl | rfl | rfl | rfl | rfl
            · exact ⟨_, _, _, rfl, rfl, .lst rfl, ⟨[], rfl, (asc _ (by simp)).2, (asc _ (by simp)).1⟩, rfl⟩
            · exact ⟨_, _, _, rfl, rfl, .lst rfl, ⟨[97, 108, 108], rfl, (asc _ (by simp)).2, (asc _ (by simp)).1⟩, rfl⟩
            · exact ⟨_, _, _, rfl, rfl, .lst rfl, ⟨[97, 108, 108, 59, 32, 49, 32, 60, 61, 32, 50], rfl, (asc _ (by simp)).2, (asc _ (by simp)).1⟩, rfl⟩
            · exact ⟨_, _, _, rfl, rfl, .lst rfl, ⟨[59, 32], rfl, (asc _ (by simp)).2, (asc _ (by simp)).1⟩, rfl⟩
            · exact ⟨_, _, _, rfl, rfl, .lst rfl, ⟨[32, 97, 108, 108], rfl, (asc _ (by simp)).2, (asc _ (by simp)).1⟩, rfl⟩
          · rintro _ ⟨a, rfl, h3, h4⟩
            refine ⟨a, h3, h4, ?_, rfl⟩
            simp only [List.set_cons_succ, List.set_cons_zero]
        · refine SL.we_varD rfl ⟨_, ha0, hc0, ?_, rfl⟩
          simp only [List.set_cons_succ, List.set_cons_zero]
      rintro _ _ ⟨a, ha, hca, rfl, rfl⟩
      refine SL.sw_seq (SL.sw_asg (SL.we_callP (SL.wd_cons (SL.we_varD rfl ⟨_, rfl, SL.wd_cons (SL.we_varD rfl ⟨_, rfl, SL.wd_nil ⟨a, c, rfl, ha, hca, hc1, by omega, ?_⟩⟩)⟩))))
      simp only [List.set_cons_succ, List.set_cons_zero]
      refine SL.sw_for (fun _ Z O => ∃ z10 z11 z12 : SL.Sk, Z = [.d (.list (ns.map .int)), .v (.ref bx), .d (.int (i : Nat)), .d (.int (c : Nat)), .d (.int (t : Nat)), .d (.list (rs.map rwD)), .d (.str (SX.S (rowsT rs))), .d (.list (rs.map rwD)), .d (.str (SX.S a)), .d (rowsD a c), z10, z11, z12] ∧ O = []) 2 (fun i d => d = .int (i : Nat)) ?_ ?_ ?_
      · exact SL.iw_rng1 (SL.wa_cons (SL.we_int (SL.wa_nil ⟨_, rfl, ⟨by decide, by decide⟩, rfl, rfl, _, _, _, rfl, rfl⟩)))
      · rintro u d _ _ hu rfl ⟨z10, z11, z12, rfl, rfl⟩
        refine SL.gw_name ?_
        simp only [List.set_cons_succ, List.set_cons_zero]
        by_cases hall : ∀ p ∈ partsL a, rowIn p c ≠ .none
        · have ed : rowsD a c = .list ((partsL a).map fun p => rowIn p c) := by unfold rowsD; rw [if_pos hall]
          have hfit : fit 5 (.list ((partsL a).map fun p => rowIn p c)) = true := by
            unfold fit
            rw [Bool.and_eq_true]
            refine ⟨Nat.ble_eq.mpr ?_, List.all_eq_true.mpr fun d hd => ?_⟩
            · have := parts_len (a := a)
              rw [List.length_map]
              omega
            · obtain ⟨q, _, rfl⟩ := List.mem_map.mp hd
              exact fit_rowIn (by omega)
          have hlen : ((partsL a).map fun p => rowIn p c).length < 100000 := by
            have := parts_len (a := a)
            rw [List.length_map]
            omega
          rw [ed]
          refine SL.sw_seq (SL.sw_asgG (SL.we_callO (SL.wa_cons (SL.we_varD rfl (SL.wa_cons (SL.we_varD rfl (SL.wa_nil ⟨[], [], [], rfl, .inl ⟨rfl, rfl, a, c, rfl, ha, hca, hc1, by omega, fun _ q tt => ?_, fun z => (z hall).elim⟩⟩)))))))
          refine SL.gw_tupO (List.mem_cons_self ..) rfl (SL.gws_name (SL.gws_name (SL.gws_nil ?_)))
          simp only [List.set_cons_succ, List.set_cons_zero]
          refine SL.sw_seq (SL.sw_if (SL.wt_or (SL.wt_not (SL.wt_B (SL.we_callLend (SL.wa_cons (SL.we_varV rfl (SL.wa_cons (SL.we_varD rfl (SL.wa_nil ⟨[.list ((partsL a).map fun p => rowIn p c), .list ((partsL a).map fun p => rowIn p c)], ⟨⟨_, List.mem_cons_of_mem _ (List.mem_cons_self ..), rfl⟩, rfl, True.intro⟩, _, rfl, hfit, rfl, _, rfl, ite_false_of rfl ?_⟩))))))))))
          refine SL.wt_not (SL.wt_B (SL.we_callP (SL.wd_cons (SL.we_varD rfl ⟨_, rfl, SL.wd_cons (SL.we_if (SL.wt_B (SL.we_notN (SL.we_varD rfl ⟨_, rfl, _, rfl, ite_true_of rfl (SL.we_non ⟨_, rfl, SL.wd_nil ⟨_, rfl, rfl, _, rfl, ite_false_of rfl (SL.sw_next ?_)⟩⟩)⟩))))⟩))))
          refine SL.sw_lose (SL.sw_if (SL.wt_B (SL.we_notN (SL.we_varV rfl ⟨_, rfl, _, rfl, ite_true_of rfl (SL.sw_drop (SL.we_append (SL.we_varV rfl ⟨q, rfl, ⟨_, List.mem_cons_of_mem _ (List.mem_cons_self ..)⟩, ?_⟩)))⟩))))
          refine SL.we_tupD (SL.wd_cons (SL.we_repV (SL.we_tupD (SL.wd_cons (SL.we_int ⟨_, rfl, SL.wd_nil ⟨rfl, SL.we_varD rfl ⟨_, _, rfl, rfl, by simp, by omega, by omega, by decide, _, rfl, SL.wd_cons (SL.we_int ⟨_, rfl, SL.wd_nil ⟨rfl, ((partsL a).map fun p => rowIn p c).map .d, 1, rfl, by rw [List.length_map]; exact hlen, ?_⟩⟩)⟩⟩⟩)))))
          exact ⟨_, _, _, rfl, rfl⟩
        · have ed : rowsD a c = .none := by unfold rowsD; rw [if_neg hall]
          rw [ed]
          refine SL.sw_seq (SL.sw_asgG (SL.we_callO (SL.wa_cons (SL.we_varD rfl (SL.wa_cons (SL.we_varD rfl (SL.wa_nil ⟨[], [], [], rfl, .inl ⟨rfl, rfl, a, c, rfl, ha, hca, hc1, by omega, fun z => (hall z).elim, fun _ => ?_⟩⟩)))))))
          refine SL.gw_tup rfl (SL.gws_name (SL.gws_name (SL.gws_nil ?_)))
          simp only [List.set_cons_succ, List.set_cons_zero]
          refine SL.sw_seq (SL.sw_if (SL.wt_or (SL.wt_not (SL.wt_B (SL.we_callP (SL.wd_cons (SL.we_varD rfl ⟨_, rfl, SL.wd_cons (SL.we_varD rfl ⟨_, rfl, SL.wd_nil ⟨_, rfl, rfl, _, rfl, ite_false_of rfl ?_⟩⟩)⟩)))))))
          refine SL.wt_not (SL.wt_B (SL.we_callP (SL.wd_cons (SL.we_varD rfl ⟨_, rfl, SL.wd_cons (SL.we_if (SL.wt_B (SL.we_notN (SL.we_varD rfl ⟨_, rfl, _, rfl, ite_false_of rfl (SL.we_int ⟨_, rfl, SL.wd_nil ⟨_, rfl, rfl, _, rfl, ite_false_of rfl (SL.sw_next ?_)⟩⟩)⟩))))⟩))))
          refine SL.sw_if (SL.wt_B (SL.we_notN (SL.we_varD rfl ⟨_, rfl, _, rfl, ite_false_of rfl (SL.sw_next ⟨_, _, _, rfl, rfl⟩)⟩)))
      · rintro _ _ ⟨z10, z11, z12, rfl, rfl⟩
        exact ⟨_, _, _, _, _, _, rfl, rfl⟩
    · rintro _ _ ⟨z4, z8, z9, z10, z11, z12, rfl, rfl⟩
      exact ⟨_, _, _, _, _, _, _, _, _, _, _, rfl, rfl⟩
  rintro _ _ ⟨z2, z3, z4, z5, z6, z7, z8, z9, z10, z11, z12, rfl, rfl⟩
  exact SL.sw_ret (SL.we_bl rfl)

theorem all_mk {l : PySem.W.OpenLaw} {w : World} {K : PySem.W.Frag} {h : Heap} {mg : Str → Option Value} {fa : Addr} (X : K.In h) (G : h.Ns mainGlobals mg) (hfa : mg "law" = some (.ref fa))
    {f__law_take f__law_box f__law_near f__law_same f_number_text f_read_number f__law_number_in f_row_text f__law_row_text f__law_row_in f__law_weights f__law_row f_read_row f__law_bent f__row_texts f_rows_text f__law_rows_text f__law_rows_in f_read_rows f__law_read f_law : Addr}
    {C_SlopeError : Addr} {nm_SlopeError qn_SlopeError : Str} {N_SlopeError : Addr} {bs_SlopeError bm_SlopeError : List Value} {hd_SlopeError ab_SlopeError : Bool} {sn_SlopeError : List Str} {sub_SlopeError : List Value} {col_SlopeError : Option Bool} {dd_SlopeError : Option Addr} {k0_SlopeError k1_SlopeError k2_SlopeError k3_SlopeError k5_SlopeError : Option Value} {id_SlopeError : String}
    (gs_SlopeError : PySem.W.nsIn K mainGlobals "SlopeError" = some (some (.ref C_SlopeError)))
    (kl_SlopeError : K.lookup C_SlopeError = some (excClassObj nm_SlopeError qn_SlopeError C_SlopeError N_SlopeError bs_SlopeError bm_SlopeError hd_SlopeError sn_SlopeError sub_SlopeError ab_SlopeError col_SlopeError dd_SlopeError k0_SlopeError k1_SlopeError k2_SlopeError k3_SlopeError k5_SlopeError id_SlopeError))
    (rv_SlopeError : PySem.HandSPX.refsVE bm_SlopeError = true)
    (fi_SlopeError : PySem.W.findIn K (.ref C_SlopeError) "__init__" = some (some (.builtin "ValueError.__init__")))
    {C_BadText f_BadText___init__ cc_BadText cda_BadText : Addr} {nm_BadText qn_BadText : Str} {N_BadText : Addr} {bs_BadText : List Value} {ab_BadText : Bool} {sn_BadText : List Str} {sub_BadText : List Value} {col_BadText : Option Bool} {dd_BadText : Option Addr} {k0_BadText k1_BadText k2_BadText k3_BadText k5_BadText : Option Value}
    {oc_BadText kV_BadText dc_BadText pm_BadText ct_BadText cl1_BadText cl2_BadText : Value} {od_BadText an_BadText od1_BadText od2_BadText : Option Addr} {sl_BadText sl1_BadText sl2_BadText : Array (Option Value)} {vs_BadText : Array Value} {file_BadText : Str} {tf_BadText : Tok}
    (gk_BadText : PySem.W.nsIn K mainGlobals "BadText" = some (some (.ref C_BadText)))
    (kl_BadText : K.lookup C_BadText = some (excClassObj nm_BadText qn_BadText C_BadText N_BadText bs_BadText (.ref C_SlopeError :: bm_SlopeError) true sn_BadText sub_BadText ab_BadText col_BadText dd_BadText k0_BadText k1_BadText k2_BadText k3_BadText k5_BadText "ValueError.__new__"))
    (mc_BadText : PySem.W.mroIn K C_BadText (.ref C_BadText) = some true)
    (op_BadText : PySem.W.nsIn K cStatics "thirdparty.any" = some none)
    (tp_BadText : (l.prog.main.scope.names.lookup ("super" : Str)).isSome = false)
    (sk_BadText : PySem.W.findIn K (.ref C_BadText) "__setattr__" = some (some (.builtin "object.__setattr__")))
    (ec_BadText : PySem.W.subIn K (.ref C_BadText) (.type "BaseException") = some true)
    (tc_BadText : PySem.W.typeIn K (.ref C_BadText) = some (.type "type"))
    (kp_BadText : PySem.W.keepIn K (.ref C_BadText) = true)
    (gA_BadText : PySem.W.findIn K (.ref C_BadText) "__getattribute__" = some (some (.builtin "BaseException.__getattribute__")))
    (gB_BadText : PySem.W.findIn K (.ref C_BadText) "__getattr__" = some none)
    (hD_BadText : PySem.W.hasDictIn K C_BadText = true)
    (ss_BadText : PySem.W.subIn K (.ref C_BadText) (.ref C_BadText) = some true)
    (iC_BadText : PySem.W.findIn K (.ref C_BadText) "__init__" = some (some (.ref f_BadText___init__)))
    (tI_BadText : PySem.W.typeIn K (.ref f_BadText___init__) = some (.type "function"))
    (no_BadText : PySem.W.findIn K (.ref C_BadText) "row" = some none)
    (lk_BadText : K.lookup f_BadText___init__ = some ⟨oc_BadText, od_BadText, .func (PySem.W.ksFn "__init__" "BadText.__init__" (defArgs s_BadText___init__) (defBody s_BadText___init__) (defScope s_BadText___init__) .none kV_BadText dc_BadText pm_BadText an_BadText (.ref cda_BadText) ct_BadText cc_BadText), sl_BadText⟩)
    (cd_BadText : PySem.W.codeIn K (.ref cda_BadText) "BadText.__init__" = true)
    (co_BadText : K.lookup cda_BadText = some ⟨cl1_BadText, od1_BadText, .fields vs_BadText, sl1_BadText⟩)
    (vv_BadText : vs_BadText[2]? = some (.str file_BadText tf_BadText))
    (fF_BadText : ((l.prog.main.file : Str) == file_BadText) = true)
    (ce_BadText : K.lookup cc_BadText = some ⟨cl2_BadText, od2_BadText, .cell (some (.ref C_BadText)), sl2_BadText⟩)
    (zz_super : PySem.W.nsIn K mainGlobals "super" = some none)
    {oc__law_take kV__law_take dc__law_take pm__law_take cd__law_take ct__law_take : Value} {od__law_take an__law_take : Option Addr} {sl__law_take : Array (Option Value)}
    (a__law_take : PySem.W.nsIn K mainGlobals "_law_take" = some (some (.ref f__law_take))) (l__law_take : K.lookup f__law_take = some ⟨oc__law_take, od__law_take, .func (PySem.W.fnOf "_law_take" "_law_take" (defArgs s__law_take) (defBody s__law_take) (defScope s__law_take) .none kV__law_take dc__law_take pm__law_take an__law_take cd__law_take ct__law_take), sl__law_take⟩) (c__law_take : PySem.W.codeIn K cd__law_take "_law_take" = true) (k__law_take : PySem.W.keepIn K (.ref f__law_take) = true)
    {oc__law_box kV__law_box dc__law_box pm__law_box cd__law_box ct__law_box : Value} {od__law_box an__law_box : Option Addr} {sl__law_box : Array (Option Value)}
    (a__law_box : PySem.W.nsIn K mainGlobals "_law_box" = some (some (.ref f__law_box))) (l__law_box : K.lookup f__law_box = some ⟨oc__law_box, od__law_box, .func (PySem.W.fnOf "_law_box" "_law_box" (defArgs s__law_box) (defBody s__law_box) (defScope s__law_box) .none kV__law_box dc__law_box pm__law_box an__law_box cd__law_box ct__law_box), sl__law_box⟩) (c__law_box : PySem.W.codeIn K cd__law_box "_law_box" = true) (k__law_box : PySem.W.keepIn K (.ref f__law_box) = true)
    {oc__law_near kV__law_near dc__law_near pm__law_near cd__law_near ct__law_near : Value} {od__law_near an__law_near : Option Addr} {sl__law_near : Array (Option Value)}
    (a__law_near : PySem.W.nsIn K mainGlobals "_law_near" = some (some (.ref f__law_near))) (l__law_near : K.lookup f__law_near = some ⟨oc__law_near, od__law_near, .func (PySem.W.fnOf "_law_near" "_law_near" (defArgs s__law_near) (defBody s__law_near) (defScope s__law_near) .none kV__law_near dc__law_near pm__law_near an__law_near cd__law_near ct__law_near), sl__law_near⟩) (c__law_near : PySem.W.codeIn K cd__law_near "_law_near" = true) (k__law_near : PySem.W.keepIn K (.ref f__law_near) = true)
    {oc__law_same kV__law_same dc__law_same pm__law_same cd__law_same ct__law_same : Value} {od__law_same an__law_same : Option Addr} {sl__law_same : Array (Option Value)}
    (a__law_same : PySem.W.nsIn K mainGlobals "_law_same" = some (some (.ref f__law_same))) (l__law_same : K.lookup f__law_same = some ⟨oc__law_same, od__law_same, .func (PySem.W.fnOf "_law_same" "_law_same" (defArgs s__law_same) (defBody s__law_same) (defScope s__law_same) .none kV__law_same dc__law_same pm__law_same an__law_same cd__law_same ct__law_same), sl__law_same⟩) (c__law_same : PySem.W.codeIn K cd__law_same "_law_same" = true) (k__law_same : PySem.W.keepIn K (.ref f__law_same) = true)
    {oc_number_text kV_number_text dc_number_text pm_number_text cd_number_text ct_number_text : Value} {od_number_text an_number_text : Option Addr} {sl_number_text : Array (Option Value)}
    (a_number_text : PySem.W.nsIn K mainGlobals "number_text" = some (some (.ref f_number_text))) (l_number_text : K.lookup f_number_text = some ⟨oc_number_text, od_number_text, .func (PySem.W.fnOf "number_text" "number_text" (defArgs s_number_text) (defBody s_number_text) (defScope s_number_text) .none kV_number_text dc_number_text pm_number_text an_number_text cd_number_text ct_number_text), sl_number_text⟩) (c_number_text : PySem.W.codeIn K cd_number_text "number_text" = true) (k_number_text : PySem.W.keepIn K (.ref f_number_text) = true)
    {oc_read_number kV_read_number dc_read_number pm_read_number cd_read_number ct_read_number : Value} {od_read_number an_read_number : Option Addr} {sl_read_number : Array (Option Value)}
    (a_read_number : PySem.W.nsIn K mainGlobals "read_number" = some (some (.ref f_read_number))) (l_read_number : K.lookup f_read_number = some ⟨oc_read_number, od_read_number, .func (PySem.W.fnOf "read_number" "read_number" (defArgs s_read_number) (defBody s_read_number) (defScope s_read_number) .none kV_read_number dc_read_number pm_read_number an_read_number cd_read_number ct_read_number), sl_read_number⟩) (c_read_number : PySem.W.codeIn K cd_read_number "read_number" = true) (k_read_number : PySem.W.keepIn K (.ref f_read_number) = true)
    {oc__law_number_in kV__law_number_in dc__law_number_in pm__law_number_in cd__law_number_in ct__law_number_in : Value} {od__law_number_in an__law_number_in : Option Addr} {sl__law_number_in : Array (Option Value)}
    (a__law_number_in : PySem.W.nsIn K mainGlobals "_law_number_in" = some (some (.ref f__law_number_in))) (l__law_number_in : K.lookup f__law_number_in = some ⟨oc__law_number_in, od__law_number_in, .func (PySem.W.fnOf "_law_number_in" "_law_number_in" (defArgs s__law_number_in) (defBody s__law_number_in) (defScope s__law_number_in) .none kV__law_number_in dc__law_number_in pm__law_number_in an__law_number_in cd__law_number_in ct__law_number_in), sl__law_number_in⟩) (c__law_number_in : PySem.W.codeIn K cd__law_number_in "_law_number_in" = true) (k__law_number_in : PySem.W.keepIn K (.ref f__law_number_in) = true)
    {oc_row_text kV_row_text dc_row_text pm_row_text cd_row_text ct_row_text : Value} {od_row_text an_row_text : Option Addr} {sl_row_text : Array (Option Value)}
    (a_row_text : PySem.W.nsIn K mainGlobals "row_text" = some (some (.ref f_row_text))) (l_row_text : K.lookup f_row_text = some ⟨oc_row_text, od_row_text, .func (PySem.W.fnOf "row_text" "row_text" (defArgs s_row_text) (defBody s_row_text) (defScope s_row_text) .none kV_row_text dc_row_text pm_row_text an_row_text cd_row_text ct_row_text), sl_row_text⟩) (c_row_text : PySem.W.codeIn K cd_row_text "row_text" = true) (k_row_text : PySem.W.keepIn K (.ref f_row_text) = true)
    {oc__law_row_text kV__law_row_text dc__law_row_text pm__law_row_text cd__law_row_text ct__law_row_text : Value} {od__law_row_text an__law_row_text : Option Addr} {sl__law_row_text : Array (Option Value)}
    (a__law_row_text : PySem.W.nsIn K mainGlobals "_law_row_text" = some (some (.ref f__law_row_text))) (l__law_row_text : K.lookup f__law_row_text = some ⟨oc__law_row_text, od__law_row_text, .func (PySem.W.fnOf "_law_row_text" "_law_row_text" (defArgs s__law_row_text) (defBody s__law_row_text) (defScope s__law_row_text) .none kV__law_row_text dc__law_row_text pm__law_row_text an__law_row_text cd__law_row_text ct__law_row_text), sl__law_row_text⟩) (c__law_row_text : PySem.W.codeIn K cd__law_row_text "_law_row_text" = true) (k__law_row_text : PySem.W.keepIn K (.ref f__law_row_text) = true)
    {oc__law_row_in kV__law_row_in dc__law_row_in pm__law_row_in cd__law_row_in ct__law_row_in : Value} {od__law_row_in an__law_row_in : Option Addr} {sl__law_row_in : Array (Option Value)}
    (a__law_row_in : PySem.W.nsIn K mainGlobals "_law_row_in" = some (some (.ref f__law_row_in))) (l__law_row_in : K.lookup f__law_row_in = some ⟨oc__law_row_in, od__law_row_in, .func (PySem.W.fnOf "_law_row_in" "_law_row_in" (defArgs s__law_row_in) (defBody s__law_row_in) (defScope s__law_row_in) .none kV__law_row_in dc__law_row_in pm__law_row_in an__law_row_in cd__law_row_in ct__law_row_in), sl__law_row_in⟩) (c__law_row_in : PySem.W.codeIn K cd__law_row_in "_law_row_in" = true) (k__law_row_in : PySem.W.keepIn K (.ref f__law_row_in) = true)
    {oc__law_weights kV__law_weights dc__law_weights pm__law_weights cd__law_weights ct__law_weights : Value} {od__law_weights an__law_weights : Option Addr} {sl__law_weights : Array (Option Value)}
    (a__law_weights : PySem.W.nsIn K mainGlobals "_law_weights" = some (some (.ref f__law_weights))) (l__law_weights : K.lookup f__law_weights = some ⟨oc__law_weights, od__law_weights, .func (PySem.W.fnOf "_law_weights" "_law_weights" (defArgs s__law_weights) (defBody s__law_weights) (defScope s__law_weights) .none kV__law_weights dc__law_weights pm__law_weights an__law_weights cd__law_weights ct__law_weights), sl__law_weights⟩) (c__law_weights : PySem.W.codeIn K cd__law_weights "_law_weights" = true) (k__law_weights : PySem.W.keepIn K (.ref f__law_weights) = true)
    {oc__law_row kV__law_row dc__law_row pm__law_row cd__law_row ct__law_row : Value} {od__law_row an__law_row : Option Addr} {sl__law_row : Array (Option Value)}
    (a__law_row : PySem.W.nsIn K mainGlobals "_law_row" = some (some (.ref f__law_row))) (l__law_row : K.lookup f__law_row = some ⟨oc__law_row, od__law_row, .func (PySem.W.fnOf "_law_row" "_law_row" (defArgs s__law_row) (defBody s__law_row) (defScope s__law_row) .none kV__law_row dc__law_row pm__law_row an__law_row cd__law_row ct__law_row), sl__law_row⟩) (c__law_row : PySem.W.codeIn K cd__law_row "_law_row" = true) (k__law_row : PySem.W.keepIn K (.ref f__law_row) = true)
    {oc_read_row kV_read_row dc_read_row pm_read_row cd_read_row ct_read_row : Value} {od_read_row an_read_row : Option Addr} {sl_read_row : Array (Option Value)}
    (a_read_row : PySem.W.nsIn K mainGlobals "read_row" = some (some (.ref f_read_row))) (l_read_row : K.lookup f_read_row = some ⟨oc_read_row, od_read_row, .func (PySem.W.fnOf "read_row" "read_row" (defArgs s_read_row) (defBody s_read_row) (defScope s_read_row) .none kV_read_row dc_read_row pm_read_row an_read_row cd_read_row ct_read_row), sl_read_row⟩) (c_read_row : PySem.W.codeIn K cd_read_row "read_row" = true) (k_read_row : PySem.W.keepIn K (.ref f_read_row) = true)
    {oc__law_bent kV__law_bent dc__law_bent pm__law_bent cd__law_bent ct__law_bent : Value} {od__law_bent an__law_bent : Option Addr} {sl__law_bent : Array (Option Value)}
    (a__law_bent : PySem.W.nsIn K mainGlobals "_law_bent" = some (some (.ref f__law_bent))) (l__law_bent : K.lookup f__law_bent = some ⟨oc__law_bent, od__law_bent, .func (PySem.W.fnOf "_law_bent" "_law_bent" (defArgs s__law_bent) (defBody s__law_bent) (defScope s__law_bent) .none kV__law_bent dc__law_bent pm__law_bent an__law_bent cd__law_bent ct__law_bent), sl__law_bent⟩) (c__law_bent : PySem.W.codeIn K cd__law_bent "_law_bent" = true) (k__law_bent : PySem.W.keepIn K (.ref f__law_bent) = true)
    {oc__row_texts kV__row_texts dc__row_texts pm__row_texts cd__row_texts ct__row_texts : Value} {od__row_texts an__row_texts : Option Addr} {sl__row_texts : Array (Option Value)}
    (a__row_texts : PySem.W.nsIn K mainGlobals "_row_texts" = some (some (.ref f__row_texts))) (l__row_texts : K.lookup f__row_texts = some ⟨oc__row_texts, od__row_texts, .func (PySem.W.fnOf "_row_texts" "_row_texts" (defArgs s__row_texts) (defBody s__row_texts) (defScope s__row_texts) .none kV__row_texts dc__row_texts pm__row_texts an__row_texts cd__row_texts ct__row_texts), sl__row_texts⟩) (c__row_texts : PySem.W.codeIn K cd__row_texts "_row_texts" = true) (k__row_texts : PySem.W.keepIn K (.ref f__row_texts) = true)
    {oc_rows_text kV_rows_text dc_rows_text pm_rows_text cd_rows_text ct_rows_text : Value} {od_rows_text an_rows_text : Option Addr} {sl_rows_text : Array (Option Value)}
    (a_rows_text : PySem.W.nsIn K mainGlobals "rows_text" = some (some (.ref f_rows_text))) (l_rows_text : K.lookup f_rows_text = some ⟨oc_rows_text, od_rows_text, .func (PySem.W.fnOf "rows_text" "rows_text" (defArgs s_rows_text) (defBody s_rows_text) (defScope s_rows_text) .none kV_rows_text dc_rows_text pm_rows_text an_rows_text cd_rows_text ct_rows_text), sl_rows_text⟩) (c_rows_text : PySem.W.codeIn K cd_rows_text "rows_text" = true) (k_rows_text : PySem.W.keepIn K (.ref f_rows_text) = true)
    {oc__law_rows_text kV__law_rows_text dc__law_rows_text pm__law_rows_text cd__law_rows_text ct__law_rows_text : Value} {od__law_rows_text an__law_rows_text : Option Addr} {sl__law_rows_text : Array (Option Value)}
    (a__law_rows_text : PySem.W.nsIn K mainGlobals "_law_rows_text" = some (some (.ref f__law_rows_text))) (l__law_rows_text : K.lookup f__law_rows_text = some ⟨oc__law_rows_text, od__law_rows_text, .func (PySem.W.fnOf "_law_rows_text" "_law_rows_text" (defArgs s__law_rows_text) (defBody s__law_rows_text) (defScope s__law_rows_text) .none kV__law_rows_text dc__law_rows_text pm__law_rows_text an__law_rows_text cd__law_rows_text ct__law_rows_text), sl__law_rows_text⟩) (c__law_rows_text : PySem.W.codeIn K cd__law_rows_text "_law_rows_text" = true) (k__law_rows_text : PySem.W.keepIn K (.ref f__law_rows_text) = true)
    {oc__law_rows_in kV__law_rows_in dc__law_rows_in pm__law_rows_in cd__law_rows_in ct__law_rows_in : Value} {od__law_rows_in an__law_rows_in : Option Addr} {sl__law_rows_in : Array (Option Value)}
    (a__law_rows_in : PySem.W.nsIn K mainGlobals "_law_rows_in" = some (some (.ref f__law_rows_in))) (l__law_rows_in : K.lookup f__law_rows_in = some ⟨oc__law_rows_in, od__law_rows_in, .func (PySem.W.fnOf "_law_rows_in" "_law_rows_in" (defArgs s__law_rows_in) (defBody s__law_rows_in) (defScope s__law_rows_in) .none kV__law_rows_in dc__law_rows_in pm__law_rows_in an__law_rows_in cd__law_rows_in ct__law_rows_in), sl__law_rows_in⟩) (c__law_rows_in : PySem.W.codeIn K cd__law_rows_in "_law_rows_in" = true) (k__law_rows_in : PySem.W.keepIn K (.ref f__law_rows_in) = true)
    {oc_read_rows kV_read_rows dc_read_rows pm_read_rows cd_read_rows ct_read_rows : Value} {od_read_rows an_read_rows : Option Addr} {sl_read_rows : Array (Option Value)}
    (a_read_rows : PySem.W.nsIn K mainGlobals "read_rows" = some (some (.ref f_read_rows))) (l_read_rows : K.lookup f_read_rows = some ⟨oc_read_rows, od_read_rows, .func (PySem.W.fnOf "read_rows" "read_rows" (defArgs s_read_rows) (defBody s_read_rows) (defScope s_read_rows) .none kV_read_rows dc_read_rows pm_read_rows an_read_rows cd_read_rows ct_read_rows), sl_read_rows⟩) (c_read_rows : PySem.W.codeIn K cd_read_rows "read_rows" = true) (k_read_rows : PySem.W.keepIn K (.ref f_read_rows) = true)
    {oc__law_read kV__law_read dc__law_read pm__law_read cd__law_read ct__law_read : Value} {od__law_read an__law_read : Option Addr} {sl__law_read : Array (Option Value)}
    (a__law_read : PySem.W.nsIn K mainGlobals "_law_read" = some (some (.ref f__law_read))) (l__law_read : K.lookup f__law_read = some ⟨oc__law_read, od__law_read, .func (PySem.W.fnOf "_law_read" "_law_read" (defArgs s__law_read) (defBody s__law_read) (defScope s__law_read) .none kV__law_read dc__law_read pm__law_read an__law_read cd__law_read ct__law_read), sl__law_read⟩) (c__law_read : PySem.W.codeIn K cd__law_read "_law_read" = true) (k__law_read : PySem.W.keepIn K (.ref f__law_read) = true)
    {oc_law kV_law dc_law pm_law cd_law ct_law : Value} {od_law an_law : Option Addr} {sl_law : Array (Option Value)}
    (a_law : PySem.W.nsIn K mainGlobals "law" = some (some (.ref f_law))) (l_law : K.lookup f_law = some ⟨oc_law, od_law, .func (PySem.W.fnOf "law" "law" (defArgs s_law) (defBody s_law) (defScope s_law) .none kV_law dc_law pm_law an_law cd_law ct_law), sl_law⟩) (c_law : PySem.W.codeIn K cd_law "law" = true) (k_law : PySem.W.keepIn K (.ref f_law) = true)
    (z_all : PySem.W.nsIn K mainGlobals "all" = some none)
    (z_bool : PySem.W.nsIn K mainGlobals "bool" = some none)
    (z_int : PySem.W.nsIn K mainGlobals "int" = some none)
    (z_isinstance : PySem.W.nsIn K mainGlobals "isinstance" = some none)
    (z_len : PySem.W.nsIn K mainGlobals "len" = some none)
    (z_list : PySem.W.nsIn K mainGlobals "list" = some none)
    (z_range : PySem.W.nsIn K mainGlobals "range" = some none)
    (z_str : PySem.W.nsIn K mainGlobals "str" = some none)
    (z_tuple : PySem.W.nsIn K mainGlobals "tuple" = some none)
    (z_zip : PySem.W.nsIn K mainGlobals "zip" = some none)
    {tk__LONG_BITS : Tok} (z__LONG_BITS : PySem.W.nsIn K mainGlobals "_LONG_BITS" = some (some (.int 10000 tk__LONG_BITS)))
    {tk__MOST_FIGURES : Tok} (z__MOST_FIGURES : PySem.W.nsIn K mainGlobals "_MOST_FIGURES" = some (some (.int 20 tk__MOST_FIGURES)))
    {tk__SIGN : Tok} (z__SIGN : PySem.W.nsIn K mainGlobals "_SIGN" = some (some (.str "<=" tk__SIGN)))
    {tk__NONE : Tok} (z__NONE : PySem.W.nsIn K mainGlobals "_NONE" = some (some (.str "all" tk__NONE)))
    {tk__BETWEEN : Tok} (z__BETWEEN : PySem.W.nsIn K mainGlobals "_BETWEEN" = some (some (.str "; " tk__BETWEEN)))
    : ∃ fd : FuncData, (∀ (s : Shared) (v : Value), BindsTo s fd ⟨[v], []⟩ [("_law_script", v)]) ∧ ∀ base : Heap, K.In base → base.Ns mainGlobals mg → FnOk l.prog w K mg base CX0 7 fa fd ["_law_script"] (spLaw K) := by
  have e := hfa.symm.trans (PySem.W.mg_of X G a_law)
  cases e
  have T : Txt mg := ⟨PySem.W.mg_none_of X G z_all, PySem.W.mg_none_of X G z_bool, PySem.W.mg_none_of X G z_int, PySem.W.mg_none_of X G z_isinstance, PySem.W.mg_none_of X G z_len, PySem.W.mg_none_of X G z_list, PySem.W.mg_none_of X G z_range, PySem.W.mg_none_of X G z_str, PySem.W.mg_none_of X G z_tuple, PySem.W.mg_none_of X G z_zip, ⟨_, PySem.W.mg_of X G z__LONG_BITS, tk__LONG_BITS, rfl⟩, ⟨_, PySem.W.mg_of X G z__MOST_FIGURES, tk__MOST_FIGURES, rfl⟩, ⟨_, PySem.W.mg_of X G z__SIGN, tk__SIGN, rfl⟩, ⟨_, PySem.W.mg_of X G z__NONE, tk__NONE, rfl⟩, ⟨_, PySem.W.mg_of X G z__BETWEEN, tk__BETWEEN, rfl⟩⟩
  have F__law_take := fun_mk (st := s__law_take) l__law_take c__law_take k__law_take
  have b__law_take := F__law_take.binds (ps := ["_law_box_here", "_law_many"]) fun _ _ _ _ _ _ us hl => match us, hl with | [_, _], _ => rfl
  have A__law_take : FunAt K mg "_law_take" s__law_take ["_law_box_here", "_law_many"] := ⟨_, _, F__law_take, PySem.W.mg_of X G a__law_take, b__law_take⟩
  have F__law_box := fun_mk (st := s__law_box) l__law_box c__law_box k__law_box
  have b__law_box := F__law_box.binds (ps := ["_law_script"]) fun _ _ _ _ _ _ us hl => match us, hl with | [_], _ => rfl
  have A__law_box : FunAt K mg "_law_box" s__law_box ["_law_script"] := ⟨_, _, F__law_box, PySem.W.mg_of X G a__law_box, b__law_box⟩
  have F__law_near := fun_mk (st := s__law_near) l__law_near c__law_near k__law_near
  have b__law_near := F__law_near.binds (ps := ["_law_box_here", "_law_far"]) fun _ _ _ _ _ _ us hl => match us, hl with | [_, _], _ => rfl
  have A__law_near : FunAt K mg "_law_near" s__law_near ["_law_box_here", "_law_far"] := ⟨_, _, F__law_near, PySem.W.mg_of X G a__law_near, b__law_near⟩
  have F__law_same := fun_mk (st := s__law_same) l__law_same c__law_same k__law_same
  have b__law_same := F__law_same.binds (ps := ["_law_found", "_law_due"]) fun _ _ _ _ _ _ us hl => match us, hl with | [_, _], _ => rfl
  have A__law_same : FunAt K mg "_law_same" s__law_same ["_law_found", "_law_due"] := ⟨_, _, F__law_same, PySem.W.mg_of X G a__law_same, b__law_same⟩
  have F_number_text := fun_mk (st := s_number_text) l_number_text c_number_text k_number_text
  have b_number_text := F_number_text.binds (ps := ["number"]) fun _ _ _ _ _ _ us hl => match us, hl with | [_], _ => rfl
  have A_number_text : FunAt K mg "number_text" s_number_text ["number"] := ⟨_, _, F_number_text, PySem.W.mg_of X G a_number_text, b_number_text⟩
  have F_read_number := fun_mk (st := s_read_number) l_read_number c_read_number k_read_number
  have b_read_number := F_read_number.binds (ps := ["text"]) fun _ _ _ _ _ _ us hl => match us, hl with | [_], _ => rfl
  have A_read_number : FunAt K mg "read_number" s_read_number ["text"] := ⟨_, _, F_read_number, PySem.W.mg_of X G a_read_number, b_read_number⟩
  have F__law_number_in := fun_mk (st := s__law_number_in) l__law_number_in c__law_number_in k__law_number_in
  have b__law_number_in := F__law_number_in.binds (ps := ["_law_word"]) fun _ _ _ _ _ _ us hl => match us, hl with | [_], _ => rfl
  have A__law_number_in : FunAt K mg "_law_number_in" s__law_number_in ["_law_word"] := ⟨_, _, F__law_number_in, PySem.W.mg_of X G a__law_number_in, b__law_number_in⟩
  have F_row_text := fun_mk (st := s_row_text) l_row_text c_row_text k_row_text
  have b_row_text := F_row_text.binds (ps := ["row"]) fun _ _ _ _ _ _ us hl => match us, hl with | [_], _ => rfl
  have A_row_text : FunAt K mg "row_text" s_row_text ["row"] := ⟨_, _, F_row_text, PySem.W.mg_of X G a_row_text, b_row_text⟩
  have F__law_row_text := fun_mk (st := s__law_row_text) l__law_row_text c__law_row_text k__law_row_text
  have b__law_row_text := F__law_row_text.binds (ps := ["_law_row_here"]) fun _ _ _ _ _ _ us hl => match us, hl with | [_], _ => rfl
  have A__law_row_text : FunAt K mg "_law_row_text" s__law_row_text ["_law_row_here"] := ⟨_, _, F__law_row_text, PySem.W.mg_of X G a__law_row_text, b__law_row_text⟩
  have F__law_row_in := fun_mk (st := s__law_row_in) l__law_row_in c__law_row_in k__law_row_in
  have b__law_row_in := F__law_row_in.binds (ps := ["_law_text", "_law_my_count"]) fun _ _ _ _ _ _ us hl => match us, hl with | [_, _], _ => rfl
  have A__law_row_in : FunAt K mg "_law_row_in" s__law_row_in ["_law_text", "_law_my_count"] := ⟨_, _, F__law_row_in, PySem.W.mg_of X G a__law_row_in, b__law_row_in⟩
  have F__law_weights := fun_mk (st := s__law_weights) l__law_weights c__law_weights k__law_weights
  have b__law_weights := F__law_weights.binds (ps := ["_law_box_here", "_law_my_count", "_law_far"]) fun _ _ _ _ _ _ us hl => match us, hl with | [_, _, _], _ => rfl
  have A__law_weights : FunAt K mg "_law_weights" s__law_weights ["_law_box_here", "_law_my_count", "_law_far"] := ⟨_, _, F__law_weights, PySem.W.mg_of X G a__law_weights, b__law_weights⟩
  have F__law_row := fun_mk (st := s__law_row) l__law_row c__law_row k__law_row
  have b__law_row := F__law_row.binds (ps := ["_law_box_here", "_law_my_count", "_law_far"]) fun _ _ _ _ _ _ us hl => match us, hl with | [_, _, _], _ => rfl
  have A__law_row : FunAt K mg "_law_row" s__law_row ["_law_box_here", "_law_my_count", "_law_far"] := ⟨_, _, F__law_row, PySem.W.mg_of X G a__law_row, b__law_row⟩
  have F_read_row := fun_mk (st := s_read_row) l_read_row c_read_row k_read_row
  have A_read_row : SL.FunAtK K mg "read_row" s_read_row ["text", "count"] ["count"] := ⟨_, _, F_read_row, PySem.W.mg_of X G a_read_row, fun s us ws _ h1 h2 => .of_eq (match us, ws, h1, h2 with | [_], [_], _, _ => rfl)⟩
  have F__law_bent := fun_mk (st := s__law_bent) l__law_bent c__law_bent k__law_bent
  have b__law_bent := F__law_bent.binds (ps := ["_law_box_here", "_law_text"]) fun _ _ _ _ _ _ us hl => match us, hl with | [_, _], _ => rfl
  have A__law_bent : FunAt K mg "_law_bent" s__law_bent ["_law_box_here", "_law_text"] := ⟨_, _, F__law_bent, PySem.W.mg_of X G a__law_bent, b__law_bent⟩
  have F__row_texts := fun_mk (st := s__row_texts) l__row_texts c__row_texts k__row_texts
  have b__row_texts := F__row_texts.binds (ps := ["text"]) fun _ _ _ _ _ _ us hl => match us, hl with | [_], _ => rfl
  have A__row_texts : FunAt K mg "_row_texts" s__row_texts ["text"] := ⟨_, _, F__row_texts, PySem.W.mg_of X G a__row_texts, b__row_texts⟩
  have F_rows_text := fun_mk (st := s_rows_text) l_rows_text c_rows_text k_rows_text
  have b_rows_text := F_rows_text.binds (ps := ["rows"]) fun _ _ _ _ _ _ us hl => match us, hl with | [_], _ => rfl
  have A_rows_text : FunAt K mg "rows_text" s_rows_text ["rows"] := ⟨_, _, F_rows_text, PySem.W.mg_of X G a_rows_text, b_rows_text⟩
  have F__law_rows_text := fun_mk (st := s__law_rows_text) l__law_rows_text c__law_rows_text k__law_rows_text
  have b__law_rows_text := F__law_rows_text.binds (ps := ["_law_rows"]) fun _ _ _ _ _ _ us hl => match us, hl with | [_], _ => rfl
  have A__law_rows_text : FunAt K mg "_law_rows_text" s__law_rows_text ["_law_rows"] := ⟨_, _, F__law_rows_text, PySem.W.mg_of X G a__law_rows_text, b__law_rows_text⟩
  have F__law_rows_in := fun_mk (st := s__law_rows_in) l__law_rows_in c__law_rows_in k__law_rows_in
  have b__law_rows_in := F__law_rows_in.binds (ps := ["_law_text", "_law_my_count"]) fun _ _ _ _ _ _ us hl => match us, hl with | [_, _], _ => rfl
  have A__law_rows_in : FunAt K mg "_law_rows_in" s__law_rows_in ["_law_text", "_law_my_count"] := ⟨_, _, F__law_rows_in, PySem.W.mg_of X G a__law_rows_in, b__law_rows_in⟩
  have F_read_rows := fun_mk (st := s_read_rows) l_read_rows c_read_rows k_read_rows
  have A_read_rows : SL.FunAtK K mg "read_rows" s_read_rows ["text", "count"] ["count"] := ⟨_, _, F_read_rows, PySem.W.mg_of X G a_read_rows, fun s us ws _ h1 h2 => .of_eq (match us, ws, h1, h2 with | [_], [_], _, _ => rfl)⟩
  have F__law_read := fun_mk (st := s__law_read) l__law_read c__law_read k__law_read
  have b__law_read := F__law_read.binds (ps := ["_law_text", "_law_my_count"]) fun _ _ _ _ _ _ us hl => match us, hl with | [_, _], _ => rfl
  have A__law_read : FunAt K mg "_law_read" s__law_read ["_law_text", "_law_my_count"] := ⟨_, _, F__law_read, PySem.W.mg_of X G a__law_read, b__law_read⟩
  have F_law := fun_mk (st := s_law) l_law c_law k_law
  have b_law := F_law.binds (ps := ["_law_script"]) fun _ _ _ _ _ _ us hl => match us, hl with | [_], _ => rfl
  have A_law : FunAt K mg "law" s_law ["_law_script"] := ⟨_, _, F_law, PySem.W.mg_of X G a_law, b_law⟩
  refine ⟨PySem.W.fnOf "law" "law" (defArgs s_law) (defBody s_law) (defScope s_law) .none kV_law dc_law pm_law an_law cd_law ct_law, fun s v => .of_eq rfl, fun base _ _ => ?_⟩
  have KX_BadText : SL.Ke l.prog w K mg base C_BadText "BadText" "row" := SL.ke_mk (PySem.W.mg_of X G gk_BadText) kl_BadText kl_SlopeError rv_SlopeError fi_SlopeError mc_BadText op_BadText tp_BadText sk_BadText ec_BadText tc_BadText kp_BadText gA_BadText gB_BadText hD_BadText ss_BadText iC_BadText tI_BadText no_BadText (fun T0 => run_BadText lk_BadText T0 (PySem.W.mg_none_of X G zz_super) cd_BadText co_BadText vv_BadText fF_BadText ce_BadText no_BadText) (Binds.all fun us hl => match us, hl with | [_, _], _ => rfl)
  have d__law_take := ok__law_take (P := l.prog) (w := w) (base := base) A__law_take T 
  have d__law_box := ok__law_box (P := l.prog) (w := w) (base := base) A__law_box T 
  have d__law_near := ok__law_near (P := l.prog) (w := w) (base := base) A__law_near T d__law_take
  have d__law_same := ok__law_same (P := l.prog) (w := w) (base := base) A__law_same T 5
  have d_number_text := ok_number_text (P := l.prog) (w := w) (base := base) A_number_text T 
  have d_read_number := ok_read_number (P := l.prog) (w := w) (base := base) A_read_number T 
  have d__law_number_in := ok__law_number_in (P := l.prog) (w := w) (base := base) A__law_number_in T 
  have d_row_text := ok_row_text (P := l.prog) (w := w) (base := base) A_row_text T d_number_text
  have d__law_row_text := ok__law_row_text (P := l.prog) (w := w) (base := base) A__law_row_text T 
  have d__law_row_in := ok__law_row_in (P := l.prog) (w := w) (base := base) A__law_row_in T d__law_number_in
  have d__law_weights := ok__law_weights (P := l.prog) (w := w) (base := base) A__law_weights T d__law_take d__law_near
  have d__law_row := ok__law_row (P := l.prog) (w := w) (base := base) A__law_row T d__law_near d__law_weights
  have d_read_row := ok_read_row (P := l.prog) (w := w) (base := base) A_read_row T KX_BadText d_read_number
  have d__law_bent := ok__law_bent (P := l.prog) (w := w) (base := base) A__law_bent T d__law_take
  have d__row_texts := ok__row_texts (P := l.prog) (w := w) (base := base) A__row_texts T 
  have d_rows_text := ok_rows_text (P := l.prog) (w := w) (base := base) A_rows_text T d_row_text
  have d__law_rows_text := ok__law_rows_text (P := l.prog) (w := w) (base := base) A__law_rows_text T d__law_row_text
  have d__law_rows_in := ok__law_rows_in (P := l.prog) (w := w) (base := base) A__law_rows_in T d__law_row_in
  have d_read_rows := ok_read_rows (P := l.prog) (w := w) (base := base) A_read_rows T KX_BadText d__row_texts d_read_row
  have d__law_read := ok__law_read (P := l.prog) (w := w) (base := base) A__law_read T KX_BadText d_read_rows
  exact ok_law F_law T KX_BadText d__law_box d__law_take d__law_row d__law_rows_text d_rows_text d__law_same d__law_read d__law_bent d__law_rows_in
theorem walk {l : PySem.W.OpenLaw} {q : Program} {loose : List Str} {XP : (Str → Option Value) → Heap → Prop} {YP : World → Heap → Prop} {d : DefRec} {K : Params → PySem.W.Frag} (hn : l.most = some 63) (hdf : d.params.defaults = [])
    (hY : ∀ (w : World) (h : Heap), YP w h → (K w.params).In h)
    (F : ∀ (w : World) (mg : Str → Option Value) (fa : Addr) (h : Heap), (K w.params).In h → h.Ns mainGlobals mg → mg d.name = some (.ref fa) →
      ∃ fd : FuncData, (∀ (s : Shared) (u : Value), BindsTo s fd ⟨[u], []⟩ [("_law_script", u)]) ∧ ∀ base : Heap, (K w.params).In base → base.Ns mainGlobals mg → FnOk l.prog w (K w.params) mg base CX0 7 fa fd ["_law_script"] (spLaw (K w.params))) :
    PySem.W.WalkO q loose XP YP l.row.toRowW d [] (fun f vs => PySem.call f vs) :=
  L2.walk_of (n := 63) (k := 7) (x := "_law_script") (CX := fun _ => CX0) (sp := fun w => spLaw (K w.params)) hn (by decide) hdf ⟨rfl, by decide, by decide⟩ hY F (fun _ _ a ns hl _ hS => ⟨a, ns, rfl, hS, hl, fun _ => rfl⟩) fun _ _ _ _ _ z => z
end My
open PySem PySem.W PyProof.Rows
set_option maxRecDepth 100000 in
set_option maxHeartbeats 0 in
theorem PySem.Challenge.cw_slopeyard_k07_lists_of_rows_written_and_holds : PySem.Challenge.rw_slopeyard_k07_lists_of_rows_written_and.Holds := by
  w_on; o_law; k_head; (case hw => w_witness2)
  k_fill
  refine My.walk (l := PySem.Challenge.rw_slopeyard_k07_lists_of_rows_written_and) rfl rfl (fun w h Y => PySem.W.kIn_of Y) ?F
  case F =>
    intro w mg fa h KX G hmg
    refine' My.all_mk KX G hmg ?gs_SlopeError ?kl_SlopeError ?rv_SlopeError ?fi_SlopeError ?gk_BadText ?kl_BadText ?mc_BadText ?op_BadText ?tp_BadText ?sk_BadText ?ec_BadText ?tc_BadText ?kp_BadText ?gA_BadText ?gB_BadText ?hD_BadText ?ss_BadText ?iC_BadText ?tI_BadText ?no_BadText ?lk_BadText ?cd_BadText ?co_BadText ?vv_BadText ?fF_BadText ?ce_BadText ?zz_super ?a__law_take ?l__law_take ?c__law_take ?k__law_take ?a__law_box ?l__law_box ?c__law_box ?k__law_box ?a__law_near ?l__law_near ?c__law_near ?k__law_near ?a__law_same ?l__law_same ?c__law_same ?k__law_same ?a_number_text ?l_number_text ?c_number_text ?k_number_text ?a_read_number ?l_read_number ?c_read_number ?k_read_number ?a__law_number_in ?l__law_number_in ?c__law_number_in ?k__law_number_in ?a_row_text ?l_row_text ?c_row_text ?k_row_text ?a__law_row_text ?l__law_row_text ?c__law_row_text ?k__law_row_text ?a__law_row_in ?l__law_row_in ?c__law_row_in ?k__law_row_in ?a__law_weights ?l__law_weights ?c__law_weights ?k__law_weights ?a__law_row ?l__law_row ?c__law_row ?k__law_row ?a_read_row ?l_read_row ?c_read_row ?k_read_row ?a__law_bent ?l__law_bent ?c__law_bent ?k__law_bent ?a__row_texts ?l__row_texts ?c__row_texts ?k__row_texts ?a_rows_text ?l_rows_text ?c_rows_text ?k_rows_text ?a__law_rows_text ?l__law_rows_text ?c__law_rows_text ?k__law_rows_text ?a__law_rows_in ?l__law_rows_in ?c__law_rows_in ?k__law_rows_in ?a_read_rows ?l_read_rows ?c_read_rows ?k_read_rows ?a__law_read ?l__law_read ?c__law_read ?k__law_read ?a_law ?l_law ?c_law ?k_law ?z_all ?z_bool ?z_int ?z_isinstance ?z_len ?z_list ?z_range ?z_str ?z_tuple ?z_zip ?z__LONG_BITS ?z__MOST_FIGURES ?z__SIGN ?z__NONE ?z__BETWEEN
    (case gs_SlopeError => k_is)
    (case kl_SlopeError => k_is)
    (case rv_SlopeError => first | rfl | decide +kernel)
    (case fi_SlopeError => k_is)
    (case gk_BadText => k_is)
    (case kl_BadText => k_is)
    (case mc_BadText => k_is)
    (case op_BadText => k_is)
    (case tp_BadText => first | rfl | decide +kernel)
    (case sk_BadText => k_is)
    (case ec_BadText => k_is)
    (case tc_BadText => k_is)
    (case kp_BadText => k_is)
    (case gA_BadText => k_is)
    (case gB_BadText => k_is)
    (case hD_BadText => k_is)
    (case ss_BadText => first | rfl | k_is)
    (case iC_BadText => k_is)
    (case tI_BadText => k_is)
    (case no_BadText => k_is)
    (case lk_BadText => k_is)
    (case cd_BadText => k_is)
    (case co_BadText => k_is)
    (case vv_BadText => first | rfl | decide +kernel)
    (case fF_BadText => first | rfl | decide +kernel)
    (case ce_BadText => k_is)
    (case zz_super => k_is)
    (case a__law_take => k_is)
    (case l__law_take => k_is)
    (case c__law_take => k_is)
    (case k__law_take => k_is)
    (case a__law_box => k_is)
    (case l__law_box => k_is)
    (case c__law_box => k_is)
    (case k__law_box => k_is)
    (case a__law_near => k_is)
    (case l__law_near => k_is)
    (case c__law_near => k_is)
    (case k__law_near => k_is)
    (case a__law_same => k_is)
    (case l__law_same => k_is)
    (case c__law_same => k_is)
    (case k__law_same => k_is)
    (case a_number_text => k_is)
    (case l_number_text => k_is)
    (case c_number_text => k_is)
    (case k_number_text => k_is)
    (case a_read_number => k_is)
    (case l_read_number => k_is)
    (case c_read_number => k_is)
    (case k_read_number => k_is)
    (case a__law_number_in => k_is)
    (case l__law_number_in => k_is)
    (case c__law_number_in => k_is)
    (case k__law_number_in => k_is)
    (case a_row_text => k_is)
    (case l_row_text => k_is)
    (case c_row_text => k_is)
    (case k_row_text => k_is)
    (case a__law_row_text => k_is)
    (case l__law_row_text => k_is)
    (case c__law_row_text => k_is)
    (case k__law_row_text => k_is)
    (case a__law_row_in => k_is)
    (case l__law_row_in => k_is)
    (case c__law_row_in => k_is)
    (case k__law_row_in => k_is)
    (case a__law_weights => k_is)
    (case l__law_weights => k_is)
    (case c__law_weights => k_is)
    (case k__law_weights => k_is)
    (case a__law_row => k_is)
    (case l__law_row => k_is)
    (case c__law_row => k_is)
    (case k__law_row => k_is)
    (case a_read_row => k_is)
    (case l_read_row => k_is)
    (case c_read_row => k_is)
    (case k_read_row => k_is)
    (case a__law_bent => k_is)
    (case l__law_bent => k_is)
    (case c__law_bent => k_is)
    (case k__law_bent => k_is)
    (case a__row_texts => k_is)
    (case l__row_texts => k_is)
    (case c__row_texts => k_is)
    (case k__row_texts => k_is)
    (case a_rows_text => k_is)
    (case l_rows_text => k_is)
    (case c_rows_text => k_is)
    (case k_rows_text => k_is)
    (case a__law_rows_text => k_is)
    (case l__law_rows_text => k_is)
    (case c__law_rows_text => k_is)
    (case k__law_rows_text => k_is)
    (case a__law_rows_in => k_is)
    (case l__law_rows_in => k_is)
    (case c__law_rows_in => k_is)
    (case k__law_rows_in => k_is)
    (case a_read_rows => k_is)
    (case l_read_rows => k_is)
    (case c_read_rows => k_is)
    (case k_read_rows => k_is)
    (case a__law_read => k_is)
    (case l__law_read => k_is)
    (case c__law_read => k_is)
    (case k__law_read => k_is)
    (case a_law => k_is)
    (case l_law => k_is)
    (case c_law => k_is)
    (case k_law => k_is)
    (case z_all => k_is)
    (case z_bool => k_is)
    (case z_int => k_is)
    (case z_isinstance => k_is)
    (case z_len => k_is)
    (case z_list => k_is)
    (case z_range => k_is)
    (case z_str => k_is)
    (case z_tuple => k_is)
    (case z_zip => k_is)
    (case z__LONG_BITS => k_is)
    (case z__MOST_FIGURES => k_is)
    (case z__SIGN => k_is)
    (case z__NONE => k_is)
    (case z__BETWEEN => k_is)

